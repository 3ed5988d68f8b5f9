import Derived.Test.YtkgncijcnlfhiaaDoorW3
import Derived.Maps.AppendAt
import Derived.Lib.AppendStr
namespace Go.Proofs.YtkgncijcnlfhiaaDoor
set_option linter.unusedVariables false
set_option linter.unusedSimpArgs false
open Go.RowKit
/-- lists of numbers, in a list -/
def RShapes (w : World) (v : Value) (l : List (List Int)) : Prop :=
  ∃ ao cap, v = .slice ao l.length cap ∧ l.length ≤ maxLen ∧ ∀ i x, l[i]? = some x → ∃ b off vx, ao = some ⟨b, off, none⟩ ∧ w.cell? ⟨b, off + i, none⟩ = some vx ∧ RInts w vx x
/-- instructions -/
def RCode (w : World) (v : Value) (l : List PIns) : Prop :=
  ∃ ao cap, v = .slice ao l.length cap ∧ l.length ≤ maxLen ∧ ∀ i x, l[i]? = some x → ∃ b off, ao = some ⟨b, off, none⟩ ∧
    w.cell? ⟨b, off + i * 3, none⟩ = some (.int .i64 x.op) ∧ w.cell? ⟨b, off + i * 3 + 1, none⟩ = some (.int .i64 x.a) ∧ w.cell? ⟨b, off + i * 3 + 2, none⟩ = some (.int .i64 x.b)
/-- a text -/
def RText (v : Value) (l : List UInt8) : Prop := ∃ s : ByteArray, v = .string s ∧ s.data.toList = l ∧ s.size ≤ maxLen
/-- functions -/
def RFuncs (w : World) (v : Value) (l : List PFunc) : Prop :=
  ∃ ao cap, v = .slice ao l.length cap ∧ l.length ≤ maxLen ∧ ∀ i x, l[i]? = some x → ∃ b off vp vl vc, ao = some ⟨b, off, none⟩ ∧
    w.cell? ⟨b, off + i * 4, none⟩ = some vp ∧ w.cell? ⟨b, off + i * 4 + 1, none⟩ = some (.int .i64 x.result) ∧ w.cell? ⟨b, off + i * 4 + 2, none⟩ = some vl ∧ w.cell? ⟨b, off + i * 4 + 3, none⟩ = some vc ∧
    RInts w vp x.params ∧ RInts w vl x.locals ∧ RCode w vc x.code
/-- imports -/
def RImports (w : World) (v : Value) (l : List PImp) : Prop :=
  ∃ ao cap, v = .slice ao l.length cap ∧ l.length ≤ maxLen ∧ ∀ i x, l[i]? = some x → ∃ b off vs vp, ao = some ⟨b, off, none⟩ ∧
    w.cell? ⟨b, off + i * 3, none⟩ = some vs ∧ w.cell? ⟨b, off + i * 3 + 1, none⟩ = some vp ∧ w.cell? ⟨b, off + i * 3 + 2, none⟩ = some (.int .i64 x.result) ∧
    RText vs x.name ∧ RInts w vp x.params
/-- exports -/
def RExports (w : World) (v : Value) (l : List PExp) : Prop :=
  ∃ ao cap, v = .slice ao l.length cap ∧ l.length ≤ maxLen ∧ ∀ i x, l[i]? = some x → ∃ b off vs, ao = some ⟨b, off, none⟩ ∧
    w.cell? ⟨b, off + i * 2, none⟩ = some vs ∧ w.cell? ⟨b, off + i * 2 + 1, none⟩ = some (.int .i64 x.func) ∧ RText vs x.name
/-- a unit -/
def RUnit (w : World) (v : Value) (u : PUnit) : Prop :=
  ∃ v1 v2 v3 v4 v5, v = .agg #[v1, v2, v3, v4, v5] ∧ RShapes w v1 u.shapes ∧ RInts w v2 u.consts ∧ RFuncs w v3 u.funcs ∧ RImports w v4 u.imports ∧ RExports w v5 u.exports

theorem RShapes.gr {w w' : World} {v : Value} {l : List (List Int)} (h : RShapes w v l) (g : Gr w w') : RShapes w' v l := by
  obtain ⟨ao, cap, hv, hm, hc⟩ := h
  refine ⟨ao, cap, hv, hm, fun i x hi => ?_⟩
  obtain ⟨b, off, vx, h1, h2, h3⟩ := hc i x hi
  exact ⟨b, off, vx, h1, g.cell h2 (by simp), h3.gr g⟩
theorem RCode.gr {w w' : World} {v : Value} {l : List PIns} (h : RCode w v l) (g : Gr w w') : RCode w' v l := by
  obtain ⟨ao, cap, hv, hm, hc⟩ := h
  refine ⟨ao, cap, hv, hm, fun i x hi => ?_⟩
  obtain ⟨b, off, h1, h2, h3, h4⟩ := hc i x hi
  exact ⟨b, off, h1, g.cell h2 (by simp), g.cell h3 (by simp), g.cell h4 (by simp)⟩
theorem RFuncs.gr {w w' : World} {v : Value} {l : List PFunc} (h : RFuncs w v l) (g : Gr w w') : RFuncs w' v l := by
  obtain ⟨ao, cap, hv, hm, hc⟩ := h
  refine ⟨ao, cap, hv, hm, fun i x hi => ?_⟩
  obtain ⟨b, off, vp, vl, vc, h1, h2, h3, h4, h5, h6, h7, h8⟩ := hc i x hi
  exact ⟨b, off, vp, vl, vc, h1, g.cell h2 (by simp), g.cell h3 (by simp), g.cell h4 (by simp), g.cell h5 (by simp), h6.gr g, h7.gr g, h8.gr g⟩
theorem RImports.gr {w w' : World} {v : Value} {l : List PImp} (h : RImports w v l) (g : Gr w w') : RImports w' v l := by
  obtain ⟨ao, cap, hv, hm, hc⟩ := h
  refine ⟨ao, cap, hv, hm, fun i x hi => ?_⟩
  obtain ⟨b, off, vs, vp, h1, h2, h3, h4, h5, h6⟩ := hc i x hi
  exact ⟨b, off, vs, vp, h1, g.cell h2 (by simp), g.cell h3 (by simp), g.cell h4 (by simp), h5, h6.gr g⟩
theorem RExports.gr {w w' : World} {v : Value} {l : List PExp} (h : RExports w v l) (g : Gr w w') : RExports w' v l := by
  obtain ⟨ao, cap, hv, hm, hc⟩ := h
  refine ⟨ao, cap, hv, hm, fun i x hi => ?_⟩
  obtain ⟨b, off, vs, h1, h2, h3, h4⟩ := hc i x hi
  exact ⟨b, off, vs, h1, g.cell h2 (by simp), g.cell h3 (by simp), h4⟩
theorem RUnit.gr {w w' : World} {v : Value} {u : PUnit} (h : RUnit w v u) (g : Gr w w') : RUnit w' v u := by
  obtain ⟨v1, v2, v3, v4, v5, h, h1, h2, h3, h4, h5⟩ := h
  exact ⟨v1, v2, v3, v4, v5, h, h1.gr g, h2.gr g, h3.gr g, h4.gr g, h5.gr g⟩
theorem RShapes.shape {w : World} {v : Value} {l : List (List Int)} (h : RShapes w v l) : ∃ ao cap, v = .slice ao l.length cap := by
  obtain ⟨ao, cap, hv, _⟩ := h; exact ⟨ao, cap, hv⟩
theorem RCode.shape {w : World} {v : Value} {l : List PIns} (h : RCode w v l) : ∃ ao cap, v = .slice ao l.length cap := by
  obtain ⟨ao, cap, hv, _⟩ := h; exact ⟨ao, cap, hv⟩
theorem RFuncs.shape {w : World} {v : Value} {l : List PFunc} (h : RFuncs w v l) : ∃ ao cap, v = .slice ao l.length cap := by
  obtain ⟨ao, cap, hv, _⟩ := h; exact ⟨ao, cap, hv⟩
theorem getElem?_lt {α : Type} {l : List α} {k : Nat} (h : k < l.length) : ∃ x, l[k]? = some x := ⟨l[k], List.getElem?_eq_getElem h⟩
end Go.Proofs.YtkgncijcnlfhiaaDoor

namespace Go.Proofs.YtkgncijcnlfhiaaDoor
set_option linter.unusedVariables false
set_option linter.unusedSimpArgs false
open Go.RowKit
/-- bytes, as cells -/
def bc (l : List UInt8) : List Value := l.map fun b => Value.int .u8 b.toNat
/-- v, which owned its bytes, has become v', which owns l'; nothing else that was there has turned -/
structure App (base : Nat) (w : World) (v : Value) (w' : World) (v' : Value) (l' : List UInt8) : Prop where
  own : w'.ownsRow base 5 1 v' l'.length (bc l')
  frm : w.grownBy w' v.ownBlock
  lies : ∀ k, v'.ownBlock = some k → v.ownBlock = some k ∨ w.heap.size ≤ k

theorem App.refl {base : Nat} {w : World} {v : Value} {l : List UInt8} (h : w.ownsRow base 5 1 v l.length (bc l)) : App base w v w v l :=
  ⟨h, World.grownBy.refl _ _, fun _ hk => .inl hk⟩
theorem App.trans {base : Nat} {w w1 w2 : World} {v v1 v2 : Value} {l1 l2 : List UInt8} (h : App base w v w1 v1 l1) (k : App base w1 v1 w2 v2 l2) : App base w v w2 v2 l2 := by
  refine ⟨k.own, ⟨k.frm.os.trans h.frm.os, k.frm.tape.trans h.frm.tape, k.frm.output.trans h.frm.output, Nat.le_trans h.frm.size k.frm.size, fun i hi hne => ?_⟩, fun i hi => ?_⟩
  · refine (k.frm.block i (Nat.lt_of_lt_of_le hi h.frm.size) fun e => ?_).trans (h.frm.block i hi hne)
    rcases h.lies i e.symm with e1 | e1
    · exact hne e1.symm
    · omega
  · rcases k.lies i hi with e | e
    · exact h.lies i e
    · exact .inr (Nat.le_trans h.frm.size e)
theorem App.gr {base : Nat} {w w1 w2 : World} {v v2 : Value} {l2 : List UInt8} (g : Gr w w1) (k : App base w1 v w2 v2 l2) : App base w v w2 v2 l2 := by
  refine ⟨k.own, ⟨k.frm.os.trans g.os, k.frm.tape.trans g.tape, k.frm.output.trans g.output, Nat.le_trans g.size k.frm.size, fun i hi hne => (k.frm.block i (Nat.lt_of_lt_of_le hi g.size) hne).trans (g.block i hi (by simp))⟩, fun i hi => ?_⟩
  rcases k.lies i hi with e | e
  · exact .inl e
  · exact .inr (Nat.le_trans g.size e)
theorem App.cell {base : Nat} {w w' : World} {v v' : Value} {l' : List UInt8} (k : App base w v w' v' l') {b o : Nat} {x : Value} (hx : w.cell? ⟨b, o, none⟩ = some x) (hb : b < base) (hv : ∀ i, v.ownBlock = some i → base ≤ i) : w'.cell? ⟨b, o, none⟩ = some x :=
  k.frm.cell hx (fun e => by have := hv b e.symm; omega)

section
variable {ops : Array Oper} {rest : List Oper} {o : Oper} {a : Act} {Q : Exit → Act → World → Prop}
end

/-- numbers, in bytes of seven bits -/
def numF : Nat → Nat → List UInt8
  | 0, v => [UInt8.ofNat v]
  | k + 1, v => if v < 128 then [UInt8.ofNat v] else UInt8.ofNat (v % 128 + 128) :: numF k (v / 128)
def num (v : Nat) : List UInt8 := numF 10 v
end Go.Proofs.YtkgncijcnlfhiaaDoor

namespace Go.Proofs.YtkgncijcnlfhiaaDoor
set_option linter.unusedVariables false
set_option linter.unusedSimpArgs false
open Go.RowKit

def zig (v : Int) : Nat := if v < 0 then (-2 * v - 1).toNat else (2 * v).toNat
end Go.Proofs.YtkgncijcnlfhiaaDoor

namespace Go.Proofs.YtkgncijcnlfhiaaDoor
set_option linter.unusedVariables false
set_option linter.unusedSimpArgs false
open Go.RowKit

theorem below_cell {W w : World} (h : Below W.heap.size W w) {a : Addr} {x : Value} (hx : W.cell? a = some x) : w.cell? a = some x :=
  (h.cell (World.block_lt_of_cell? W a hx)).trans hx
theorem RInts.below {W w : World} {v : Value} {l : List Int} (h : RInts W v l) (g : Below W.heap.size W w) : RInts w v l := by
  obtain ⟨ao, cap, hv, hm, hc⟩ := h
  refine ⟨ao, cap, hv, hm, fun i hi => ?_⟩
  obtain ⟨b, off, h1, h2⟩ := hc i hi
  exact ⟨b, off, h1, below_cell g h2⟩
theorem App.below {base : Nat} {w w' : World} {v v' : Value} {l l' : List UInt8} (k : App base w v w' v' l') (hown : w.ownsRow base 5 1 v l.length (bc l)) (hb : base ≤ w.heap.size) : Below base w w' :=
  (Below.refl _ _).grown k.frm hb fun i hi => (hown.lt i hi).1
/-- what a call of the writers is made in: the unit lies in W, below all that was made since -/
structure Wr (W w : World) (v : Value) (l : List UInt8) : Prop where
  low : Below W.heap.size W w
  own : w.ownsRow W.heap.size 5 1 v l.length (bc l)
theorem Wr.base {W w : World} {v : Value} {l : List UInt8} (h : Wr W w v l) : W.heap.size ≤ w.heap.size := h.low.size
theorem Wr.gr {W w w' : World} {v : Value} {l : List UInt8} (h : Wr W w v l) (g : Gr w w') : Wr W w' v l :=
  ⟨h.low.grown g h.base (by simp), h.own.kept g (by cases v.ownBlock <;> simp)⟩
theorem Wr.refl {W w : World} {v : Value} {l : List UInt8} (h : Wr W w v l) : App W.heap.size w v w v l := App.refl h.own

section
variable {ops : Array Oper} {rest : List Oper} {o : Oper} {a : Act} {Q : Exit → Act → World → Prop}
end

end Go.Proofs.YtkgncijcnlfhiaaDoor

namespace Go.Proofs.YtkgncijcnlfhiaaDoor
set_option linter.unusedVariables false
set_option linter.unusedSimpArgs false
open Go.RowKit

def crcBit (c : Nat) : Nat := if c % 2 = 1 then (c / 2) ^^^ 3988292384 else c / 2
def crcBits : Nat → Nat → Nat
  | 0, c => c
  | k + 1, c => crcBit (crcBits k c)
def crcByte (c : Nat) (b : UInt8) : Nat := crcBits 8 (c ^^^ b.toNat)
def crcF (l : List UInt8) : Nat := l.foldl crcByte 4294967295
def crc (l : List UInt8) : Nat := 4294967295 - crcF l

end Go.Proofs.YtkgncijcnlfhiaaDoor

namespace Go.Proofs.YtkgncijcnlfhiaaDoor
set_option linter.unusedVariables false
set_option linter.unusedSimpArgs false
open Go.RowKit
attribute [local go_sem ↓] Go.wp_at_zero Go.wp_at_succ

/-- a cursor: what is left, and what it is refused by -/
def Cur (w : World) (cb : Nat) (r : List UInt8) (e a : Int) : Prop :=
  (∃ s : ByteArray, w.cell? ⟨cb, 0, none⟩ = some (.string s) ∧ s.data.toList = r) ∧ r.length ≤ 1000000 ∧ w.cell? ⟨cb, 1, none⟩ = some (.int .i64 e) ∧ w.cell? ⟨cb, 3, none⟩ = some (.int .i64 a) ∧ w.frozen? ⟨cb, 0, none⟩ = false ∧ w.cell? ⟨cb, 2, none⟩ = some (.int .i64 0)
/-- new blocks, and writes into the cursor alone -/
abbrev Gc (cb : Nat) (w w' : World) : Prop := w.grownBy w' (some cb)
theorem Gc.refl (cb : Nat) (w : World) : Gc cb w w := World.grownBy.refl w _
theorem Gr.toGc {cb : Nat} {w w' : World} (h : Gr w w') : Gc cb w w' := ⟨h.os, h.tape, h.output, h.size, fun i hi _ => h.block i hi (by simp)⟩
theorem Gc.set {cb : Nat} {w w' : World} (h : Gc cb w w') (o : Nat) (v : Value) : Gc cb w (w'.setCell ⟨cb, o, none⟩ v) :=
  ⟨h.os, h.tape, h.output, by simpa using h.size, fun i hi hne => by rw [Below.heap_setCell _ _ _ _ (fun e => hne (by rw [e]))]; exact h.block i hi hne⟩
theorem Gc.drew {cb : Nat} {a b : World} (h : Gc cb a b) : Gc cb a b.drew := ⟨h.os, h.tape, h.output, h.size, h.block⟩
theorem Cur.gr {w w' : World} {cb : Nat} {r : List UInt8} {e a : Int} (h : Cur w cb r e a) (g : Gr w w') : Cur w' cb r e a := by
  obtain ⟨⟨s, h0, h1⟩, h2, h3, h4, h5, h6⟩ := h
  exact ⟨⟨s, g.cell h0 (by simp), h1⟩, h2, g.cell h3 (by simp), g.cell h4 (by simp), (World.frozen?_of_block (g.block cb (World.block_lt_of_cell? w _ h3) (by simp))).trans h5, g.cell h6 (by simp)⟩

/-- how a reader ends -/
def Rds {α : Type} (cb : Nat) (e a : Int) (w : World) (R : World → Value → α → Prop) : Option (α × List UInt8) → Ending → World → Prop
  | some (y, r'), x, w' => ∃ v, x = .returned v ∧ R w' v y ∧ Cur w' cb r' e a ∧ Gc cb w w'
  | none, x, w' => x = .panicked (thrown e a) ∧ Gc cb w w'

end Go.Proofs.YtkgncijcnlfhiaaDoor

namespace Go.Proofs.YtkgncijcnlfhiaaDoor
set_option linter.unusedVariables false
set_option linter.unusedSimpArgs false
open Go.RowKit
attribute [local go_sem ↓] Go.wp_at_zero Go.wp_at_succ

theorem Rds.none_ {α : Type} {cb : Nat} {e a : Int} {w : World} {R : World → Value → α → Prop} {o : Option (α × List UInt8)} (ho : o = none) {x : Ending} {w' : World} (h : Rds cb e a w R o x w') : x = .panicked (thrown e a) ∧ Gc cb w w' := by subst ho; exact h

end Go.Proofs.YtkgncijcnlfhiaaDoor

namespace Go.Proofs.YtkgncijcnlfhiaaDoor
set_option linter.unusedVariables false
set_option linter.unusedSimpArgs false
open Go.RowKit
def RIntsF (B : Nat) (w : World) (v : Value) (l : List Int) : Prop :=
  ∃ ao cap, v = .slice ao l.length cap ∧ l.length ≤ maxLen ∧ ∀ i y, l[i]? = some y → ∃ b off, ao = some ⟨b, off, none⟩ ∧ B ≤ b ∧ w.cell? ⟨b, off + i, none⟩ = some (.int .i64 y)
def RShapesF (B : Nat) (w : World) (v : Value) (l : List (List Int)) : Prop :=
  ∃ ao cap, v = .slice ao l.length cap ∧ l.length ≤ maxLen ∧ ∀ i x, l[i]? = some x → ∃ b off vx, ao = some ⟨b, off, none⟩ ∧ B ≤ b ∧ w.cell? ⟨b, off + i, none⟩ = some vx ∧ RIntsF B w vx x
def RCodeF (B : Nat) (w : World) (v : Value) (l : List PIns) : Prop :=
  ∃ ao cap, v = .slice ao l.length cap ∧ l.length ≤ maxLen ∧ ∀ i x, l[i]? = some x → ∃ b off, ao = some ⟨b, off, none⟩ ∧ B ≤ b ∧
    w.cell? ⟨b, off + i * 3, none⟩ = some (.int .i64 x.op) ∧ w.cell? ⟨b, off + i * 3 + 1, none⟩ = some (.int .i64 x.a) ∧ w.cell? ⟨b, off + i * 3 + 2, none⟩ = some (.int .i64 x.b)
def RFuncsF (B : Nat) (w : World) (v : Value) (l : List PFunc) : Prop :=
  ∃ ao cap, v = .slice ao l.length cap ∧ l.length ≤ maxLen ∧ ∀ i x, l[i]? = some x → ∃ b off vp vl vc, ao = some ⟨b, off, none⟩ ∧ B ≤ b ∧
    w.cell? ⟨b, off + i * 4, none⟩ = some vp ∧ w.cell? ⟨b, off + i * 4 + 1, none⟩ = some (.int .i64 x.result) ∧ w.cell? ⟨b, off + i * 4 + 2, none⟩ = some vl ∧ w.cell? ⟨b, off + i * 4 + 3, none⟩ = some vc ∧
    RIntsF B w vp x.params ∧ RIntsF B w vl x.locals ∧ RCodeF B w vc x.code
def RImportsF (B : Nat) (w : World) (v : Value) (l : List PImp) : Prop :=
  ∃ ao cap, v = .slice ao l.length cap ∧ l.length ≤ maxLen ∧ ∀ i x, l[i]? = some x → ∃ b off vs vp, ao = some ⟨b, off, none⟩ ∧ B ≤ b ∧
    w.cell? ⟨b, off + i * 3, none⟩ = some vs ∧ w.cell? ⟨b, off + i * 3 + 1, none⟩ = some vp ∧ w.cell? ⟨b, off + i * 3 + 2, none⟩ = some (.int .i64 x.result) ∧
    RText vs x.name ∧ RIntsF B w vp x.params
def RExportsF (B : Nat) (w : World) (v : Value) (l : List PExp) : Prop :=
  ∃ ao cap, v = .slice ao l.length cap ∧ l.length ≤ maxLen ∧ ∀ i x, l[i]? = some x → ∃ b off vs, ao = some ⟨b, off, none⟩ ∧ B ≤ b ∧
    w.cell? ⟨b, off + i * 2, none⟩ = some vs ∧ w.cell? ⟨b, off + i * 2 + 1, none⟩ = some (.int .i64 x.func) ∧ RText vs x.name

/-- the blocks from B on that were there are as they were -/
def Kp (B : Nat) (w w' : World) : Prop := ∀ k, B ≤ k → k < w.heap.size → w'.heap[k]? = w.heap[k]?
theorem Kp.cell {B : Nat} {w w' : World} (h : Kp B w w') {b o : Nat} {x : Value} (hb : B ≤ b) (hx : w.cell? ⟨b, o, none⟩ = some x) : w'.cell? ⟨b, o, none⟩ = some x :=
  (World.cell?_of_block (a := ⟨b, o, none⟩) (h b hb (World.block_lt_of_cell? w _ hx))).trans hx
theorem Kp.mono {B B' : Nat} {w w' : World} (h : Kp B w w') (hB : B ≤ B') : Kp B' w w' := fun k h1 h2 => h k (Nat.le_trans hB h1) h2
theorem Kp.set {B g o : Nat} {w : World} (v : Value) (hg : g < B) : Kp B w (w.setCell ⟨g, o, none⟩ v) := fun k h1 _ => Below.heap_setCell _ _ _ _ (by show k ≠ g; omega)
theorem Kp.trans {B : Nat} {a b c : World} (h : Kp B a b) (k : Kp B b c) (hs : a.heap.size ≤ b.heap.size) : Kp B a c := fun i h1 h2 => (k i h1 (Nat.lt_of_lt_of_le h2 hs)).trans (h i h1 h2)
theorem RIntsF.mono {B B' : Nat} {w : World} {v : Value} {l : List Int} (h : RIntsF B' w v l) (hB : B ≤ B') : RIntsF B w v l := by
  obtain ⟨ao, cap, hv, hm, hc⟩ := h
  refine ⟨ao, cap, hv, hm, fun i x hi => ?_⟩
  obtain ⟨b, off, h1, h2, h3⟩ := hc i x hi
  exact ⟨b, off, h1, Nat.le_trans hB h2, h3⟩
theorem RCodeF.mono {B B' : Nat} {w : World} {v : Value} {l : List PIns} (h : RCodeF B' w v l) (hB : B ≤ B') : RCodeF B w v l := by
  obtain ⟨ao, cap, hv, hm, hc⟩ := h
  refine ⟨ao, cap, hv, hm, fun i x hi => ?_⟩
  obtain ⟨b, off, h1, h2, h3⟩ := hc i x hi
  exact ⟨b, off, h1, Nat.le_trans hB h2, h3⟩
theorem RIntsF.to {B : Nat} {w : World} {v : Value} {l : List Int} (h : RIntsF B w v l) : RInts w v l := by
  obtain ⟨ao, cap, hv, hm, hc⟩ := h
  refine ⟨ao, cap, hv, hm, fun i hi => ?_⟩
  obtain ⟨b, off, h1, h2, h3⟩ := hc i l[i] (List.getElem?_eq_getElem hi)
  exact ⟨b, off, h1, by rw [h3]; simp [List.getD_eq_getElem?_getD, hi]⟩
theorem RCodeF.to {B : Nat} {w : World} {v : Value} {l : List PIns} (h : RCodeF B w v l) : RCode w v l := by
  obtain ⟨ao, cap, hv, hm, hc⟩ := h
  refine ⟨ao, cap, hv, hm, fun i x hi => ?_⟩
  obtain ⟨b, off, h1, h2, h3⟩ := hc i x hi
  exact ⟨b, off, h1, h3⟩
theorem RShapesF.to {B : Nat} {w : World} {v : Value} {l : List (List Int)} (h : RShapesF B w v l) : RShapes w v l := by
  obtain ⟨ao, cap, hv, hm, hc⟩ := h
  refine ⟨ao, cap, hv, hm, fun i x hi => ?_⟩
  obtain ⟨b, off, vx, h1, h2, h3, h4⟩ := hc i x hi
  exact ⟨b, off, vx, h1, h3, h4.to⟩
theorem RFuncsF.to {B : Nat} {w : World} {v : Value} {l : List PFunc} (h : RFuncsF B w v l) : RFuncs w v l := by
  obtain ⟨ao, cap, hv, hm, hc⟩ := h
  refine ⟨ao, cap, hv, hm, fun i x hi => ?_⟩
  obtain ⟨b, off, vp, vl, vc, h1, h2, h3, h4, h5, h6, h7, h8, h9⟩ := hc i x hi
  exact ⟨b, off, vp, vl, vc, h1, h3, h4, h5, h6, h7.to, h8.to, h9.to⟩
theorem RImportsF.to {B : Nat} {w : World} {v : Value} {l : List PImp} (h : RImportsF B w v l) : RImports w v l := by
  obtain ⟨ao, cap, hv, hm, hc⟩ := h
  refine ⟨ao, cap, hv, hm, fun i x hi => ?_⟩
  obtain ⟨b, off, vs, vp, h1, h2, h3, h4, h5, h6, h7⟩ := hc i x hi
  exact ⟨b, off, vs, vp, h1, h3, h4, h5, h6, h7.to⟩
theorem RExportsF.to {B : Nat} {w : World} {v : Value} {l : List PExp} (h : RExportsF B w v l) : RExports w v l := by
  obtain ⟨ao, cap, hv, hm, hc⟩ := h
  refine ⟨ao, cap, hv, hm, fun i x hi => ?_⟩
  obtain ⟨b, off, vs, h1, h2, h3, h4, h5⟩ := hc i x hi
  exact ⟨b, off, vs, h1, h3, h4, h5⟩
theorem RIntsF.shape {B : Nat} {w : World} {v : Value} {l : List Int} (h : RIntsF B w v l) : ∃ ao cap, v = .slice ao l.length cap := by
  obtain ⟨ao, cap, hv, _⟩ := h; exact ⟨ao, cap, hv⟩
theorem RCodeF.shape {B : Nat} {w : World} {v : Value} {l : List PIns} (h : RCodeF B w v l) : ∃ ao cap, v = .slice ao l.length cap := by
  obtain ⟨ao, cap, hv, _⟩ := h; exact ⟨ao, cap, hv⟩

end Go.Proofs.YtkgncijcnlfhiaaDoor

namespace Go.Proofs.YtkgncijcnlfhiaaDoor
set_option linter.unusedVariables false
set_option linter.unusedSimpArgs false
open Go.RowKit
attribute [local go_sem ↓] Go.wp_at_zero Go.wp_at_succ

theorem cell_set_ne {w : World} {g o j : Nat} {v : Value} (h : ¬ o = j) : (w.setCell ⟨g, o, none⟩ v).cell? ⟨g, j, none⟩ = w.cell? ⟨g, j, none⟩ :=
  World.cell?_setCell_other w _ _ _ (by intro e; simp only [Addr.mk.injEq] at e; exact h e.2.1)
end Go.Proofs.YtkgncijcnlfhiaaDoor

namespace Go.Proofs.YtkgncijcnlfhiaaDoor
set_option linter.unusedVariables false
set_option linter.unusedSimpArgs false
open Go.RowKit

theorem RShapes.below {W w : World} {v : Value} {l : List (List Int)} (h : RShapes W v l) (g : Below W.heap.size W w) : RShapes w v l := by
  obtain ⟨ao, cap, hv, hm, hc⟩ := h
  refine ⟨ao, cap, hv, hm, fun i x hi => ?_⟩
  obtain ⟨b, off, vx, h1, h2, h3⟩ := hc i x hi
  exact ⟨b, off, vx, h1, below_cell g h2, h3.below g⟩
theorem RCode.below {W w : World} {v : Value} {l : List PIns} (h : RCode W v l) (g : Below W.heap.size W w) : RCode w v l := by
  obtain ⟨ao, cap, hv, hm, hc⟩ := h
  refine ⟨ao, cap, hv, hm, fun i x hi => ?_⟩
  obtain ⟨b, off, h1, h2, h3, h4⟩ := hc i x hi
  exact ⟨b, off, h1, below_cell g h2, below_cell g h3, below_cell g h4⟩
theorem RFuncs.below {W w : World} {v : Value} {l : List PFunc} (h : RFuncs W v l) (g : Below W.heap.size W w) : RFuncs w v l := by
  obtain ⟨ao, cap, hv, hm, hc⟩ := h
  refine ⟨ao, cap, hv, hm, fun i x hi => ?_⟩
  obtain ⟨b, off, vp, vl, vc, h1, h2, h3, h4, h5, h6, h7, h8⟩ := hc i x hi
  exact ⟨b, off, vp, vl, vc, h1, below_cell g h2, below_cell g h3, below_cell g h4, below_cell g h5, h6.below g, h7.below g, h8.below g⟩
theorem RImports.below {W w : World} {v : Value} {l : List PImp} (h : RImports W v l) (g : Below W.heap.size W w) : RImports w v l := by
  obtain ⟨ao, cap, hv, hm, hc⟩ := h
  refine ⟨ao, cap, hv, hm, fun i x hi => ?_⟩
  obtain ⟨b, off, vs, vp, h1, h2, h3, h4, h5, h6⟩ := hc i x hi
  exact ⟨b, off, vs, vp, h1, below_cell g h2, below_cell g h3, below_cell g h4, h5, h6.below g⟩
theorem RExports.below {W w : World} {v : Value} {l : List PExp} (h : RExports W v l) (g : Below W.heap.size W w) : RExports w v l := by
  obtain ⟨ao, cap, hv, hm, hc⟩ := h
  refine ⟨ao, cap, hv, hm, fun i x hi => ?_⟩
  obtain ⟨b, off, vs, h1, h2, h3, h4⟩ := hc i x hi
  exact ⟨b, off, vs, h1, below_cell g h2, below_cell g h3, h4⟩

/-- lists in bytes -/
def encs {α : Type} (f : α → List UInt8) (xs : List α) : List UInt8 := num xs.length ++ xs.flatMap f
def encWhole (x : Int) : List UInt8 := num x.toNat
def encSigned (x : Int) : List UInt8 := num (zig x)
def encKinds (l : List Int) : List UInt8 := encs encWhole l
def encIns (i : PIns) : List UInt8 :=
  UInt8.ofNat i.op.toNat :: (if i.op = 1 then num (zig i.a) else (if 1 ≤ operandsN i.op then num i.a.toNat else []) ++ (if 2 ≤ operandsN i.op then num i.b.toNat else []))
def encFunc (f : PFunc) : List UInt8 := encKinds f.params ++ (encKinds f.locals ++ (num f.result.toNat ++ encs encIns f.code))
def encText (s : List UInt8) : List UInt8 := num s.length ++ s
def encImp (i : PImp) : List UInt8 := encText i.name ++ (encKinds i.params ++ num i.result.toNat)
def encExp (e : PExp) : List UInt8 := encText e.name ++ num e.func.toNat

end Go.Proofs.YtkgncijcnlfhiaaDoor

namespace Go.Proofs.YtkgncijcnlfhiaaDoor
set_option linter.unusedVariables false
set_option linter.unusedSimpArgs false
open Go.RowKit

theorem App.box {base : Nat} {w w' : World} {v v' : Value} {l' : List UInt8} (k : App base w v w' v' l') {B o : Nat} {x : Value} (hx : w.cell? ⟨B, o, none⟩ = some x) (hv : ∀ i, v.ownBlock = some i → i < B) : w'.cell? ⟨B, o, none⟩ = some x :=
  k.frm.cell hx (fun e => by have := hv B e.symm; omega)
end Go.Proofs.YtkgncijcnlfhiaaDoor

namespace Go.Proofs.YtkgncijcnlfhiaaDoor
set_option linter.unusedVariables false
set_option linter.unusedSimpArgs false
open Go.RowKit
attribute [local go_sem ↓] Go.wp_at_zero Go.wp_at_succ

theorem Gc.box {cb b o : Nat} {w w' : World} {x : Value} (h : Gc cb w w') (hb : ¬ b = cb) (hx : w.cell? ⟨b, o, none⟩ = some x) : w'.cell? ⟨b, o, none⟩ = some x :=
  h.cell hx (by intro e; simp only [Option.some.injEq] at e; exact hb e)
theorem Gc.boxz {cb b o : Nat} {w w' : World} {x : Value} (h : Gc cb w w') (hb : ¬ b = cb) (hx : w.cell? ⟨b, o, none⟩ = some x) (hz : w.frozen? ⟨b, o, none⟩ = false) : w'.frozen? ⟨b, o, none⟩ = false :=
  (World.frozen?_of_block (a := ⟨b, o, none⟩) (h.block b (World.block_lt_of_cell? w _ hx) (by intro e; simp only [Option.some.injEq] at e; exact hb e))).trans hz
/-- a struct of three cells of one's own -/
def Box3 (w : World) (b : Nat) (x0 x1 x2 : Value) : Prop :=
  w.cell? ⟨b, 0, none⟩ = some x0 ∧ w.cell? ⟨b, 1, none⟩ = some x1 ∧ w.cell? ⟨b, 2, none⟩ = some x2 ∧ w.frozen? ⟨b, 0, none⟩ = false ∧ w.frozen? ⟨b, 1, none⟩ = false ∧ w.frozen? ⟨b, 2, none⟩ = false
theorem Box3.gc {w w' : World} {cb b : Nat} {x0 x1 x2 : Value} (h : Box3 w b x0 x1 x2) (g : Gc cb w w') (hb : ¬ b = cb) : Box3 w' b x0 x1 x2 := by
  obtain ⟨h0, h1, h2, z0, z1, z2⟩ := h
  exact ⟨g.box hb h0, g.box hb h1, g.box hb h2, g.boxz hb h0 z0, g.boxz hb h1 z1, g.boxz hb h2 z2⟩
theorem Box3.gr {w w' : World} {b : Nat} {x0 x1 x2 : Value} (h : Box3 w b x0 x1 x2) (g : Gr w w') : Box3 w' b x0 x1 x2 := h.gc (cb := b + 1) g.toGc (by omega)
theorem Box3.new (w : World) (t : TypeId) (x0 x1 x2 : Value) : Box3 (w.alloc (.cells #[x0, x1, x2] t)) w.heap.size x0 x1 x2 := by
  refine ⟨?_, ?_, ?_, ?_, ?_, ?_⟩ <;> simp [go_sem]
end Go.Proofs.YtkgncijcnlfhiaaDoor

