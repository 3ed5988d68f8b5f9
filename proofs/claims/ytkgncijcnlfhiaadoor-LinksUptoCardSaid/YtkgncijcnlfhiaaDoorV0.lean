import Derived.Maps.AppendAt
import Derived.Test.YtkgncijcnlfhiaaDoorR0
import Derived.Lib.AppendStr
import Derived.Lib.BufferWrite
import Derived.Lib.UnsafeStr
import Derived.Lib.Strings
import Derived.Lib.Hide
namespace Go.Proofs.YtkgncijcnlfhiaaDoor
set_option linter.unusedVariables false
set_option linter.unusedSimpArgs false
open Go.RowKit
/-- bytes, as cells -/
def bc (l : List UInt8) : List Value := l.map fun b => Value.int .u8 b.toNat
theorem Tryd.info5 : (Tryd.prog.info? 5).map (fun i => (i.zero, i.size, i.bytes)) = some (some (.int .u8 0), 1, 1) := by kernel_rfl

/-- v, which owned its bytes, has become v', which owns l'; nothing else that was there has turned -/
structure App (base : Nat) (w : World) (v : Value) (w' : World) (v' : Value) (l' : List UInt8) : Prop where
  own : w'.ownsRow base 5 1 v' l'.length (bc l')
  frm : w.grownBy w' v.ownBlock
  lies : ∀ k, v'.ownBlock = some k → v.ownBlock = some k ∨ w.heap.size ≤ k

theorem App.refl {base : Nat} {w : World} {v : Value} {l : List UInt8} (h : w.ownsRow base 5 1 v l.length (bc l)) : App base w v w v l :=
  ⟨h, World.grownBy.refl _ _, fun _ hk => .inl hk⟩
theorem App.trans {base : Nat} {w w1 w2 : World} {v v1 v2 : Value} {l1 l2 : List UInt8} (h : App base w v w1 v1 l1) (k : App base w1 v1 w2 v2 l2) : App base w v w2 v2 l2 := by
  refine ⟨k.own, ⟨k.frm.os.trans h.frm.os, k.frm.tape.trans h.frm.tape, k.frm.output.trans h.frm.output, Nat.le_trans h.frm.size k.frm.size, fun i hi hne => ?_⟩, fun i hi => ?_⟩
  · refine (k.frm.block i (Nat.lt_of_lt_of_le hi h.frm.size) fun e => ?_).trans (h.frm.block i hi hne)
    rcases h.lies i e.symm with e1 | e1
    · exact hne e1.symm
    · omega
  · rcases k.lies i hi with e | e
    · exact h.lies i e
    · exact .inr (Nat.le_trans h.frm.size e)
theorem App.gr {base : Nat} {w w1 w2 : World} {v v2 : Value} {l2 : List UInt8} (g : Gr w w1) (k : App base w1 v w2 v2 l2) : App base w v w2 v2 l2 := by
  refine ⟨k.own, ⟨k.frm.os.trans g.os, k.frm.tape.trans g.tape, k.frm.output.trans g.output, Nat.le_trans g.size k.frm.size, fun i hi hne => (k.frm.block i (Nat.lt_of_lt_of_le hi g.size) hne).trans (g.block i hi (by simp))⟩, fun i hi => ?_⟩
  rcases k.lies i hi with e | e
  · exact .inl e
  · exact .inr (Nat.le_trans g.size e)
theorem App.cell {base : Nat} {w w' : World} {v v' : Value} {l' : List UInt8} (k : App base w v w' v' l') {b o : Nat} {x : Value} (hx : w.cell? ⟨b, o, none⟩ = some x) (hb : b < base) (hv : ∀ i, v.ownBlock = some i → base ≤ i) : w'.cell? ⟨b, o, none⟩ = some x :=
  k.frm.cell hx (fun e => by have := hv b e.symm; omega)

section
variable {ops : Array Oper} {rest : List Oper} {o : Oper} {a : Act} {Q : Exit → Act → World → Prop}
end

/-- numbers, in bytes of seven bits -/
def numF : Nat → Nat → List UInt8
  | 0, v => [UInt8.ofNat v]
  | k + 1, v => if v < 128 then [UInt8.ofNat v] else UInt8.ofNat (v % 128 + 128) :: numF k (v / 128)
def num (v : Nat) : List UInt8 := numF 10 v
end Go.Proofs.YtkgncijcnlfhiaaDoor

namespace Go.Proofs.YtkgncijcnlfhiaaDoor
set_option linter.unusedVariables false
set_option linter.unusedSimpArgs false
open Go.RowKit

def zig (v : Int) : Nat := if v < 0 then (-2 * v - 1).toNat else (2 * v).toNat
end Go.Proofs.YtkgncijcnlfhiaaDoor

namespace Go.Proofs.YtkgncijcnlfhiaaDoor
set_option linter.unusedVariables false
set_option linter.unusedSimpArgs false
open Go.RowKit

theorem below_cell {W w : World} (h : Below W.heap.size W w) {a : Addr} {x : Value} (hx : W.cell? a = some x) : w.cell? a = some x :=
  (h.cell (World.block_lt_of_cell? W a hx)).trans hx
theorem RInts.below {W w : World} {v : Value} {l : List Int} (h : RInts W v l) (g : Below W.heap.size W w) : RInts w v l := by
  obtain ⟨ao, cap, hv, hm, hc⟩ := h
  refine ⟨ao, cap, hv, hm, fun i hi => ?_⟩
  obtain ⟨b, off, h1, h2⟩ := hc i hi
  exact ⟨b, off, h1, below_cell g h2⟩
theorem App.below {base : Nat} {w w' : World} {v v' : Value} {l l' : List UInt8} (k : App base w v w' v' l') (hown : w.ownsRow base 5 1 v l.length (bc l)) (hb : base ≤ w.heap.size) : Below base w w' :=
  (Below.refl _ _).grown k.frm hb fun i hi => (hown.lt i hi).1
/-- what a call of the writers is made in: the unit lies in W, below all that was made since -/
structure Wr (W w : World) (v : Value) (l : List UInt8) : Prop where
  low : Below W.heap.size W w
  own : w.ownsRow W.heap.size 5 1 v l.length (bc l)
theorem Wr.base {W w : World} {v : Value} {l : List UInt8} (h : Wr W w v l) : W.heap.size ≤ w.heap.size := h.low.size
theorem Wr.app {W w w' : World} {v v' : Value} {l l' : List UInt8} (h : Wr W w v l) (k : App W.heap.size w v w' v' l') : Wr W w' v' l' :=
  ⟨h.low.trans (k.below h.own h.base), k.own⟩
theorem Wr.gr {W w w' : World} {v : Value} {l : List UInt8} (h : Wr W w v l) (g : Gr w w') : Wr W w' v l :=
  ⟨h.low.grown g h.base (by simp), h.own.kept g (by cases v.ownBlock <;> simp)⟩
theorem Wr.refl {W w : World} {v : Value} {l : List UInt8} (h : Wr W w v l) : App W.heap.size w v w v l := App.refl h.own

section
variable {ops : Array Oper} {rest : List Oper} {o : Oper} {a : Act} {Q : Exit → Act → World → Prop}
end

end Go.Proofs.YtkgncijcnlfhiaaDoor

namespace Go.Proofs.YtkgncijcnlfhiaaDoor
set_option linter.unusedVariables false
set_option linter.unusedSimpArgs false
open Go.RowKit

def crcBit (c : Nat) : Nat := if c % 2 = 1 then (c / 2) ^^^ 3988292384 else c / 2
def crcBits : Nat → Nat → Nat
  | 0, c => c
  | k + 1, c => crcBit (crcBits k c)
def crcByte (c : Nat) (b : UInt8) : Nat := crcBits 8 (c ^^^ b.toNat)
def crcF (l : List UInt8) : Nat := l.foldl crcByte 4294967295
def crc (l : List UInt8) : Nat := 4294967295 - crcF l

end Go.Proofs.YtkgncijcnlfhiaaDoor

namespace Go.Proofs.YtkgncijcnlfhiaaDoor
set_option linter.unusedVariables false
set_option linter.unusedSimpArgs false
open Go.RowKit
attribute [local go_sem ↓] Go.wp_at_zero Go.wp_at_succ

/-- a cursor: what is left, and what it is refused by -/
def Cur (w : World) (cb : Nat) (r : List UInt8) (e a : Int) : Prop :=
  (∃ s : ByteArray, w.cell? ⟨cb, 0, none⟩ = some (.string s) ∧ s.data.toList = r) ∧ r.length ≤ 1000000 ∧ w.cell? ⟨cb, 1, none⟩ = some (.int .i64 e) ∧ w.cell? ⟨cb, 3, none⟩ = some (.int .i64 a) ∧ w.frozen? ⟨cb, 0, none⟩ = false ∧ w.cell? ⟨cb, 2, none⟩ = some (.int .i64 0)
/-- new blocks, and writes into the cursor alone -/
abbrev Gc (cb : Nat) (w w' : World) : Prop := w.grownBy w' (some cb)
theorem Gc.refl (cb : Nat) (w : World) : Gc cb w w := World.grownBy.refl w _
theorem Gr.toGc {cb : Nat} {w w' : World} (h : Gr w w') : Gc cb w w' := ⟨h.os, h.tape, h.output, h.size, fun i hi _ => h.block i hi (by simp)⟩
theorem Gc.set {cb : Nat} {w w' : World} (h : Gc cb w w') (o : Nat) (v : Value) : Gc cb w (w'.setCell ⟨cb, o, none⟩ v) :=
  ⟨h.os, h.tape, h.output, by simpa using h.size, fun i hi hne => by rw [Below.heap_setCell _ _ _ _ (fun e => hne (by rw [e]))]; exact h.block i hi hne⟩
theorem Gc.drew {cb : Nat} {a b : World} (h : Gc cb a b) : Gc cb a b.drew := ⟨h.os, h.tape, h.output, h.size, h.block⟩
theorem Cur.gr {w w' : World} {cb : Nat} {r : List UInt8} {e a : Int} (h : Cur w cb r e a) (g : Gr w w') : Cur w' cb r e a := by
  obtain ⟨⟨s, h0, h1⟩, h2, h3, h4, h5, h6⟩ := h
  exact ⟨⟨s, g.cell h0 (by simp), h1⟩, h2, g.cell h3 (by simp), g.cell h4 (by simp), (World.frozen?_of_block (g.block cb (World.block_lt_of_cell? w _ h3) (by simp))).trans h5, g.cell h6 (by simp)⟩

/-- how a reader ends -/
def Rds {α : Type} (cb : Nat) (e a : Int) (w : World) (R : World → Value → α → Prop) : Option (α × List UInt8) → Ending → World → Prop
  | some (y, r'), x, w' => ∃ v, x = .returned v ∧ R w' v y ∧ Cur w' cb r' e a ∧ Gc cb w w'
  | none, x, w' => x = .panicked (thrown e a) ∧ Gc cb w w'

end Go.Proofs.YtkgncijcnlfhiaaDoor

namespace Go.Proofs.YtkgncijcnlfhiaaDoor
set_option linter.unusedVariables false
set_option linter.unusedSimpArgs false
open Go.RowKit
attribute [local go_sem ↓] Go.wp_at_zero Go.wp_at_succ

theorem Rds.none_ {α : Type} {cb : Nat} {e a : Int} {w : World} {R : World → Value → α → Prop} {o : Option (α × List UInt8)} (ho : o = none) {x : Ending} {w' : World} (h : Rds cb e a w R o x w') : x = .panicked (thrown e a) ∧ Gc cb w w' := by subst ho; exact h

end Go.Proofs.YtkgncijcnlfhiaaDoor

namespace Go.Proofs.YtkgncijcnlfhiaaDoor
set_option linter.unusedVariables false
set_option linter.unusedSimpArgs false
open Go.RowKit

theorem below_Gr {w w' : World} (h : Below w.heap.size w w') : Gr w w' := ⟨h.os, h.tape, h.output, h.size, fun k hk _ => h.block k hk⟩
theorem Tryd.cells5 : Tryd.prog.cellsOf 5 = 1 := by kernel_rfl

set_option maxRecDepth 100000 in
set_option maxHeartbeats 2000000 in
theorem clone_any (s : ByteArray) (w : World) (hs : s.size ≤ 1000000) :
    Calls Tryd.prog 166 #[.string s] w fun x w' => x = .returned (.string s) ∧ Gr w w' := by
  by_cases h0 : s.size = 0
  · have h00 : ((s.size : Int) == 0) = true := by rw [h0]; rfl
    have HE : Hid (s = ⟨#[]⟩) := hide (ByteArray.ext (Array.eq_empty_of_size_eq_zero h0))
    clear h0
    go_enter Tryd.func166, Tryd.ntmps166
    go_wp2
    go_ret
    exact ⟨by rw [HE.out]; rfl, Gr.refl _⟩
  · obtain ⟨i0, hi, hz0, hz1, hz2⟩ := info_parts Tryd.info5
    -- the new row, under a name
    obtain ⟨M, hM⟩ : ∃ M, M = madeCells (Value.int .u8 0).cells (((s.size : Nat) : Int).toNat * i0.size) := ⟨_, rfl⟩
    have hMs : M.size = s.size := by rw [hM, size_madeCells, hz1]; simp
    have hmk : ∀ V : World, (Instr.makeSlice 113 (.int .i64 (s.size : Int)) (.int .i64 (s.size : Int))).run Tryd.prog V = .ok (.slice (some ⟨V.heap.size, 0, none⟩) s.size s.size) (V.alloc (.cells M 5)) := by
      intro V
      have h := run_make (P := Tryd.prog) V 113 5 i0 (.int .u8 0) Tryd.underlying113 hi hz0 .i64 .i64 (s.size : Int) (s.size : Int) (by omega) (by omega) (by rw [hz2]; omega) (by omega)
      rw [← hM] at h
      simpa using h
    clear hM
    have hcopy := Go.Lib.run_copy_row_string (P := Tryd.prog) (w.alloc (.cells M 5)) 113 9 3 5 w.heap.size 0 s.size s.size s M 5 Tryd.underlying113 (by rw [hi]; simp [hz1]) (heap_alloc_new w _) (Nat.le_refl _) (by omega)
    obtain ⟨Y, hY⟩ : ∃ Y, Y = (M.toList.take 0 ++ Go.Lib.byteCells s.data.toList ++ M.toList.drop (0 + s.size)).toArray := ⟨_, rfl⟩
    rw [← hY] at hcopy
    have hYl : Y.toList = Go.Lib.byteCells s.data.toList := by
      rw [hY, List.toList_toArray, List.take_zero, List.nil_append, List.drop_of_length_le (by rw [Array.length_toList]; omega), List.append_nil]
    have hYs : Y.size = s.size := by rw [← Array.length_toList, hYl, Go.Lib.byteCells_length, ← Go.Lib.size_eq]
    have hrow : ((w.alloc (.cells M 5)).setRow w.heap.size Y).heap[w.heap.size]? = some (.cells Y 5 (0, 0)) := setRow_heap _ _ M _ 5 (0, 0) (heap_alloc_new w _)
    have hne : s.data.toList ≠ [] := fun e => h0 (by rw [Go.Lib.size_eq, e]; rfl)
    have hstr := Go.Lib.run_unsafeString_row (P := Tryd.prog) ((w.alloc (.cells M 5)).setRow w.heap.size Y) 251 3 9 5 Tryd.underlying251 Tryd.cells5 w.heap.size Y.size (by unfold World.shape?; rw [hrow]) s.data.toList hne (by rw [← Go.Lib.size_eq]; omega) (by rw [← Go.Lib.size_eq]; omega)
      (fun j x hx => Go.Lib.cells_of_row hrow Y.size j _ (by rw [List.take_of_length_le (by rw [Array.length_toList]; exact Nat.le_refl _), hYl]; simp [Go.Lib.byteCells, hx]))
    rw [← Go.Lib.size_eq] at hstr
    clear hY
    have h00 : ((s.size : Int) == 0) = false := by rw [beq_eq_false_iff_ne]; omega
    have hpos : 0 < s.size := by omega
    go_enter Tryd.func166, Tryd.ntmps166
    go_wp2
    go_ret
    have b1 : Below w.heap.size w (w.alloc (.cells M 5)) := (Below.refl _ w).alloc (Nat.le_refl _) _
    have b2 : Below w.heap.size (w.alloc (.cells M 5)) ((w.alloc (.cells M 5)).setRow w.heap.size Y) := ⟨rfl, rfl, rfl, by simp, fun k hk => setRow_other _ _ _ _ (by omega)⟩
    exact ⟨rfl, below_Gr (Go.Lib.below_freeze (b1.trans b2) (p := ⟨w.heap.size, 0, none⟩) (Nat.le_refl _) _)⟩

end Go.Proofs.YtkgncijcnlfhiaaDoor

namespace Go.Proofs.YtkgncijcnlfhiaaDoor
set_option linter.unusedVariables false
set_option linter.unusedSimpArgs false
open Go.RowKit
def RIntsF (B : Nat) (w : World) (v : Value) (l : List Int) : Prop :=
  ∃ ao cap, v = .slice ao l.length cap ∧ l.length ≤ maxLen ∧ ∀ i y, l[i]? = some y → ∃ b off, ao = some ⟨b, off, none⟩ ∧ B ≤ b ∧ w.cell? ⟨b, off + i, none⟩ = some (.int .i64 y)
def RShapesF (B : Nat) (w : World) (v : Value) (l : List (List Int)) : Prop :=
  ∃ ao cap, v = .slice ao l.length cap ∧ l.length ≤ maxLen ∧ ∀ i x, l[i]? = some x → ∃ b off vx, ao = some ⟨b, off, none⟩ ∧ B ≤ b ∧ w.cell? ⟨b, off + i, none⟩ = some vx ∧ RIntsF B w vx x
def RCodeF (B : Nat) (w : World) (v : Value) (l : List PIns) : Prop :=
  ∃ ao cap, v = .slice ao l.length cap ∧ l.length ≤ maxLen ∧ ∀ i x, l[i]? = some x → ∃ b off, ao = some ⟨b, off, none⟩ ∧ B ≤ b ∧
    w.cell? ⟨b, off + i * 3, none⟩ = some (.int .i64 x.op) ∧ w.cell? ⟨b, off + i * 3 + 1, none⟩ = some (.int .i64 x.a) ∧ w.cell? ⟨b, off + i * 3 + 2, none⟩ = some (.int .i64 x.b)
def RFuncsF (B : Nat) (w : World) (v : Value) (l : List PFunc) : Prop :=
  ∃ ao cap, v = .slice ao l.length cap ∧ l.length ≤ maxLen ∧ ∀ i x, l[i]? = some x → ∃ b off vp vl vc, ao = some ⟨b, off, none⟩ ∧ B ≤ b ∧
    w.cell? ⟨b, off + i * 4, none⟩ = some vp ∧ w.cell? ⟨b, off + i * 4 + 1, none⟩ = some (.int .i64 x.result) ∧ w.cell? ⟨b, off + i * 4 + 2, none⟩ = some vl ∧ w.cell? ⟨b, off + i * 4 + 3, none⟩ = some vc ∧
    RIntsF B w vp x.params ∧ RIntsF B w vl x.locals ∧ RCodeF B w vc x.code
def RImportsF (B : Nat) (w : World) (v : Value) (l : List PImp) : Prop :=
  ∃ ao cap, v = .slice ao l.length cap ∧ l.length ≤ maxLen ∧ ∀ i x, l[i]? = some x → ∃ b off vs vp, ao = some ⟨b, off, none⟩ ∧ B ≤ b ∧
    w.cell? ⟨b, off + i * 3, none⟩ = some vs ∧ w.cell? ⟨b, off + i * 3 + 1, none⟩ = some vp ∧ w.cell? ⟨b, off + i * 3 + 2, none⟩ = some (.int .i64 x.result) ∧
    RText vs x.name ∧ RIntsF B w vp x.params
def RExportsF (B : Nat) (w : World) (v : Value) (l : List PExp) : Prop :=
  ∃ ao cap, v = .slice ao l.length cap ∧ l.length ≤ maxLen ∧ ∀ i x, l[i]? = some x → ∃ b off vs, ao = some ⟨b, off, none⟩ ∧ B ≤ b ∧
    w.cell? ⟨b, off + i * 2, none⟩ = some vs ∧ w.cell? ⟨b, off + i * 2 + 1, none⟩ = some (.int .i64 x.func) ∧ RText vs x.name

/-- the blocks from B on that were there are as they were -/
def Kp (B : Nat) (w w' : World) : Prop := ∀ k, B ≤ k → k < w.heap.size → w'.heap[k]? = w.heap[k]?
theorem Kp.cell {B : Nat} {w w' : World} (h : Kp B w w') {b o : Nat} {x : Value} (hb : B ≤ b) (hx : w.cell? ⟨b, o, none⟩ = some x) : w'.cell? ⟨b, o, none⟩ = some x :=
  (World.cell?_of_block (a := ⟨b, o, none⟩) (h b hb (World.block_lt_of_cell? w _ hx))).trans hx
theorem Kp.mono {B B' : Nat} {w w' : World} (h : Kp B w w') (hB : B ≤ B') : Kp B' w w' := fun k h1 h2 => h k (Nat.le_trans hB h1) h2
theorem Gc.kp {cb B : Nat} {w w' : World} (h : Gc cb w w') (hb : cb < B) : Kp B w w' := fun k h1 h2 => h.block k h2 (by intro e; simp only [Option.some.injEq] at e; omega)
theorem Kp.set {B g o : Nat} {w : World} (v : Value) (hg : g < B) : Kp B w (w.setCell ⟨g, o, none⟩ v) := fun k h1 _ => Below.heap_setCell _ _ _ _ (by show k ≠ g; omega)
theorem Kp.trans {B : Nat} {a b c : World} (h : Kp B a b) (k : Kp B b c) (hs : a.heap.size ≤ b.heap.size) : Kp B a c := fun i h1 h2 => (k i h1 (Nat.lt_of_lt_of_le h2 hs)).trans (h i h1 h2)
theorem Gr.kp {B : Nat} {w w' : World} (h : Gr w w') : Kp B w w' := fun k _ h2 => h.block k h2 (by simp)

theorem RIntsF.kp {B : Nat} {w w' : World} {v : Value} {l : List Int} (h : RIntsF B w v l) (g : Kp B w w') : RIntsF B w' v l := by
  obtain ⟨ao, cap, hv, hm, hc⟩ := h
  refine ⟨ao, cap, hv, hm, fun i x hi => ?_⟩
  obtain ⟨b, off, h1, h2, h3⟩ := hc i x hi
  exact ⟨b, off, h1, h2, g.cell h2 h3⟩
theorem RCodeF.kp {B : Nat} {w w' : World} {v : Value} {l : List PIns} (h : RCodeF B w v l) (g : Kp B w w') : RCodeF B w' v l := by
  obtain ⟨ao, cap, hv, hm, hc⟩ := h
  refine ⟨ao, cap, hv, hm, fun i x hi => ?_⟩
  obtain ⟨b, off, h1, h2, h3, h4, h5⟩ := hc i x hi
  exact ⟨b, off, h1, h2, g.cell h2 h3, g.cell h2 h4, g.cell h2 h5⟩
theorem RShapesF.kp {B : Nat} {w w' : World} {v : Value} {l : List (List Int)} (h : RShapesF B w v l) (g : Kp B w w') : RShapesF B w' v l := by
  obtain ⟨ao, cap, hv, hm, hc⟩ := h
  refine ⟨ao, cap, hv, hm, fun i x hi => ?_⟩
  obtain ⟨b, off, vx, h1, h2, h3, h4⟩ := hc i x hi
  exact ⟨b, off, vx, h1, h2, g.cell h2 h3, h4.kp g⟩
theorem RFuncsF.kp {B : Nat} {w w' : World} {v : Value} {l : List PFunc} (h : RFuncsF B w v l) (g : Kp B w w') : RFuncsF B w' v l := by
  obtain ⟨ao, cap, hv, hm, hc⟩ := h
  refine ⟨ao, cap, hv, hm, fun i x hi => ?_⟩
  obtain ⟨b, off, vp, vl, vc, h1, h2, h3, h4, h5, h6, h7, h8, h9⟩ := hc i x hi
  exact ⟨b, off, vp, vl, vc, h1, h2, g.cell h2 h3, g.cell h2 h4, g.cell h2 h5, g.cell h2 h6, h7.kp g, h8.kp g, h9.kp g⟩
theorem RImportsF.kp {B : Nat} {w w' : World} {v : Value} {l : List PImp} (h : RImportsF B w v l) (g : Kp B w w') : RImportsF B w' v l := by
  obtain ⟨ao, cap, hv, hm, hc⟩ := h
  refine ⟨ao, cap, hv, hm, fun i x hi => ?_⟩
  obtain ⟨b, off, vs, vp, h1, h2, h3, h4, h5, h6, h7⟩ := hc i x hi
  exact ⟨b, off, vs, vp, h1, h2, g.cell h2 h3, g.cell h2 h4, g.cell h2 h5, h6, h7.kp g⟩
theorem RExportsF.kp {B : Nat} {w w' : World} {v : Value} {l : List PExp} (h : RExportsF B w v l) (g : Kp B w w') : RExportsF B w' v l := by
  obtain ⟨ao, cap, hv, hm, hc⟩ := h
  refine ⟨ao, cap, hv, hm, fun i x hi => ?_⟩
  obtain ⟨b, off, vs, h1, h2, h3, h4, h5⟩ := hc i x hi
  exact ⟨b, off, vs, h1, h2, g.cell h2 h3, g.cell h2 h4, h5⟩
theorem RIntsF.mono {B B' : Nat} {w : World} {v : Value} {l : List Int} (h : RIntsF B' w v l) (hB : B ≤ B') : RIntsF B w v l := by
  obtain ⟨ao, cap, hv, hm, hc⟩ := h
  refine ⟨ao, cap, hv, hm, fun i x hi => ?_⟩
  obtain ⟨b, off, h1, h2, h3⟩ := hc i x hi
  exact ⟨b, off, h1, Nat.le_trans hB h2, h3⟩
theorem RCodeF.mono {B B' : Nat} {w : World} {v : Value} {l : List PIns} (h : RCodeF B' w v l) (hB : B ≤ B') : RCodeF B w v l := by
  obtain ⟨ao, cap, hv, hm, hc⟩ := h
  refine ⟨ao, cap, hv, hm, fun i x hi => ?_⟩
  obtain ⟨b, off, h1, h2, h3⟩ := hc i x hi
  exact ⟨b, off, h1, Nat.le_trans hB h2, h3⟩
theorem RIntsF.to {B : Nat} {w : World} {v : Value} {l : List Int} (h : RIntsF B w v l) : RInts w v l := by
  obtain ⟨ao, cap, hv, hm, hc⟩ := h
  refine ⟨ao, cap, hv, hm, fun i hi => ?_⟩
  obtain ⟨b, off, h1, h2, h3⟩ := hc i l[i] (List.getElem?_eq_getElem hi)
  exact ⟨b, off, h1, by rw [h3]; simp [List.getD_eq_getElem?_getD, hi]⟩
theorem RCodeF.to {B : Nat} {w : World} {v : Value} {l : List PIns} (h : RCodeF B w v l) : RCode w v l := by
  obtain ⟨ao, cap, hv, hm, hc⟩ := h
  refine ⟨ao, cap, hv, hm, fun i x hi => ?_⟩
  obtain ⟨b, off, h1, h2, h3⟩ := hc i x hi
  exact ⟨b, off, h1, h3⟩
theorem RShapesF.to {B : Nat} {w : World} {v : Value} {l : List (List Int)} (h : RShapesF B w v l) : RShapes w v l := by
  obtain ⟨ao, cap, hv, hm, hc⟩ := h
  refine ⟨ao, cap, hv, hm, fun i x hi => ?_⟩
  obtain ⟨b, off, vx, h1, h2, h3, h4⟩ := hc i x hi
  exact ⟨b, off, vx, h1, h3, h4.to⟩
theorem RFuncsF.to {B : Nat} {w : World} {v : Value} {l : List PFunc} (h : RFuncsF B w v l) : RFuncs w v l := by
  obtain ⟨ao, cap, hv, hm, hc⟩ := h
  refine ⟨ao, cap, hv, hm, fun i x hi => ?_⟩
  obtain ⟨b, off, vp, vl, vc, h1, h2, h3, h4, h5, h6, h7, h8, h9⟩ := hc i x hi
  exact ⟨b, off, vp, vl, vc, h1, h3, h4, h5, h6, h7.to, h8.to, h9.to⟩
theorem RImportsF.to {B : Nat} {w : World} {v : Value} {l : List PImp} (h : RImportsF B w v l) : RImports w v l := by
  obtain ⟨ao, cap, hv, hm, hc⟩ := h
  refine ⟨ao, cap, hv, hm, fun i x hi => ?_⟩
  obtain ⟨b, off, vs, vp, h1, h2, h3, h4, h5, h6, h7⟩ := hc i x hi
  exact ⟨b, off, vs, vp, h1, h3, h4, h5, h6, h7.to⟩
theorem RExportsF.to {B : Nat} {w : World} {v : Value} {l : List PExp} (h : RExportsF B w v l) : RExports w v l := by
  obtain ⟨ao, cap, hv, hm, hc⟩ := h
  refine ⟨ao, cap, hv, hm, fun i x hi => ?_⟩
  obtain ⟨b, off, vs, h1, h2, h3, h4, h5⟩ := hc i x hi
  exact ⟨b, off, vs, h1, h3, h4, h5⟩
theorem RIntsF.shape {B : Nat} {w : World} {v : Value} {l : List Int} (h : RIntsF B w v l) : ∃ ao cap, v = .slice ao l.length cap := by
  obtain ⟨ao, cap, hv, _⟩ := h; exact ⟨ao, cap, hv⟩
theorem RCodeF.shape {B : Nat} {w : World} {v : Value} {l : List PIns} (h : RCodeF B w v l) : ∃ ao cap, v = .slice ao l.length cap := by
  obtain ⟨ao, cap, hv, _⟩ := h; exact ⟨ao, cap, hv⟩

def Blk (w : World) (g : Nat) (T : TypeId) (n : Nat) : Prop := ∃ cur : Array Value, w.heap[g]? = some (.cells cur T (0, 0)) ∧ cur.size = n
theorem Blk.kp {B : Nat} {w w' : World} {g : Nat} {T : TypeId} {n : Nat} (h : Blk w g T n) (k : Kp B w w') (hB : B ≤ g) : Blk w' g T n := by
  obtain ⟨cur, h1, h2⟩ := h
  exact ⟨cur, (k g hB (Array.getElem?_eq_some_iff.1 h1).1).trans h1, h2⟩
theorem Blk.lt {w : World} {g : Nat} {T : TypeId} {n : Nat} (h : Blk w g T n) : g < w.heap.size := by
  obtain ⟨cur, h1, _⟩ := h
  exact (Array.getElem?_eq_some_iff.1 h1).1
theorem Blk.new (w : World) (M : Array Value) (T : TypeId) : Blk (w.alloc (.cells M T)) w.heap.size T M.size := ⟨M, heap_alloc_new w (.cells M T), rfl⟩
theorem Blk.set {w : World} {g : Nat} {T : TypeId} {n g' o : Nat} {v : Value} (h : Blk w g T n) : Blk (w.setCell ⟨g', o, none⟩ v) g T n := by
  obtain ⟨cur, h1, h2⟩ := h
  by_cases e : g' = g
  · subst e
    exact ⟨_, heap_setCell_same w g' o cur T v h1, by simp [h2]⟩
  · exact ⟨cur, (Below.heap_setCell _ _ _ _ (fun x => e x.symm)).trans h1, h2⟩
/-- the cells of a row reach blocks below S, each another -/
def DL (w : World) (g N S : Nat) : Prop := (∀ p q x y b, p < N → q < N → p ≠ q → w.cell? ⟨g, p, none⟩ = some x → w.cell? ⟨g, q, none⟩ = some y → x.ownBlock = some b → y.ownBlock ≠ some b) ∧ ∀ p x b, p < N → w.cell? ⟨g, p, none⟩ = some x → x.ownBlock = some b → b < S
theorem DL.cells {w w' : World} {g N S S' : Nat} (h : DL w g N S) (e : ∀ p, p < N → w'.cell? ⟨g, p, none⟩ = w.cell? ⟨g, p, none⟩) (hS : S ≤ S') : DL w' g N S' :=
  ⟨fun p q x y b hp hq hpq hx hy hb => h.1 p q x y b hp hq hpq ((e p hp).symm.trans hx) ((e q hq).symm.trans hy) hb, fun p x b hp hx hb => Nat.lt_of_lt_of_le (h.2 p x b hp ((e p hp).symm.trans hx) hb) hS⟩
theorem DL.kp {w w' : World} {g N S S' B : Nat} (h : DL w g N S) (k : Kp B w w') (hB : B ≤ g) (hg : g < w.heap.size) (hS : S ≤ S') : DL w' g N S' := h.cells (fun _ _ => World.cell?_of_block (k g hB hg)) hS
theorem DL.set {w : World} {g N S S' o : Nat} {v : Value} (h : DL w g N S) (hv : ∀ b, v.ownBlock = some b → S ≤ b ∧ b < S') (hS : S ≤ S') (hc : ∃ x, w.cell? ⟨g, o, none⟩ = some x) : DL (w.setCell ⟨g, o, none⟩ v) g N S' := by
  obtain ⟨x0, hx0⟩ := hc
  have e1 : (w.setCell ⟨g, o, none⟩ v).cell? ⟨g, o, none⟩ = some v := World.cell?_setCell_same w _ _ hx0
  have e2 : ∀ p, ¬ p = o → (w.setCell ⟨g, o, none⟩ v).cell? ⟨g, p, none⟩ = w.cell? ⟨g, p, none⟩ := fun p hp => World.cell?_setCell_other w _ _ _ (by intro e; simp only [Addr.mk.injEq] at e; exact hp e.2.1.symm)
  constructor
  · intro p q x y b hp hq hpq hx hy hb hyb
    by_cases h1 : p = o
    · subst h1
      rw [e1] at hx
      obtain rfl := Option.some.inj hx
      rw [e2 q (fun e => hpq e.symm)] at hy
      have := h.2 q y b hq hy hyb
      have := (hv b hb).1
      omega
    · rw [e2 p h1] at hx
      by_cases h2 : q = o
      · subst h2
        rw [e1] at hy
        obtain rfl := Option.some.inj hy
        have := h.2 p x b hp hx hb
        have := (hv b hyb).1
        omega
      · rw [e2 q h2] at hy
        exact h.1 p q x y b hp hq hpq hx hy hb hyb
  · intro p x b hp hx hb
    by_cases h1 : p = o
    · subst h1
      rw [e1] at hx
      obtain rfl := Option.some.inj hx
      exact (hv b hb).2
    · rw [e2 p h1] at hx
      exact Nat.lt_of_lt_of_le (h.2 p x b hp hx hb) hS
theorem DL.new (w : World) (z : Array Value) (n : Nat) (T : TypeId) (N S : Nat) (hz : ∀ x ∈ z.toList, x.ownBlock = none) (h0 : 0 < z.size) : DL (w.alloc (.cells (madeCells z n) T)) w.heap.size N S := by
  have hn : ∀ p x, (w.alloc (.cells (madeCells z n) T)).cell? ⟨w.heap.size, p, none⟩ = some x → x.ownBlock = none := by
    intro p x hx
    rw [cell_of_row _ w.heap.size p (madeCells z n) T (0, 0) (heap_alloc_new w _)] at hx
    obtain ⟨hp, rfl⟩ := Array.getElem?_eq_some_iff.1 hx
    simp only [madeCells, Array.getElem_map, Array.getElem_range]
    have hm : p % z.size < z.size := Nat.mod_lt _ h0
    rw [getElem!_pos z (p % z.size) hm]
    exact hz _ (Array.getElem_mem_toList _)
  exact ⟨fun p q x y b _ _ _ hx _ hb => (by rw [hn p x hx] at hb; cases hb), fun p x b _ hx hb => (by rw [hn p x hx] at hb; cases hb)⟩
def RIntsG (B : Nat) (w : World) (v : Value) (l : List Int) : Prop := ∃ g, v = .slice (some ⟨g, 0, none⟩) l.length l.length ∧ B ≤ g ∧ Blk w g 3 (l.length * 1) ∧ RIntsF B w v l
def RCodeG (B : Nat) (w : World) (v : Value) (l : List PIns) : Prop := ∃ g, v = .slice (some ⟨g, 0, none⟩) l.length l.length ∧ B ≤ g ∧ Blk w g 91 (l.length * 3) ∧ RCodeF B w v l
def RExportsG (B : Nat) (w : World) (v : Value) (l : List PExp) : Prop := ∃ g, v = .slice (some ⟨g, 0, none⟩) l.length l.length ∧ B ≤ g ∧ Blk w g 81 (l.length * 2) ∧ RExportsF B w v l
def RShapesG (B : Nat) (w : World) (v : Value) (l : List (List Int)) : Prop := ∃ g, v = .slice (some ⟨g, 0, none⟩) l.length l.length ∧ B ≤ g ∧ Blk w g 23 (l.length * 1) ∧ l.length ≤ maxLen ∧ (∃ S, DL w g (l.length * 1) S) ∧
  ∀ i x, l[i]? = some x → ∃ vx, w.cell? ⟨g, i, none⟩ = some vx ∧ RIntsG (g + 1) w vx x
def RFuncsG (B : Nat) (w : World) (v : Value) (l : List PFunc) : Prop := ∃ g, v = .slice (some ⟨g, 0, none⟩) l.length l.length ∧ B ≤ g ∧ Blk w g 76 (l.length * 4) ∧ l.length ≤ maxLen ∧ (∃ S, DL w g (l.length * 4) S) ∧
  ∀ i x, l[i]? = some x → ∃ vp vl vc, w.cell? ⟨g, i * 4, none⟩ = some vp ∧ w.cell? ⟨g, i * 4 + 1, none⟩ = some (.int .i64 x.result) ∧ w.cell? ⟨g, i * 4 + 2, none⟩ = some vl ∧ w.cell? ⟨g, i * 4 + 3, none⟩ = some vc ∧
    RIntsG (g + 1) w vp x.params ∧ RIntsG (g + 1) w vl x.locals ∧ RCodeG (g + 1) w vc x.code
def RImportsG (B : Nat) (w : World) (v : Value) (l : List PImp) : Prop := ∃ g, v = .slice (some ⟨g, 0, none⟩) l.length l.length ∧ B ≤ g ∧ Blk w g 79 (l.length * 3) ∧ l.length ≤ maxLen ∧ (∃ S, DL w g (l.length * 3) S) ∧
  ∀ i x, l[i]? = some x → ∃ vs vp, w.cell? ⟨g, i * 3, none⟩ = some vs ∧ w.cell? ⟨g, i * 3 + 1, none⟩ = some vp ∧ w.cell? ⟨g, i * 3 + 2, none⟩ = some (.int .i64 x.result) ∧
    RText vs x.name ∧ RIntsG (g + 1) w vp x.params
theorem RIntsG.kp {B : Nat} {w w' : World} {v : Value} {l : List Int} (h : RIntsG B w v l) (k : Kp B w w') : RIntsG B w' v l := by
  obtain ⟨g, h1, h2, h3, h4⟩ := h
  exact ⟨g, h1, h2, h3.kp k h2, h4.kp k⟩
theorem RIntsG.mono {B B' : Nat} {w : World} {v : Value} {l : List Int} (h : RIntsG B' w v l) (hB : B ≤ B') : RIntsG B w v l := by
  obtain ⟨g, h1, h2, h3, h4⟩ := h
  exact ⟨g, h1, Nat.le_trans hB h2, h3, h4.mono hB⟩
theorem RIntsG.f {B : Nat} {w : World} {v : Value} {l : List Int} (h : RIntsG B w v l) : RIntsF B w v l := by
  obtain ⟨g, h1, h2, h3, h4⟩ := h
  exact h4
theorem RIntsG.shape {B : Nat} {w : World} {v : Value} {l : List Int} (h : RIntsG B w v l) : ∃ ao cap, v = .slice ao l.length cap := by
  obtain ⟨g, h1, _⟩ := h; exact ⟨_, _, h1⟩
theorem RIntsG.at {B : Nat} {w : World} {v : Value} {l : List Int} (h : RIntsG B w v l) {b : Nat} (hb : v.ownBlock = some b) : B ≤ b ∧ b < w.heap.size := by
  obtain ⟨g, h1, h2, h3, _⟩ := h
  subst h1
  obtain rfl := Option.some.inj hb
  exact ⟨h2, h3.lt⟩
theorem RCodeG.kp {B : Nat} {w w' : World} {v : Value} {l : List PIns} (h : RCodeG B w v l) (k : Kp B w w') : RCodeG B w' v l := by
  obtain ⟨g, h1, h2, h3, h4⟩ := h
  exact ⟨g, h1, h2, h3.kp k h2, h4.kp k⟩
theorem RCodeG.mono {B B' : Nat} {w : World} {v : Value} {l : List PIns} (h : RCodeG B' w v l) (hB : B ≤ B') : RCodeG B w v l := by
  obtain ⟨g, h1, h2, h3, h4⟩ := h
  exact ⟨g, h1, Nat.le_trans hB h2, h3, h4.mono hB⟩
theorem RCodeG.f {B : Nat} {w : World} {v : Value} {l : List PIns} (h : RCodeG B w v l) : RCodeF B w v l := by
  obtain ⟨g, h1, h2, h3, h4⟩ := h
  exact h4
theorem RCodeG.shape {B : Nat} {w : World} {v : Value} {l : List PIns} (h : RCodeG B w v l) : ∃ ao cap, v = .slice ao l.length cap := by
  obtain ⟨g, h1, _⟩ := h; exact ⟨_, _, h1⟩
theorem RCodeG.at {B : Nat} {w : World} {v : Value} {l : List PIns} (h : RCodeG B w v l) {b : Nat} (hb : v.ownBlock = some b) : B ≤ b ∧ b < w.heap.size := by
  obtain ⟨g, h1, h2, h3, _⟩ := h
  subst h1
  obtain rfl := Option.some.inj hb
  exact ⟨h2, h3.lt⟩
theorem RExportsG.kp {B : Nat} {w w' : World} {v : Value} {l : List PExp} (h : RExportsG B w v l) (k : Kp B w w') : RExportsG B w' v l := by
  obtain ⟨g, h1, h2, h3, h4⟩ := h
  exact ⟨g, h1, h2, h3.kp k h2, h4.kp k⟩
theorem RExportsG.mono {B B' : Nat} {w : World} {v : Value} {l : List PExp} (h : RExportsG B' w v l) (hB : B ≤ B') : RExportsG B w v l := by
  obtain ⟨g, h1, h2, h3, h4⟩ := h
  exact ⟨g, h1, Nat.le_trans hB h2, h3, (by
  obtain ⟨ao, cap, hv, hm, hc⟩ := h4
  refine ⟨ao, cap, hv, hm, fun i x hi => ?_⟩
  obtain ⟨b, off, vs, q1, q2, q3, q4, q5⟩ := hc i x hi
  exact ⟨b, off, vs, q1, Nat.le_trans hB q2, q3, q4, q5⟩)⟩
theorem RExportsG.f {B : Nat} {w : World} {v : Value} {l : List PExp} (h : RExportsG B w v l) : RExportsF B w v l := by
  obtain ⟨g, h1, h2, h3, h4⟩ := h
  exact h4
theorem RExportsG.shape {B : Nat} {w : World} {v : Value} {l : List PExp} (h : RExportsG B w v l) : ∃ ao cap, v = .slice ao l.length cap := by
  obtain ⟨g, h1, _⟩ := h; exact ⟨_, _, h1⟩
theorem RExportsG.at {B : Nat} {w : World} {v : Value} {l : List PExp} (h : RExportsG B w v l) {b : Nat} (hb : v.ownBlock = some b) : B ≤ b ∧ b < w.heap.size := by
  obtain ⟨g, h1, h2, h3, _⟩ := h
  subst h1
  obtain rfl := Option.some.inj hb
  exact ⟨h2, h3.lt⟩
theorem RShapesG.kp {B : Nat} {w w' : World} {v : Value} {l : List (List Int)} (h : RShapesG B w v l) (k : Kp B w w') : RShapesG B w' v l := by
  obtain ⟨g, h1, h2, h3, h4, ⟨S, h5⟩, h6⟩ := h
  refine ⟨g, h1, h2, h3.kp k h2, h4, ⟨S, h5.kp k h2 h3.lt (Nat.le_refl _)⟩, fun i x hi => ?_⟩
  obtain ⟨vx, q0, s0⟩ := h6 i x hi
  exact ⟨vx, k.cell h2 q0, s0.kp (k.mono (by omega))⟩
theorem RShapesG.mono {B B' : Nat} {w : World} {v : Value} {l : List (List Int)} (h : RShapesG B' w v l) (hB : B ≤ B') : RShapesG B w v l := by
  obtain ⟨g, h1, h2, h3⟩ := h
  exact ⟨g, h1, Nat.le_trans hB h2, h3⟩
theorem RShapesG.f {B : Nat} {w : World} {v : Value} {l : List (List Int)} (h : RShapesG B w v l) : RShapesF B w v l := by
  obtain ⟨g, h1, h2, h3, h4, _, h6⟩ := h
  refine ⟨_, _, h1, h4, fun i x hi => ?_⟩
  obtain ⟨vx, q0, s0⟩ := h6 i x hi
  exact ⟨g, 0, vx, rfl, h2, by rw [Nat.zero_add]; exact q0, s0.f.mono (by omega)⟩
theorem RShapesG.shape {B : Nat} {w : World} {v : Value} {l : List (List Int)} (h : RShapesG B w v l) : ∃ ao cap, v = .slice ao l.length cap := by
  obtain ⟨g, h1, _⟩ := h; exact ⟨_, _, h1⟩
theorem RFuncsG.kp {B : Nat} {w w' : World} {v : Value} {l : List PFunc} (h : RFuncsG B w v l) (k : Kp B w w') : RFuncsG B w' v l := by
  obtain ⟨g, h1, h2, h3, h4, ⟨S, h5⟩, h6⟩ := h
  refine ⟨g, h1, h2, h3.kp k h2, h4, ⟨S, h5.kp k h2 h3.lt (Nat.le_refl _)⟩, fun i x hi => ?_⟩
  obtain ⟨vp, vl, vc, q0, q1, q2, q3, s0, s1, s2⟩ := h6 i x hi
  exact ⟨vp, vl, vc, k.cell h2 q0, k.cell h2 q1, k.cell h2 q2, k.cell h2 q3, s0.kp (k.mono (by omega)), s1.kp (k.mono (by omega)), s2.kp (k.mono (by omega))⟩
theorem RFuncsG.mono {B B' : Nat} {w : World} {v : Value} {l : List PFunc} (h : RFuncsG B' w v l) (hB : B ≤ B') : RFuncsG B w v l := by
  obtain ⟨g, h1, h2, h3⟩ := h
  exact ⟨g, h1, Nat.le_trans hB h2, h3⟩
theorem RFuncsG.f {B : Nat} {w : World} {v : Value} {l : List PFunc} (h : RFuncsG B w v l) : RFuncsF B w v l := by
  obtain ⟨g, h1, h2, h3, h4, _, h6⟩ := h
  refine ⟨_, _, h1, h4, fun i x hi => ?_⟩
  obtain ⟨vp, vl, vc, q0, q1, q2, q3, s0, s1, s2⟩ := h6 i x hi
  exact ⟨g, 0, vp, vl, vc, rfl, h2, by rw [Nat.zero_add]; exact q0, by rw [Nat.zero_add]; exact q1, by rw [Nat.zero_add]; exact q2, by rw [Nat.zero_add]; exact q3, s0.f.mono (by omega), s1.f.mono (by omega), s2.f.mono (by omega)⟩
theorem RFuncsG.shape {B : Nat} {w : World} {v : Value} {l : List PFunc} (h : RFuncsG B w v l) : ∃ ao cap, v = .slice ao l.length cap := by
  obtain ⟨g, h1, _⟩ := h; exact ⟨_, _, h1⟩
theorem RImportsG.kp {B : Nat} {w w' : World} {v : Value} {l : List PImp} (h : RImportsG B w v l) (k : Kp B w w') : RImportsG B w' v l := by
  obtain ⟨g, h1, h2, h3, h4, ⟨S, h5⟩, h6⟩ := h
  refine ⟨g, h1, h2, h3.kp k h2, h4, ⟨S, h5.kp k h2 h3.lt (Nat.le_refl _)⟩, fun i x hi => ?_⟩
  obtain ⟨vs, vp, q0, q1, q2, s0, s1⟩ := h6 i x hi
  exact ⟨vs, vp, k.cell h2 q0, k.cell h2 q1, k.cell h2 q2, s0, s1.kp (k.mono (by omega))⟩
theorem RImportsG.mono {B B' : Nat} {w : World} {v : Value} {l : List PImp} (h : RImportsG B' w v l) (hB : B ≤ B') : RImportsG B w v l := by
  obtain ⟨g, h1, h2, h3⟩ := h
  exact ⟨g, h1, Nat.le_trans hB h2, h3⟩
theorem RImportsG.f {B : Nat} {w : World} {v : Value} {l : List PImp} (h : RImportsG B w v l) : RImportsF B w v l := by
  obtain ⟨g, h1, h2, h3, h4, _, h6⟩ := h
  refine ⟨_, _, h1, h4, fun i x hi => ?_⟩
  obtain ⟨vs, vp, q0, q1, q2, s0, s1⟩ := h6 i x hi
  exact ⟨g, 0, vs, vp, rfl, h2, by rw [Nat.zero_add]; exact q0, by rw [Nat.zero_add]; exact q1, by rw [Nat.zero_add]; exact q2, s0, s1.f.mono (by omega)⟩
theorem RImportsG.shape {B : Nat} {w : World} {v : Value} {l : List PImp} (h : RImportsG B w v l) : ∃ ao cap, v = .slice ao l.length cap := by
  obtain ⟨g, h1, _⟩ := h; exact ⟨_, _, h1⟩

/-- all of it in blocks from lo on, below hi -/
def Iv {α : Type} (R : Nat → World → Value → α → Prop) (lo hi : Nat) (w : World) (v : Value) (l : α) : Prop := ∃ W : World, W.heap.size = hi ∧ R lo W v l ∧ Kp lo W w
theorem Iv.of {α : Type} {R : Nat → World → Value → α → Prop} {lo : Nat} {w : World} {v : Value} {l : α} (h : R lo w v l) : Iv R lo w.heap.size w v l := ⟨w, rfl, h, fun _ _ _ => rfl⟩
theorem Iv.kp {α : Type} {R : Nat → World → Value → α → Prop} {lo hi : Nat} {w w' : World} {v : Value} {l : α} (h : Iv R lo hi w v l) (k : Kp lo w w') : Iv R lo hi w' v l := by
  obtain ⟨W, h1, h2, h3⟩ := h
  refine ⟨W, h1, h2, fun i hi hl => ?_⟩
  have e := h3 i hi hl
  have hlt : i < w.heap.size := by
    have : w.heap[i]? = some W.heap[i] := e.trans (Array.getElem?_eq_getElem hl)
    exact (Array.getElem?_eq_some_iff.1 this).1
  exact (k i hi hlt).trans e

end Go.Proofs.YtkgncijcnlfhiaaDoor

