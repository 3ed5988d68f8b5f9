import Derived.Test.YtkgncijcnlfhiaaDoorV0
import Derived.ArgAppend
import Derived.Deep.Onto
import Derived.Test.YtkgncijcnlfhiaaDoorR0
namespace Go.Proofs.YtkgncijcnlfhiaaDoor
set_option linter.unusedVariables false
set_option linter.unusedSimpArgs false
open Go.RowKit
attribute [local go_sem ↓] Go.wp_at_zero Go.wp_at_succ

theorem cell_set_ne {w : World} {g o j : Nat} {v : Value} (h : ¬ o = j) : (w.setCell ⟨g, o, none⟩ v).cell? ⟨g, j, none⟩ = w.cell? ⟨g, j, none⟩ :=
  World.cell?_setCell_other w _ _ _ (by intro e; simp only [Addr.mk.injEq] at e; exact h e.2.1)
end Go.Proofs.YtkgncijcnlfhiaaDoor

namespace Go.Proofs.YtkgncijcnlfhiaaDoor
set_option linter.unusedVariables false
set_option linter.unusedSimpArgs false
open Go.RowKit

theorem RShapes.below {W w : World} {v : Value} {l : List (List Int)} (h : RShapes W v l) (g : Below W.heap.size W w) : RShapes w v l := by
  obtain ⟨ao, cap, hv, hm, hc⟩ := h
  refine ⟨ao, cap, hv, hm, fun i x hi => ?_⟩
  obtain ⟨b, off, vx, h1, h2, h3⟩ := hc i x hi
  exact ⟨b, off, vx, h1, below_cell g h2, h3.below g⟩
theorem RCode.below {W w : World} {v : Value} {l : List PIns} (h : RCode W v l) (g : Below W.heap.size W w) : RCode w v l := by
  obtain ⟨ao, cap, hv, hm, hc⟩ := h
  refine ⟨ao, cap, hv, hm, fun i x hi => ?_⟩
  obtain ⟨b, off, h1, h2, h3, h4⟩ := hc i x hi
  exact ⟨b, off, h1, below_cell g h2, below_cell g h3, below_cell g h4⟩
theorem RFuncs.below {W w : World} {v : Value} {l : List PFunc} (h : RFuncs W v l) (g : Below W.heap.size W w) : RFuncs w v l := by
  obtain ⟨ao, cap, hv, hm, hc⟩ := h
  refine ⟨ao, cap, hv, hm, fun i x hi => ?_⟩
  obtain ⟨b, off, vp, vl, vc, h1, h2, h3, h4, h5, h6, h7, h8⟩ := hc i x hi
  exact ⟨b, off, vp, vl, vc, h1, below_cell g h2, below_cell g h3, below_cell g h4, below_cell g h5, h6.below g, h7.below g, h8.below g⟩
theorem RImports.below {W w : World} {v : Value} {l : List PImp} (h : RImports W v l) (g : Below W.heap.size W w) : RImports w v l := by
  obtain ⟨ao, cap, hv, hm, hc⟩ := h
  refine ⟨ao, cap, hv, hm, fun i x hi => ?_⟩
  obtain ⟨b, off, vs, vp, h1, h2, h3, h4, h5, h6⟩ := hc i x hi
  exact ⟨b, off, vs, vp, h1, below_cell g h2, below_cell g h3, below_cell g h4, h5, h6.below g⟩
theorem RExports.below {W w : World} {v : Value} {l : List PExp} (h : RExports W v l) (g : Below W.heap.size W w) : RExports w v l := by
  obtain ⟨ao, cap, hv, hm, hc⟩ := h
  refine ⟨ao, cap, hv, hm, fun i x hi => ?_⟩
  obtain ⟨b, off, vs, h1, h2, h3, h4⟩ := hc i x hi
  exact ⟨b, off, vs, h1, below_cell g h2, below_cell g h3, h4⟩

/-- lists in bytes -/
def encs {α : Type} (f : α → List UInt8) (xs : List α) : List UInt8 := num xs.length ++ xs.flatMap f
def encWhole (x : Int) : List UInt8 := num x.toNat
def encSigned (x : Int) : List UInt8 := num (zig x)
def encKinds (l : List Int) : List UInt8 := encs encWhole l
def encIns (i : PIns) : List UInt8 :=
  UInt8.ofNat i.op.toNat :: (if i.op = 1 then num (zig i.a) else (if 1 ≤ operandsN i.op then num i.a.toNat else []) ++ (if 2 ≤ operandsN i.op then num i.b.toNat else []))
def encFunc (f : PFunc) : List UInt8 := encKinds f.params ++ (encKinds f.locals ++ (num f.result.toNat ++ encs encIns f.code))
def encText (s : List UInt8) : List UInt8 := num s.length ++ s
def encImp (i : PImp) : List UInt8 := encText i.name ++ (encKinds i.params ++ num i.result.toNat)
def encExp (e : PExp) : List UInt8 := encText e.name ++ num e.func.toNat

end Go.Proofs.YtkgncijcnlfhiaaDoor

namespace Go.Proofs.YtkgncijcnlfhiaaDoor
set_option linter.unusedVariables false
set_option linter.unusedSimpArgs false
open Go.RowKit

theorem App.box {base : Nat} {w w' : World} {v v' : Value} {l' : List UInt8} (k : App base w v w' v' l') {B o : Nat} {x : Value} (hx : w.cell? ⟨B, o, none⟩ = some x) (hv : ∀ i, v.ownBlock = some i → i < B) : w'.cell? ⟨B, o, none⟩ = some x :=
  k.frm.cell hx (fun e => by have := hv B e.symm; omega)
end Go.Proofs.YtkgncijcnlfhiaaDoor

namespace Go.Proofs.YtkgncijcnlfhiaaDoor
set_option linter.unusedVariables false
set_option linter.unusedSimpArgs false
open Go.RowKit
attribute [local go_sem ↓] Go.wp_at_zero Go.wp_at_succ

theorem Gc.box {cb b o : Nat} {w w' : World} {x : Value} (h : Gc cb w w') (hb : ¬ b = cb) (hx : w.cell? ⟨b, o, none⟩ = some x) : w'.cell? ⟨b, o, none⟩ = some x :=
  h.cell hx (by intro e; simp only [Option.some.injEq] at e; exact hb e)
theorem Gc.boxz {cb b o : Nat} {w w' : World} {x : Value} (h : Gc cb w w') (hb : ¬ b = cb) (hx : w.cell? ⟨b, o, none⟩ = some x) (hz : w.frozen? ⟨b, o, none⟩ = false) : w'.frozen? ⟨b, o, none⟩ = false :=
  (World.frozen?_of_block (a := ⟨b, o, none⟩) (h.block b (World.block_lt_of_cell? w _ hx) (by intro e; simp only [Option.some.injEq] at e; exact hb e))).trans hz
/-- a struct of three cells of one's own -/
def Box3 (w : World) (b : Nat) (x0 x1 x2 : Value) : Prop :=
  w.cell? ⟨b, 0, none⟩ = some x0 ∧ w.cell? ⟨b, 1, none⟩ = some x1 ∧ w.cell? ⟨b, 2, none⟩ = some x2 ∧ w.frozen? ⟨b, 0, none⟩ = false ∧ w.frozen? ⟨b, 1, none⟩ = false ∧ w.frozen? ⟨b, 2, none⟩ = false
theorem Box3.gc {w w' : World} {cb b : Nat} {x0 x1 x2 : Value} (h : Box3 w b x0 x1 x2) (g : Gc cb w w') (hb : ¬ b = cb) : Box3 w' b x0 x1 x2 := by
  obtain ⟨h0, h1, h2, z0, z1, z2⟩ := h
  exact ⟨g.box hb h0, g.box hb h1, g.box hb h2, g.boxz hb h0 z0, g.boxz hb h1 z1, g.boxz hb h2 z2⟩
theorem Box3.gr {w w' : World} {b : Nat} {x0 x1 x2 : Value} (h : Box3 w b x0 x1 x2) (g : Gr w w') : Box3 w' b x0 x1 x2 := h.gc (cb := b + 1) g.toGc (by omega)
theorem Box3.new (w : World) (t : TypeId) (x0 x1 x2 : Value) : Box3 (w.alloc (.cells #[x0, x1, x2] t)) w.heap.size x0 x1 x2 := by
  refine ⟨?_, ?_, ?_, ?_, ?_, ?_⟩ <;> simp [go_sem]
end Go.Proofs.YtkgncijcnlfhiaaDoor

namespace Go.Proofs.YtkgncijcnlfhiaaDoor
set_option linter.unusedVariables false
set_option linter.unusedSimpArgs false
open Go.RowKit
def Box4 (w : World) (b : Nat) (x0 x1 x2 x3 : Value) : Prop :=
  w.cell? ⟨b, 0, none⟩ = some x0 ∧ w.cell? ⟨b, 1, none⟩ = some x1 ∧ w.cell? ⟨b, 2, none⟩ = some x2 ∧ w.cell? ⟨b, 3, none⟩ = some x3 ∧ w.frozen? ⟨b, 0, none⟩ = false ∧ w.frozen? ⟨b, 1, none⟩ = false ∧ w.frozen? ⟨b, 2, none⟩ = false ∧ w.frozen? ⟨b, 3, none⟩ = false
theorem Box4.gc {w w' : World} {cb b : Nat} {x0 x1 x2 x3 : Value} (h : Box4 w b x0 x1 x2 x3) (g : Gc cb w w') (hb : ¬ b = cb) : Box4 w' b x0 x1 x2 x3 := by
  obtain ⟨h0, h1, h2, h3, z0, z1, z2, z3⟩ := h
  exact ⟨g.box hb h0, g.box hb h1, g.box hb h2, g.box hb h3, g.boxz hb h0 z0, g.boxz hb h1 z1, g.boxz hb h2 z2, g.boxz hb h3 z3⟩
theorem Box4.new (w : World) (t : TypeId) (x0 x1 x2 x3 : Value) : Box4 (w.alloc (.cells #[x0, x1, x2, x3] t)) w.heap.size x0 x1 x2 x3 := by
  refine ⟨?_, ?_, ?_, ?_, ?_, ?_, ?_, ?_⟩ <;> simp [go_sem]
theorem Box4.set0 {w : World} {b : Nat} {x0 x1 x2 x3 : Value} (v : Value) (h : Box4 w b x0 x1 x2 x3) : Box4 (w.setCell ⟨b, 0, none⟩ v) b v x1 x2 x3 := by
  obtain ⟨h0, h1, h2, h3, z0, z1, z2, z3⟩ := h
  exact ⟨World.cell?_setCell_same _ _ _ h0, (cell_set_ne (by omega)).trans h1, (cell_set_ne (by omega)).trans h2, (cell_set_ne (by omega)).trans h3, by rw [World.frozen?_setCell]; exact z0, by rw [World.frozen?_setCell]; exact z1, by rw [World.frozen?_setCell]; exact z2, by rw [World.frozen?_setCell]; exact z3⟩
theorem Box4.set1 {w : World} {b : Nat} {x0 x1 x2 x3 : Value} (v : Value) (h : Box4 w b x0 x1 x2 x3) : Box4 (w.setCell ⟨b, 1, none⟩ v) b x0 v x2 x3 := by
  obtain ⟨h0, h1, h2, h3, z0, z1, z2, z3⟩ := h
  exact ⟨(cell_set_ne (by omega)).trans h0, World.cell?_setCell_same _ _ _ h1, (cell_set_ne (by omega)).trans h2, (cell_set_ne (by omega)).trans h3, by rw [World.frozen?_setCell]; exact z0, by rw [World.frozen?_setCell]; exact z1, by rw [World.frozen?_setCell]; exact z2, by rw [World.frozen?_setCell]; exact z3⟩
theorem Box4.set2 {w : World} {b : Nat} {x0 x1 x2 x3 : Value} (v : Value) (h : Box4 w b x0 x1 x2 x3) : Box4 (w.setCell ⟨b, 2, none⟩ v) b x0 x1 v x3 := by
  obtain ⟨h0, h1, h2, h3, z0, z1, z2, z3⟩ := h
  exact ⟨(cell_set_ne (by omega)).trans h0, (cell_set_ne (by omega)).trans h1, World.cell?_setCell_same _ _ _ h2, (cell_set_ne (by omega)).trans h3, by rw [World.frozen?_setCell]; exact z0, by rw [World.frozen?_setCell]; exact z1, by rw [World.frozen?_setCell]; exact z2, by rw [World.frozen?_setCell]; exact z3⟩
theorem Box4.set3 {w : World} {b : Nat} {x0 x1 x2 x3 : Value} (v : Value) (h : Box4 w b x0 x1 x2 x3) : Box4 (w.setCell ⟨b, 3, none⟩ v) b x0 x1 x2 v := by
  obtain ⟨h0, h1, h2, h3, z0, z1, z2, z3⟩ := h
  exact ⟨(cell_set_ne (by omega)).trans h0, (cell_set_ne (by omega)).trans h1, (cell_set_ne (by omega)).trans h2, World.cell?_setCell_same _ _ _ h3, by rw [World.frozen?_setCell]; exact z0, by rw [World.frozen?_setCell]; exact z1, by rw [World.frozen?_setCell]; exact z2, by rw [World.frozen?_setCell]; exact z3⟩
theorem Box3.set0 {w : World} {b : Nat} {x0 x1 x2 : Value} (v : Value) (h : Box3 w b x0 x1 x2) : Box3 (w.setCell ⟨b, 0, none⟩ v) b v x1 x2 := by
  obtain ⟨h0, h1, h2, z0, z1, z2⟩ := h
  exact ⟨World.cell?_setCell_same _ _ _ h0, (cell_set_ne (by omega)).trans h1, (cell_set_ne (by omega)).trans h2, by rw [World.frozen?_setCell]; exact z0, by rw [World.frozen?_setCell]; exact z1, by rw [World.frozen?_setCell]; exact z2⟩
theorem Box3.set1 {w : World} {b : Nat} {x0 x1 x2 : Value} (v : Value) (h : Box3 w b x0 x1 x2) : Box3 (w.setCell ⟨b, 1, none⟩ v) b x0 v x2 := by
  obtain ⟨h0, h1, h2, z0, z1, z2⟩ := h
  exact ⟨(cell_set_ne (by omega)).trans h0, World.cell?_setCell_same _ _ _ h1, (cell_set_ne (by omega)).trans h2, by rw [World.frozen?_setCell]; exact z0, by rw [World.frozen?_setCell]; exact z1, by rw [World.frozen?_setCell]; exact z2⟩
theorem Box3.set2 {w : World} {b : Nat} {x0 x1 x2 : Value} (v : Value) (h : Box3 w b x0 x1 x2) : Box3 (w.setCell ⟨b, 2, none⟩ v) b x0 x1 v := by
  obtain ⟨h0, h1, h2, z0, z1, z2⟩ := h
  exact ⟨(cell_set_ne (by omega)).trans h0, (cell_set_ne (by omega)).trans h1, World.cell?_setCell_same _ _ _ h2, by rw [World.frozen?_setCell]; exact z0, by rw [World.frozen?_setCell]; exact z1, by rw [World.frozen?_setCell]; exact z2⟩
def Box2 (w : World) (b : Nat) (x0 x1 : Value) : Prop :=
  w.cell? ⟨b, 0, none⟩ = some x0 ∧ w.cell? ⟨b, 1, none⟩ = some x1 ∧ w.frozen? ⟨b, 0, none⟩ = false ∧ w.frozen? ⟨b, 1, none⟩ = false
theorem Box2.gc {w w' : World} {cb b : Nat} {x0 x1 : Value} (h : Box2 w b x0 x1) (g : Gc cb w w') (hb : ¬ b = cb) : Box2 w' b x0 x1 := by
  obtain ⟨h0, h1, z0, z1⟩ := h
  exact ⟨g.box hb h0, g.box hb h1, g.boxz hb h0 z0, g.boxz hb h1 z1⟩
theorem Box2.new (w : World) (t : TypeId) (x0 x1 : Value) : Box2 (w.alloc (.cells #[x0, x1] t)) w.heap.size x0 x1 := by
  refine ⟨?_, ?_, ?_, ?_⟩ <;> simp [go_sem]
theorem Box2.set0 {w : World} {b : Nat} {x0 x1 : Value} (v : Value) (h : Box2 w b x0 x1) : Box2 (w.setCell ⟨b, 0, none⟩ v) b v x1 := by
  obtain ⟨h0, h1, z0, z1⟩ := h
  exact ⟨World.cell?_setCell_same _ _ _ h0, (cell_set_ne (by omega)).trans h1, by rw [World.frozen?_setCell]; exact z0, by rw [World.frozen?_setCell]; exact z1⟩
theorem Box2.set1 {w : World} {b : Nat} {x0 x1 : Value} (v : Value) (h : Box2 w b x0 x1) : Box2 (w.setCell ⟨b, 1, none⟩ v) b x0 v := by
  obtain ⟨h0, h1, z0, z1⟩ := h
  exact ⟨(cell_set_ne (by omega)).trans h0, World.cell?_setCell_same _ _ _ h1, by rw [World.frozen?_setCell]; exact z0, by rw [World.frozen?_setCell]; exact z1⟩

end Go.Proofs.YtkgncijcnlfhiaaDoor

namespace Go.Proofs.YtkgncijcnlfhiaaDoor
set_option linter.unusedVariables false
set_option linter.unusedSimpArgs false
open Go.RowKit
attribute [local go_sem ↓] Go.wp_at_zero Go.wp_at_succ

/-- a unit's bytes, gone through section by section -/
def Sec (w : World) (sb : Nat) (t : List UInt8) (p : Nat) : Prop :=
  (∃ s : ByteArray, w.cell? ⟨sb, 0, none⟩ = some (.string s) ∧ s.data.toList = t) ∧ t.length ≤ 1000000 ∧ p ≤ t.length ∧ w.cell? ⟨sb, 1, none⟩ = some (.int .i64 (p : Int)) ∧ w.frozen? ⟨sb, 1, none⟩ = false

/-- writes into a block that is new change nothing that was there -/
theorem Gc.over {sb cb : Nat} {w w1 w2 : World} (h : Gc sb w w1) (k : Gc cb w1 w2) (hc : w.heap.size ≤ cb) : Gc sb w w2 :=
  ⟨k.os.trans h.os, k.tape.trans h.tape, k.output.trans h.output, Nat.le_trans h.size k.size, fun i hi hne => (k.block i (Nat.lt_of_lt_of_le hi h.size) (by intro e; simp only [Option.some.injEq] at e; omega)).trans (h.block i hi hne)⟩
theorem Sec.gc {w w' : World} {sb cb : Nat} {t : List UInt8} {p : Nat} (h : Sec w sb t p) (g : Gc cb w w') (hne : ¬ sb = cb) : Sec w' sb t p := by
  obtain ⟨⟨s, h0, hs⟩, hl, hp, h1, z1⟩ := h
  exact ⟨⟨s, g.box hne h0, hs⟩, hl, hp, g.box hne h1, g.boxz hne h1 z1⟩

end Go.Proofs.YtkgncijcnlfhiaaDoor

namespace Go.Proofs.YtkgncijcnlfhiaaDoor
set_option linter.unusedVariables false
set_option linter.unusedSimpArgs false
open Go.RowKit

section
variable {ops : Array Oper} {rest : List Oper} {o : Oper} {a : Act} {Q : Exit → Act → World → Prop}
end

/-- owned, or a row that is full (that of a text that was turned into bytes) -/
def Own0 (base : Nat) (w : World) (v : Value) (l : List UInt8) : Prop :=
  w.ownsRow base 5 1 v l.length (bc l) ∨ ∃ b, base ≤ b ∧ b < w.heap.size ∧ v = .slice (some ⟨b, 0, none⟩) l.length l.length ∧ ∀ j u, (bc l)[j]? = some u → w.cell? ((⟨b, 0, none⟩ : Addr).add j) = some u
theorem Own0.lt {base : Nat} {w : World} {v : Value} {l : List UInt8} (h : Own0 base w v l) : ∀ k, v.ownBlock = some k → base ≤ k ∧ k < w.heap.size := by
  rcases h with h | ⟨b, h1, h2, rfl, _⟩
  · exact h.lt
  · intro k hk; simp [Value.ownBlock] at hk; subst hk; exact ⟨h1, h2⟩
structure Wr0 (W w : World) (v : Value) (l : List UInt8) : Prop where
  low : Below W.heap.size W w
  own : Own0 W.heap.size w v l
theorem Wr0.base {W w : World} {v : Value} {l : List UInt8} (h : Wr0 W w v l) : W.heap.size ≤ w.heap.size := h.low.size
theorem Wr0.app {W w w' : World} {v v' : Value} {l l' : List UInt8} (h : Wr0 W w v l) (k : App W.heap.size w v w' v' l') : Wr W w' v' l' :=
  ⟨h.low.trans ((Below.refl _ _).grown k.frm h.base fun i hi => (h.own.lt i hi).1), k.own⟩
theorem Wr0.gr {W w w' : World} {v : Value} {l : List UInt8} (h : Wr0 W w v l) (g : Gr w w') : Wr0 W w' v l := by
  refine ⟨h.low.grown g h.base (by simp), ?_⟩
  rcases h.own with ho | ⟨b, h1, h2, rfl, h3⟩
  · exact .inl (ho.kept g (by cases v.ownBlock <;> simp))
  · exact .inr ⟨b, h1, Nat.lt_of_lt_of_le h2 g.size, rfl, fun j u hu => g.cell (h3 j u hu) (by simp)⟩
theorem Wr0.apart {W w : World} {v : Value} {l : List UInt8} (h : Wr0 W w v l) {g : Nat} (hg : w.heap.size ≤ g) : v.ownBlock ≠ some g := fun e => by have := (h.own.lt g e).2; omega

section
variable {ops : Array Oper} {rest : List Oper} {o : Oper} {a : Act} {Q : Exit → Act → World → Prop}
end

def leK (c k : Nat) : List UInt8 := (List.range k).map fun j => UInt8.ofNat (c / 256 ^ j % 256)
def sect (n : Nat) (b : List UInt8) : List UInt8 := [UInt8.ofNat n] ++ num b.length ++ b ++ leK (crc b) 4
end Go.Proofs.YtkgncijcnlfhiaaDoor

namespace Go.Proofs.YtkgncijcnlfhiaaDoor
set_option linter.unusedVariables false
set_option linter.unusedSimpArgs false

def magic : List UInt8 := [75, 73, 76, 78, 1]
def body1 (u : PUnit) : List UInt8 := encs encKinds u.shapes
def body2 (u : PUnit) : List UInt8 := encs encSigned u.consts
def body3 (u : PUnit) : List UInt8 := encs encFunc u.funcs
def body4 (u : PUnit) : List UInt8 := encs encImp u.imports
def body5 (u : PUnit) : List UInt8 := encs encExp u.exports
def enc1 (u : PUnit) : List UInt8 := magic ++ sect 1 (body1 u)
def enc2 (u : PUnit) : List UInt8 := enc1 u ++ sect 2 (body2 u)
def enc3 (u : PUnit) : List UInt8 := enc2 u ++ sect 3 (body3 u)
def enc4 (u : PUnit) : List UInt8 := enc3 u ++ sect 4 (body4 u)
def enc (u : PUnit) : List UInt8 := enc4 u ++ sect 5 (body5 u)
end Go.Proofs.YtkgncijcnlfhiaaDoor

namespace Go.Proofs.YtkgncijcnlfhiaaDoor
set_option linter.unusedVariables false
set_option linter.unusedSimpArgs false

def pl (t r : List UInt8) : Nat := t.length - r.length
end Go.Proofs.YtkgncijcnlfhiaaDoor

namespace Go.Proofs.YtkgncijcnlfhiaaDoor
set_option linter.unusedVariables false
set_option linter.unusedSimpArgs false
open Go.RowKit
attribute [local go_sem ↓] Go.wp_at_zero Go.wp_at_succ

set_option maxHeartbeats 1000000 in
theorem shapes_any (l : List (List Int)) (v : Value) (e a : Int) (w : World) (hR : RShapes w v l) :
    Calls Tryd.prog 80 #[v, .agg #[.int .i64 e, .int .i64 0, .int .i64 a]] w fun x w' =>
      x = ends (shapesOk l) e a ∧ Gr w w' := by
  obtain ⟨ao, cap, rfl, hm, hc⟩ := hR
  unfold maxLen at hm
  have HC := hide hc
  clear hc
  obtain ⟨he, hn, ha⟩ := cells_box w e a
  unfold shapesOk
  cases hb : wB l.length 0 20
  · go_enter Tryd.func80, Tryd.ntmps80
    go_wp2
    go_region_with (first | (go_at_call 131; refine (within_any _ _ _ _).mono ?_; rintro e w' ⟨rfl, rfl⟩) | (go_at_call 76; refine (unless_no _ _ _).mono ?_; rintro e w' ⟨rfl, hg'⟩; refine left_region ?_))
    all_goals exact ⟨rfl, rfl, (by repeat (first | exact Gr.refl _ | assumption | refine Gr.drew ?_ | refine Gr.alloc ?_ _ | refine Gr.trans ?_ (by assumption)))⟩
  · go_enter Tryd.func80, Tryd.ntmps80
    go_wp2
    go_region_held3 (fun w' => w'.cell? ⟨w.heap.size, 0, none⟩ = some (.int .i64 e) ∧ w'.cell? ⟨w.heap.size, 1, none⟩ = some (.int .i64 0) ∧ w'.cell? ⟨w.heap.size, 2, none⟩ = some (.int .i64 a)) (first | go_keep | exact ⟨hg'.cell (by assumption) (by simp), hg'.cell (by assumption) (by simp), hg'.cell (by assumption) (by simp)⟩) (first | (go_at_call 131; refine (within_any _ _ _ _).mono ?_; rintro e w' ⟨rfl, rfl⟩) | (go_at_call 76; refine (unless_yes _ _ _).mono ?_; rintro e w' ⟨rfl, hg'⟩))
    have he1 := hg'.cell he (by simp)
    have hn1 := hg'.cell hn (by simp)
    have ha1 := hg'.cell ha (by simp)
    have hg0 : Gr w w' := (by repeat (first | exact Gr.refl _ | assumption | refine Gr.drew ?_ | refine Gr.alloc ?_ _ | refine Gr.trans ?_ (by assumption)))
    clear hg' he hn ha
    go_wp2
    go_loopw [13] (fun i wr => ∃ k : Nat, k ≤ l.length ∧ i = .int .i64 k ∧ (l.take k).all (shapeOk l.length) = true ∧ wr.cell? ⟨w.heap.size, 0, none⟩ = some (.int .i64 e) ∧ wr.cell? ⟨w.heap.size, 1, none⟩ = some (.int .i64 0) ∧ wr.cell? ⟨w.heap.size, 2, none⟩ = some (.int .i64 a) ∧ Gr w wr) (fun i _ => l.length - (intOf i).toNat)
    case atStart => exact ⟨0, Nat.zero_le _, rfl, by simp, he1, hn1, ha1, hg0⟩
    case round =>
      clear he1 hn1 ha1 hg0
      obtain ⟨k, hk, rfl, hall, he, hn, ha, hg⟩ := hrel
      have HA := hide hall
      clear hall
      by_cases hlt : k < l.length
      · obtain ⟨x, hx⟩ := getElem?_lt hlt
        obtain ⟨b, off, vx, hao, hcell, hRx⟩ := HC.out k x hx
        subst hao
        have hcell' := hg.cell hcell (by simp)
        have hmx := hRx.choose_spec.choose_spec.2.1
        unfold maxLen at hmx
        obtain ⟨ax, cx, rfl⟩ := hRx.shape
        have HRX := hide (hRx.gr hg)
        have HX := hide hx
        clear hx hRx hcell
        cases hbx : wB x.length 1 8
        · have HF : Hid (l.all (shapeOk l.length) = false) := hide (all_false_at HX.out (by simp [shapeOk, hbx]))
          go_wp2
          go_region_with (first | (go_at_call 131; refine (within_any _ _ _ _).mono ?_; rintro e w' ⟨rfl, rfl⟩) | (go_at_call 76; refine (unless_no _ _ _).mono ?_; rintro e w' ⟨rfl, hg'⟩; refine left_region ?_))
          all_goals exact ⟨rfl, by rw [HF.out]; rfl, (by repeat (first | exact Gr.refl _ | assumption | refine Gr.drew ?_ | refine Gr.alloc ?_ _ | refine Gr.trans ?_ (by assumption)))⟩
        · cases hkx : x.all (inB l.length)
          · have HF : Hid (l.all (shapeOk l.length) = false) := hide (all_false_at HX.out (by simp [shapeOk, hkx]))
            have HK := hide hkx
            clear hkx
            go_wp2
            go_region_held3 (fun w' => w'.cell? ⟨w.heap.size, 0, none⟩ = some (.int .i64 e) ∧ w'.cell? ⟨w.heap.size, 1, none⟩ = some (.int .i64 0) ∧ w'.cell? ⟨w.heap.size, 2, none⟩ = some (.int .i64 a)) (first | go_keep | exact ⟨hg'.cell (by assumption) (by simp), hg'.cell (by assumption) (by simp), hg'.cell (by assumption) (by simp)⟩) (first | (go_at_call 131; refine (within_any _ _ _ _).mono ?_; rintro e w' ⟨rfl, rfl⟩) | (go_at_call 76; refine (unless_yes _ _ _).mono ?_; rintro e w' ⟨rfl, hg'⟩))
            have he1 := hg'.cell he (by simp)
            have hn1 := hg'.cell hn (by simp)
            have ha1 := hg'.cell ha (by simp)
            go_wp2_with (first | (go_at_call 132; refine (no_of (kinds_any x _ l.length e a _ (by exact HRX.out.gr (by repeat (first | exact Gr.refl _ | assumption | refine Gr.drew ?_ | refine Gr.alloc ?_ _ | refine Gr.trans ?_ (by assumption))))) HK.out).mono ?_; rintro e w2 ⟨rfl, hg2⟩))
            exact ⟨rfl, by rw [HF.out]; rfl, (by repeat (first | exact Gr.refl _ | assumption | refine Gr.drew ?_ | refine Gr.alloc ?_ _ | refine Gr.trans ?_ (by assumption)))⟩
          · have HT : Hid ((l.take (k + 1)).all (shapeOk l.length) = true) := hide (by rw [all_take_succ HX.out, HA.out]; simp [shapeOk, hbx, hkx])
            have HK := hide hkx
            clear hkx
            go_wp2
            go_region_held3 (fun w' => w'.cell? ⟨w.heap.size, 0, none⟩ = some (.int .i64 e) ∧ w'.cell? ⟨w.heap.size, 1, none⟩ = some (.int .i64 0) ∧ w'.cell? ⟨w.heap.size, 2, none⟩ = some (.int .i64 a)) (first | go_keep | exact ⟨hg'.cell (by assumption) (by simp), hg'.cell (by assumption) (by simp), hg'.cell (by assumption) (by simp)⟩) (first | (go_at_call 131; refine (within_any _ _ _ _).mono ?_; rintro e w' ⟨rfl, rfl⟩) | (go_at_call 76; refine (unless_yes _ _ _).mono ?_; rintro e w' ⟨rfl, hg'⟩))
            have he1 := hg'.cell he (by simp)
            have hn1 := hg'.cell hn (by simp)
            have ha1 := hg'.cell ha (by simp)
            go_wp2_with (first | (go_at_call 132; refine (yes_of (kinds_any x _ l.length e a _ (by exact HRX.out.gr (by repeat (first | exact Gr.refl _ | assumption | refine Gr.drew ?_ | refine Gr.alloc ?_ _ | refine Gr.trans ?_ (by assumption))))) HK.out).mono ?_; rintro e w2 ⟨rfl, hg2⟩))
            go_roundw
            case rel => exact ⟨k + 1, by omega, by go_num, HT.out, hg2.cell he1 (by simp), hg2.cell hn1 (by simp), hg2.cell ha1 (by simp), (by repeat (first | exact Gr.refl _ | assumption | refine Gr.drew ?_ | refine Gr.alloc ?_ _ | refine Gr.trans ?_ (by assumption)))⟩
            case measure => simp [intOf]; omega
      · go_wp2
        go_end0
        exact ⟨by rw [all_end HA.out hlt]; rfl, hg⟩

end Go.Proofs.YtkgncijcnlfhiaaDoor

