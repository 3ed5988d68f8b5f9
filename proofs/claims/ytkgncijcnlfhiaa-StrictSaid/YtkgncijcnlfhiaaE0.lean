import Derived.Test.YtkgncijcnlfhiaaS1
import Derived.Test.YtkgncijcnlfhiaaD2
namespace Go.Proofs.Ytkgncijcnlfhiaa
set_option linter.unusedVariables false
set_option linter.unusedSimpArgs false
open Go.RowKit
def Box5 (w : World) (b : Nat) (x0 x1 x2 x3 x4 : Value) : Prop :=
  w.cell? ⟨b, 0, none⟩ = some x0 ∧ w.cell? ⟨b, 1, none⟩ = some x1 ∧ w.cell? ⟨b, 2, none⟩ = some x2 ∧ w.cell? ⟨b, 3, none⟩ = some x3 ∧ w.cell? ⟨b, 4, none⟩ = some x4 ∧ w.frozen? ⟨b, 0, none⟩ = false ∧ w.frozen? ⟨b, 1, none⟩ = false ∧ w.frozen? ⟨b, 2, none⟩ = false ∧ w.frozen? ⟨b, 3, none⟩ = false ∧ w.frozen? ⟨b, 4, none⟩ = false
theorem Box5.gc {w w' : World} {cb b : Nat} {x0 x1 x2 x3 x4 : Value} (h : Box5 w b x0 x1 x2 x3 x4) (g : Gc cb w w') (hb : ¬ b = cb) : Box5 w' b x0 x1 x2 x3 x4 := by
  obtain ⟨h0, h1, h2, h3, h4, z0, z1, z2, z3, z4⟩ := h
  exact ⟨g.box hb h0, g.box hb h1, g.box hb h2, g.box hb h3, g.box hb h4, g.boxz hb h0 z0, g.boxz hb h1 z1, g.boxz hb h2 z2, g.boxz hb h3 z3, g.boxz hb h4 z4⟩
theorem Box5.gr {w w' : World} {b : Nat} {x0 x1 x2 x3 x4 : Value} (h : Box5 w b x0 x1 x2 x3 x4) (g : Gr w w') : Box5 w' b x0 x1 x2 x3 x4 :=
  h.gc (cb := b + 1) g.toGc (by omega)
theorem Box5.new (w : World) (t : TypeId) (x0 x1 x2 x3 x4 : Value) : Box5 (w.alloc (.cells #[x0, x1, x2, x3, x4] t)) w.heap.size x0 x1 x2 x3 x4 := by
  refine ⟨?_, ?_, ?_, ?_, ?_, ?_, ?_, ?_, ?_, ?_⟩ <;> simp [go_sem]
theorem Box5.other {w : World} {b g o : Nat} {x0 x1 x2 x3 x4 v : Value} (h : Box5 w b x0 x1 x2 x3 x4) (hb : ¬ g = b) : Box5 (w.setCell ⟨g, o, none⟩ v) b x0 x1 x2 x3 x4 := by
  obtain ⟨h0, h1, h2, h3, h4, z0, z1, z2, z3, z4⟩ := h
  have hc : ∀ q, (w.setCell ⟨g, o, none⟩ v).cell? ⟨b, q, none⟩ = w.cell? ⟨b, q, none⟩ := fun q => World.cell?_setCell_other w _ _ _ (by intro e; simp only [Addr.mk.injEq] at e; exact hb e.1)
  exact ⟨(hc 0).trans h0, (hc 1).trans h1, (hc 2).trans h2, (hc 3).trans h3, (hc 4).trans h4, by rw [World.frozen?_setCell]; exact z0, by rw [World.frozen?_setCell]; exact z1, by rw [World.frozen?_setCell]; exact z2, by rw [World.frozen?_setCell]; exact z3, by rw [World.frozen?_setCell]; exact z4⟩
theorem Box5.set0 {w : World} {b : Nat} {x0 x1 x2 x3 x4 : Value} (v : Value) (h : Box5 w b x0 x1 x2 x3 x4) : Box5 (w.setCell ⟨b, 0, none⟩ v) b v x1 x2 x3 x4 := by
  obtain ⟨h0, h1, h2, h3, h4, z0, z1, z2, z3, z4⟩ := h
  exact ⟨World.cell?_setCell_same _ _ _ h0, (cell_set_ne (by omega)).trans h1, (cell_set_ne (by omega)).trans h2, (cell_set_ne (by omega)).trans h3, (cell_set_ne (by omega)).trans h4, by rw [World.frozen?_setCell]; exact z0, by rw [World.frozen?_setCell]; exact z1, by rw [World.frozen?_setCell]; exact z2, by rw [World.frozen?_setCell]; exact z3, by rw [World.frozen?_setCell]; exact z4⟩
theorem Box5.set1 {w : World} {b : Nat} {x0 x1 x2 x3 x4 : Value} (v : Value) (h : Box5 w b x0 x1 x2 x3 x4) : Box5 (w.setCell ⟨b, 1, none⟩ v) b x0 v x2 x3 x4 := by
  obtain ⟨h0, h1, h2, h3, h4, z0, z1, z2, z3, z4⟩ := h
  exact ⟨(cell_set_ne (by omega)).trans h0, World.cell?_setCell_same _ _ _ h1, (cell_set_ne (by omega)).trans h2, (cell_set_ne (by omega)).trans h3, (cell_set_ne (by omega)).trans h4, by rw [World.frozen?_setCell]; exact z0, by rw [World.frozen?_setCell]; exact z1, by rw [World.frozen?_setCell]; exact z2, by rw [World.frozen?_setCell]; exact z3, by rw [World.frozen?_setCell]; exact z4⟩
theorem Box5.set2 {w : World} {b : Nat} {x0 x1 x2 x3 x4 : Value} (v : Value) (h : Box5 w b x0 x1 x2 x3 x4) : Box5 (w.setCell ⟨b, 2, none⟩ v) b x0 x1 v x3 x4 := by
  obtain ⟨h0, h1, h2, h3, h4, z0, z1, z2, z3, z4⟩ := h
  exact ⟨(cell_set_ne (by omega)).trans h0, (cell_set_ne (by omega)).trans h1, World.cell?_setCell_same _ _ _ h2, (cell_set_ne (by omega)).trans h3, (cell_set_ne (by omega)).trans h4, by rw [World.frozen?_setCell]; exact z0, by rw [World.frozen?_setCell]; exact z1, by rw [World.frozen?_setCell]; exact z2, by rw [World.frozen?_setCell]; exact z3, by rw [World.frozen?_setCell]; exact z4⟩
theorem Box5.set3 {w : World} {b : Nat} {x0 x1 x2 x3 x4 : Value} (v : Value) (h : Box5 w b x0 x1 x2 x3 x4) : Box5 (w.setCell ⟨b, 3, none⟩ v) b x0 x1 x2 v x4 := by
  obtain ⟨h0, h1, h2, h3, h4, z0, z1, z2, z3, z4⟩ := h
  exact ⟨(cell_set_ne (by omega)).trans h0, (cell_set_ne (by omega)).trans h1, (cell_set_ne (by omega)).trans h2, World.cell?_setCell_same _ _ _ h3, (cell_set_ne (by omega)).trans h4, by rw [World.frozen?_setCell]; exact z0, by rw [World.frozen?_setCell]; exact z1, by rw [World.frozen?_setCell]; exact z2, by rw [World.frozen?_setCell]; exact z3, by rw [World.frozen?_setCell]; exact z4⟩
theorem Box5.set4 {w : World} {b : Nat} {x0 x1 x2 x3 x4 : Value} (v : Value) (h : Box5 w b x0 x1 x2 x3 x4) : Box5 (w.setCell ⟨b, 4, none⟩ v) b x0 x1 x2 x3 v := by
  obtain ⟨h0, h1, h2, h3, h4, z0, z1, z2, z3, z4⟩ := h
  exact ⟨(cell_set_ne (by omega)).trans h0, (cell_set_ne (by omega)).trans h1, (cell_set_ne (by omega)).trans h2, (cell_set_ne (by omega)).trans h3, World.cell?_setCell_same _ _ _ h4, by rw [World.frozen?_setCell]; exact z0, by rw [World.frozen?_setCell]; exact z1, by rw [World.frozen?_setCell]; exact z2, by rw [World.frozen?_setCell]; exact z3, by rw [World.frozen?_setCell]; exact z4⟩
theorem gr_over {w w1 w2 : World} {cb : Nat} (h : Gr w w1) (k : Gc cb w1 w2) (hc : w.heap.size ≤ cb) : Gr w w2 :=
  ⟨k.os.trans h.os, k.tape.trans h.tape, k.output.trans h.output, Nat.le_trans h.size k.size, fun i hi _ => (k.block i (Nat.lt_of_lt_of_le hi h.size) (by intro e; simp only [Option.some.injEq] at e; omega)).trans (h.block i hi (by simp))⟩
theorem gr_set {w w1 : World} {g o : Nat} {v : Value} (h : Gr w w1) (hg : w.heap.size ≤ g) : Gr w (w1.setCell ⟨g, o, none⟩ v) :=
  ⟨h.os, h.tape, h.output, by simpa using h.size, fun i hi hne => by rw [Below.heap_setCell _ _ _ _ (by show i ≠ g; omega)]; exact h.block i hi hne⟩
theorem gr_frozen {w w' : World} (g : Gr w w') {p : Addr} {x : Value} (hx : w.cell? p = some x) (h : w.frozen? p = false) : w'.frozen? p = false :=
  (World.frozen?_of_block (g.block p.block (World.block_lt_of_cell? w p hx) (by simp))).trans h
theorem below_frozen {W w : World} (h : Below W.heap.size W w) {p : Addr} {x : Value} (hx : W.cell? p = some x) (hz : W.frozen? p = false) : w.frozen? p = false :=
  (h.frozen (World.block_lt_of_cell? W p hx)).trans hz
theorem below_gr {W W1 w : World} (g : Gr W W1) (h : Below W1.heap.size W1 w) : Below W.heap.size W w :=
  ((Below.refl _ _).grown g (Nat.le_refl _) (by simp)).trans (h.mono g.size)
theorem Box5.below {w w' : World} {b : Nat} {x0 x1 x2 x3 x4 : Value} (h : Box5 w b x0 x1 x2 x3 x4) (g : Below w.heap.size w w') : Box5 w' b x0 x1 x2 x3 x4 := by
  obtain ⟨h0, h1, h2, h3, h4, z0, z1, z2, z3, z4⟩ := h
  exact ⟨below_cell g h0, below_cell g h1, below_cell g h2, below_cell g h3, below_cell g h4, below_frozen g h0 z0, below_frozen g h1 z1, below_frozen g h2 z2, below_frozen g h3 z3, below_frozen g h4 z4⟩
end Go.Proofs.Ytkgncijcnlfhiaa
