import Derived.Test.YtkgncijcnlfhiaaDoorHe
import Derived.Test.YtkgncijcnlfhiaaDoorH8
namespace Go.Proofs.YtkgncijcnlfhiaaDoor
set_option linter.unusedVariables false
set_option linter.unusedSimpArgs false
open Go.RowKit
section
variable {lo ob : Nat} {V : Nat → Value} {S : Nat → List (Nat × Nat)} {w : World} {Fd : List Nat} {k q : Nat} {wr : World} {r : Nat × Nat}
theorem spw0 (h : SpI lo ob V S w Fd 0 k q wr) (hr : (S 0)[k]? = some r) (hq : q < r.2) : SpI lo ob V S w Fd 0 k (q + 1) (wr.setCell ⟨r.1, q, none⟩ inkV) := by
  obtain ⟨s1, s2, s3, cs, s4, s5⟩ := h.choose_spec.1.shape 0 (by decide) r (List.mem_of_getElem? hr)
  simp only [sZ] at s5
  have hX := (heap_set (o := q) (v := inkV) s4)
  refine h.write (by decide) hr hq (fun b hb hne => ?_) (by simp) ((Below.refl lo wr).setCell (p := ⟨r.1, q, none⟩) s1.1 inkV) (fun cs' hcs' hs' => ?_) ?_
  · rw [Below.heap_setCell _ _ _ _ hne]
  · rw [s4] at hcs'
    simp only [Option.some.injEq, Obj.cells.injEq] at hcs'
    obtain ⟨rfl, -⟩ := hcs'
    refine ⟨_, hX, by simp, fun j hj => ?_⟩
    simp only [sZ] at hj
    rw [Array.getElem?_setIfInBounds_ne (by omega)]
  · simp only [Ink]
    rw [heap_cell hX, Array.getElem?_setIfInBounds_self_of_lt (by omega)]
theorem spw1 (h : SpI lo ob V S w Fd 1 k q wr) (hr : (S 1)[k]? = some r) (hq : q < r.2) : SpI lo ob V S w Fd 1 k (q + 1) ((wr.setCell ⟨r.1, q, none⟩ (.slice (some ⟨wr.heap.size, 0, none⟩) 1 1)).alloc (.cells #[inkV] 3)) := by
  obtain ⟨s1, s2, s3, cs, s4, s5⟩ := h.choose_spec.1.shape 1 (by decide) r (List.mem_of_getElem? hr)
  have hlo := h.choose_spec.2.2.2
  have hob := block_lt h.choose_spec.1.box
  have hown := h.choose_spec.1.own
  have hsw := h.choose_spec.1.size
  simp only [sZ] at s5
  have hblt := block_lt s4
  have hX := (heap_set (o := q) (v := (.slice (some ⟨wr.heap.size, 0, none⟩) 1 1)) s4)
  have hlw := ((Below.refl lo wr).setCell (p := ⟨r.1, q, none⟩) s1.1 (.slice (some ⟨wr.heap.size, 0, none⟩) 1 1))
  have hsz : (wr.setCell ⟨r.1, q, none⟩ (.slice (some ⟨wr.heap.size, 0, none⟩) 1 1)).heap.size = wr.heap.size := by simp
  have hne : ∀ b, ¬ b = r.1 → (wr.setCell ⟨r.1, q, none⟩ (.slice (some ⟨wr.heap.size, 0, none⟩) 1 1)).heap[b]? = wr.heap[b]? := fun b hne => by rw [Below.heap_setCell _ _ _ _ hne]
  generalize (wr.setCell ⟨r.1, q, none⟩ (.slice (some ⟨wr.heap.size, 0, none⟩) 1 1)) = X at hX hlw hsz hne ⊢
  have hg := Gr.alloc (Gr.refl X) (.cells #[inkV] 3)
  have hX2 := (hg.block r.1 (by omega) (by simp)).trans hX
  have hnew : (X.alloc (.cells #[inkV] 3)).heap[wr.heap.size]? = some (.cells #[inkV] 3 (0, 0)) := by rw [← hsz]; exact heap_new _ _
  have hPn : PN lo ob V w.heap.size wr.heap.size := ⟨⟨hlo, by omega, fun g hgg e => by have := ((hown g hgg).lt _ e).2; omega⟩, hsw⟩
  refine h.write (by decide) hr hq (fun b hb hn => ?_) ?_ (hlw.grown hg (by omega) (by simp)) (fun cs' hcs' hs' => ?_) ?_
  · exact (hg.block b (by omega) (by simp)).trans (hne b hn)
  · have := hg.size; omega
  · rw [s4] at hcs'
    simp only [Option.some.injEq, Obj.cells.injEq] at hcs'
    obtain ⟨rfl, -⟩ := hcs'
    refine ⟨_, hX2, by simp, fun j hj => ?_⟩
    simp only [sZ] at hj
    rw [Array.getElem?_setIfInBounds_ne (by omega)]
  · simp only [Ink]
    refine ⟨wr.heap.size, ?_, hPn, hnew⟩
    · rw [heap_cell hX2, Array.getElem?_setIfInBounds_self_of_lt (by omega)]
theorem spw2 (h : SpI lo ob V S w Fd 2 k q wr) (hr : (S 2)[k]? = some r) (hq : q < r.2) : SpI lo ob V S w Fd 2 k (q + 1) (((wr.setCell ⟨r.1, q * 3, none⟩ inkV).setCell ⟨r.1, q * 3 + 1, none⟩ zI).setCell ⟨r.1, q * 3 + 2, none⟩ zI) := by
  obtain ⟨s1, s2, s3, cs, s4, s5⟩ := h.choose_spec.1.shape 2 (by decide) r (List.mem_of_getElem? hr)
  simp only [sZ] at s5
  have hX := (heap_set (o := q * 3 + 2) (v := zI) (heap_set (o := q * 3 + 1) (v := zI) (heap_set (o := q * 3) (v := inkV) s4)))
  refine h.write (by decide) hr hq (fun b hb hne => ?_) (by simp) ((((Below.refl lo wr).setCell (p := ⟨r.1, q * 3, none⟩) s1.1 inkV).setCell (p := ⟨r.1, q * 3 + 1, none⟩) s1.1 zI).setCell (p := ⟨r.1, q * 3 + 2, none⟩) s1.1 zI) (fun cs' hcs' hs' => ?_) ?_
  · rw [Below.heap_setCell _ _ _ _ hne, Below.heap_setCell _ _ _ _ hne, Below.heap_setCell _ _ _ _ hne]
  · rw [s4] at hcs'
    simp only [Option.some.injEq, Obj.cells.injEq] at hcs'
    obtain ⟨rfl, -⟩ := hcs'
    refine ⟨_, hX, by simp, fun j hj => ?_⟩
    simp only [sZ] at hj
    rw [Array.getElem?_setIfInBounds_ne (by omega), Array.getElem?_setIfInBounds_ne (by omega), Array.getElem?_setIfInBounds_ne (by omega)]
  · simp only [Ink]
    refine ⟨?_, ?_, ?_⟩
    · rw [heap_cell hX, Array.getElem?_setIfInBounds_ne (by omega), Array.getElem?_setIfInBounds_ne (by omega), Array.getElem?_setIfInBounds_self_of_lt (by omega)]
    · rw [heap_cell hX, Array.getElem?_setIfInBounds_ne (by omega), Array.getElem?_setIfInBounds_self_of_lt (by simp; omega)]
    · rw [heap_cell hX, Array.getElem?_setIfInBounds_self_of_lt (by simp; omega)]
theorem spw3 (h : SpI lo ob V S w Fd 3 k q wr) (hr : (S 3)[k]? = some r) (hq : q < r.2) : SpI lo ob V S w Fd 3 k (q + 1) ((((wr.setCell ⟨r.1, q * 4, none⟩ nS).setCell ⟨r.1, q * 4 + 1, none⟩ inkV).setCell ⟨r.1, q * 4 + 2, none⟩ nS).setCell ⟨r.1, q * 4 + 3, none⟩ nS) := by
  obtain ⟨s1, s2, s3, cs, s4, s5⟩ := h.choose_spec.1.shape 3 (by decide) r (List.mem_of_getElem? hr)
  simp only [sZ] at s5
  have hX := (heap_set (o := q * 4 + 3) (v := nS) (heap_set (o := q * 4 + 2) (v := nS) (heap_set (o := q * 4 + 1) (v := inkV) (heap_set (o := q * 4) (v := nS) s4))))
  refine h.write (by decide) hr hq (fun b hb hne => ?_) (by simp) (((((Below.refl lo wr).setCell (p := ⟨r.1, q * 4, none⟩) s1.1 nS).setCell (p := ⟨r.1, q * 4 + 1, none⟩) s1.1 inkV).setCell (p := ⟨r.1, q * 4 + 2, none⟩) s1.1 nS).setCell (p := ⟨r.1, q * 4 + 3, none⟩) s1.1 nS) (fun cs' hcs' hs' => ?_) ?_
  · rw [Below.heap_setCell _ _ _ _ hne, Below.heap_setCell _ _ _ _ hne, Below.heap_setCell _ _ _ _ hne, Below.heap_setCell _ _ _ _ hne]
  · rw [s4] at hcs'
    simp only [Option.some.injEq, Obj.cells.injEq] at hcs'
    obtain ⟨rfl, -⟩ := hcs'
    refine ⟨_, hX, by simp, fun j hj => ?_⟩
    simp only [sZ] at hj
    rw [Array.getElem?_setIfInBounds_ne (by omega), Array.getElem?_setIfInBounds_ne (by omega), Array.getElem?_setIfInBounds_ne (by omega), Array.getElem?_setIfInBounds_ne (by omega)]
  · simp only [Ink]
    refine ⟨?_, ?_, ?_, ?_⟩
    · rw [heap_cell hX, Array.getElem?_setIfInBounds_ne (by omega), Array.getElem?_setIfInBounds_ne (by omega), Array.getElem?_setIfInBounds_ne (by omega), Array.getElem?_setIfInBounds_self_of_lt (by omega)]
    · rw [heap_cell hX, Array.getElem?_setIfInBounds_ne (by omega), Array.getElem?_setIfInBounds_ne (by omega), Array.getElem?_setIfInBounds_self_of_lt (by simp; omega)]
    · rw [heap_cell hX, Array.getElem?_setIfInBounds_ne (by omega), Array.getElem?_setIfInBounds_self_of_lt (by simp; omega)]
    · rw [heap_cell hX, Array.getElem?_setIfInBounds_self_of_lt (by simp; omega)]
theorem spw4 (h : SpI lo ob V S w Fd 4 k q wr) (hr : (S 4)[k]? = some r) (hq : q < r.2) : SpI lo ob V S w Fd 4 k (q + 1) (((wr.setCell ⟨r.1, q * 3, none⟩ eS).setCell ⟨r.1, q * 3 + 1, none⟩ nS).setCell ⟨r.1, q * 3 + 2, none⟩ inkV) := by
  obtain ⟨s1, s2, s3, cs, s4, s5⟩ := h.choose_spec.1.shape 4 (by decide) r (List.mem_of_getElem? hr)
  simp only [sZ] at s5
  have hX := (heap_set (o := q * 3 + 2) (v := inkV) (heap_set (o := q * 3 + 1) (v := nS) (heap_set (o := q * 3) (v := eS) s4)))
  refine h.write (by decide) hr hq (fun b hb hne => ?_) (by simp) ((((Below.refl lo wr).setCell (p := ⟨r.1, q * 3, none⟩) s1.1 eS).setCell (p := ⟨r.1, q * 3 + 1, none⟩) s1.1 nS).setCell (p := ⟨r.1, q * 3 + 2, none⟩) s1.1 inkV) (fun cs' hcs' hs' => ?_) ?_
  · rw [Below.heap_setCell _ _ _ _ hne, Below.heap_setCell _ _ _ _ hne, Below.heap_setCell _ _ _ _ hne]
  · rw [s4] at hcs'
    simp only [Option.some.injEq, Obj.cells.injEq] at hcs'
    obtain ⟨rfl, -⟩ := hcs'
    refine ⟨_, hX, by simp, fun j hj => ?_⟩
    simp only [sZ] at hj
    rw [Array.getElem?_setIfInBounds_ne (by omega), Array.getElem?_setIfInBounds_ne (by omega), Array.getElem?_setIfInBounds_ne (by omega)]
  · simp only [Ink]
    refine ⟨?_, ?_, ?_⟩
    · rw [heap_cell hX, Array.getElem?_setIfInBounds_ne (by omega), Array.getElem?_setIfInBounds_ne (by omega), Array.getElem?_setIfInBounds_self_of_lt (by omega)]
    · rw [heap_cell hX, Array.getElem?_setIfInBounds_ne (by omega), Array.getElem?_setIfInBounds_self_of_lt (by simp; omega)]
    · rw [heap_cell hX, Array.getElem?_setIfInBounds_self_of_lt (by simp; omega)]
theorem spw5 (h : SpI lo ob V S w Fd 5 k q wr) (hr : (S 5)[k]? = some r) (hq : q < r.2) : SpI lo ob V S w Fd 5 k (q + 1) ((wr.setCell ⟨r.1, q * 2, none⟩ eS).setCell ⟨r.1, q * 2 + 1, none⟩ inkV) := by
  obtain ⟨s1, s2, s3, cs, s4, s5⟩ := h.choose_spec.1.shape 5 (by decide) r (List.mem_of_getElem? hr)
  simp only [sZ] at s5
  have hX := (heap_set (o := q * 2 + 1) (v := inkV) (heap_set (o := q * 2) (v := eS) s4))
  refine h.write (by decide) hr hq (fun b hb hne => ?_) (by simp) (((Below.refl lo wr).setCell (p := ⟨r.1, q * 2, none⟩) s1.1 eS).setCell (p := ⟨r.1, q * 2 + 1, none⟩) s1.1 inkV) (fun cs' hcs' hs' => ?_) ?_
  · rw [Below.heap_setCell _ _ _ _ hne, Below.heap_setCell _ _ _ _ hne]
  · rw [s4] at hcs'
    simp only [Option.some.injEq, Obj.cells.injEq] at hcs'
    obtain ⟨rfl, -⟩ := hcs'
    refine ⟨_, hX, by simp, fun j hj => ?_⟩
    simp only [sZ] at hj
    rw [Array.getElem?_setIfInBounds_ne (by omega), Array.getElem?_setIfInBounds_ne (by omega)]
  · simp only [Ink]
    refine ⟨?_, ?_⟩
    · rw [heap_cell hX, Array.getElem?_setIfInBounds_ne (by omega), Array.getElem?_setIfInBounds_self_of_lt (by omega)]
    · rw [heap_cell hX, Array.getElem?_setIfInBounds_self_of_lt (by simp; omega)]
theorem spw6 (h : SpI lo ob V S w Fd 6 k q wr) (hr : (S 6)[k]? = some r) (hq : q < r.2) : SpI lo ob V S w Fd 6 k (q + 1) (wr.setCell ⟨r.1, q, none⟩ inkT) := by
  obtain ⟨s1, s2, s3, cs, s4, s5⟩ := h.choose_spec.1.shape 6 (by decide) r (List.mem_of_getElem? hr)
  simp only [sZ] at s5
  have hX := (heap_set (o := q) (v := inkT) s4)
  refine h.write (by decide) hr hq (fun b hb hne => ?_) (by simp) ((Below.refl lo wr).setCell (p := ⟨r.1, q, none⟩) s1.1 inkT) (fun cs' hcs' hs' => ?_) ?_
  · rw [Below.heap_setCell _ _ _ _ hne]
  · rw [s4] at hcs'
    simp only [Option.some.injEq, Obj.cells.injEq] at hcs'
    obtain ⟨rfl, -⟩ := hcs'
    refine ⟨_, hX, by simp, fun j hj => ?_⟩
    simp only [sZ] at hj
    rw [Array.getElem?_setIfInBounds_ne (by omega)]
  · simp only [Ink]
    rw [heap_cell hX, Array.getElem?_setIfInBounds_self_of_lt (by omega)]
theorem spw7 (h : SpI lo ob V S w Fd 7 k q wr) (hr : (S 7)[k]? = some r) (hq : q < r.2) : SpI lo ob V S w Fd 7 k (q + 1) ((((((wr.setCell ⟨r.1, q * 5, none⟩ nS).setCell ⟨r.1, q * 5 + 1, none⟩ (.slice (some ⟨wr.heap.size, 0, none⟩) 1 1)).setCell ⟨r.1, q * 5 + 2, none⟩ nS).setCell ⟨r.1, q * 5 + 3, none⟩ nS).setCell ⟨r.1, q * 5 + 4, none⟩ nS).alloc (.cells #[inkV] 3)) := by
  obtain ⟨s1, s2, s3, cs, s4, s5⟩ := h.choose_spec.1.shape 7 (by decide) r (List.mem_of_getElem? hr)
  have hlo := h.choose_spec.2.2.2
  have hob := block_lt h.choose_spec.1.box
  have hown := h.choose_spec.1.own
  have hsw := h.choose_spec.1.size
  simp only [sZ] at s5
  have hblt := block_lt s4
  have hX := (heap_set (o := q * 5 + 4) (v := nS) (heap_set (o := q * 5 + 3) (v := nS) (heap_set (o := q * 5 + 2) (v := nS) (heap_set (o := q * 5 + 1) (v := (.slice (some ⟨wr.heap.size, 0, none⟩) 1 1)) (heap_set (o := q * 5) (v := nS) s4)))))
  have hlw := ((((((Below.refl lo wr).setCell (p := ⟨r.1, q * 5, none⟩) s1.1 nS).setCell (p := ⟨r.1, q * 5 + 1, none⟩) s1.1 (.slice (some ⟨wr.heap.size, 0, none⟩) 1 1)).setCell (p := ⟨r.1, q * 5 + 2, none⟩) s1.1 nS).setCell (p := ⟨r.1, q * 5 + 3, none⟩) s1.1 nS).setCell (p := ⟨r.1, q * 5 + 4, none⟩) s1.1 nS)
  have hsz : (((((wr.setCell ⟨r.1, q * 5, none⟩ nS).setCell ⟨r.1, q * 5 + 1, none⟩ (.slice (some ⟨wr.heap.size, 0, none⟩) 1 1)).setCell ⟨r.1, q * 5 + 2, none⟩ nS).setCell ⟨r.1, q * 5 + 3, none⟩ nS).setCell ⟨r.1, q * 5 + 4, none⟩ nS).heap.size = wr.heap.size := by simp
  have hne : ∀ b, ¬ b = r.1 → (((((wr.setCell ⟨r.1, q * 5, none⟩ nS).setCell ⟨r.1, q * 5 + 1, none⟩ (.slice (some ⟨wr.heap.size, 0, none⟩) 1 1)).setCell ⟨r.1, q * 5 + 2, none⟩ nS).setCell ⟨r.1, q * 5 + 3, none⟩ nS).setCell ⟨r.1, q * 5 + 4, none⟩ nS).heap[b]? = wr.heap[b]? := fun b hne => by rw [Below.heap_setCell _ _ _ _ hne, Below.heap_setCell _ _ _ _ hne, Below.heap_setCell _ _ _ _ hne, Below.heap_setCell _ _ _ _ hne, Below.heap_setCell _ _ _ _ hne]
  generalize (((((wr.setCell ⟨r.1, q * 5, none⟩ nS).setCell ⟨r.1, q * 5 + 1, none⟩ (.slice (some ⟨wr.heap.size, 0, none⟩) 1 1)).setCell ⟨r.1, q * 5 + 2, none⟩ nS).setCell ⟨r.1, q * 5 + 3, none⟩ nS).setCell ⟨r.1, q * 5 + 4, none⟩ nS) = X at hX hlw hsz hne ⊢
  have hg := Gr.alloc (Gr.refl X) (.cells #[inkV] 3)
  have hX2 := (hg.block r.1 (by omega) (by simp)).trans hX
  have hnew : (X.alloc (.cells #[inkV] 3)).heap[wr.heap.size]? = some (.cells #[inkV] 3 (0, 0)) := by rw [← hsz]; exact heap_new _ _
  have hPn : PN lo ob V w.heap.size wr.heap.size := ⟨⟨hlo, by omega, fun g hgg e => by have := ((hown g hgg).lt _ e).2; omega⟩, hsw⟩
  refine h.write (by decide) hr hq (fun b hb hn => ?_) ?_ (hlw.grown hg (by omega) (by simp)) (fun cs' hcs' hs' => ?_) ?_
  · exact (hg.block b (by omega) (by simp)).trans (hne b hn)
  · have := hg.size; omega
  · rw [s4] at hcs'
    simp only [Option.some.injEq, Obj.cells.injEq] at hcs'
    obtain ⟨rfl, -⟩ := hcs'
    refine ⟨_, hX2, by simp, fun j hj => ?_⟩
    simp only [sZ] at hj
    rw [Array.getElem?_setIfInBounds_ne (by omega), Array.getElem?_setIfInBounds_ne (by omega), Array.getElem?_setIfInBounds_ne (by omega), Array.getElem?_setIfInBounds_ne (by omega), Array.getElem?_setIfInBounds_ne (by omega)]
  · simp only [Ink]
    refine ⟨wr.heap.size, ?_, ?_, ?_, ?_, ?_, hPn, hnew⟩
    · rw [heap_cell hX2, Array.getElem?_setIfInBounds_ne (by omega), Array.getElem?_setIfInBounds_ne (by omega), Array.getElem?_setIfInBounds_ne (by omega), Array.getElem?_setIfInBounds_ne (by omega), Array.getElem?_setIfInBounds_self_of_lt (by omega)]
    · rw [heap_cell hX2, Array.getElem?_setIfInBounds_ne (by omega), Array.getElem?_setIfInBounds_ne (by omega), Array.getElem?_setIfInBounds_ne (by omega), Array.getElem?_setIfInBounds_self_of_lt (by simp; omega)]
    · rw [heap_cell hX2, Array.getElem?_setIfInBounds_ne (by omega), Array.getElem?_setIfInBounds_ne (by omega), Array.getElem?_setIfInBounds_self_of_lt (by simp; omega)]
    · rw [heap_cell hX2, Array.getElem?_setIfInBounds_ne (by omega), Array.getElem?_setIfInBounds_self_of_lt (by simp; omega)]
    · rw [heap_cell hX2, Array.getElem?_setIfInBounds_self_of_lt (by simp; omega)]
end
end Go.Proofs.YtkgncijcnlfhiaaDoor

