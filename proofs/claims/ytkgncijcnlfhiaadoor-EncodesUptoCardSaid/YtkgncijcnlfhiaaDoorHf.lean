import Derived.Test.YtkgncijcnlfhiaaDoorH6
import Derived.Test.YtkgncijcnlfhiaaDoorHx
namespace Go.Proofs.YtkgncijcnlfhiaaDoor
set_option linter.unusedVariables false
set_option linter.unusedSimpArgs false
open Go.RowKit
/- the caller writes over his lists -/
structure SpS (lo ob : Nat) (V : Nat → Value) (S : Nat → List (Nat × Nat)) (D : Nat → Nat → Nat → Prop) (w : World) : Prop where
  box : w.heap[ob]? = some (.cells #[V 0, V 1, V 2, V 3, V 4, V 5, V 6, V 7] 52 (0, 0))
  low : lo ≤ ob
  own : ∀ f, f < 8 → w.ownsRow lo (oT f) 1 (V f) (S f).length ((S f).map rowV)
  shape : ∀ f, f < 8 → ∀ r ∈ S f, PO lo ob V r.1 ∧ 2 ≤ r.2 ∧ r.2 ≤ 10000000 ∧ ∃ cs : Array Value, w.heap[r.1]? = some (.cells cs (eT f) (0, 0)) ∧ cs.size = r.2 * sZ f
  inks : ∀ f, f < 8 → ∀ r ∈ S f, ∀ q, q < r.2 → D f r.1 q → Ink (PO lo ob V) w r.1 q f
structure Cov (S : Nat → List (Nat × Nat)) (Fd : List Nat) (f k q : Nat) (D : Nat → Nat → Nat → Prop) : Prop where
  old : ∀ g, g ∈ Fd → ∀ r ∈ S g, ∀ x, x < r.2 → D g r.1 x
  rows : ∀ i r, i < k → (S f)[i]? = some r → ∀ x, x < r.2 → D f r.1 x
  here : ∀ r, (S f)[k]? = some r → ∀ x, x < q → x < r.2 → D f r.1 x
def SpI (lo ob : Nat) (V : Nat → Value) (S : Nat → List (Nat × Nat)) (w : World) (Fd : List Nat) (f k q : Nat) (wr : World) : Prop :=
  ∃ D, SpS lo ob V S D wr ∧ Cov S Fd f k q D ∧ Below lo w wr ∧ lo ≤ wr.heap.size
section
variable {lo ob : Nat} {V : Nat → Value} {S : Nat → List (Nat × Nat)} {w : World} {Fd : List Nat} {f k q : Nat} {wr : World}
theorem SpI.start (h : OwnAt lo w ob false V S) (hl : lo ≤ w.heap.size) (f : Nat) : SpI lo ob V S w [] f 0 0 w :=
  ⟨fun _ _ _ => False, ⟨h.box, h.low, h.own, fun f hf r hr => ⟨(h.rows f hf r hr).here, (h.rows f hf r hr).two, (h.rows f hf r hr).most, (h.rows f hf r hr).cells⟩, fun _ _ _ _ _ _ h => h.elim⟩,
    ⟨fun g hg => (List.not_mem_nil hg).elim, fun i r hi => by omega, fun r hr x hx => by omega⟩, Below.refl _ _, hl⟩
theorem SpI.next (h : SpI lo ob V S w Fd f k q wr) {r : Nat × Nat} (hr : (S f)[k]? = some r) (hq : r.2 ≤ q) : SpI lo ob V S w Fd f (k + 1) 0 wr := by
  obtain ⟨D, h1, h2, h3⟩ := h
  refine ⟨D, h1, ⟨h2.old, fun i r' hi hr' x hx => ?_, fun _ _ x hx => by omega⟩, h3⟩
  by_cases hik : i < k
  · exact h2.rows i r' hik hr' x hx
  · have : i = k := by omega
    subst this
    rw [hr] at hr'; cases hr'
    exact h2.here r hr x (by omega) hx
theorem SpI.done (h : SpI lo ob V S w Fd f k q wr) (hk : (S f).length ≤ k) (g : Nat) : SpI lo ob V S w (f :: Fd) g 0 0 wr := by
  obtain ⟨D, h1, h2, h3⟩ := h
  refine ⟨D, h1, ⟨fun g' hg r hr x hx => ?_, fun i r hi => by omega, fun _ _ x hx => by omega⟩, h3⟩
  rcases List.mem_cons.1 hg with e | e
  · subst e
    obtain ⟨i, hi⟩ := List.getElem?_of_mem hr
    exact h2.rows i r (by have := (List.getElem?_eq_some_iff.1 hi).1; omega) hi x hx
  · exact h2.old g' e r hr x hx
theorem SpI.end_ (h : SpI lo ob V S w [6, 2, 0, 7, 5, 4, 3, 1] f k q wr) : OwnAt lo wr ob true V S ∧ Below lo w wr ∧ lo ≤ wr.heap.size := by
  obtain ⟨D, h1, h2, h3, h4⟩ := h
  have hall : ∀ g, g < 8 → g ∈ [6, 2, 0, 7, 5, 4, 3, 1] := by decide
  exact ⟨⟨h1.box, h1.low, h1.own, fun g hg r hr => ⟨(h1.shape g hg r hr).1, (h1.shape g hg r hr).2.1, (h1.shape g hg r hr).2.2.1, (h1.shape g hg r hr).2.2.2, fun x _ hx => h1.inks g hg r hr x hx (h2.old g (hall g hg) r hr x hx)⟩⟩, h3, h4⟩
theorem SpI.form (h : SpI lo ob V S w Fd f k q wr) {g : Nat} (hg : g < 8) : ∃ ao cap, V g = .slice ao (S g).length cap ∧ wr.cell? ⟨ob, g, none⟩ = some (.slice ao (S g).length cap) ∧ (S g).length ≤ maxLen := by
  obtain ⟨D, h1, _⟩ := h
  obtain ⟨⟨ao, cap, hv⟩, hm⟩ := own_form (h1.own g hg)
  refine ⟨ao, cap, hv, ?_, hm⟩
  rw [← hv, heap_cell h1.box]
  rcases g with _ | _ | _ | _ | _ | _ | _ | _ | g
  all_goals first | rfl | omega
theorem SpI.row (h : SpI lo ob V S w Fd f k q wr) (hf : f < 8) {r : Nat × Nat} {ao : Option Addr} {cap : Nat} (hV : V f = .slice ao (S f).length cap) (hr : (S f)[k]? = some r) :
    ∃ g, ao = some ⟨g, 0, none⟩ ∧ wr.cell? ⟨g, k, none⟩ = some (.slice (some ⟨r.1, 0, none⟩) r.2 r.2) ∧ 2 ≤ r.2 ∧ r.2 ≤ 10000000 ∧ (∀ j, j < r.2 * sZ f → (∃ x, wr.cell? ⟨r.1, j, none⟩ = some x) ∧ wr.frozen? ⟨r.1, j, none⟩ = false) ∧ r.1 < wr.heap.size ∧ ¬ r.1 = ob ∧ ¬ r.1 = g := by
  obtain ⟨D, h1, _⟩ := h
  have hkl : k < (S f).length := (List.getElem?_eq_some_iff.1 hr).1
  obtain ⟨g, k1, k2, ⟨cap', k3⟩, k4⟩ := own_at (h1.own f hf) (j := k) (by omega)
  obtain ⟨s1, s2, s3, cs, s4, s5⟩ := h1.shape f hf r (List.mem_of_getElem? hr)
  rw [hV] at k3
  simp only [Value.slice.injEq] at k3
  refine ⟨g, k3.1, ?_, s2, s3, fun j hj => ⟨⟨cs[j]'(by omega), by rw [heap_cell s4]; simp⟩, heap_frozen s4⟩, block_lt s4, s1.2.1, fun e => s1.2.2 f hf (e ▸ k1)⟩
  rw [Nat.zero_add] at k4
  rw [k4, List.getElem?_map, hr]; rfl
theorem eT_inj : ∀ f, f < 8 → ∀ g, g < 8 → eT f = eT g → f = g := by decide
theorem Ink.cells {P : Nat → Prop} {w w' : World} {b x f : Nat} (h : Ink P w b x f) (hc : ∀ j, x * sZ f ≤ j → j < (x + 1) * sZ f → w'.cell? ⟨b, j, none⟩ = w.cell? ⟨b, j, none⟩)
    (hb : ∀ b', P b' → w.heap[b']? = some (.cells #[inkV] 3 (0, 0)) → w'.heap[b']? = w.heap[b']?) : Ink P w' b x f := by
  rcases f with _ | _ | _ | _ | _ | _ | _ | f <;> simp only [Ink, sZ] at h hc ⊢
  · rw [hc _ (by omega) (by omega)]; exact h
  · obtain ⟨b', h1, h2, h3⟩ := h
    exact ⟨b', by rw [hc _ (by omega) (by omega)]; exact h1, h2, (hb b' h2 h3).trans h3⟩
  · rw [hc _ (by omega) (by omega), hc _ (by omega) (by omega), hc _ (by omega) (by omega)]; exact h
  · rw [hc _ (by omega) (by omega), hc _ (by omega) (by omega), hc _ (by omega) (by omega), hc _ (by omega) (by omega)]; exact h
  · rw [hc _ (by omega) (by omega), hc _ (by omega) (by omega), hc _ (by omega) (by omega)]; exact h
  · rw [hc _ (by omega) (by omega), hc _ (by omega) (by omega)]; exact h
  · rw [hc _ (by omega) (by omega)]; exact h
  · obtain ⟨b', h0, h1, h4, h5, h6, h2, h3⟩ := h
    exact ⟨b', by rw [hc _ (by omega) (by omega)]; exact h0, by rw [hc _ (by omega) (by omega)]; exact h1, by rw [hc _ (by omega) (by omega)]; exact h4, by rw [hc _ (by omega) (by omega)]; exact h5, by rw [hc _ (by omega) (by omega)]; exact h6, h2, (hb b' h2 h3).trans h3⟩
/-- an element is written -/
theorem SpI.write {w' : World} {r : Nat × Nat} (h : SpI lo ob V S w Fd f k q wr) (hf : f < 8) (hr : (S f)[k]? = some r) (hq : q < r.2)
    (hfr : ∀ b, b < wr.heap.size → ¬ b = r.1 → w'.heap[b]? = wr.heap[b]?) (hsz : wr.heap.size ≤ w'.heap.size) (hlow : Below lo wr w')
    (hblk : ∀ cs : Array Value, wr.heap[r.1]? = some (.cells cs (eT f) (0, 0)) → cs.size = r.2 * sZ f → ∃ cs' : Array Value, w'.heap[r.1]? = some (.cells cs' (eT f) (0, 0)) ∧ cs'.size = cs.size ∧ ∀ j, (j < q * sZ f ∨ (q + 1) * sZ f ≤ j) → cs'[j]? = cs[j]?)
    (hink : Ink (PO lo ob V) w' r.1 q f) : SpI lo ob V S w Fd f k (q + 1) w' := by
  obtain ⟨D, h1, h2, h3, h4⟩ := h
  have hrm := List.mem_of_getElem? hr
  obtain ⟨s1, s2, s3, cs, s4, s5⟩ := h1.shape f hf r hrm
  obtain ⟨cs', t1, t2, t3⟩ := hblk cs s4 s5
  have hib : ∀ b', PO lo ob V b' → wr.heap[b']? = some (.cells #[inkV] 3 (0, 0)) → w'.heap[b']? = wr.heap[b']? := fun b' _ hb' => hfr b' (block_lt hb') (fun e => by
    rw [e, s4] at hb'
    simp only [Option.some.injEq, Obj.cells.injEq] at hb'
    have hf0 : f = 0 := eT_inj f hf 0 (by decide) hb'.2.1
    subst hf0
    have e1 : cs.size = 1 := by rw [hb'.1]; rfl
    have e2 : sZ 0 = 1 := rfl
    rw [e2] at s5; omega)
  refine ⟨fun g b x => D g b x ∨ (g = f ∧ b = r.1 ∧ x = q), ⟨?_, h1.low, fun g hg => ?_, fun g hg r' hr' => ?_, fun g hg r' hr' x hx hd => ?_⟩, ⟨fun g hg r' hr' x hx => .inl (h2.old g hg r' hr' x hx), fun i r' hi hr' x hx => .inl (h2.rows i r' hi hr' x hx), fun r' hr' x hx hx2 => ?_⟩, h3.trans hlow, Nat.le_trans h4 hsz⟩
  · exact (hfr ob (block_lt h1.box) (fun e => s1.2.1 e.symm)).trans h1.box
  · refine ownsRow_same (h1.own g hg) fun y hy => hfr y ?_ (fun e => s1.2.2 g hg (e ▸ hy))
    exact ((h1.own g hg).lt y hy).2
  · obtain ⟨u1, u2, u3, c, u4, u5⟩ := h1.shape g hg r' hr'
    refine ⟨u1, u2, u3, ?_⟩
    by_cases hb : r'.1 = r.1
    · rw [hb, s4] at u4
      simp only [Option.some.injEq, Obj.cells.injEq] at u4
      have hgf : f = g := eT_inj f hf g hg u4.2.1
      subst hgf
      exact ⟨cs', by rw [hb]; exact t1, by rw [t2, u4.1]; exact u5⟩
    · exact ⟨c, (hfr r'.1 (block_lt u4) hb).trans u4, u5⟩
  · obtain ⟨u1, u2, u3, c, u4, u5⟩ := h1.shape g hg r' hr'
    by_cases hb : r'.1 = r.1
    · have hgf : f = g := by
        rw [hb, s4] at u4
        simp only [Option.some.injEq, Obj.cells.injEq] at u4
        exact eT_inj f hf g hg u4.2.1
      subst hgf
      by_cases hxq : x = q
      · subst hxq; rw [hb]; exact hink
      · have hd' : D f r'.1 x := by
          rcases hd with hd | hd
          · exact hd
          · exact absurd hd.2.2 hxq
        refine (h1.inks f hf r' hr' x hx hd').cells (fun j j1 j2 => ?_) hib
        rw [hb, heap_cell t1, heap_cell s4]
        apply t3
        by_cases hlt : x < q
        · left
          have := Nat.mul_le_mul_right (sZ f) (show x + 1 ≤ q by omega); omega
        · right
          have := Nat.mul_le_mul_right (sZ f) (show q + 1 ≤ x by omega); omega
    · have hd' : D g r'.1 x := by
        rcases hd with hd | hd
        · exact hd
        · exact absurd hd.2.1 hb
      exact (h1.inks g hg r' hr' x hx hd').cells (fun j _ _ => World.cell?_of_block (a := ⟨r'.1, j, none⟩) (hfr r'.1 (block_lt u4) hb)) hib
  · rw [hr] at hr'; cases hr'
    by_cases hxq : x = q
    · exact .inr ⟨rfl, rfl, hxq⟩
    · exact .inl (h2.here r hr x (by omega) hx2)
end
end Go.Proofs.YtkgncijcnlfhiaaDoor
namespace Go.Proofs.YtkgncijcnlfhiaaDoor
set_option linter.unusedVariables false
set_option linter.unusedSimpArgs false
open Go.RowKit
section
variable {lo ob : Nat} {V : Nat → Value} {S : Nat → List (Nat × Nat)} {w : World} {Fd : List Nat} {k q : Nat} {wr : World} {r : Nat × Nat}
theorem spw0 (h : SpI lo ob V S w Fd 0 k q wr) (hr : (S 0)[k]? = some r) (hq : q < r.2) : SpI lo ob V S w Fd 0 k (q + 1) (wr.setCell ⟨r.1, q, none⟩ inkV) := by
  obtain ⟨s1, s2, s3, cs, s4, s5⟩ := h.choose_spec.1.shape 0 (by decide) r (List.mem_of_getElem? hr)
  simp only [sZ] at s5
  have hX := (heap_set (o := q) (v := inkV) s4)
  refine h.write (by decide) hr hq (fun b hb hne => ?_) (by simp) ((Below.refl lo wr).setCell (p := ⟨r.1, q, none⟩) s1.1 inkV) (fun cs' hcs' hs' => ?_) ?_
  · rw [Below.heap_setCell _ _ _ _ hne]
  · rw [s4] at hcs'
    simp only [Option.some.injEq, Obj.cells.injEq] at hcs'
    obtain ⟨rfl, -⟩ := hcs'
    refine ⟨_, hX, by simp, fun j hj => ?_⟩
    simp only [sZ] at hj
    rw [Array.getElem?_setIfInBounds_ne (by omega)]
  · simp only [Ink]
    rw [heap_cell hX, Array.getElem?_setIfInBounds_self_of_lt (by omega)]
theorem spw1 (h : SpI lo ob V S w Fd 1 k q wr) (hr : (S 1)[k]? = some r) (hq : q < r.2) : SpI lo ob V S w Fd 1 k (q + 1) ((wr.setCell ⟨r.1, q, none⟩ (.slice (some ⟨wr.heap.size, 0, none⟩) 1 1)).alloc (.cells #[inkV] 3)) := by
  obtain ⟨s1, s2, s3, cs, s4, s5⟩ := h.choose_spec.1.shape 1 (by decide) r (List.mem_of_getElem? hr)
  have hlo := h.choose_spec.2.2.2
  have hob := block_lt h.choose_spec.1.box
  have hown := h.choose_spec.1.own
  simp only [sZ] at s5
  have hblt := block_lt s4
  have hX := (heap_set (o := q) (v := (.slice (some ⟨wr.heap.size, 0, none⟩) 1 1)) s4)
  have hlw := ((Below.refl lo wr).setCell (p := ⟨r.1, q, none⟩) s1.1 (.slice (some ⟨wr.heap.size, 0, none⟩) 1 1))
  have hsz : (wr.setCell ⟨r.1, q, none⟩ (.slice (some ⟨wr.heap.size, 0, none⟩) 1 1)).heap.size = wr.heap.size := by simp
  have hne : ∀ b, ¬ b = r.1 → (wr.setCell ⟨r.1, q, none⟩ (.slice (some ⟨wr.heap.size, 0, none⟩) 1 1)).heap[b]? = wr.heap[b]? := fun b hne => by rw [Below.heap_setCell _ _ _ _ hne]
  generalize (wr.setCell ⟨r.1, q, none⟩ (.slice (some ⟨wr.heap.size, 0, none⟩) 1 1)) = X at hX hlw hsz hne ⊢
  have hg := Gr.alloc (Gr.refl X) (.cells #[inkV] 3)
  have hX2 := (hg.block r.1 (by omega) (by simp)).trans hX
  have hnew : (X.alloc (.cells #[inkV] 3)).heap[wr.heap.size]? = some (.cells #[inkV] 3 (0, 0)) := by rw [← hsz]; exact heap_new _ _
  have hPn : PO lo ob V wr.heap.size := ⟨hlo, by omega, fun g hgg e => by have := ((hown g hgg).lt _ e).2; omega⟩
  refine h.write (by decide) hr hq (fun b hb hn => ?_) ?_ (hlw.grown hg (by omega) (by simp)) (fun cs' hcs' hs' => ?_) ?_
  · exact (hg.block b (by omega) (by simp)).trans (hne b hn)
  · have := hg.size; omega
  · rw [s4] at hcs'
    simp only [Option.some.injEq, Obj.cells.injEq] at hcs'
    obtain ⟨rfl, -⟩ := hcs'
    refine ⟨_, hX2, by simp, fun j hj => ?_⟩
    simp only [sZ] at hj
    rw [Array.getElem?_setIfInBounds_ne (by omega)]
  · simp only [Ink]
    refine ⟨wr.heap.size, ?_, hPn, hnew⟩
    · rw [heap_cell hX2, Array.getElem?_setIfInBounds_self_of_lt (by omega)]
theorem spw2 (h : SpI lo ob V S w Fd 2 k q wr) (hr : (S 2)[k]? = some r) (hq : q < r.2) : SpI lo ob V S w Fd 2 k (q + 1) (((wr.setCell ⟨r.1, q * 3, none⟩ inkV).setCell ⟨r.1, q * 3 + 1, none⟩ zI).setCell ⟨r.1, q * 3 + 2, none⟩ zI) := by
  obtain ⟨s1, s2, s3, cs, s4, s5⟩ := h.choose_spec.1.shape 2 (by decide) r (List.mem_of_getElem? hr)
  simp only [sZ] at s5
  have hX := (heap_set (o := q * 3 + 2) (v := zI) (heap_set (o := q * 3 + 1) (v := zI) (heap_set (o := q * 3) (v := inkV) s4)))
  refine h.write (by decide) hr hq (fun b hb hne => ?_) (by simp) ((((Below.refl lo wr).setCell (p := ⟨r.1, q * 3, none⟩) s1.1 inkV).setCell (p := ⟨r.1, q * 3 + 1, none⟩) s1.1 zI).setCell (p := ⟨r.1, q * 3 + 2, none⟩) s1.1 zI) (fun cs' hcs' hs' => ?_) ?_
  · rw [Below.heap_setCell _ _ _ _ hne, Below.heap_setCell _ _ _ _ hne, Below.heap_setCell _ _ _ _ hne]
  · rw [s4] at hcs'
    simp only [Option.some.injEq, Obj.cells.injEq] at hcs'
    obtain ⟨rfl, -⟩ := hcs'
    refine ⟨_, hX, by simp, fun j hj => ?_⟩
    simp only [sZ] at hj
    rw [Array.getElem?_setIfInBounds_ne (by omega), Array.getElem?_setIfInBounds_ne (by omega), Array.getElem?_setIfInBounds_ne (by omega)]
  · simp only [Ink]
    refine ⟨?_, ?_, ?_⟩
    · rw [heap_cell hX, Array.getElem?_setIfInBounds_ne (by omega), Array.getElem?_setIfInBounds_ne (by omega), Array.getElem?_setIfInBounds_self_of_lt (by omega)]
    · rw [heap_cell hX, Array.getElem?_setIfInBounds_ne (by omega), Array.getElem?_setIfInBounds_self_of_lt (by simp; omega)]
    · rw [heap_cell hX, Array.getElem?_setIfInBounds_self_of_lt (by simp; omega)]
theorem spw3 (h : SpI lo ob V S w Fd 3 k q wr) (hr : (S 3)[k]? = some r) (hq : q < r.2) : SpI lo ob V S w Fd 3 k (q + 1) ((((wr.setCell ⟨r.1, q * 4, none⟩ nS).setCell ⟨r.1, q * 4 + 1, none⟩ inkV).setCell ⟨r.1, q * 4 + 2, none⟩ nS).setCell ⟨r.1, q * 4 + 3, none⟩ nS) := by
  obtain ⟨s1, s2, s3, cs, s4, s5⟩ := h.choose_spec.1.shape 3 (by decide) r (List.mem_of_getElem? hr)
  simp only [sZ] at s5
  have hX := (heap_set (o := q * 4 + 3) (v := nS) (heap_set (o := q * 4 + 2) (v := nS) (heap_set (o := q * 4 + 1) (v := inkV) (heap_set (o := q * 4) (v := nS) s4))))
  refine h.write (by decide) hr hq (fun b hb hne => ?_) (by simp) (((((Below.refl lo wr).setCell (p := ⟨r.1, q * 4, none⟩) s1.1 nS).setCell (p := ⟨r.1, q * 4 + 1, none⟩) s1.1 inkV).setCell (p := ⟨r.1, q * 4 + 2, none⟩) s1.1 nS).setCell (p := ⟨r.1, q * 4 + 3, none⟩) s1.1 nS) (fun cs' hcs' hs' => ?_) ?_
  · rw [Below.heap_setCell _ _ _ _ hne, Below.heap_setCell _ _ _ _ hne, Below.heap_setCell _ _ _ _ hne, Below.heap_setCell _ _ _ _ hne]
  · rw [s4] at hcs'
    simp only [Option.some.injEq, Obj.cells.injEq] at hcs'
    obtain ⟨rfl, -⟩ := hcs'
    refine ⟨_, hX, by simp, fun j hj => ?_⟩
    simp only [sZ] at hj
    rw [Array.getElem?_setIfInBounds_ne (by omega), Array.getElem?_setIfInBounds_ne (by omega), Array.getElem?_setIfInBounds_ne (by omega), Array.getElem?_setIfInBounds_ne (by omega)]
  · simp only [Ink]
    refine ⟨?_, ?_, ?_, ?_⟩
    · rw [heap_cell hX, Array.getElem?_setIfInBounds_ne (by omega), Array.getElem?_setIfInBounds_ne (by omega), Array.getElem?_setIfInBounds_ne (by omega), Array.getElem?_setIfInBounds_self_of_lt (by omega)]
    · rw [heap_cell hX, Array.getElem?_setIfInBounds_ne (by omega), Array.getElem?_setIfInBounds_ne (by omega), Array.getElem?_setIfInBounds_self_of_lt (by simp; omega)]
    · rw [heap_cell hX, Array.getElem?_setIfInBounds_ne (by omega), Array.getElem?_setIfInBounds_self_of_lt (by simp; omega)]
    · rw [heap_cell hX, Array.getElem?_setIfInBounds_self_of_lt (by simp; omega)]
theorem spw4 (h : SpI lo ob V S w Fd 4 k q wr) (hr : (S 4)[k]? = some r) (hq : q < r.2) : SpI lo ob V S w Fd 4 k (q + 1) (((wr.setCell ⟨r.1, q * 3, none⟩ eS).setCell ⟨r.1, q * 3 + 1, none⟩ nS).setCell ⟨r.1, q * 3 + 2, none⟩ inkV) := by
  obtain ⟨s1, s2, s3, cs, s4, s5⟩ := h.choose_spec.1.shape 4 (by decide) r (List.mem_of_getElem? hr)
  simp only [sZ] at s5
  have hX := (heap_set (o := q * 3 + 2) (v := inkV) (heap_set (o := q * 3 + 1) (v := nS) (heap_set (o := q * 3) (v := eS) s4)))
  refine h.write (by decide) hr hq (fun b hb hne => ?_) (by simp) ((((Below.refl lo wr).setCell (p := ⟨r.1, q * 3, none⟩) s1.1 eS).setCell (p := ⟨r.1, q * 3 + 1, none⟩) s1.1 nS).setCell (p := ⟨r.1, q * 3 + 2, none⟩) s1.1 inkV) (fun cs' hcs' hs' => ?_) ?_
  · rw [Below.heap_setCell _ _ _ _ hne, Below.heap_setCell _ _ _ _ hne, Below.heap_setCell _ _ _ _ hne]
  · rw [s4] at hcs'
    simp only [Option.some.injEq, Obj.cells.injEq] at hcs'
    obtain ⟨rfl, -⟩ := hcs'
    refine ⟨_, hX, by simp, fun j hj => ?_⟩
    simp only [sZ] at hj
    rw [Array.getElem?_setIfInBounds_ne (by omega), Array.getElem?_setIfInBounds_ne (by omega), Array.getElem?_setIfInBounds_ne (by omega)]
  · simp only [Ink]
    refine ⟨?_, ?_, ?_⟩
    · rw [heap_cell hX, Array.getElem?_setIfInBounds_ne (by omega), Array.getElem?_setIfInBounds_ne (by omega), Array.getElem?_setIfInBounds_self_of_lt (by omega)]
    · rw [heap_cell hX, Array.getElem?_setIfInBounds_ne (by omega), Array.getElem?_setIfInBounds_self_of_lt (by simp; omega)]
    · rw [heap_cell hX, Array.getElem?_setIfInBounds_self_of_lt (by simp; omega)]
theorem spw5 (h : SpI lo ob V S w Fd 5 k q wr) (hr : (S 5)[k]? = some r) (hq : q < r.2) : SpI lo ob V S w Fd 5 k (q + 1) ((wr.setCell ⟨r.1, q * 2, none⟩ eS).setCell ⟨r.1, q * 2 + 1, none⟩ inkV) := by
  obtain ⟨s1, s2, s3, cs, s4, s5⟩ := h.choose_spec.1.shape 5 (by decide) r (List.mem_of_getElem? hr)
  simp only [sZ] at s5
  have hX := (heap_set (o := q * 2 + 1) (v := inkV) (heap_set (o := q * 2) (v := eS) s4))
  refine h.write (by decide) hr hq (fun b hb hne => ?_) (by simp) (((Below.refl lo wr).setCell (p := ⟨r.1, q * 2, none⟩) s1.1 eS).setCell (p := ⟨r.1, q * 2 + 1, none⟩) s1.1 inkV) (fun cs' hcs' hs' => ?_) ?_
  · rw [Below.heap_setCell _ _ _ _ hne, Below.heap_setCell _ _ _ _ hne]
  · rw [s4] at hcs'
    simp only [Option.some.injEq, Obj.cells.injEq] at hcs'
    obtain ⟨rfl, -⟩ := hcs'
    refine ⟨_, hX, by simp, fun j hj => ?_⟩
    simp only [sZ] at hj
    rw [Array.getElem?_setIfInBounds_ne (by omega), Array.getElem?_setIfInBounds_ne (by omega)]
  · simp only [Ink]
    refine ⟨?_, ?_⟩
    · rw [heap_cell hX, Array.getElem?_setIfInBounds_ne (by omega), Array.getElem?_setIfInBounds_self_of_lt (by omega)]
    · rw [heap_cell hX, Array.getElem?_setIfInBounds_self_of_lt (by simp; omega)]
theorem spw6 (h : SpI lo ob V S w Fd 6 k q wr) (hr : (S 6)[k]? = some r) (hq : q < r.2) : SpI lo ob V S w Fd 6 k (q + 1) (wr.setCell ⟨r.1, q, none⟩ inkT) := by
  obtain ⟨s1, s2, s3, cs, s4, s5⟩ := h.choose_spec.1.shape 6 (by decide) r (List.mem_of_getElem? hr)
  simp only [sZ] at s5
  have hX := (heap_set (o := q) (v := inkT) s4)
  refine h.write (by decide) hr hq (fun b hb hne => ?_) (by simp) ((Below.refl lo wr).setCell (p := ⟨r.1, q, none⟩) s1.1 inkT) (fun cs' hcs' hs' => ?_) ?_
  · rw [Below.heap_setCell _ _ _ _ hne]
  · rw [s4] at hcs'
    simp only [Option.some.injEq, Obj.cells.injEq] at hcs'
    obtain ⟨rfl, -⟩ := hcs'
    refine ⟨_, hX, by simp, fun j hj => ?_⟩
    simp only [sZ] at hj
    rw [Array.getElem?_setIfInBounds_ne (by omega)]
  · simp only [Ink]
    rw [heap_cell hX, Array.getElem?_setIfInBounds_self_of_lt (by omega)]
theorem spw7 (h : SpI lo ob V S w Fd 7 k q wr) (hr : (S 7)[k]? = some r) (hq : q < r.2) : SpI lo ob V S w Fd 7 k (q + 1) ((((((wr.setCell ⟨r.1, q * 5, none⟩ nS).setCell ⟨r.1, q * 5 + 1, none⟩ (.slice (some ⟨wr.heap.size, 0, none⟩) 1 1)).setCell ⟨r.1, q * 5 + 2, none⟩ nS).setCell ⟨r.1, q * 5 + 3, none⟩ nS).setCell ⟨r.1, q * 5 + 4, none⟩ nS).alloc (.cells #[inkV] 3)) := by
  obtain ⟨s1, s2, s3, cs, s4, s5⟩ := h.choose_spec.1.shape 7 (by decide) r (List.mem_of_getElem? hr)
  have hlo := h.choose_spec.2.2.2
  have hob := block_lt h.choose_spec.1.box
  have hown := h.choose_spec.1.own
  simp only [sZ] at s5
  have hblt := block_lt s4
  have hX := (heap_set (o := q * 5 + 4) (v := nS) (heap_set (o := q * 5 + 3) (v := nS) (heap_set (o := q * 5 + 2) (v := nS) (heap_set (o := q * 5 + 1) (v := (.slice (some ⟨wr.heap.size, 0, none⟩) 1 1)) (heap_set (o := q * 5) (v := nS) s4)))))
  have hlw := ((((((Below.refl lo wr).setCell (p := ⟨r.1, q * 5, none⟩) s1.1 nS).setCell (p := ⟨r.1, q * 5 + 1, none⟩) s1.1 (.slice (some ⟨wr.heap.size, 0, none⟩) 1 1)).setCell (p := ⟨r.1, q * 5 + 2, none⟩) s1.1 nS).setCell (p := ⟨r.1, q * 5 + 3, none⟩) s1.1 nS).setCell (p := ⟨r.1, q * 5 + 4, none⟩) s1.1 nS)
  have hsz : (((((wr.setCell ⟨r.1, q * 5, none⟩ nS).setCell ⟨r.1, q * 5 + 1, none⟩ (.slice (some ⟨wr.heap.size, 0, none⟩) 1 1)).setCell ⟨r.1, q * 5 + 2, none⟩ nS).setCell ⟨r.1, q * 5 + 3, none⟩ nS).setCell ⟨r.1, q * 5 + 4, none⟩ nS).heap.size = wr.heap.size := by simp
  have hne : ∀ b, ¬ b = r.1 → (((((wr.setCell ⟨r.1, q * 5, none⟩ nS).setCell ⟨r.1, q * 5 + 1, none⟩ (.slice (some ⟨wr.heap.size, 0, none⟩) 1 1)).setCell ⟨r.1, q * 5 + 2, none⟩ nS).setCell ⟨r.1, q * 5 + 3, none⟩ nS).setCell ⟨r.1, q * 5 + 4, none⟩ nS).heap[b]? = wr.heap[b]? := fun b hne => by rw [Below.heap_setCell _ _ _ _ hne, Below.heap_setCell _ _ _ _ hne, Below.heap_setCell _ _ _ _ hne, Below.heap_setCell _ _ _ _ hne, Below.heap_setCell _ _ _ _ hne]
  generalize (((((wr.setCell ⟨r.1, q * 5, none⟩ nS).setCell ⟨r.1, q * 5 + 1, none⟩ (.slice (some ⟨wr.heap.size, 0, none⟩) 1 1)).setCell ⟨r.1, q * 5 + 2, none⟩ nS).setCell ⟨r.1, q * 5 + 3, none⟩ nS).setCell ⟨r.1, q * 5 + 4, none⟩ nS) = X at hX hlw hsz hne ⊢
  have hg := Gr.alloc (Gr.refl X) (.cells #[inkV] 3)
  have hX2 := (hg.block r.1 (by omega) (by simp)).trans hX
  have hnew : (X.alloc (.cells #[inkV] 3)).heap[wr.heap.size]? = some (.cells #[inkV] 3 (0, 0)) := by rw [← hsz]; exact heap_new _ _
  have hPn : PO lo ob V wr.heap.size := ⟨hlo, by omega, fun g hgg e => by have := ((hown g hgg).lt _ e).2; omega⟩
  refine h.write (by decide) hr hq (fun b hb hn => ?_) ?_ (hlw.grown hg (by omega) (by simp)) (fun cs' hcs' hs' => ?_) ?_
  · exact (hg.block b (by omega) (by simp)).trans (hne b hn)
  · have := hg.size; omega
  · rw [s4] at hcs'
    simp only [Option.some.injEq, Obj.cells.injEq] at hcs'
    obtain ⟨rfl, -⟩ := hcs'
    refine ⟨_, hX2, by simp, fun j hj => ?_⟩
    simp only [sZ] at hj
    rw [Array.getElem?_setIfInBounds_ne (by omega), Array.getElem?_setIfInBounds_ne (by omega), Array.getElem?_setIfInBounds_ne (by omega), Array.getElem?_setIfInBounds_ne (by omega), Array.getElem?_setIfInBounds_ne (by omega)]
  · simp only [Ink]
    refine ⟨wr.heap.size, ?_, ?_, ?_, ?_, ?_, hPn, hnew⟩
    · rw [heap_cell hX2, Array.getElem?_setIfInBounds_ne (by omega), Array.getElem?_setIfInBounds_ne (by omega), Array.getElem?_setIfInBounds_ne (by omega), Array.getElem?_setIfInBounds_ne (by omega), Array.getElem?_setIfInBounds_self_of_lt (by omega)]
    · rw [heap_cell hX2, Array.getElem?_setIfInBounds_ne (by omega), Array.getElem?_setIfInBounds_ne (by omega), Array.getElem?_setIfInBounds_ne (by omega), Array.getElem?_setIfInBounds_self_of_lt (by simp; omega)]
    · rw [heap_cell hX2, Array.getElem?_setIfInBounds_ne (by omega), Array.getElem?_setIfInBounds_ne (by omega), Array.getElem?_setIfInBounds_self_of_lt (by simp; omega)]
    · rw [heap_cell hX2, Array.getElem?_setIfInBounds_ne (by omega), Array.getElem?_setIfInBounds_self_of_lt (by simp; omega)]
    · rw [heap_cell hX2, Array.getElem?_setIfInBounds_self_of_lt (by simp; omega)]
end
end Go.Proofs.YtkgncijcnlfhiaaDoor
