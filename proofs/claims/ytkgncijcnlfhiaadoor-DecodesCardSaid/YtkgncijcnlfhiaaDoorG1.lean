import Derived.Test.YtkgncijcnlfhiaaDoorH8
import Derived.Test.YtkgncijcnlfhiaaDoorBk3
import Derived.Test.YtkgncijcnlfhiaaDoorF3
import Derived.Test.YtkgncijcnlfhiaaDoorE1
namespace Go.Proofs.YtkgncijcnlfhiaaDoor
set_option linter.unusedVariables false
set_option linter.unusedSimpArgs false
open Go.RowKit
/-- what a block holds that is being filled: the elements, and zeros behind them -/
structure Cont {α : Type} (f : α → List Value) (n : Nat) (z : Array Value) (m : Nat) (es : List α) (cur : Array Value) : Prop where
  size : cur.size = m * n
  front : ∀ (j : Nat) (e : α), es[j]? = some e → ∀ q, q < n → cur[j * n + q]? = (f e)[q]?
  back : ∀ j, es.length * n ≤ j → j < m * n → cur[j]? = z[j % n]?
theorem Cont.start {α : Type} {f : α → List Value} {n : Nat} {z : Array Value} {m : Nat} (hz : z.size = n) (hn : 0 < n) : Cont f n z m [] (madeCells z (m * n)) :=
  ⟨size_madeCells _ _, fun j e h => by simp at h, fun j _ h2 => by rw [made_at (by omega) h2, hz]⟩
def R2 (sv : Value) (sh : List (List Int)) (es : List BF) : (Nat → Prop) → World → Prop := fun P w => RShapesP P w sv sh ∧ ∀ e ∈ es, RIntsP P w e.vp e.f.params ∧ RIntsP P w e.vl e.f.locals ∧ RCodeP P w e.vc e.f.code
def R3 (sv : Value) (sh : List (List Int)) (fv : Value) (fs : List PFunc) (es : List BI) : (Nat → Prop) → World → Prop := fun P w => RShapesP P w sv sh ∧ RFuncsP P w fv fs ∧ ∀ e ∈ es, RText e.vs e.i.name ∧ RIntsP P w e.vp e.i.params
end Go.Proofs.YtkgncijcnlfhiaaDoor

namespace Go.Proofs.YtkgncijcnlfhiaaDoor
set_option linter.unusedVariables false
set_option linter.unusedSimpArgs false
open Go.RowKit
structure SpS (lo ob : Nat) (V : Nat → Value) (S : Nat → List (Nat × Nat)) (D : Nat → Nat → Nat → Prop) (w : World) : Prop where
  box : w.heap[ob]? = some (.cells #[V 0, V 1, V 2, V 3, V 4, V 5, V 6, V 7] 52 (0, 0))
  low : lo ≤ ob
  own : ∀ f, f < 8 → w.ownsRow lo (oT f) 1 (V f) (S f).length ((S f).map rowV)
  shape : ∀ f, f < 8 → ∀ r ∈ S f, PO lo ob V r.1 ∧ 2 ≤ r.2 ∧ r.2 ≤ 10000000 ∧ ∃ cs : Array Value, w.heap[r.1]? = some (.cells cs (eT f) (0, 0)) ∧ cs.size = r.2 * sZ f
  inks : ∀ f, f < 8 → ∀ r ∈ S f, ∀ q, q < r.2 → D f r.1 q → Ink (PO lo ob V) w r.1 q f
structure Cov (S : Nat → List (Nat × Nat)) (Fd : List Nat) (f k q : Nat) (D : Nat → Nat → Nat → Prop) : Prop where
  old : ∀ g, g ∈ Fd → ∀ r ∈ S g, ∀ x, x < r.2 → D g r.1 x
  rows : ∀ i r, i < k → (S f)[i]? = some r → ∀ x, x < r.2 → D f r.1 x
  here : ∀ r, (S f)[k]? = some r → ∀ x, x < q → x < r.2 → D f r.1 x
def SpI (lo ob : Nat) (V : Nat → Value) (S : Nat → List (Nat × Nat)) (w : World) (Fd : List Nat) (f k q : Nat) (wr : World) : Prop :=
  ∃ D, SpS lo ob V S D wr ∧ Cov S Fd f k q D ∧ Below lo w wr ∧ lo ≤ wr.heap.size
section
variable {lo ob : Nat} {V : Nat → Value} {S : Nat → List (Nat × Nat)} {w : World} {Fd : List Nat} {f k q : Nat} {wr : World}
theorem SpI.start (h : OwnAt lo w ob false V S) (hl : lo ≤ w.heap.size) (f : Nat) : SpI lo ob V S w [] f 0 0 w :=
  ⟨fun _ _ _ => False, ⟨h.box, h.low, h.own, fun f hf r hr => ⟨(h.rows f hf r hr).here, (h.rows f hf r hr).two, (h.rows f hf r hr).most, (h.rows f hf r hr).cells⟩, fun _ _ _ _ _ _ h => h.elim⟩,
    ⟨fun g hg => (List.not_mem_nil hg).elim, fun i r hi => by omega, fun r hr x hx => by omega⟩, Below.refl _ _, hl⟩
theorem SpI.end_ (h : SpI lo ob V S w [6, 2, 0, 7, 5, 4, 3, 1] f k q wr) : OwnAt lo wr ob true V S ∧ Below lo w wr ∧ lo ≤ wr.heap.size := by
  obtain ⟨D, h1, h2, h3, h4⟩ := h
  have hall : ∀ g, g < 8 → g ∈ [6, 2, 0, 7, 5, 4, 3, 1] := by decide
  exact ⟨⟨h1.box, h1.low, h1.own, fun g hg r hr => ⟨(h1.shape g hg r hr).1, (h1.shape g hg r hr).2.1, (h1.shape g hg r hr).2.2.1, (h1.shape g hg r hr).2.2.2, fun x _ hx => h1.inks g hg r hr x hx (h2.old g (hall g hg) r hr x hx)⟩⟩, h3, h4⟩
theorem SpI.row (h : SpI lo ob V S w Fd f k q wr) (hf : f < 8) {r : Nat × Nat} {ao : Option Addr} {cap : Nat} (hV : V f = .slice ao (S f).length cap) (hr : (S f)[k]? = some r) :
    ∃ g, ao = some ⟨g, 0, none⟩ ∧ wr.cell? ⟨g, k, none⟩ = some (.slice (some ⟨r.1, 0, none⟩) r.2 r.2) ∧ 2 ≤ r.2 ∧ r.2 ≤ 10000000 ∧ (∀ j, j < r.2 * sZ f → (∃ x, wr.cell? ⟨r.1, j, none⟩ = some x) ∧ wr.frozen? ⟨r.1, j, none⟩ = false) ∧ r.1 < wr.heap.size ∧ ¬ r.1 = ob ∧ ¬ r.1 = g := by
  obtain ⟨D, h1, _⟩ := h
  have hkl : k < (S f).length := (List.getElem?_eq_some_iff.1 hr).1
  obtain ⟨g, k1, k2, ⟨cap', k3⟩, k4⟩ := own_at (h1.own f hf) (j := k) (by omega)
  obtain ⟨s1, s2, s3, cs, s4, s5⟩ := h1.shape f hf r (List.mem_of_getElem? hr)
  rw [hV] at k3
  simp only [Value.slice.injEq] at k3
  refine ⟨g, k3.1, ?_, s2, s3, fun j hj => ⟨⟨cs[j]'(by omega), by rw [heap_cell s4]; simp⟩, heap_frozen s4⟩, block_lt s4, s1.2.1, fun e => s1.2.2 f hf (e ▸ k1)⟩
  rw [Nat.zero_add] at k4
  rw [k4, List.getElem?_map, hr]; rfl
theorem Ink.cells {P : Nat → Prop} {w w' : World} {b x f : Nat} (h : Ink P w b x f) (hc : ∀ j, x * sZ f ≤ j → j < (x + 1) * sZ f → w'.cell? ⟨b, j, none⟩ = w.cell? ⟨b, j, none⟩)
    (hb : ∀ b', P b' → w.heap[b']? = some (.cells #[inkV] 3 (0, 0)) → w'.heap[b']? = w.heap[b']?) : Ink P w' b x f := by
  rcases f with _ | _ | _ | _ | _ | _ | _ | f <;> simp only [Ink, sZ] at h hc ⊢
  · rw [hc _ (by omega) (by omega)]; exact h
  · obtain ⟨b', h1, h2, h3⟩ := h
    exact ⟨b', by rw [hc _ (by omega) (by omega)]; exact h1, h2, (hb b' h2 h3).trans h3⟩
  · rw [hc _ (by omega) (by omega), hc _ (by omega) (by omega), hc _ (by omega) (by omega)]; exact h
  · rw [hc _ (by omega) (by omega), hc _ (by omega) (by omega), hc _ (by omega) (by omega), hc _ (by omega) (by omega)]; exact h
  · rw [hc _ (by omega) (by omega), hc _ (by omega) (by omega), hc _ (by omega) (by omega)]; exact h
  · rw [hc _ (by omega) (by omega), hc _ (by omega) (by omega)]; exact h
  · rw [hc _ (by omega) (by omega)]; exact h
  · obtain ⟨b', h0, h1, h4, h5, h6, h2, h3⟩ := h
    exact ⟨b', by rw [hc _ (by omega) (by omega)]; exact h0, by rw [hc _ (by omega) (by omega)]; exact h1, by rw [hc _ (by omega) (by omega)]; exact h4, by rw [hc _ (by omega) (by omega)]; exact h5, by rw [hc _ (by omega) (by omega)]; exact h6, h2, (hb b' h2 h3).trans h3⟩
end
end Go.Proofs.YtkgncijcnlfhiaaDoor

namespace Go.Proofs.YtkgncijcnlfhiaaDoor
set_option linter.unusedVariables false
set_option linter.unusedSimpArgs false
open Go.RowKit
attribute [local go_sem ↓] Go.wp_at_zero Go.wp_at_succ
theorem gr_drewN {w w' : World} (h : Gr w w') (n : Nat) : Gr w (w'.drewN n) := ⟨h.os, h.tape, h.output, h.size, h.block⟩
set_option maxRecDepth 100000 in
set_option maxHeartbeats 1000000 in
theorem same_ints (va vb : Value) (l : List Int) (w : World) (ha : RInts w va l) (hb : RInts w vb l) :
    Calls Tryd.prog 35 #[va, vb] w fun x w' => x = .returned (.bool true) ∧ Gr w w' := by
  have HA := hide ha
  have HBb := hide hb
  obtain ⟨a1, c1, rfl, hm, _⟩ := ha
  obtain ⟨a2, c2, rfl, _, _⟩ := hb
  unfold maxLen at hm
  go_enter Tryd.func35, Tryd.ntmps35
  go_wp2_with fail
  go_loopw [5] (fun i wr => ∃ k : Nat, i = .int .i64 k ∧ k ≤ l.length ∧ Gr w wr) (fun i _ => l.length - (intOf i).toNat)
  case atStart => exact ⟨0, rfl, Nat.zero_le _, Gr.refl _⟩
  case round =>
    obtain ⟨k, rfl, hk, hg⟩ := hrel
    by_cases hlt : k < l.length
    · obtain ⟨a1', c1', h1e, _, hc1⟩ := HA.out
      obtain ⟨a2', c2', h2e, _, hc2⟩ := HBb.out
      simp only [Value.slice.injEq, true_and] at h1e h2e
      obtain ⟨b1, o1, rfl, hx1⟩ := hc1 k hlt
      obtain ⟨b2, o2, rfl, hx2⟩ := hc2 k hlt
      obtain ⟨rfl, rfl⟩ := h1e
      obtain ⟨rfl, rfl⟩ := h2e
      have hy1 := hg.cell hx1 (by simp)
      have hy2 := hg.cell hx2 (by simp)
      generalize l.getD k 0 = x at hy1 hy2 hx1 hx2
      have HG := hide hg
      clear hc1 hc2 hx1 hx2 hg HA HBb
      go_wp2_with fail
      go_quiet (fail)
      go_wp2_with fail
      exact ⟨⟨k + 1, by simp, hlt, gr_drewN HG.out _⟩, by simp [intOf]; omega⟩
    · have hkk : k = l.length := by omega
      subst hkk
      have HG := hide hg
      clear hg
      go_wp2_with fail
      go_ret
      exact ⟨rfl, HG.out⟩
set_option maxRecDepth 100000 in
set_option maxHeartbeats 1000000 in
theorem same_code (va vb : Value) (l : List PIns) (w : World) (ha : RCode w va l) (hb : RCode w vb l) :
    Calls Tryd.prog 36 #[va, vb] w fun x w' => x = .returned (.bool true) ∧ Gr w w' := by
  have HA := hide ha
  have HBb := hide hb
  obtain ⟨a1, c1, rfl, hm, _⟩ := ha
  obtain ⟨a2, c2, rfl, _, _⟩ := hb
  unfold maxLen at hm
  go_enter Tryd.func36, Tryd.ntmps36
  go_wp2_with fail
  go_loopw [5] (fun i wr => ∃ k : Nat, i = .int .i64 k ∧ k ≤ l.length ∧ Gr w wr) (fun i _ => l.length - (intOf i).toNat)
  case atStart => exact ⟨0, rfl, Nat.zero_le _, Gr.refl _⟩
  case round =>
    obtain ⟨k, rfl, hk, hg⟩ := hrel
    by_cases hlt : k < l.length
    · obtain ⟨a1', c1', h1e, _, hc1⟩ := HA.out
      obtain ⟨a2', c2', h2e, _, hc2⟩ := HBb.out
      simp only [Value.slice.injEq, true_and] at h1e h2e
      obtain ⟨b1, o1, rfl, hx1, hx2, hx3⟩ := hc1 k _ (List.getElem?_eq_getElem hlt)
      obtain ⟨b2, o2, rfl, hz1, hz2, hz3⟩ := hc2 k _ (List.getElem?_eq_getElem hlt)
      obtain ⟨rfl, rfl⟩ := h1e
      obtain ⟨rfl, rfl⟩ := h2e
      have hx1' := hg.cell hx1 (by simp)
      have hx2' := hg.cell hx2 (by simp)
      have hx3' := hg.cell hx3 (by simp)
      have hz1' := hg.cell hz1 (by simp)
      have hz2' := hg.cell hz2 (by simp)
      have hz3' := hg.cell hz3 (by simp)
      generalize l[k] = c at hx1' hx2' hx3' hz1' hz2' hz3'
      have HG := hide hg
      clear hc1 hc2 hx1 hx2 hx3 hz1 hz2 hz3 hg HA HBb
      go_wp2_with fail
      go_quiet (fail)
      clear hx1' hx2' hx3' hz1' hz2' hz3'
      go_wp2_with fail
      exact ⟨⟨k + 1, by simp, hlt, gr_drewN HG.out _⟩, by simp [intOf]; omega⟩
    · have hkk : k = l.length := by omega
      subst hkk
      have HG := hide hg
      clear hg
      go_wp2_with fail
      go_ret
      exact ⟨rfl, HG.out⟩
end Go.Proofs.YtkgncijcnlfhiaaDoor

