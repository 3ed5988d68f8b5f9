import Derived.Test.YtkgncijcnlfhiaaDoorHc
import Derived.Test.YtkgncijcnlfhiaaDoorH5
namespace Go.Proofs.YtkgncijcnlfhiaaDoor
set_option linter.unusedVariables false
set_option linter.unusedSimpArgs false
open Go.RowKit
set_option maxRecDepth 100000 in
set_option maxHeartbeats 4000000 in
theorem spoilt_any (lo ob : Nat) (V : Nat → Value) (S : Nat → List (Nat × Nat)) (w : World) (h : OwnAt lo w ob true V S) :
    Calls Tryd.prog 18 #[.pointer (some ⟨ob, 0, none⟩)] w fun x w' => x = .returned (.bool true) ∧ w' = w := by
  have hnot : ∀ (x : Bool) (w : World), (Op.unary .not (.bool x)).run Tryd.prog w = .ok (.bool (!x)) w := fun _ _ => rfl
  go_enter Tryd.func18, Tryd.ntmps18
  go_wp2_with (go_at_call 39; refine (further_any lo ob V S true 0 rfl w h).mono ?_; rintro e w' ⟨rfl, hw'⟩; obtain rfl := hw'.symm)
  obtain ⟨⟨ao1, cap1, hV1⟩, hM1⟩ := h.form (f := 1) (by decide)
  have hob1 : w.cell? ⟨ob, 1, none⟩ = some (.slice ao1 (S 1).length cap1) := by rw [← hV1]; exact h.cell 1 (by decide)
  unfold maxLen at hM1
  have HR1 : ∀ i r, (S 1)[i]? = some r → Hid (∃ g, ao1 = some ⟨g, 0, none⟩ ∧ w.cell? ⟨g, i, none⟩ = some (.slice (some ⟨r.1, 0, none⟩) r.2 r.2) ∧ RowOk (PO lo ob V) w 1 true r) := fun i r hi => hide (by
    obtain ⟨g, cap, k1, k2, k3⟩ := h.row (f := 1) (by decide) hi
    rw [hV1] at k1
    simp only [Value.slice.injEq] at k1
    exact ⟨g, k1.1, k2, k3⟩)
  clear hV1
  go_wp2_with fail
  go_loopw [4] (fun i wr => ∃ k : Nat, k ≤ (S 1).length ∧ i = .int .i64 k ∧ w = wr) (fun i _ => (S 1).length - (intOf i).toNat)
  case atStart => exact ⟨0, Nat.zero_le _, rfl, rfl⟩
  case round =>
    obtain ⟨k, hk, rfl, rfl⟩ := hrel
    by_cases hlt : k < (S 1).length
    · obtain ⟨⟨b, m'⟩, hr⟩ := getElem?_lt hlt
      obtain ⟨g, rfl, hrow, hok⟩ := (HR1 k (b, m') hr).out
      obtain ⟨m, rfl⟩ : ∃ m, m' = m + 2 := ⟨m' - 2, by have := hok.two; simp only at this; omega⟩
      have hmm := hok.most
      simp only at hmm hrow
      have HIN : ∀ q, q < m + 2 → Hid (Ink (PO lo ob V) w b q 1) := fun q h2 => hide (hok.inked q (.inl rfl) (by simpa using h2))
      clear hok hr
      go_wp2_with fail
      go_loopw [5] (fun i wr => ∃ q : Nat, q ≤ m + 2 ∧ i = .int .i64 q ∧ w = wr) (fun i _ => m + 2 - (intOf i).toNat)
      case atStart => exact ⟨0, Nat.zero_le _, rfl, rfl⟩
      case round =>
        obtain ⟨q, hq2, rfl, rfl⟩ := hrel
        by_cases hqt : q < m + 2
        · have hi := (HIN q hqt).out
          simp only [Ink] at hi
          obtain ⟨b', f0, _, f5⟩ := hi
          have f6 : w.cell? ⟨b', 0, none⟩ = some inkV := by rw [heap_cell f5]; rfl
          clear f5
          clear HIN
          go_wp2_with fail
          go_roundw
          case rel => exact ⟨q + 1, by omega, by go_num, by first | rfl | trivial⟩
          case measure => simp [intOf]; omega
        · have hqq : q = m + 2 := by omega
          subst hqq
          clear HIN hqt hq2
          go_wp2_with fail
          go_roundw
          case rel => exact ⟨k + 1, by omega, by go_num, by first | rfl | trivial⟩
          case measure => simp [intOf]; omega
    · have hkk : k = (S 1).length := by omega
      subst hkk
      clear hlt hk HR1
      obtain ⟨⟨ao5, cap5, hV5⟩, hM5⟩ := h.form (f := 5) (by decide)
      have hob5 : w.cell? ⟨ob, 5, none⟩ = some (.slice ao5 (S 5).length cap5) := by rw [← hV5]; exact h.cell 5 (by decide)
      unfold maxLen at hM5
      have HR5 : ∀ i r, (S 5)[i]? = some r → Hid (∃ g, ao5 = some ⟨g, 0, none⟩ ∧ w.cell? ⟨g, i, none⟩ = some (.slice (some ⟨r.1, 0, none⟩) r.2 r.2) ∧ RowOk (PO lo ob V) w 5 true r) := fun i r hi => hide (by
        obtain ⟨g, cap, k1, k2, k3⟩ := h.row (f := 5) (by decide) hi
        rw [hV5] at k1
        simp only [Value.slice.injEq] at k1
        exact ⟨g, k1.1, k2, k3⟩)
      clear hV5
      go_wp2_with fail
      go_loopw [6] (fun i wr => ∃ k : Nat, k ≤ (S 5).length ∧ i = .int .i64 k ∧ w = wr) (fun i _ => (S 5).length - (intOf i).toNat)
      case atStart => exact ⟨0, Nat.zero_le _, rfl, rfl⟩
      case round =>
        obtain ⟨k, hk, rfl, rfl⟩ := hrel
        by_cases hlt : k < (S 5).length
        · obtain ⟨⟨b, m'⟩, hr⟩ := getElem?_lt hlt
          obtain ⟨g, rfl, hrow, hok⟩ := (HR5 k (b, m') hr).out
          obtain ⟨m, rfl⟩ : ∃ m, m' = m + 2 := ⟨m' - 2, by have := hok.two; simp only at this; omega⟩
          have hmm := hok.most
          simp only at hmm hrow
          have HIN : ∀ q, q < m + 2 → Hid (Ink (PO lo ob V) w b q 5) := fun q h2 => hide (hok.inked q (.inl rfl) (by simpa using h2))
          clear hok hr
          go_wp2_with fail
          go_loopw [7] (fun i wr => ∃ q : Nat, q ≤ m + 2 ∧ i = .int .i64 q ∧ w = wr) (fun i _ => m + 2 - (intOf i).toNat)
          case atStart => exact ⟨0, Nat.zero_le _, rfl, rfl⟩
          case round =>
            obtain ⟨q, hq2, rfl, rfl⟩ := hrel
            by_cases hqt : q < m + 2
            · have hi := (HIN q hqt).out
              simp only [Ink] at hi
              obtain ⟨f0, f1⟩ := hi
              clear HIN
              go_wp2_with fail
              go_roundw
              case rel => exact ⟨q + 1, by omega, by go_num, by first | rfl | trivial⟩
              case measure => simp [intOf]; omega
            · have hqq : q = m + 2 := by omega
              subst hqq
              clear HIN hqt hq2
              go_wp2_with fail
              go_roundw
              case rel => exact ⟨k + 1, by omega, by go_num, by first | rfl | trivial⟩
              case measure => simp [intOf]; omega
        · have hkk : k = (S 5).length := by omega
          subst hkk
          clear hlt hk HR5
          obtain ⟨⟨ao0, cap0, hV0⟩, hM0⟩ := h.form (f := 0) (by decide)
          have hob0 : w.cell? ⟨ob, 0, none⟩ = some (.slice ao0 (S 0).length cap0) := by rw [← hV0]; exact h.cell 0 (by decide)
          unfold maxLen at hM0
          have HR0 : ∀ i r, (S 0)[i]? = some r → Hid (∃ g, ao0 = some ⟨g, 0, none⟩ ∧ w.cell? ⟨g, i, none⟩ = some (.slice (some ⟨r.1, 0, none⟩) r.2 r.2) ∧ RowOk (PO lo ob V) w 0 true r) := fun i r hi => hide (by
            obtain ⟨g, cap, k1, k2, k3⟩ := h.row (f := 0) (by decide) hi
            rw [hV0] at k1
            simp only [Value.slice.injEq] at k1
            exact ⟨g, k1.1, k2, k3⟩)
          clear hV0
          go_wp2_with fail
          go_loopw [8] (fun i wr => ∃ k : Nat, k ≤ (S 0).length ∧ i = .int .i64 k ∧ w = wr) (fun i _ => (S 0).length - (intOf i).toNat)
          case atStart => exact ⟨0, Nat.zero_le _, rfl, rfl⟩
          case round =>
            obtain ⟨k, hk, rfl, rfl⟩ := hrel
            by_cases hlt : k < (S 0).length
            · obtain ⟨⟨b, m'⟩, hr⟩ := getElem?_lt hlt
              obtain ⟨g, rfl, hrow, hok⟩ := (HR0 k (b, m') hr).out
              obtain ⟨m, rfl⟩ : ∃ m, m' = m + 2 := ⟨m' - 2, by have := hok.two; simp only at this; omega⟩
              have hmm := hok.most
              simp only at hmm hrow
              have HIN : ∀ q, q < m + 2 → Hid (Ink (PO lo ob V) w b q 0) := fun q h2 => hide (hok.inked q (.inl rfl) (by simpa using h2))
              clear hok hr
              go_wp2_with fail
              go_loopw [9] (fun i wr => ∃ q : Nat, q ≤ m + 2 ∧ i = .int .i64 q ∧ w = wr) (fun i _ => m + 2 - (intOf i).toNat)
              case atStart => exact ⟨0, Nat.zero_le _, rfl, rfl⟩
              case round =>
                obtain ⟨q, hq2, rfl, rfl⟩ := hrel
                by_cases hqt : q < m + 2
                · have hi := (HIN q hqt).out
                  simp only [Ink] at hi
                  clear HIN
                  go_wp2_with fail
                  go_roundw
                  case rel => exact ⟨q + 1, by omega, by go_num, by first | rfl | trivial⟩
                  case measure => simp [intOf]; omega
                · have hqq : q = m + 2 := by omega
                  subst hqq
                  clear HIN hqt hq2
                  go_wp2_with fail
                  go_roundw
                  case rel => exact ⟨k + 1, by omega, by go_num, by first | rfl | trivial⟩
                  case measure => simp [intOf]; omega
            · have hkk : k = (S 0).length := by omega
              subst hkk
              clear hlt hk HR0
              obtain ⟨⟨ao2, cap2, hV2⟩, hM2⟩ := h.form (f := 2) (by decide)
              have hob2 : w.cell? ⟨ob, 2, none⟩ = some (.slice ao2 (S 2).length cap2) := by rw [← hV2]; exact h.cell 2 (by decide)
              unfold maxLen at hM2
              have HR2 : ∀ i r, (S 2)[i]? = some r → Hid (∃ g, ao2 = some ⟨g, 0, none⟩ ∧ w.cell? ⟨g, i, none⟩ = some (.slice (some ⟨r.1, 0, none⟩) r.2 r.2) ∧ RowOk (PO lo ob V) w 2 true r) := fun i r hi => hide (by
                obtain ⟨g, cap, k1, k2, k3⟩ := h.row (f := 2) (by decide) hi
                rw [hV2] at k1
                simp only [Value.slice.injEq] at k1
                exact ⟨g, k1.1, k2, k3⟩)
              clear hV2
              go_wp2_with fail
              go_loopw [10] (fun i wr => ∃ k : Nat, k ≤ (S 2).length ∧ i = .int .i64 k ∧ w = wr) (fun i _ => (S 2).length - (intOf i).toNat)
              case atStart => exact ⟨0, Nat.zero_le _, rfl, rfl⟩
              case round =>
                obtain ⟨k, hk, rfl, rfl⟩ := hrel
                by_cases hlt : k < (S 2).length
                · obtain ⟨⟨b, m'⟩, hr⟩ := getElem?_lt hlt
                  obtain ⟨g, rfl, hrow, hok⟩ := (HR2 k (b, m') hr).out
                  obtain ⟨m, rfl⟩ : ∃ m, m' = m + 2 := ⟨m' - 2, by have := hok.two; simp only at this; omega⟩
                  have hmm := hok.most
                  simp only at hmm hrow
                  have HIN : ∀ q, q < m + 2 → Hid (Ink (PO lo ob V) w b q 2) := fun q h2 => hide (hok.inked q (.inl rfl) (by simpa using h2))
                  clear hok hr
                  go_wp2_with fail
                  go_loopw [11] (fun i wr => ∃ q : Nat, q ≤ m + 2 ∧ i = .int .i64 q ∧ w = wr) (fun i _ => m + 2 - (intOf i).toNat)
                  case atStart => exact ⟨0, Nat.zero_le _, rfl, rfl⟩
                  case round =>
                    obtain ⟨q, hq2, rfl, rfl⟩ := hrel
                    by_cases hqt : q < m + 2
                    · have hi := (HIN q hqt).out
                      simp only [Ink] at hi
                      obtain ⟨f0, f1, f2⟩ := hi
                      clear HIN
                      go_wp2_with fail
                      go_roundw
                      case rel => exact ⟨q + 1, by omega, by go_num, by first | rfl | trivial⟩
                      case measure => simp [intOf]; omega
                    · have hqq : q = m + 2 := by omega
                      subst hqq
                      clear HIN hqt hq2
                      go_wp2_with fail
                      go_roundw
                      case rel => exact ⟨k + 1, by omega, by go_num, by first | rfl | trivial⟩
                      case measure => simp [intOf]; omega
                · have hkk : k = (S 2).length := by omega
                  subst hkk
                  clear hlt hk HR2
                  obtain ⟨⟨ao6, cap6, hV6⟩, hM6⟩ := h.form (f := 6) (by decide)
                  have hob6 : w.cell? ⟨ob, 6, none⟩ = some (.slice ao6 (S 6).length cap6) := by rw [← hV6]; exact h.cell 6 (by decide)
                  unfold maxLen at hM6
                  have HR6 : ∀ i r, (S 6)[i]? = some r → Hid (∃ g, ao6 = some ⟨g, 0, none⟩ ∧ w.cell? ⟨g, i, none⟩ = some (.slice (some ⟨r.1, 0, none⟩) r.2 r.2) ∧ RowOk (PO lo ob V) w 6 true r) := fun i r hi => hide (by
                    obtain ⟨g, cap, k1, k2, k3⟩ := h.row (f := 6) (by decide) hi
                    rw [hV6] at k1
                    simp only [Value.slice.injEq] at k1
                    exact ⟨g, k1.1, k2, k3⟩)
                  clear hV6
                  go_wp2_with fail
                  go_loopw [12] (fun i wr => ∃ k : Nat, k ≤ (S 6).length ∧ i = .int .i64 k ∧ w = wr) (fun i _ => (S 6).length - (intOf i).toNat)
                  case atStart => exact ⟨0, Nat.zero_le _, rfl, rfl⟩
                  case round =>
                    obtain ⟨k, hk, rfl, rfl⟩ := hrel
                    by_cases hlt : k < (S 6).length
                    · obtain ⟨⟨b, m'⟩, hr⟩ := getElem?_lt hlt
                      obtain ⟨g, rfl, hrow, hok⟩ := (HR6 k (b, m') hr).out
                      obtain ⟨m, rfl⟩ : ∃ m, m' = m + 2 := ⟨m' - 2, by have := hok.two; simp only at this; omega⟩
                      have hmm := hok.most
                      simp only at hmm hrow
                      have HIN : ∀ q, q < m + 2 → Hid (Ink (PO lo ob V) w b q 6) := fun q h2 => hide (hok.inked q (.inl rfl) (by simpa using h2))
                      clear hok hr
                      go_wp2_with fail
                      go_loopw [13] (fun i wr => ∃ q : Nat, q ≤ m + 2 ∧ i = .int .i64 q ∧ w = wr) (fun i _ => m + 2 - (intOf i).toNat)
                      case atStart => exact ⟨0, Nat.zero_le _, rfl, rfl⟩
                      case round =>
                        obtain ⟨q, hq2, rfl, rfl⟩ := hrel
                        by_cases hqt : q < m + 2
                        · have hi := (HIN q hqt).out
                          simp only [Ink] at hi
                          clear HIN
                          go_wp2_with fail
                          go_roundw
                          case rel => exact ⟨q + 1, by omega, by go_num, by first | rfl | trivial⟩
                          case measure => simp [intOf]; omega
                        · have hqq : q = m + 2 := by omega
                          subst hqq
                          clear HIN hqt hq2
                          go_wp2_with fail
                          go_roundw
                          case rel => exact ⟨k + 1, by omega, by go_num, by first | rfl | trivial⟩
                          case measure => simp [intOf]; omega
                    · have hkk : k = (S 6).length := by omega
                      subst hkk
                      clear hlt hk HR6
                      go_wp2_with fail
                      go_ret
                      exact ⟨rfl, rfl⟩
end Go.Proofs.YtkgncijcnlfhiaaDoor

namespace Go.Proofs.YtkgncijcnlfhiaaDoor
set_option linter.unusedVariables false
set_option linter.unusedSimpArgs false
open Go.RowKit
/-- a block that is no part of the Own's own, and new -/
def PN (lo ob : Nat) (V : Nat → Value) (N b : Nat) : Prop := PO lo ob V b ∧ N ≤ b
theorem Ink.mono {P P' : Nat → Prop} {w : World} {b k f : Nat} (h : Ink P w b k f) (g : ∀ b, P b → b < w.heap.size → P' b) : Ink P' w b k f := by
  rcases f with _ | _ | _ | _ | _ | _ | _ | f <;> simp only [Ink] at h ⊢
  · exact h
  · obtain ⟨b', h1, h2, h3⟩ := h
    exact ⟨b', h1, g b' h2 (block_lt h3), h3⟩
  · exact h
  · exact h
  · exact h
  · exact h
  · exact h
  · obtain ⟨b', h0, h1, h4, h5, h6, h2, h3⟩ := h
    exact ⟨b', h0, h1, h4, h5, h6, g b' h2 (block_lt h3), h3⟩
structure SpS (lo ob : Nat) (V : Nat → Value) (S : Nat → List (Nat × Nat)) (w0 : World) (D : Nat → Nat → Nat → Prop) (w : World) : Prop where
  box : w.heap[ob]? = some (.cells #[V 0, V 1, V 2, V 3, V 4, V 5, V 6, V 7] 52 (0, 0))
  low : lo ≤ ob
  own : ∀ f, f < 8 → w.ownsRow lo (oT f) 1 (V f) (S f).length ((S f).map rowV)
  shape : ∀ f, f < 8 → ∀ r ∈ S f, PO lo ob V r.1 ∧ 2 ≤ r.2 ∧ r.2 ≤ 10000000 ∧ ∃ cs : Array Value, w.heap[r.1]? = some (.cells cs (eT f) (0, 0)) ∧ cs.size = r.2 * sZ f
  inks : ∀ f, f < 8 → ∀ r ∈ S f, ∀ q, q < r.2 → D f r.1 q → Ink (PN lo ob V w0.heap.size) w r.1 q f
  size : w0.heap.size ≤ w.heap.size
  frame : ∀ b, b < w0.heap.size → (∀ f, f < 8 → ∀ r ∈ S f, ¬ r.1 = b) → w.heap[b]? = w0.heap[b]?
structure Cov (S : Nat → List (Nat × Nat)) (Fd : List Nat) (f k q : Nat) (D : Nat → Nat → Nat → Prop) : Prop where
  old : ∀ g, g ∈ Fd → ∀ r ∈ S g, ∀ x, x < r.2 → D g r.1 x
  rows : ∀ i r, i < k → (S f)[i]? = some r → ∀ x, x < r.2 → D f r.1 x
  here : ∀ r, (S f)[k]? = some r → ∀ x, x < q → x < r.2 → D f r.1 x
def SpI (lo ob : Nat) (V : Nat → Value) (S : Nat → List (Nat × Nat)) (w : World) (Fd : List Nat) (f k q : Nat) (wr : World) : Prop :=
  ∃ D, SpS lo ob V S w D wr ∧ Cov S Fd f k q D ∧ Below lo w wr ∧ lo ≤ wr.heap.size
section
variable {lo ob : Nat} {V : Nat → Value} {S : Nat → List (Nat × Nat)} {w : World} {Fd : List Nat} {f k q : Nat} {wr : World}
theorem SpI.start (h : OwnAt lo w ob false V S) (hl : lo ≤ w.heap.size) (f : Nat) : SpI lo ob V S w [] f 0 0 w :=
  ⟨fun _ _ _ => False, ⟨h.box, h.low, h.own, fun f hf r hr => ⟨(h.rows f hf r hr).here, (h.rows f hf r hr).two, (h.rows f hf r hr).most, (h.rows f hf r hr).cells⟩, fun _ _ _ _ _ _ h => h.elim, Nat.le_refl _, fun _ _ _ => rfl⟩,
    ⟨fun g hg => (List.not_mem_nil hg).elim, fun i r hi => by omega, fun r hr x hx => by omega⟩, Below.refl _ _, hl⟩
theorem SpI.next (h : SpI lo ob V S w Fd f k q wr) {r : Nat × Nat} (hr : (S f)[k]? = some r) (hq : r.2 ≤ q) : SpI lo ob V S w Fd f (k + 1) 0 wr := by
  obtain ⟨D, h1, h2, h3⟩ := h
  refine ⟨D, h1, ⟨h2.old, fun i r' hi hr' x hx => ?_, fun _ _ x hx => by omega⟩, h3⟩
  by_cases hik : i < k
  · exact h2.rows i r' hik hr' x hx
  · have : i = k := by omega
    subst this
    rw [hr] at hr'; cases hr'
    exact h2.here r hr x (by omega) hx
theorem SpI.done (h : SpI lo ob V S w Fd f k q wr) (hk : (S f).length ≤ k) (g : Nat) : SpI lo ob V S w (f :: Fd) g 0 0 wr := by
  obtain ⟨D, h1, h2, h3⟩ := h
  refine ⟨D, h1, ⟨fun g' hg r hr x hx => ?_, fun i r hi => by omega, fun _ _ x hx => by omega⟩, h3⟩
  rcases List.mem_cons.1 hg with e | e
  · subst e
    obtain ⟨i, hi⟩ := List.getElem?_of_mem hr
    exact h2.rows i r (by have := (List.getElem?_eq_some_iff.1 hi).1; omega) hi x hx
  · exact h2.old g' e r hr x hx
theorem SpI.end_ (h : SpI lo ob V S w [6, 2, 0, 7, 5, 4, 3, 1] f k q wr) : OwnAt lo wr ob true V S ∧ Below lo w wr ∧ lo ≤ wr.heap.size := by
  obtain ⟨D, h1, h2, h3, h4⟩ := h
  have hall : ∀ g, g < 8 → g ∈ [6, 2, 0, 7, 5, 4, 3, 1] := by decide
  exact ⟨⟨h1.box, h1.low, h1.own, fun g hg r hr => ⟨(h1.shape g hg r hr).1, (h1.shape g hg r hr).2.1, (h1.shape g hg r hr).2.2.1, (h1.shape g hg r hr).2.2.2, fun x _ hx => (h1.inks g hg r hr x hx (h2.old g (hall g hg) r hr x hx)).mono fun _ hb _ => hb.1⟩⟩, h3, h4⟩
/-- what was written over, and by what -/
structure SpE (lo ob : Nat) (V : Nat → Value) (S : Nat → List (Nat × Nat)) (w0 w : World) : Prop where
  size : w0.heap.size ≤ w.heap.size
  frame : ∀ b, b < w0.heap.size → (∀ f, f < 8 → ∀ r ∈ S f, ¬ r.1 = b) → w.heap[b]? = w0.heap[b]?
  inks : ∀ f, f < 8 → ∀ r ∈ S f, ∀ q, q < r.2 → Ink (PN lo ob V w0.heap.size) w r.1 q f
theorem SpI.end2 (h : SpI lo ob V S w [6, 2, 0, 7, 5, 4, 3, 1] f k q wr) : SpE lo ob V S w wr := by
  obtain ⟨D, h1, h2, h3, h4⟩ := h
  have hall : ∀ g, g < 8 → g ∈ [6, 2, 0, 7, 5, 4, 3, 1] := by decide
  exact ⟨h1.size, h1.frame, fun g hg r hr x hx => h1.inks g hg r hr x hx (h2.old g (hall g hg) r hr x hx)⟩
theorem SpI.form (h : SpI lo ob V S w Fd f k q wr) {g : Nat} (hg : g < 8) : ∃ ao cap, V g = .slice ao (S g).length cap ∧ wr.cell? ⟨ob, g, none⟩ = some (.slice ao (S g).length cap) ∧ (S g).length ≤ maxLen := by
  obtain ⟨D, h1, _⟩ := h
  obtain ⟨⟨ao, cap, hv⟩, hm⟩ := own_form (h1.own g hg)
  refine ⟨ao, cap, hv, ?_, hm⟩
  rw [← hv, heap_cell h1.box]
  rcases g with _ | _ | _ | _ | _ | _ | _ | _ | g
  all_goals first | rfl | omega
theorem SpI.row (h : SpI lo ob V S w Fd f k q wr) (hf : f < 8) {r : Nat × Nat} {ao : Option Addr} {cap : Nat} (hV : V f = .slice ao (S f).length cap) (hr : (S f)[k]? = some r) :
    ∃ g, ao = some ⟨g, 0, none⟩ ∧ wr.cell? ⟨g, k, none⟩ = some (.slice (some ⟨r.1, 0, none⟩) r.2 r.2) ∧ 2 ≤ r.2 ∧ r.2 ≤ 10000000 ∧ (∀ j, j < r.2 * sZ f → (∃ x, wr.cell? ⟨r.1, j, none⟩ = some x) ∧ wr.frozen? ⟨r.1, j, none⟩ = false) ∧ r.1 < wr.heap.size ∧ ¬ r.1 = ob ∧ ¬ r.1 = g := by
  obtain ⟨D, h1, _⟩ := h
  have hkl : k < (S f).length := (List.getElem?_eq_some_iff.1 hr).1
  obtain ⟨g, k1, k2, ⟨cap', k3⟩, k4⟩ := own_at (h1.own f hf) (j := k) (by omega)
  obtain ⟨s1, s2, s3, cs, s4, s5⟩ := h1.shape f hf r (List.mem_of_getElem? hr)
  rw [hV] at k3
  simp only [Value.slice.injEq] at k3
  refine ⟨g, k3.1, ?_, s2, s3, fun j hj => ⟨⟨cs[j]'(by omega), by rw [heap_cell s4]; simp⟩, heap_frozen s4⟩, block_lt s4, s1.2.1, fun e => s1.2.2 f hf (e ▸ k1)⟩
  rw [Nat.zero_add] at k4
  rw [k4, List.getElem?_map, hr]; rfl
theorem eT_inj : ∀ f, f < 8 → ∀ g, g < 8 → eT f = eT g → f = g := by decide
theorem Ink.cells {P : Nat → Prop} {w w' : World} {b x f : Nat} (h : Ink P w b x f) (hc : ∀ j, x * sZ f ≤ j → j < (x + 1) * sZ f → w'.cell? ⟨b, j, none⟩ = w.cell? ⟨b, j, none⟩)
    (hb : ∀ b', P b' → w.heap[b']? = some (.cells #[inkV] 3 (0, 0)) → w'.heap[b']? = w.heap[b']?) : Ink P w' b x f := by
  rcases f with _ | _ | _ | _ | _ | _ | _ | f <;> simp only [Ink, sZ] at h hc ⊢
  · rw [hc _ (by omega) (by omega)]; exact h
  · obtain ⟨b', h1, h2, h3⟩ := h
    exact ⟨b', by rw [hc _ (by omega) (by omega)]; exact h1, h2, (hb b' h2 h3).trans h3⟩
  · rw [hc _ (by omega) (by omega), hc _ (by omega) (by omega), hc _ (by omega) (by omega)]; exact h
  · rw [hc _ (by omega) (by omega), hc _ (by omega) (by omega), hc _ (by omega) (by omega), hc _ (by omega) (by omega)]; exact h
  · rw [hc _ (by omega) (by omega), hc _ (by omega) (by omega), hc _ (by omega) (by omega)]; exact h
  · rw [hc _ (by omega) (by omega), hc _ (by omega) (by omega)]; exact h
  · rw [hc _ (by omega) (by omega)]; exact h
  · obtain ⟨b', h0, h1, h4, h5, h6, h2, h3⟩ := h
    exact ⟨b', by rw [hc _ (by omega) (by omega)]; exact h0, by rw [hc _ (by omega) (by omega)]; exact h1, by rw [hc _ (by omega) (by omega)]; exact h4, by rw [hc _ (by omega) (by omega)]; exact h5, by rw [hc _ (by omega) (by omega)]; exact h6, h2, (hb b' h2 h3).trans h3⟩
/-- an element is written -/
theorem SpI.write {w' : World} {r : Nat × Nat} (h : SpI lo ob V S w Fd f k q wr) (hf : f < 8) (hr : (S f)[k]? = some r) (hq : q < r.2)
    (hfr : ∀ b, b < wr.heap.size → ¬ b = r.1 → w'.heap[b]? = wr.heap[b]?) (hsz : wr.heap.size ≤ w'.heap.size) (hlow : Below lo wr w')
    (hblk : ∀ cs : Array Value, wr.heap[r.1]? = some (.cells cs (eT f) (0, 0)) → cs.size = r.2 * sZ f → ∃ cs' : Array Value, w'.heap[r.1]? = some (.cells cs' (eT f) (0, 0)) ∧ cs'.size = cs.size ∧ ∀ j, (j < q * sZ f ∨ (q + 1) * sZ f ≤ j) → cs'[j]? = cs[j]?)
    (hink : Ink (PN lo ob V w.heap.size) w' r.1 q f) : SpI lo ob V S w Fd f k (q + 1) w' := by
  obtain ⟨D, h1, h2, h3, h4⟩ := h
  have hrm := List.mem_of_getElem? hr
  obtain ⟨s1, s2, s3, cs, s4, s5⟩ := h1.shape f hf r hrm
  obtain ⟨cs', t1, t2, t3⟩ := hblk cs s4 s5
  have hib : ∀ b', PN lo ob V w.heap.size b' → wr.heap[b']? = some (.cells #[inkV] 3 (0, 0)) → w'.heap[b']? = wr.heap[b']? := fun b' _ hb' => hfr b' (block_lt hb') (fun e => by
    rw [e, s4] at hb'
    simp only [Option.some.injEq, Obj.cells.injEq] at hb'
    have hf0 : f = 0 := eT_inj f hf 0 (by decide) hb'.2.1
    subst hf0
    have e1 : cs.size = 1 := by rw [hb'.1]; rfl
    have e2 : sZ 0 = 1 := rfl
    rw [e2] at s5; omega)
  refine ⟨fun g b x => D g b x ∨ (g = f ∧ b = r.1 ∧ x = q), ⟨?_, h1.low, fun g hg => ?_, fun g hg r' hr' => ?_, fun g hg r' hr' x hx hd => ?_, Nat.le_trans h1.size hsz, fun b hb hn => (hfr b (Nat.lt_of_lt_of_le hb h1.size) (fun e => hn f hf r hrm e.symm)).trans (h1.frame b hb hn)⟩, ⟨fun g hg r' hr' x hx => .inl (h2.old g hg r' hr' x hx), fun i r' hi hr' x hx => .inl (h2.rows i r' hi hr' x hx), fun r' hr' x hx hx2 => ?_⟩, h3.trans hlow, Nat.le_trans h4 hsz⟩
  · exact (hfr ob (block_lt h1.box) (fun e => s1.2.1 e.symm)).trans h1.box
  · refine ownsRow_same (h1.own g hg) fun y hy => hfr y ?_ (fun e => s1.2.2 g hg (e ▸ hy))
    exact ((h1.own g hg).lt y hy).2
  · obtain ⟨u1, u2, u3, c, u4, u5⟩ := h1.shape g hg r' hr'
    refine ⟨u1, u2, u3, ?_⟩
    by_cases hb : r'.1 = r.1
    · rw [hb, s4] at u4
      simp only [Option.some.injEq, Obj.cells.injEq] at u4
      have hgf : f = g := eT_inj f hf g hg u4.2.1
      subst hgf
      exact ⟨cs', by rw [hb]; exact t1, by rw [t2, u4.1]; exact u5⟩
    · exact ⟨c, (hfr r'.1 (block_lt u4) hb).trans u4, u5⟩
  · obtain ⟨u1, u2, u3, c, u4, u5⟩ := h1.shape g hg r' hr'
    by_cases hb : r'.1 = r.1
    · have hgf : f = g := by
        rw [hb, s4] at u4
        simp only [Option.some.injEq, Obj.cells.injEq] at u4
        exact eT_inj f hf g hg u4.2.1
      subst hgf
      by_cases hxq : x = q
      · subst hxq; rw [hb]; exact hink
      · have hd' : D f r'.1 x := by
          rcases hd with hd | hd
          · exact hd
          · exact absurd hd.2.2 hxq
        refine (h1.inks f hf r' hr' x hx hd').cells (fun j j1 j2 => ?_) hib
        rw [hb, heap_cell t1, heap_cell s4]
        apply t3
        by_cases hlt : x < q
        · left
          have := Nat.mul_le_mul_right (sZ f) (show x + 1 ≤ q by omega); omega
        · right
          have := Nat.mul_le_mul_right (sZ f) (show q + 1 ≤ x by omega); omega
    · have hd' : D g r'.1 x := by
        rcases hd with hd | hd
        · exact hd
        · exact absurd hd.2.1 hb
      exact (h1.inks g hg r' hr' x hx hd').cells (fun j _ _ => World.cell?_of_block (a := ⟨r'.1, j, none⟩) (hfr r'.1 (block_lt u4) hb)) hib
  · rw [hr] at hr'; cases hr'
    by_cases hxq : x = q
    · exact .inr ⟨rfl, rfl, hxq⟩
    · exact .inl (h2.here r hr x (by omega) hx2)
end
end Go.Proofs.YtkgncijcnlfhiaaDoor

