import Derived.Test.YtkgncijcnlfhiaaDoorHb
namespace Go.Proofs.YtkgncijcnlfhiaaDoor
set_option linter.unusedVariables false
set_option linter.unusedSimpArgs false
open Go.RowKit
set_option maxRecDepth 100000 in
set_option maxHeartbeats 4000000 in
theorem spoilt_any (lo ob : Nat) (V : Nat → Value) (S : Nat → List (Nat × Nat)) (w : World) (h : OwnAt lo w ob true V S) :
    Calls Tryd.prog 18 #[.pointer (some ⟨ob, 0, none⟩)] w fun x w' => x = .returned (.bool true) ∧ w' = w := by
  have hnot : ∀ (x : Bool) (w : World), (Op.unary .not (.bool x)).run Tryd.prog w = .ok (.bool (!x)) w := fun _ _ => rfl
  go_enter Tryd.func18, Tryd.ntmps18
  go_wp2_with (go_at_call 39; refine (further_any lo ob V S true 0 rfl w h).mono ?_; rintro e w' ⟨rfl, hw'⟩; obtain rfl := hw'.symm)
  obtain ⟨⟨ao1, cap1, hV1⟩, hM1⟩ := h.form (f := 1) (by decide)
  have hob1 : w.cell? ⟨ob, 1, none⟩ = some (.slice ao1 (S 1).length cap1) := by rw [← hV1]; exact h.cell 1 (by decide)
  unfold maxLen at hM1
  have HR1 : ∀ i r, (S 1)[i]? = some r → Hid (∃ g, ao1 = some ⟨g, 0, none⟩ ∧ w.cell? ⟨g, i, none⟩ = some (.slice (some ⟨r.1, 0, none⟩) r.2 r.2) ∧ RowOk (PO lo ob V) w 1 true r) := fun i r hi => hide (by
    obtain ⟨g, cap, k1, k2, k3⟩ := h.row (f := 1) (by decide) hi
    rw [hV1] at k1
    simp only [Value.slice.injEq] at k1
    exact ⟨g, k1.1, k2, k3⟩)
  clear hV1
  go_wp2_with fail
  go_loopw [4] (fun i wr => ∃ k : Nat, k ≤ (S 1).length ∧ i = .int .i64 k ∧ w = wr) (fun i _ => (S 1).length - (intOf i).toNat)
  case atStart => exact ⟨0, Nat.zero_le _, rfl, rfl⟩
  case round =>
    obtain ⟨k, hk, rfl, rfl⟩ := hrel
    by_cases hlt : k < (S 1).length
    · obtain ⟨⟨b, m'⟩, hr⟩ := getElem?_lt hlt
      obtain ⟨g, rfl, hrow, hok⟩ := (HR1 k (b, m') hr).out
      obtain ⟨m, rfl⟩ : ∃ m, m' = m + 2 := ⟨m' - 2, by have := hok.two; simp only at this; omega⟩
      have hmm := hok.most
      simp only at hmm hrow
      have HIN : ∀ q, q < m + 2 → Hid (Ink (PO lo ob V) w b q 1) := fun q h2 => hide (hok.inked q (.inl rfl) (by simpa using h2))
      clear hok hr
      go_wp2_with fail
      go_loopw [5] (fun i wr => ∃ q : Nat, q ≤ m + 2 ∧ i = .int .i64 q ∧ w = wr) (fun i _ => m + 2 - (intOf i).toNat)
      case atStart => exact ⟨0, Nat.zero_le _, rfl, rfl⟩
      case round =>
        obtain ⟨q, hq2, rfl, rfl⟩ := hrel
        by_cases hqt : q < m + 2
        · have hi := (HIN q hqt).out
          simp only [Ink] at hi
          obtain ⟨b', f0, _, f5⟩ := hi
          have f6 : w.cell? ⟨b', 0, none⟩ = some inkV := by rw [heap_cell f5]; rfl
          clear f5
          clear HIN
          go_wp2_with fail
          go_roundw
          case rel => exact ⟨q + 1, by omega, by go_num, by first | rfl | trivial⟩
          case measure => simp [intOf]; omega
        · have hqq : q = m + 2 := by omega
          subst hqq
          clear HIN hqt hq2
          go_wp2_with fail
          go_roundw
          case rel => exact ⟨k + 1, by omega, by go_num, by first | rfl | trivial⟩
          case measure => simp [intOf]; omega
    · have hkk : k = (S 1).length := by omega
      subst hkk
      clear hlt hk HR1
      obtain ⟨⟨ao5, cap5, hV5⟩, hM5⟩ := h.form (f := 5) (by decide)
      have hob5 : w.cell? ⟨ob, 5, none⟩ = some (.slice ao5 (S 5).length cap5) := by rw [← hV5]; exact h.cell 5 (by decide)
      unfold maxLen at hM5
      have HR5 : ∀ i r, (S 5)[i]? = some r → Hid (∃ g, ao5 = some ⟨g, 0, none⟩ ∧ w.cell? ⟨g, i, none⟩ = some (.slice (some ⟨r.1, 0, none⟩) r.2 r.2) ∧ RowOk (PO lo ob V) w 5 true r) := fun i r hi => hide (by
        obtain ⟨g, cap, k1, k2, k3⟩ := h.row (f := 5) (by decide) hi
        rw [hV5] at k1
        simp only [Value.slice.injEq] at k1
        exact ⟨g, k1.1, k2, k3⟩)
      clear hV5
      go_wp2_with fail
      go_loopw [6] (fun i wr => ∃ k : Nat, k ≤ (S 5).length ∧ i = .int .i64 k ∧ w = wr) (fun i _ => (S 5).length - (intOf i).toNat)
      case atStart => exact ⟨0, Nat.zero_le _, rfl, rfl⟩
      case round =>
        obtain ⟨k, hk, rfl, rfl⟩ := hrel
        by_cases hlt : k < (S 5).length
        · obtain ⟨⟨b, m'⟩, hr⟩ := getElem?_lt hlt
          obtain ⟨g, rfl, hrow, hok⟩ := (HR5 k (b, m') hr).out
          obtain ⟨m, rfl⟩ : ∃ m, m' = m + 2 := ⟨m' - 2, by have := hok.two; simp only at this; omega⟩
          have hmm := hok.most
          simp only at hmm hrow
          have HIN : ∀ q, q < m + 2 → Hid (Ink (PO lo ob V) w b q 5) := fun q h2 => hide (hok.inked q (.inl rfl) (by simpa using h2))
          clear hok hr
          go_wp2_with fail
          go_loopw [7] (fun i wr => ∃ q : Nat, q ≤ m + 2 ∧ i = .int .i64 q ∧ w = wr) (fun i _ => m + 2 - (intOf i).toNat)
          case atStart => exact ⟨0, Nat.zero_le _, rfl, rfl⟩
          case round =>
            obtain ⟨q, hq2, rfl, rfl⟩ := hrel
            by_cases hqt : q < m + 2
            · have hi := (HIN q hqt).out
              simp only [Ink] at hi
              obtain ⟨f0, f1⟩ := hi
              clear HIN
              go_wp2_with fail
              go_roundw
              case rel => exact ⟨q + 1, by omega, by go_num, by first | rfl | trivial⟩
              case measure => simp [intOf]; omega
            · have hqq : q = m + 2 := by omega
              subst hqq
              clear HIN hqt hq2
              go_wp2_with fail
              go_roundw
              case rel => exact ⟨k + 1, by omega, by go_num, by first | rfl | trivial⟩
              case measure => simp [intOf]; omega
        · have hkk : k = (S 5).length := by omega
          subst hkk
          clear hlt hk HR5
          obtain ⟨⟨ao0, cap0, hV0⟩, hM0⟩ := h.form (f := 0) (by decide)
          have hob0 : w.cell? ⟨ob, 0, none⟩ = some (.slice ao0 (S 0).length cap0) := by rw [← hV0]; exact h.cell 0 (by decide)
          unfold maxLen at hM0
          have HR0 : ∀ i r, (S 0)[i]? = some r → Hid (∃ g, ao0 = some ⟨g, 0, none⟩ ∧ w.cell? ⟨g, i, none⟩ = some (.slice (some ⟨r.1, 0, none⟩) r.2 r.2) ∧ RowOk (PO lo ob V) w 0 true r) := fun i r hi => hide (by
            obtain ⟨g, cap, k1, k2, k3⟩ := h.row (f := 0) (by decide) hi
            rw [hV0] at k1
            simp only [Value.slice.injEq] at k1
            exact ⟨g, k1.1, k2, k3⟩)
          clear hV0
          go_wp2_with fail
          go_loopw [8] (fun i wr => ∃ k : Nat, k ≤ (S 0).length ∧ i = .int .i64 k ∧ w = wr) (fun i _ => (S 0).length - (intOf i).toNat)
          case atStart => exact ⟨0, Nat.zero_le _, rfl, rfl⟩
          case round =>
            obtain ⟨k, hk, rfl, rfl⟩ := hrel
            by_cases hlt : k < (S 0).length
            · obtain ⟨⟨b, m'⟩, hr⟩ := getElem?_lt hlt
              obtain ⟨g, rfl, hrow, hok⟩ := (HR0 k (b, m') hr).out
              obtain ⟨m, rfl⟩ : ∃ m, m' = m + 2 := ⟨m' - 2, by have := hok.two; simp only at this; omega⟩
              have hmm := hok.most
              simp only at hmm hrow
              have HIN : ∀ q, q < m + 2 → Hid (Ink (PO lo ob V) w b q 0) := fun q h2 => hide (hok.inked q (.inl rfl) (by simpa using h2))
              clear hok hr
              go_wp2_with fail
              go_loopw [9] (fun i wr => ∃ q : Nat, q ≤ m + 2 ∧ i = .int .i64 q ∧ w = wr) (fun i _ => m + 2 - (intOf i).toNat)
              case atStart => exact ⟨0, Nat.zero_le _, rfl, rfl⟩
              case round =>
                obtain ⟨q, hq2, rfl, rfl⟩ := hrel
                by_cases hqt : q < m + 2
                · have hi := (HIN q hqt).out
                  simp only [Ink] at hi
                  clear HIN
                  go_wp2_with fail
                  go_roundw
                  case rel => exact ⟨q + 1, by omega, by go_num, by first | rfl | trivial⟩
                  case measure => simp [intOf]; omega
                · have hqq : q = m + 2 := by omega
                  subst hqq
                  clear HIN hqt hq2
                  go_wp2_with fail
                  go_roundw
                  case rel => exact ⟨k + 1, by omega, by go_num, by first | rfl | trivial⟩
                  case measure => simp [intOf]; omega
            · have hkk : k = (S 0).length := by omega
              subst hkk
              clear hlt hk HR0
              obtain ⟨⟨ao2, cap2, hV2⟩, hM2⟩ := h.form (f := 2) (by decide)
              have hob2 : w.cell? ⟨ob, 2, none⟩ = some (.slice ao2 (S 2).length cap2) := by rw [← hV2]; exact h.cell 2 (by decide)
              unfold maxLen at hM2
              have HR2 : ∀ i r, (S 2)[i]? = some r → Hid (∃ g, ao2 = some ⟨g, 0, none⟩ ∧ w.cell? ⟨g, i, none⟩ = some (.slice (some ⟨r.1, 0, none⟩) r.2 r.2) ∧ RowOk (PO lo ob V) w 2 true r) := fun i r hi => hide (by
                obtain ⟨g, cap, k1, k2, k3⟩ := h.row (f := 2) (by decide) hi
                rw [hV2] at k1
                simp only [Value.slice.injEq] at k1
                exact ⟨g, k1.1, k2, k3⟩)
              clear hV2
              go_wp2_with fail
              go_loopw [10] (fun i wr => ∃ k : Nat, k ≤ (S 2).length ∧ i = .int .i64 k ∧ w = wr) (fun i _ => (S 2).length - (intOf i).toNat)
              case atStart => exact ⟨0, Nat.zero_le _, rfl, rfl⟩
              case round =>
                obtain ⟨k, hk, rfl, rfl⟩ := hrel
                by_cases hlt : k < (S 2).length
                · obtain ⟨⟨b, m'⟩, hr⟩ := getElem?_lt hlt
                  obtain ⟨g, rfl, hrow, hok⟩ := (HR2 k (b, m') hr).out
                  obtain ⟨m, rfl⟩ : ∃ m, m' = m + 2 := ⟨m' - 2, by have := hok.two; simp only at this; omega⟩
                  have hmm := hok.most
                  simp only at hmm hrow
                  have HIN : ∀ q, q < m + 2 → Hid (Ink (PO lo ob V) w b q 2) := fun q h2 => hide (hok.inked q (.inl rfl) (by simpa using h2))
                  clear hok hr
                  go_wp2_with fail
                  go_loopw [11] (fun i wr => ∃ q : Nat, q ≤ m + 2 ∧ i = .int .i64 q ∧ w = wr) (fun i _ => m + 2 - (intOf i).toNat)
                  case atStart => exact ⟨0, Nat.zero_le _, rfl, rfl⟩
                  case round =>
                    obtain ⟨q, hq2, rfl, rfl⟩ := hrel
                    by_cases hqt : q < m + 2
                    · have hi := (HIN q hqt).out
                      simp only [Ink] at hi
                      obtain ⟨f0, f1, f2⟩ := hi
                      clear HIN
                      go_wp2_with fail
                      go_roundw
                      case rel => exact ⟨q + 1, by omega, by go_num, by first | rfl | trivial⟩
                      case measure => simp [intOf]; omega
                    · have hqq : q = m + 2 := by omega
                      subst hqq
                      clear HIN hqt hq2
                      go_wp2_with fail
                      go_roundw
                      case rel => exact ⟨k + 1, by omega, by go_num, by first | rfl | trivial⟩
                      case measure => simp [intOf]; omega
                · have hkk : k = (S 2).length := by omega
                  subst hkk
                  clear hlt hk HR2
                  obtain ⟨⟨ao6, cap6, hV6⟩, hM6⟩ := h.form (f := 6) (by decide)
                  have hob6 : w.cell? ⟨ob, 6, none⟩ = some (.slice ao6 (S 6).length cap6) := by rw [← hV6]; exact h.cell 6 (by decide)
                  unfold maxLen at hM6
                  have HR6 : ∀ i r, (S 6)[i]? = some r → Hid (∃ g, ao6 = some ⟨g, 0, none⟩ ∧ w.cell? ⟨g, i, none⟩ = some (.slice (some ⟨r.1, 0, none⟩) r.2 r.2) ∧ RowOk (PO lo ob V) w 6 true r) := fun i r hi => hide (by
                    obtain ⟨g, cap, k1, k2, k3⟩ := h.row (f := 6) (by decide) hi
                    rw [hV6] at k1
                    simp only [Value.slice.injEq] at k1
                    exact ⟨g, k1.1, k2, k3⟩)
                  clear hV6
                  go_wp2_with fail
                  go_loopw [12] (fun i wr => ∃ k : Nat, k ≤ (S 6).length ∧ i = .int .i64 k ∧ w = wr) (fun i _ => (S 6).length - (intOf i).toNat)
                  case atStart => exact ⟨0, Nat.zero_le _, rfl, rfl⟩
                  case round =>
                    obtain ⟨k, hk, rfl, rfl⟩ := hrel
                    by_cases hlt : k < (S 6).length
                    · obtain ⟨⟨b, m'⟩, hr⟩ := getElem?_lt hlt
                      obtain ⟨g, rfl, hrow, hok⟩ := (HR6 k (b, m') hr).out
                      obtain ⟨m, rfl⟩ : ∃ m, m' = m + 2 := ⟨m' - 2, by have := hok.two; simp only at this; omega⟩
                      have hmm := hok.most
                      simp only at hmm hrow
                      have HIN : ∀ q, q < m + 2 → Hid (Ink (PO lo ob V) w b q 6) := fun q h2 => hide (hok.inked q (.inl rfl) (by simpa using h2))
                      clear hok hr
                      go_wp2_with fail
                      go_loopw [13] (fun i wr => ∃ q : Nat, q ≤ m + 2 ∧ i = .int .i64 q ∧ w = wr) (fun i _ => m + 2 - (intOf i).toNat)
                      case atStart => exact ⟨0, Nat.zero_le _, rfl, rfl⟩
                      case round =>
                        obtain ⟨q, hq2, rfl, rfl⟩ := hrel
                        by_cases hqt : q < m + 2
                        · have hi := (HIN q hqt).out
                          simp only [Ink] at hi
                          clear HIN
                          go_wp2_with fail
                          go_roundw
                          case rel => exact ⟨q + 1, by omega, by go_num, by first | rfl | trivial⟩
                          case measure => simp [intOf]; omega
                        · have hqq : q = m + 2 := by omega
                          subst hqq
                          clear HIN hqt hq2
                          go_wp2_with fail
                          go_roundw
                          case rel => exact ⟨k + 1, by omega, by go_num, by first | rfl | trivial⟩
                          case measure => simp [intOf]; omega
                    · have hkk : k = (S 6).length := by omega
                      subst hkk
                      clear hlt hk HR6
                      go_wp2_with fail
                      go_ret
                      exact ⟨rfl, rfl⟩
end Go.Proofs.YtkgncijcnlfhiaaDoor
