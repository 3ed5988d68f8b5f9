import Derived.Test.YtkgncijcnlfhiaaDoorH5
namespace Go.Proofs.YtkgncijcnlfhiaaDoor
set_option linter.unusedVariables false
set_option linter.unusedSimpArgs false
open Go.RowKit
theorem from_any (a n : Int) (w : World) (ha : -1000000000 ≤ a) (ha2 : a ≤ 1000000000) (hn : 0 ≤ n ∧ n ≤ 2) :
    Calls Tryd.prog 75 #[.int .i64 a, .int .i64 n] w fun x w' => x = .returned (.int .i64 (if n = 0 then 0 else a - n)) ∧ w' = w := by
  have hw : IntKind.i64.wrap (a - n) = a - n := Go.IntWalk.i64_in _ (by omega)
  by_cases h0 : n = 0
  · subst h0
    go_enter Tryd.func75, Tryd.ntmps75
    go_wp2
    go_ret
    exact ⟨rfl, rfl⟩
  · have hb : (n == 0) = false := by rw [beq_eq_false_iff_ne]; exact h0
    go_enter Tryd.func75, Tryd.ntmps75
    go_wp2
    go_ret
    exact ⟨rfl, rfl⟩
set_option maxRecDepth 100000 in
set_option maxHeartbeats 4000000 in
theorem further_any (lo ob : Nat) (V : Nat → Value) (S : Nat → List (Nat × Nat)) (all : Bool) (n : Int) (hn : n = if all then 0 else 2) (w : World) (h : OwnAt lo w ob all V S) :
    Calls Tryd.prog 39 #[.pointer (some ⟨ob, 0, none⟩), .int .i64 n] w fun x w' => x = .returned (.bool true) ∧ w' = w := by
  have HN := hide hn
  clear hn
  go_enter Tryd.func39, Tryd.ntmps39
  obtain ⟨⟨ao3, cap3, hV3⟩, hM3⟩ := h.form (f := 3) (by decide)
  have hob3 : w.cell? ⟨ob, 3, none⟩ = some (.slice ao3 (S 3).length cap3) := by rw [← hV3]; exact h.cell 3 (by decide)
  unfold maxLen at hM3
  have HR3 : ∀ i r, (S 3)[i]? = some r → Hid (∃ g, ao3 = some ⟨g, 0, none⟩ ∧ w.cell? ⟨g, i, none⟩ = some (.slice (some ⟨r.1, 0, none⟩) r.2 r.2) ∧ RowOk (PO lo ob V) w 3 all r) := fun i r hi => hide (by
    obtain ⟨g, cap, k1, k2, k3⟩ := h.row (f := 3) (by decide) hi
    rw [hV3] at k1
    simp only [Value.slice.injEq] at k1
    exact ⟨g, k1.1, k2, k3⟩)
  clear hV3
  go_wp2_with fail
  go_loopw [5] (fun i wr => ∃ k : Nat, k ≤ (S 3).length ∧ i = .int .i64 k ∧ w = wr) (fun i _ => (S 3).length - (intOf i).toNat)
  case atStart => exact ⟨0, Nat.zero_le _, rfl, rfl⟩
  case round =>
    obtain ⟨k, hk, rfl, rfl⟩ := hrel
    by_cases hlt : k < (S 3).length
    · obtain ⟨⟨b, m'⟩, hr⟩ := getElem?_lt hlt
      obtain ⟨g, rfl, hrow, hok⟩ := (HR3 k (b, m') hr).out
      obtain ⟨m, rfl⟩ : ∃ m, m' = m + 2 := ⟨m' - 2, by have := hok.two; simp only at this; omega⟩
      have hmm := hok.most
      simp only at hmm hrow
      have w3 : IntKind.i64.wrap ((m : Int) + 2 - 2) = (m : Int) := by rw [Go.IntWalk.i64_in _ (by omega)]; omega
      obtain ⟨st, hst⟩ : ∃ st : Nat, st = (if all then 0 else m) := ⟨_, rfl⟩
      have hstm : st ≤ m := by rw [hst]; split <;> omega
      have HIN : ∀ q, st ≤ q → q < m + 2 → Hid (Ink (PO lo ob V) w b q 3) := fun q h1 h2 => hide (hok.inked q (by
        cases all with
        | true => exact .inl rfl
        | false => right; simp only at hst ⊢; simp at hst; omega) (by simpa using h2))
      have HFrom : Hid (Calls Tryd.prog 75 #[.int .i64 ((m : Int) + 2), .int .i64 n] w fun x w' => x = .returned (.int .i64 (st : Int)) ∧ w' = w) := hide (by
        have := from_any ((m : Int) + 2) n w (by omega) (by omega) (by rw [HN.out]; split <;> omega)
        have e : (if n = 0 then 0 else (m : Int) + 2 - n) = (st : Int) := by
          rw [HN.out, hst]; cases all <;> simp
        rw [e] at this; exact this)
      clear hok hr hst
      go_wp2_with (go_at_call 75; refine HFrom.out.mono ?_; rintro e w' ⟨rfl, hw'⟩; obtain rfl := hw'.symm)
      go_loopw [7] (fun i wr => ∃ q : Nat, st ≤ q ∧ q ≤ m + 2 ∧ i = .int .i64 q ∧ w = wr) (fun i _ => m + 2 - (intOf i).toNat)
      case atStart => exact ⟨st, Nat.le_refl _, by omega, rfl, rfl⟩
      case round =>
        obtain ⟨q, hq1, hq2, rfl, rfl⟩ := hrel
        by_cases hqt : q < m + 2
        · have hi := (HIN q hq1 hqt).out
          simp only [Ink] at hi
          obtain ⟨f0, f1, f2, f3⟩ := hi
          clear HIN HFrom
          go_wp2_with fail
          go_roundw
          case rel => exact ⟨q + 1, by omega, by omega, by go_num, by first | rfl | trivial⟩
          case measure => simp [intOf]; omega
        · have hqq : q = m + 2 := by omega
          subst hqq
          clear HIN HFrom hqt hq1 hq2
          go_wp2_with fail
          go_roundw
          case rel => exact ⟨k + 1, by omega, by go_num, by first | rfl | trivial⟩
          case measure => simp [intOf]; omega
    · have hkk : k = (S 3).length := by omega
      subst hkk
      clear hlt hk HR3
      obtain ⟨⟨ao4, cap4, hV4⟩, hM4⟩ := h.form (f := 4) (by decide)
      have hob4 : w.cell? ⟨ob, 4, none⟩ = some (.slice ao4 (S 4).length cap4) := by rw [← hV4]; exact h.cell 4 (by decide)
      unfold maxLen at hM4
      have HR4 : ∀ i r, (S 4)[i]? = some r → Hid (∃ g, ao4 = some ⟨g, 0, none⟩ ∧ w.cell? ⟨g, i, none⟩ = some (.slice (some ⟨r.1, 0, none⟩) r.2 r.2) ∧ RowOk (PO lo ob V) w 4 all r) := fun i r hi => hide (by
        obtain ⟨g, cap, k1, k2, k3⟩ := h.row (f := 4) (by decide) hi
        rw [hV4] at k1
        simp only [Value.slice.injEq] at k1
        exact ⟨g, k1.1, k2, k3⟩)
      clear hV4
      go_wp2_with fail
      go_loopw [8] (fun i wr => ∃ k : Nat, k ≤ (S 4).length ∧ i = .int .i64 k ∧ w = wr) (fun i _ => (S 4).length - (intOf i).toNat)
      case atStart => exact ⟨0, Nat.zero_le _, rfl, rfl⟩
      case round =>
        obtain ⟨k, hk, rfl, rfl⟩ := hrel
        by_cases hlt : k < (S 4).length
        · obtain ⟨⟨b, m'⟩, hr⟩ := getElem?_lt hlt
          obtain ⟨g, rfl, hrow, hok⟩ := (HR4 k (b, m') hr).out
          obtain ⟨m, rfl⟩ : ∃ m, m' = m + 2 := ⟨m' - 2, by have := hok.two; simp only at this; omega⟩
          have hmm := hok.most
          simp only at hmm hrow
          have w3 : IntKind.i64.wrap ((m : Int) + 2 - 2) = (m : Int) := by rw [Go.IntWalk.i64_in _ (by omega)]; omega
          obtain ⟨st, hst⟩ : ∃ st : Nat, st = (if all then 0 else m) := ⟨_, rfl⟩
          have hstm : st ≤ m := by rw [hst]; split <;> omega
          have HIN : ∀ q, st ≤ q → q < m + 2 → Hid (Ink (PO lo ob V) w b q 4) := fun q h1 h2 => hide (hok.inked q (by
            cases all with
            | true => exact .inl rfl
            | false => right; simp only at hst ⊢; simp at hst; omega) (by simpa using h2))
          have HFrom : Hid (Calls Tryd.prog 75 #[.int .i64 ((m : Int) + 2), .int .i64 n] w fun x w' => x = .returned (.int .i64 (st : Int)) ∧ w' = w) := hide (by
            have := from_any ((m : Int) + 2) n w (by omega) (by omega) (by rw [HN.out]; split <;> omega)
            have e : (if n = 0 then 0 else (m : Int) + 2 - n) = (st : Int) := by
              rw [HN.out, hst]; cases all <;> simp
            rw [e] at this; exact this)
          clear hok hr hst
          go_wp2_with (go_at_call 75; refine HFrom.out.mono ?_; rintro e w' ⟨rfl, hw'⟩; obtain rfl := hw'.symm)
          go_loopw [10] (fun i wr => ∃ q : Nat, st ≤ q ∧ q ≤ m + 2 ∧ i = .int .i64 q ∧ w = wr) (fun i _ => m + 2 - (intOf i).toNat)
          case atStart => exact ⟨st, Nat.le_refl _, by omega, rfl, rfl⟩
          case round =>
            obtain ⟨q, hq1, hq2, rfl, rfl⟩ := hrel
            by_cases hqt : q < m + 2
            · have hi := (HIN q hq1 hqt).out
              simp only [Ink] at hi
              obtain ⟨f0, f1, f2⟩ := hi
              clear HIN HFrom
              go_wp2_with fail
              go_roundw
              case rel => exact ⟨q + 1, by omega, by omega, by go_num, by first | rfl | trivial⟩
              case measure => simp [intOf]; omega
            · have hqq : q = m + 2 := by omega
              subst hqq
              clear HIN HFrom hqt hq1 hq2
              go_wp2_with fail
              go_roundw
              case rel => exact ⟨k + 1, by omega, by go_num, by first | rfl | trivial⟩
              case measure => simp [intOf]; omega
        · have hkk : k = (S 4).length := by omega
          subst hkk
          clear hlt hk HR4
          obtain ⟨⟨ao7, cap7, hV7⟩, hM7⟩ := h.form (f := 7) (by decide)
          have hob7 : w.cell? ⟨ob, 7, none⟩ = some (.slice ao7 (S 7).length cap7) := by rw [← hV7]; exact h.cell 7 (by decide)
          unfold maxLen at hM7
          have HR7 : ∀ i r, (S 7)[i]? = some r → Hid (∃ g, ao7 = some ⟨g, 0, none⟩ ∧ w.cell? ⟨g, i, none⟩ = some (.slice (some ⟨r.1, 0, none⟩) r.2 r.2) ∧ RowOk (PO lo ob V) w 7 all r) := fun i r hi => hide (by
            obtain ⟨g, cap, k1, k2, k3⟩ := h.row (f := 7) (by decide) hi
            rw [hV7] at k1
            simp only [Value.slice.injEq] at k1
            exact ⟨g, k1.1, k2, k3⟩)
          clear hV7
          go_wp2_with fail
          go_loopw [11] (fun i wr => ∃ k : Nat, k ≤ (S 7).length ∧ i = .int .i64 k ∧ w = wr) (fun i _ => (S 7).length - (intOf i).toNat)
          case atStart => exact ⟨0, Nat.zero_le _, rfl, rfl⟩
          case round =>
            obtain ⟨k, hk, rfl, rfl⟩ := hrel
            by_cases hlt : k < (S 7).length
            · obtain ⟨⟨b, m'⟩, hr⟩ := getElem?_lt hlt
              obtain ⟨g, rfl, hrow, hok⟩ := (HR7 k (b, m') hr).out
              obtain ⟨m, rfl⟩ : ∃ m, m' = m + 2 := ⟨m' - 2, by have := hok.two; simp only at this; omega⟩
              have hmm := hok.most
              simp only at hmm hrow
              have w3 : IntKind.i64.wrap ((m : Int) + 2 - 2) = (m : Int) := by rw [Go.IntWalk.i64_in _ (by omega)]; omega
              obtain ⟨st, hst⟩ : ∃ st : Nat, st = (if all then 0 else m) := ⟨_, rfl⟩
              have hstm : st ≤ m := by rw [hst]; split <;> omega
              have HIN : ∀ q, st ≤ q → q < m + 2 → Hid (Ink (PO lo ob V) w b q 7) := fun q h1 h2 => hide (hok.inked q (by
                cases all with
                | true => exact .inl rfl
                | false => right; simp only at hst ⊢; simp at hst; omega) (by simpa using h2))
              have HFrom : Hid (Calls Tryd.prog 75 #[.int .i64 ((m : Int) + 2), .int .i64 n] w fun x w' => x = .returned (.int .i64 (st : Int)) ∧ w' = w) := hide (by
                have := from_any ((m : Int) + 2) n w (by omega) (by omega) (by rw [HN.out]; split <;> omega)
                have e : (if n = 0 then 0 else (m : Int) + 2 - n) = (st : Int) := by
                  rw [HN.out, hst]; cases all <;> simp
                rw [e] at this; exact this)
              clear hok hr hst
              go_wp2_with (go_at_call 75; refine HFrom.out.mono ?_; rintro e w' ⟨rfl, hw'⟩; obtain rfl := hw'.symm)
              go_loopw [13] (fun i wr => ∃ q : Nat, st ≤ q ∧ q ≤ m + 2 ∧ i = .int .i64 q ∧ w = wr) (fun i _ => m + 2 - (intOf i).toNat)
              case atStart => exact ⟨st, Nat.le_refl _, by omega, rfl, rfl⟩
              case round =>
                obtain ⟨q, hq1, hq2, rfl, rfl⟩ := hrel
                by_cases hqt : q < m + 2
                · have hi := (HIN q hq1 hqt).out
                  simp only [Ink] at hi
                  obtain ⟨b', f0, f1, f2, f3, f4, _, f5⟩ := hi
                  have f6 : w.cell? ⟨b', 0, none⟩ = some inkV := by rw [heap_cell f5]; rfl
                  clear f5
                  clear HIN HFrom
                  go_wp2_with fail
                  go_roundw
                  case rel => exact ⟨q + 1, by omega, by omega, by go_num, by first | rfl | trivial⟩
                  case measure => simp [intOf]; omega
                · have hqq : q = m + 2 := by omega
                  subst hqq
                  clear HIN HFrom hqt hq1 hq2
                  go_wp2_with fail
                  go_roundw
                  case rel => exact ⟨k + 1, by omega, by go_num, by first | rfl | trivial⟩
                  case measure => simp [intOf]; omega
            · have hkk : k = (S 7).length := by omega
              subst hkk
              clear hlt hk HR7
              go_wp2_with fail
              go_ret
              exact ⟨rfl, rfl⟩
end Go.Proofs.YtkgncijcnlfhiaaDoor

namespace Go.Proofs.YtkgncijcnlfhiaaDoor
set_option linter.unusedVariables false
set_option linter.unusedSimpArgs false
open Go.RowKit
set_option maxRecDepth 100000 in
set_option maxHeartbeats 4000000 in
theorem behind_any (lo ob : Nat) (V : Nat → Value) (S : Nat → List (Nat × Nat)) (w : World) (h : OwnAt lo w ob false V S) :
    Calls Tryd.prog 37 #[.pointer (some ⟨ob, 0, none⟩)] w fun x w' => x = .returned (.bool true) ∧ w' = w := by
  go_enter Tryd.func37, Tryd.ntmps37
  obtain ⟨⟨ao0, cap0, hV0⟩, hM0⟩ := h.form (f := 0) (by decide)
  have hob0 : w.cell? ⟨ob, 0, none⟩ = some (.slice ao0 (S 0).length cap0) := by rw [← hV0]; exact h.cell 0 (by decide)
  unfold maxLen at hM0
  have HR0 : ∀ i r, (S 0)[i]? = some r → Hid (∃ g, ao0 = some ⟨g, 0, none⟩ ∧ w.cell? ⟨g, i, none⟩ = some (.slice (some ⟨r.1, 0, none⟩) r.2 r.2) ∧ RowOk (PO lo ob V) w 0 false r) := fun i r hi => hide (by
    obtain ⟨g, cap, k1, k2, k3⟩ := h.row (f := 0) (by decide) hi
    rw [hV0] at k1
    simp only [Value.slice.injEq] at k1
    exact ⟨g, k1.1, k2, k3⟩)
  clear hV0
  go_wp2_with fail
  go_loopw [3] (fun i wr => ∃ k : Nat, k ≤ (S 0).length ∧ i = .int .i64 k ∧ w = wr) (fun i _ => (S 0).length - (intOf i).toNat)
  case atStart => exact ⟨0, Nat.zero_le _, rfl, rfl⟩
  case round =>
    obtain ⟨k, hk, rfl, rfl⟩ := hrel
    by_cases hlt : k < (S 0).length
    · obtain ⟨⟨b, m'⟩, hr⟩ := getElem?_lt hlt
      obtain ⟨g, rfl, hrow, hok⟩ := (HR0 k (b, m') hr).out
      obtain ⟨m, rfl⟩ : ∃ m, m' = m + 2 := ⟨m' - 2, by have := hok.two; simp only at this; omega⟩
      have hmm := hok.most
      simp only at hmm hrow
      have i1 := hok.inked m (.inr (Nat.le_refl _)) (by simp)
      have i2 := hok.inked (m + 1) (.inr (by simp)) (by simp)
      simp only [Ink] at i1 i2
      have w1 : IntKind.i64.wrap ((m : Int) + 2 - 1) = (m : Int) + 1 := by rw [Go.IntWalk.i64_in _ (by omega)]; omega
      have w2 : IntKind.i64.wrap ((m : Int) + 2 - 2) = (m : Int) := by rw [Go.IntWalk.i64_in _ (by omega)]; omega
      clear hok hr
      go_wp2_with fail
      go_roundw
      case rel => exact ⟨k + 1, by omega, by go_num, by first | rfl | trivial⟩
      case measure => simp [intOf]; omega
    · have hkk : k = (S 0).length := by omega
      subst hkk
      clear hlt hk HR0
      obtain ⟨⟨ao1, cap1, hV1⟩, hM1⟩ := h.form (f := 1) (by decide)
      have hob1 : w.cell? ⟨ob, 1, none⟩ = some (.slice ao1 (S 1).length cap1) := by rw [← hV1]; exact h.cell 1 (by decide)
      unfold maxLen at hM1
      have HR1 : ∀ i r, (S 1)[i]? = some r → Hid (∃ g, ao1 = some ⟨g, 0, none⟩ ∧ w.cell? ⟨g, i, none⟩ = some (.slice (some ⟨r.1, 0, none⟩) r.2 r.2) ∧ RowOk (PO lo ob V) w 1 false r) := fun i r hi => hide (by
        obtain ⟨g, cap, k1, k2, k3⟩ := h.row (f := 1) (by decide) hi
        rw [hV1] at k1
        simp only [Value.slice.injEq] at k1
        exact ⟨g, k1.1, k2, k3⟩)
      clear hV1
      go_wp2_with fail
      go_loopw [5] (fun i wr => ∃ k : Nat, k ≤ (S 1).length ∧ i = .int .i64 k ∧ w = wr) (fun i _ => (S 1).length - (intOf i).toNat)
      case atStart => exact ⟨0, Nat.zero_le _, rfl, rfl⟩
      case round =>
        obtain ⟨k, hk, rfl, rfl⟩ := hrel
        by_cases hlt : k < (S 1).length
        · obtain ⟨⟨b, m'⟩, hr⟩ := getElem?_lt hlt
          obtain ⟨g, rfl, hrow, hok⟩ := (HR1 k (b, m') hr).out
          obtain ⟨m, rfl⟩ : ∃ m, m' = m + 2 := ⟨m' - 2, by have := hok.two; simp only at this; omega⟩
          have hmm := hok.most
          simp only at hmm hrow
          have i1 := hok.inked m (.inr (Nat.le_refl _)) (by simp)
          have i2 := hok.inked (m + 1) (.inr (by simp)) (by simp)
          simp only [Ink] at i1 i2
          have w1 : IntKind.i64.wrap ((m : Int) + 2 - 1) = (m : Int) + 1 := by rw [Go.IntWalk.i64_in _ (by omega)]; omega
          have w2 : IntKind.i64.wrap ((m : Int) + 2 - 2) = (m : Int) := by rw [Go.IntWalk.i64_in _ (by omega)]; omega
          clear hok hr
          obtain ⟨b1, j1, _, j2⟩ := i1
          obtain ⟨b2, j3, _, j4⟩ := i2
          have c1 : w.cell? ⟨b1, 0, none⟩ = some inkV := by rw [heap_cell j2]; rfl
          have c2 : w.cell? ⟨b2, 0, none⟩ = some inkV := by rw [heap_cell j4]; rfl
          clear j2 j4
          go_wp2_with fail
          go_loopw [7] (fun i wr => ∃ q : Nat, m ≤ q ∧ q ≤ m + 2 ∧ i = .int .i64 q ∧ w = wr) (fun i _ => m + 2 - (intOf i).toNat)
          case atStart => exact ⟨m, Nat.le_refl _, by omega, rfl, rfl⟩
          case round =>
            obtain ⟨q, hq1, hq2, rfl, rfl⟩ := hrel
            by_cases hqt : q < m + 2
            · have hj : ∃ b', w.cell? ⟨b, q, none⟩ = some (.slice (some ⟨b', 0, none⟩) 1 1) ∧ w.cell? ⟨b', 0, none⟩ = some inkV := by
                have : q = m ∨ q = m + 1 := by omega
                rcases this with rfl | rfl
                · exact ⟨_, j1, c1⟩
                · exact ⟨_, j3, c2⟩
              obtain ⟨b', hb1, hb2⟩ := hj
              clear j1 j3 c1 c2
              go_wp2_with fail
              go_roundw
              case rel => exact ⟨q + 1, by omega, by omega, by go_num, by first | rfl | trivial⟩
              case measure => simp [intOf]; omega
            · have hqq : q = m + 2 := by omega
              subst hqq
              clear j1 j3 c1 c2 hqt hq1 hq2
              go_wp2_with fail
              go_roundw
              case rel => exact ⟨k + 1, by omega, by go_num, by first | rfl | trivial⟩
              case measure => simp [intOf]; omega
        · have hkk : k = (S 1).length := by omega
          subst hkk
          clear hlt hk HR1
          obtain ⟨⟨ao2, cap2, hV2⟩, hM2⟩ := h.form (f := 2) (by decide)
          have hob2 : w.cell? ⟨ob, 2, none⟩ = some (.slice ao2 (S 2).length cap2) := by rw [← hV2]; exact h.cell 2 (by decide)
          unfold maxLen at hM2
          have HR2 : ∀ i r, (S 2)[i]? = some r → Hid (∃ g, ao2 = some ⟨g, 0, none⟩ ∧ w.cell? ⟨g, i, none⟩ = some (.slice (some ⟨r.1, 0, none⟩) r.2 r.2) ∧ RowOk (PO lo ob V) w 2 false r) := fun i r hi => hide (by
            obtain ⟨g, cap, k1, k2, k3⟩ := h.row (f := 2) (by decide) hi
            rw [hV2] at k1
            simp only [Value.slice.injEq] at k1
            exact ⟨g, k1.1, k2, k3⟩)
          clear hV2
          go_wp2_with fail
          go_loopw [8] (fun i wr => ∃ k : Nat, k ≤ (S 2).length ∧ i = .int .i64 k ∧ w = wr) (fun i _ => (S 2).length - (intOf i).toNat)
          case atStart => exact ⟨0, Nat.zero_le _, rfl, rfl⟩
          case round =>
            obtain ⟨k, hk, rfl, rfl⟩ := hrel
            by_cases hlt : k < (S 2).length
            · obtain ⟨⟨b, m'⟩, hr⟩ := getElem?_lt hlt
              obtain ⟨g, rfl, hrow, hok⟩ := (HR2 k (b, m') hr).out
              obtain ⟨m, rfl⟩ : ∃ m, m' = m + 2 := ⟨m' - 2, by have := hok.two; simp only at this; omega⟩
              have hmm := hok.most
              simp only at hmm hrow
              have i1 := hok.inked m (.inr (Nat.le_refl _)) (by simp)
              have i2 := hok.inked (m + 1) (.inr (by simp)) (by simp)
              simp only [Ink] at i1 i2
              have w1 : IntKind.i64.wrap ((m : Int) + 2 - 1) = (m : Int) + 1 := by rw [Go.IntWalk.i64_in _ (by omega)]; omega
              have w2 : IntKind.i64.wrap ((m : Int) + 2 - 2) = (m : Int) := by rw [Go.IntWalk.i64_in _ (by omega)]; omega
              clear hok hr
              obtain ⟨x0, x1, x2⟩ := i1
              obtain ⟨y0, y1, y2⟩ := i2
              go_wp2_with fail
              go_roundw
              case rel => exact ⟨k + 1, by omega, by go_num, by first | rfl | trivial⟩
              case measure => simp [intOf]; omega
            · have hkk : k = (S 2).length := by omega
              subst hkk
              clear hlt hk HR2
              obtain ⟨⟨ao5, cap5, hV5⟩, hM5⟩ := h.form (f := 5) (by decide)
              have hob5 : w.cell? ⟨ob, 5, none⟩ = some (.slice ao5 (S 5).length cap5) := by rw [← hV5]; exact h.cell 5 (by decide)
              unfold maxLen at hM5
              have HR5 : ∀ i r, (S 5)[i]? = some r → Hid (∃ g, ao5 = some ⟨g, 0, none⟩ ∧ w.cell? ⟨g, i, none⟩ = some (.slice (some ⟨r.1, 0, none⟩) r.2 r.2) ∧ RowOk (PO lo ob V) w 5 false r) := fun i r hi => hide (by
                obtain ⟨g, cap, k1, k2, k3⟩ := h.row (f := 5) (by decide) hi
                rw [hV5] at k1
                simp only [Value.slice.injEq] at k1
                exact ⟨g, k1.1, k2, k3⟩)
              clear hV5
              go_wp2_with fail
              go_loopw [10] (fun i wr => ∃ k : Nat, k ≤ (S 5).length ∧ i = .int .i64 k ∧ w = wr) (fun i _ => (S 5).length - (intOf i).toNat)
              case atStart => exact ⟨0, Nat.zero_le _, rfl, rfl⟩
              case round =>
                obtain ⟨k, hk, rfl, rfl⟩ := hrel
                by_cases hlt : k < (S 5).length
                · obtain ⟨⟨b, m'⟩, hr⟩ := getElem?_lt hlt
                  obtain ⟨g, rfl, hrow, hok⟩ := (HR5 k (b, m') hr).out
                  obtain ⟨m, rfl⟩ : ∃ m, m' = m + 2 := ⟨m' - 2, by have := hok.two; simp only at this; omega⟩
                  have hmm := hok.most
                  simp only at hmm hrow
                  have i1 := hok.inked m (.inr (Nat.le_refl _)) (by simp)
                  have i2 := hok.inked (m + 1) (.inr (by simp)) (by simp)
                  simp only [Ink] at i1 i2
                  have w1 : IntKind.i64.wrap ((m : Int) + 2 - 1) = (m : Int) + 1 := by rw [Go.IntWalk.i64_in _ (by omega)]; omega
                  have w2 : IntKind.i64.wrap ((m : Int) + 2 - 2) = (m : Int) := by rw [Go.IntWalk.i64_in _ (by omega)]; omega
                  clear hok hr
                  obtain ⟨x0, x1⟩ := i1
                  obtain ⟨y0, y1⟩ := i2
                  go_wp2_with fail
                  go_roundw
                  case rel => exact ⟨k + 1, by omega, by go_num, by first | rfl | trivial⟩
                  case measure => simp [intOf]; omega
                · have hkk : k = (S 5).length := by omega
                  subst hkk
                  clear hlt hk HR5
                  obtain ⟨⟨ao6, cap6, hV6⟩, hM6⟩ := h.form (f := 6) (by decide)
                  have hob6 : w.cell? ⟨ob, 6, none⟩ = some (.slice ao6 (S 6).length cap6) := by rw [← hV6]; exact h.cell 6 (by decide)
                  unfold maxLen at hM6
                  have HR6 : ∀ i r, (S 6)[i]? = some r → Hid (∃ g, ao6 = some ⟨g, 0, none⟩ ∧ w.cell? ⟨g, i, none⟩ = some (.slice (some ⟨r.1, 0, none⟩) r.2 r.2) ∧ RowOk (PO lo ob V) w 6 false r) := fun i r hi => hide (by
                    obtain ⟨g, cap, k1, k2, k3⟩ := h.row (f := 6) (by decide) hi
                    rw [hV6] at k1
                    simp only [Value.slice.injEq] at k1
                    exact ⟨g, k1.1, k2, k3⟩)
                  clear hV6
                  go_wp2_with fail
                  go_loopw [12] (fun i wr => ∃ k : Nat, k ≤ (S 6).length ∧ i = .int .i64 k ∧ w = wr) (fun i _ => (S 6).length - (intOf i).toNat)
                  case atStart => exact ⟨0, Nat.zero_le _, rfl, rfl⟩
                  case round =>
                    obtain ⟨k, hk, rfl, rfl⟩ := hrel
                    by_cases hlt : k < (S 6).length
                    · obtain ⟨⟨b, m'⟩, hr⟩ := getElem?_lt hlt
                      obtain ⟨g, rfl, hrow, hok⟩ := (HR6 k (b, m') hr).out
                      obtain ⟨m, rfl⟩ : ∃ m, m' = m + 2 := ⟨m' - 2, by have := hok.two; simp only at this; omega⟩
                      have hmm := hok.most
                      simp only at hmm hrow
                      have i1 := hok.inked m (.inr (Nat.le_refl _)) (by simp)
                      have i2 := hok.inked (m + 1) (.inr (by simp)) (by simp)
                      simp only [Ink] at i1 i2
                      have w1 : IntKind.i64.wrap ((m : Int) + 2 - 1) = (m : Int) + 1 := by rw [Go.IntWalk.i64_in _ (by omega)]; omega
                      have w2 : IntKind.i64.wrap ((m : Int) + 2 - 2) = (m : Int) := by rw [Go.IntWalk.i64_in _ (by omega)]; omega
                      clear hok hr
                      go_wp2_with fail
                      go_roundw
                      case rel => exact ⟨k + 1, by omega, by go_num, by first | rfl | trivial⟩
                      case measure => simp [intOf]; omega
                    · have hkk : k = (S 6).length := by omega
                      subst hkk
                      clear hlt hk HR6
                      go_wp2_with (go_at_call 39; refine (further_any lo ob V S false 2 rfl w h).mono ?_; rintro e w' ⟨rfl, rfl⟩)
                      go_ret
                      exact ⟨rfl, rfl⟩
end Go.Proofs.YtkgncijcnlfhiaaDoor

