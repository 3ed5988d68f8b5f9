import Derived.Test.YtkgncijcnlfhiaaDoorHf
namespace Go.Proofs.YtkgncijcnlfhiaaDoor
set_option linter.unusedVariables false
set_option linter.unusedSimpArgs false
open Go.RowKit
set_option maxRecDepth 100000 in
set_option maxHeartbeats 8000000 in
theorem spoil_any (lo ob : Nat) (V : Nat → Value) (S : Nat → List (Nat × Nat)) (w : World) (h : OwnAt lo w ob false V S) (hl : lo ≤ w.heap.size) :
    Calls Tryd.prog 38 #[.pointer (some ⟨ob, 0, none⟩)] w fun x w' => x = .returned (.tuple #[]) ∧ OwnAt lo w' ob true V S ∧ Below lo w w' ∧ lo ≤ w'.heap.size ∧ SpE lo ob V S w w' := by
  have HSP := hide (SpI.start h hl 1)
  clear h hl
  go_enter Tryd.func38, Tryd.ntmps38
  obtain ⟨ao1, cap1, hV1, _, hM1⟩ := HSP.out.form (g := 1) (by decide)
  have HV1 := hide hV1
  clear hV1
  unfold maxLen at hM1
  go_wp2_with fail
  go_loopw [2] (fun i wr => ∃ k : Nat, k ≤ (S 1).length ∧ i = .int .i64 k ∧ SpI lo ob V S w [] 1 k 0 wr) (fun i _ => (S 1).length - (intOf i).toNat)
  case atStart => exact ⟨0, Nat.zero_le _, rfl, HSP.out⟩
  case round =>
    clear HSP
    obtain ⟨k, hk, rfl, hsp⟩ := hrel
    have HSP := hide hsp
    have hob : wr.cell? ⟨ob, 1, none⟩ = some (.slice ao1 (S 1).length cap1) := by
      obtain ⟨a', c', k1, k2, _⟩ := hsp.form (g := 1) (by decide)
      rw [HV1.out] at k1
      rw [k2, ← k1]
    clear hsp
    by_cases hlt : k < (S 1).length
    · obtain ⟨r, hr⟩ := getElem?_lt hlt
      obtain ⟨g, hao, hrow, h2, hmm, _⟩ := HSP.out.row (by decide) HV1.out hr
      have HR := hide hr
      have HAO := hide hao
      clear hr
      subst hao
      go_wp2_with fail
      go_loopw [3] (fun i wr => ∃ q : Nat, q ≤ r.2 ∧ i = .int .i64 q ∧ SpI lo ob V S w [] 1 k q wr) (fun i _ => r.2 - (intOf i).toNat)
      case atStart => exact ⟨0, Nat.zero_le _, rfl, HSP.out⟩
      case round =>
        clear HSP hob hrow
        obtain ⟨q, hq, rfl, hsp⟩ := hrel
        have HSP := hide hsp
        have hob : wr.cell? ⟨ob, 1, none⟩ = some (.slice (some ⟨g, 0, none⟩) (S 1).length cap1) := by
          obtain ⟨a', c', k1, k2, _⟩ := hsp.form (g := 1) (by decide)
          rw [HV1.out] at k1
          rw [k2, ← k1]
        obtain ⟨g', hg', hrow, _, _, hcl, hbl, hbo, hbg⟩ := hsp.row (by decide) HV1.out HR.out
        simp only [Option.some.injEq, Addr.mk.injEq, and_true] at hg'
        subst hg'
        clear hsp
        by_cases hqt : q < r.2
        · have HN := hide (spw1 HSP.out HR.out hqt)
          obtain ⟨⟨x0, i0⟩, j0⟩ := hcl (q) (by simp only [sZ]; omega)
          have hbl' : ¬ r.1 = wr.heap.size := by omega
          clear hcl HSP
          go_wp2_with fail
          go_roundw
          case rel => exact ⟨q + 1, by omega, by go_num, HN.out⟩
          case measure => simp [intOf]; omega
        · have HN := hide (HSP.out.next HR.out (by omega))
          have hqq : q = r.2 := by omega
          subst hqq
          clear hqt hq HSP hcl
          go_wp2_with fail
          go_roundw
          case rel => exact ⟨k + 1, by omega, by go_num, HN.out⟩
          case measure => simp [intOf]; omega
    · have hkk : k = (S 1).length := by omega
      subst hkk
      have HSQ := hide (HSP.out.done (Nat.le_refl _) 3)
      clear hlt hk HSP HV1
      have HSP := HSQ
      clear HSQ
      obtain ⟨ao3, cap3, hV3, _, hM3⟩ := HSP.out.form (g := 3) (by decide)
      have HV3 := hide hV3
      clear hV3
      unfold maxLen at hM3
      go_wp2_with fail
      go_loopw [4] (fun i wr => ∃ k : Nat, k ≤ (S 3).length ∧ i = .int .i64 k ∧ SpI lo ob V S w [1] 3 k 0 wr) (fun i _ => (S 3).length - (intOf i).toNat)
      case atStart => exact ⟨0, Nat.zero_le _, rfl, HSP.out⟩
      case round =>
        clear HSP
        obtain ⟨k, hk, rfl, hsp⟩ := hrel
        have HSP := hide hsp
        have hob : wr.cell? ⟨ob, 3, none⟩ = some (.slice ao3 (S 3).length cap3) := by
          obtain ⟨a', c', k1, k2, _⟩ := hsp.form (g := 3) (by decide)
          rw [HV3.out] at k1
          rw [k2, ← k1]
        clear hsp
        by_cases hlt : k < (S 3).length
        · obtain ⟨r, hr⟩ := getElem?_lt hlt
          obtain ⟨g, hao, hrow, h2, hmm, _⟩ := HSP.out.row (by decide) HV3.out hr
          have HR := hide hr
          have HAO := hide hao
          clear hr
          subst hao
          go_wp2_with fail
          go_loopw [5] (fun i wr => ∃ q : Nat, q ≤ r.2 ∧ i = .int .i64 q ∧ SpI lo ob V S w [1] 3 k q wr) (fun i _ => r.2 - (intOf i).toNat)
          case atStart => exact ⟨0, Nat.zero_le _, rfl, HSP.out⟩
          case round =>
            clear HSP hob hrow
            obtain ⟨q, hq, rfl, hsp⟩ := hrel
            have HSP := hide hsp
            have hob : wr.cell? ⟨ob, 3, none⟩ = some (.slice (some ⟨g, 0, none⟩) (S 3).length cap3) := by
              obtain ⟨a', c', k1, k2, _⟩ := hsp.form (g := 3) (by decide)
              rw [HV3.out] at k1
              rw [k2, ← k1]
            obtain ⟨g', hg', hrow, _, _, hcl, hbl, hbo, hbg⟩ := hsp.row (by decide) HV3.out HR.out
            simp only [Option.some.injEq, Addr.mk.injEq, and_true] at hg'
            subst hg'
            clear hsp
            by_cases hqt : q < r.2
            · have HN := hide (spw3 HSP.out HR.out hqt)
              obtain ⟨⟨x0, i0⟩, j0⟩ := hcl (q * 4) (by simp only [sZ]; omega)
              obtain ⟨⟨x1, i1⟩, j1⟩ := hcl (q * 4 + 1) (by simp only [sZ]; omega)
              obtain ⟨⟨x2, i2⟩, j2⟩ := hcl (q * 4 + 2) (by simp only [sZ]; omega)
              obtain ⟨⟨x3, i3⟩, j3⟩ := hcl (q * 4 + 3) (by simp only [sZ]; omega)
              have hbl' : ¬ r.1 = wr.heap.size := by omega
              clear hcl HSP
              go_wp2_with fail
              go_roundw
              case rel => exact ⟨q + 1, by omega, by go_num, HN.out⟩
              case measure => simp [intOf]; omega
            · have HN := hide (HSP.out.next HR.out (by omega))
              have hqq : q = r.2 := by omega
              subst hqq
              clear hqt hq HSP hcl
              go_wp2_with fail
              go_roundw
              case rel => exact ⟨k + 1, by omega, by go_num, HN.out⟩
              case measure => simp [intOf]; omega
        · have hkk : k = (S 3).length := by omega
          subst hkk
          have HSQ := hide (HSP.out.done (Nat.le_refl _) 4)
          clear hlt hk HSP HV3
          have HSP := HSQ
          clear HSQ
          obtain ⟨ao4, cap4, hV4, _, hM4⟩ := HSP.out.form (g := 4) (by decide)
          have HV4 := hide hV4
          clear hV4
          unfold maxLen at hM4
          go_wp2_with fail
          go_loopw [6] (fun i wr => ∃ k : Nat, k ≤ (S 4).length ∧ i = .int .i64 k ∧ SpI lo ob V S w [3, 1] 4 k 0 wr) (fun i _ => (S 4).length - (intOf i).toNat)
          case atStart => exact ⟨0, Nat.zero_le _, rfl, HSP.out⟩
          case round =>
            clear HSP
            obtain ⟨k, hk, rfl, hsp⟩ := hrel
            have HSP := hide hsp
            have hob : wr.cell? ⟨ob, 4, none⟩ = some (.slice ao4 (S 4).length cap4) := by
              obtain ⟨a', c', k1, k2, _⟩ := hsp.form (g := 4) (by decide)
              rw [HV4.out] at k1
              rw [k2, ← k1]
            clear hsp
            by_cases hlt : k < (S 4).length
            · obtain ⟨r, hr⟩ := getElem?_lt hlt
              obtain ⟨g, hao, hrow, h2, hmm, _⟩ := HSP.out.row (by decide) HV4.out hr
              have HR := hide hr
              have HAO := hide hao
              clear hr
              subst hao
              go_wp2_with fail
              go_loopw [7] (fun i wr => ∃ q : Nat, q ≤ r.2 ∧ i = .int .i64 q ∧ SpI lo ob V S w [3, 1] 4 k q wr) (fun i _ => r.2 - (intOf i).toNat)
              case atStart => exact ⟨0, Nat.zero_le _, rfl, HSP.out⟩
              case round =>
                clear HSP hob hrow
                obtain ⟨q, hq, rfl, hsp⟩ := hrel
                have HSP := hide hsp
                have hob : wr.cell? ⟨ob, 4, none⟩ = some (.slice (some ⟨g, 0, none⟩) (S 4).length cap4) := by
                  obtain ⟨a', c', k1, k2, _⟩ := hsp.form (g := 4) (by decide)
                  rw [HV4.out] at k1
                  rw [k2, ← k1]
                obtain ⟨g', hg', hrow, _, _, hcl, hbl, hbo, hbg⟩ := hsp.row (by decide) HV4.out HR.out
                simp only [Option.some.injEq, Addr.mk.injEq, and_true] at hg'
                subst hg'
                clear hsp
                by_cases hqt : q < r.2
                · have HN := hide (spw4 HSP.out HR.out hqt)
                  obtain ⟨⟨x0, i0⟩, j0⟩ := hcl (q * 3) (by simp only [sZ]; omega)
                  obtain ⟨⟨x1, i1⟩, j1⟩ := hcl (q * 3 + 1) (by simp only [sZ]; omega)
                  obtain ⟨⟨x2, i2⟩, j2⟩ := hcl (q * 3 + 2) (by simp only [sZ]; omega)
                  have hbl' : ¬ r.1 = wr.heap.size := by omega
                  clear hcl HSP
                  go_wp2_with fail
                  go_roundw
                  case rel => exact ⟨q + 1, by omega, by go_num, HN.out⟩
                  case measure => simp [intOf]; omega
                · have HN := hide (HSP.out.next HR.out (by omega))
                  have hqq : q = r.2 := by omega
                  subst hqq
                  clear hqt hq HSP hcl
                  go_wp2_with fail
                  go_roundw
                  case rel => exact ⟨k + 1, by omega, by go_num, HN.out⟩
                  case measure => simp [intOf]; omega
            · have hkk : k = (S 4).length := by omega
              subst hkk
              have HSQ := hide (HSP.out.done (Nat.le_refl _) 5)
              clear hlt hk HSP HV4
              have HSP := HSQ
              clear HSQ
              obtain ⟨ao5, cap5, hV5, _, hM5⟩ := HSP.out.form (g := 5) (by decide)
              have HV5 := hide hV5
              clear hV5
              unfold maxLen at hM5
              go_wp2_with fail
              go_loopw [8] (fun i wr => ∃ k : Nat, k ≤ (S 5).length ∧ i = .int .i64 k ∧ SpI lo ob V S w [4, 3, 1] 5 k 0 wr) (fun i _ => (S 5).length - (intOf i).toNat)
              case atStart => exact ⟨0, Nat.zero_le _, rfl, HSP.out⟩
              case round =>
                clear HSP
                obtain ⟨k, hk, rfl, hsp⟩ := hrel
                have HSP := hide hsp
                have hob : wr.cell? ⟨ob, 5, none⟩ = some (.slice ao5 (S 5).length cap5) := by
                  obtain ⟨a', c', k1, k2, _⟩ := hsp.form (g := 5) (by decide)
                  rw [HV5.out] at k1
                  rw [k2, ← k1]
                clear hsp
                by_cases hlt : k < (S 5).length
                · obtain ⟨r, hr⟩ := getElem?_lt hlt
                  obtain ⟨g, hao, hrow, h2, hmm, _⟩ := HSP.out.row (by decide) HV5.out hr
                  have HR := hide hr
                  have HAO := hide hao
                  clear hr
                  subst hao
                  go_wp2_with fail
                  go_loopw [9] (fun i wr => ∃ q : Nat, q ≤ r.2 ∧ i = .int .i64 q ∧ SpI lo ob V S w [4, 3, 1] 5 k q wr) (fun i _ => r.2 - (intOf i).toNat)
                  case atStart => exact ⟨0, Nat.zero_le _, rfl, HSP.out⟩
                  case round =>
                    clear HSP hob hrow
                    obtain ⟨q, hq, rfl, hsp⟩ := hrel
                    have HSP := hide hsp
                    have hob : wr.cell? ⟨ob, 5, none⟩ = some (.slice (some ⟨g, 0, none⟩) (S 5).length cap5) := by
                      obtain ⟨a', c', k1, k2, _⟩ := hsp.form (g := 5) (by decide)
                      rw [HV5.out] at k1
                      rw [k2, ← k1]
                    obtain ⟨g', hg', hrow, _, _, hcl, hbl, hbo, hbg⟩ := hsp.row (by decide) HV5.out HR.out
                    simp only [Option.some.injEq, Addr.mk.injEq, and_true] at hg'
                    subst hg'
                    clear hsp
                    by_cases hqt : q < r.2
                    · have HN := hide (spw5 HSP.out HR.out hqt)
                      obtain ⟨⟨x0, i0⟩, j0⟩ := hcl (q * 2) (by simp only [sZ]; omega)
                      obtain ⟨⟨x1, i1⟩, j1⟩ := hcl (q * 2 + 1) (by simp only [sZ]; omega)
                      have hbl' : ¬ r.1 = wr.heap.size := by omega
                      clear hcl HSP
                      go_wp2_with fail
                      go_roundw
                      case rel => exact ⟨q + 1, by omega, by go_num, HN.out⟩
                      case measure => simp [intOf]; omega
                    · have HN := hide (HSP.out.next HR.out (by omega))
                      have hqq : q = r.2 := by omega
                      subst hqq
                      clear hqt hq HSP hcl
                      go_wp2_with fail
                      go_roundw
                      case rel => exact ⟨k + 1, by omega, by go_num, HN.out⟩
                      case measure => simp [intOf]; omega
                · have hkk : k = (S 5).length := by omega
                  subst hkk
                  have HSQ := hide (HSP.out.done (Nat.le_refl _) 7)
                  clear hlt hk HSP HV5
                  have HSP := HSQ
                  clear HSQ
                  obtain ⟨ao7, cap7, hV7, _, hM7⟩ := HSP.out.form (g := 7) (by decide)
                  have HV7 := hide hV7
                  clear hV7
                  unfold maxLen at hM7
                  go_wp2_with fail
                  go_loopw [10] (fun i wr => ∃ k : Nat, k ≤ (S 7).length ∧ i = .int .i64 k ∧ SpI lo ob V S w [5, 4, 3, 1] 7 k 0 wr) (fun i _ => (S 7).length - (intOf i).toNat)
                  case atStart => exact ⟨0, Nat.zero_le _, rfl, HSP.out⟩
                  case round =>
                    clear HSP
                    obtain ⟨k, hk, rfl, hsp⟩ := hrel
                    have HSP := hide hsp
                    have hob : wr.cell? ⟨ob, 7, none⟩ = some (.slice ao7 (S 7).length cap7) := by
                      obtain ⟨a', c', k1, k2, _⟩ := hsp.form (g := 7) (by decide)
                      rw [HV7.out] at k1
                      rw [k2, ← k1]
                    clear hsp
                    by_cases hlt : k < (S 7).length
                    · obtain ⟨r, hr⟩ := getElem?_lt hlt
                      obtain ⟨g, hao, hrow, h2, hmm, _⟩ := HSP.out.row (by decide) HV7.out hr
                      have HR := hide hr
                      have HAO := hide hao
                      clear hr
                      subst hao
                      go_wp2_with fail
                      go_loopw [11] (fun i wr => ∃ q : Nat, q ≤ r.2 ∧ i = .int .i64 q ∧ SpI lo ob V S w [5, 4, 3, 1] 7 k q wr) (fun i _ => r.2 - (intOf i).toNat)
                      case atStart => exact ⟨0, Nat.zero_le _, rfl, HSP.out⟩
                      case round =>
                        clear HSP hob hrow
                        obtain ⟨q, hq, rfl, hsp⟩ := hrel
                        have HSP := hide hsp
                        have hob : wr.cell? ⟨ob, 7, none⟩ = some (.slice (some ⟨g, 0, none⟩) (S 7).length cap7) := by
                          obtain ⟨a', c', k1, k2, _⟩ := hsp.form (g := 7) (by decide)
                          rw [HV7.out] at k1
                          rw [k2, ← k1]
                        obtain ⟨g', hg', hrow, _, _, hcl, hbl, hbo, hbg⟩ := hsp.row (by decide) HV7.out HR.out
                        simp only [Option.some.injEq, Addr.mk.injEq, and_true] at hg'
                        subst hg'
                        clear hsp
                        by_cases hqt : q < r.2
                        · have HN := hide (spw7 HSP.out HR.out hqt)
                          obtain ⟨⟨x0, i0⟩, j0⟩ := hcl (q * 5) (by simp only [sZ]; omega)
                          obtain ⟨⟨x1, i1⟩, j1⟩ := hcl (q * 5 + 1) (by simp only [sZ]; omega)
                          obtain ⟨⟨x2, i2⟩, j2⟩ := hcl (q * 5 + 2) (by simp only [sZ]; omega)
                          obtain ⟨⟨x3, i3⟩, j3⟩ := hcl (q * 5 + 3) (by simp only [sZ]; omega)
                          obtain ⟨⟨x4, i4⟩, j4⟩ := hcl (q * 5 + 4) (by simp only [sZ]; omega)
                          have hbl' : ¬ r.1 = wr.heap.size := by omega
                          clear hcl HSP
                          go_wp2_with fail
                          go_roundw
                          case rel => exact ⟨q + 1, by omega, by go_num, HN.out⟩
                          case measure => simp [intOf]; omega
                        · have HN := hide (HSP.out.next HR.out (by omega))
                          have hqq : q = r.2 := by omega
                          subst hqq
                          clear hqt hq HSP hcl
                          go_wp2_with fail
                          go_roundw
                          case rel => exact ⟨k + 1, by omega, by go_num, HN.out⟩
                          case measure => simp [intOf]; omega
                    · have hkk : k = (S 7).length := by omega
                      subst hkk
                      have HSQ := hide (HSP.out.done (Nat.le_refl _) 0)
                      clear hlt hk HSP HV7
                      have HSP := HSQ
                      clear HSQ
                      obtain ⟨ao0, cap0, hV0, _, hM0⟩ := HSP.out.form (g := 0) (by decide)
                      have HV0 := hide hV0
                      clear hV0
                      unfold maxLen at hM0
                      go_wp2_with fail
                      go_loopw [12] (fun i wr => ∃ k : Nat, k ≤ (S 0).length ∧ i = .int .i64 k ∧ SpI lo ob V S w [7, 5, 4, 3, 1] 0 k 0 wr) (fun i _ => (S 0).length - (intOf i).toNat)
                      case atStart => exact ⟨0, Nat.zero_le _, rfl, HSP.out⟩
                      case round =>
                        clear HSP
                        obtain ⟨k, hk, rfl, hsp⟩ := hrel
                        have HSP := hide hsp
                        have hob : wr.cell? ⟨ob, 0, none⟩ = some (.slice ao0 (S 0).length cap0) := by
                          obtain ⟨a', c', k1, k2, _⟩ := hsp.form (g := 0) (by decide)
                          rw [HV0.out] at k1
                          rw [k2, ← k1]
                        clear hsp
                        by_cases hlt : k < (S 0).length
                        · obtain ⟨r, hr⟩ := getElem?_lt hlt
                          obtain ⟨g, hao, hrow, h2, hmm, _⟩ := HSP.out.row (by decide) HV0.out hr
                          have HR := hide hr
                          have HAO := hide hao
                          clear hr
                          subst hao
                          go_wp2_with fail
                          go_loopw [13] (fun i wr => ∃ q : Nat, q ≤ r.2 ∧ i = .int .i64 q ∧ SpI lo ob V S w [7, 5, 4, 3, 1] 0 k q wr) (fun i _ => r.2 - (intOf i).toNat)
                          case atStart => exact ⟨0, Nat.zero_le _, rfl, HSP.out⟩
                          case round =>
                            clear HSP hob hrow
                            obtain ⟨q, hq, rfl, hsp⟩ := hrel
                            have HSP := hide hsp
                            have hob : wr.cell? ⟨ob, 0, none⟩ = some (.slice (some ⟨g, 0, none⟩) (S 0).length cap0) := by
                              obtain ⟨a', c', k1, k2, _⟩ := hsp.form (g := 0) (by decide)
                              rw [HV0.out] at k1
                              rw [k2, ← k1]
                            obtain ⟨g', hg', hrow, _, _, hcl, hbl, hbo, hbg⟩ := hsp.row (by decide) HV0.out HR.out
                            simp only [Option.some.injEq, Addr.mk.injEq, and_true] at hg'
                            subst hg'
                            clear hsp
                            by_cases hqt : q < r.2
                            · have HN := hide (spw0 HSP.out HR.out hqt)
                              obtain ⟨⟨x0, i0⟩, j0⟩ := hcl (q) (by simp only [sZ]; omega)
                              have hbl' : ¬ r.1 = wr.heap.size := by omega
                              clear hcl HSP
                              go_wp2_with fail
                              go_roundw
                              case rel => exact ⟨q + 1, by omega, by go_num, HN.out⟩
                              case measure => simp [intOf]; omega
                            · have HN := hide (HSP.out.next HR.out (by omega))
                              have hqq : q = r.2 := by omega
                              subst hqq
                              clear hqt hq HSP hcl
                              go_wp2_with fail
                              go_roundw
                              case rel => exact ⟨k + 1, by omega, by go_num, HN.out⟩
                              case measure => simp [intOf]; omega
                        · have hkk : k = (S 0).length := by omega
                          subst hkk
                          have HSQ := hide (HSP.out.done (Nat.le_refl _) 2)
                          clear hlt hk HSP HV0
                          have HSP := HSQ
                          clear HSQ
                          obtain ⟨ao2, cap2, hV2, _, hM2⟩ := HSP.out.form (g := 2) (by decide)
                          have HV2 := hide hV2
                          clear hV2
                          unfold maxLen at hM2
                          go_wp2_with fail
                          go_loopw [14] (fun i wr => ∃ k : Nat, k ≤ (S 2).length ∧ i = .int .i64 k ∧ SpI lo ob V S w [0, 7, 5, 4, 3, 1] 2 k 0 wr) (fun i _ => (S 2).length - (intOf i).toNat)
                          case atStart => exact ⟨0, Nat.zero_le _, rfl, HSP.out⟩
                          case round =>
                            clear HSP
                            obtain ⟨k, hk, rfl, hsp⟩ := hrel
                            have HSP := hide hsp
                            have hob : wr.cell? ⟨ob, 2, none⟩ = some (.slice ao2 (S 2).length cap2) := by
                              obtain ⟨a', c', k1, k2, _⟩ := hsp.form (g := 2) (by decide)
                              rw [HV2.out] at k1
                              rw [k2, ← k1]
                            clear hsp
                            by_cases hlt : k < (S 2).length
                            · obtain ⟨r, hr⟩ := getElem?_lt hlt
                              obtain ⟨g, hao, hrow, h2, hmm, _⟩ := HSP.out.row (by decide) HV2.out hr
                              have HR := hide hr
                              have HAO := hide hao
                              clear hr
                              subst hao
                              go_wp2_with fail
                              go_loopw [15] (fun i wr => ∃ q : Nat, q ≤ r.2 ∧ i = .int .i64 q ∧ SpI lo ob V S w [0, 7, 5, 4, 3, 1] 2 k q wr) (fun i _ => r.2 - (intOf i).toNat)
                              case atStart => exact ⟨0, Nat.zero_le _, rfl, HSP.out⟩
                              case round =>
                                clear HSP hob hrow
                                obtain ⟨q, hq, rfl, hsp⟩ := hrel
                                have HSP := hide hsp
                                have hob : wr.cell? ⟨ob, 2, none⟩ = some (.slice (some ⟨g, 0, none⟩) (S 2).length cap2) := by
                                  obtain ⟨a', c', k1, k2, _⟩ := hsp.form (g := 2) (by decide)
                                  rw [HV2.out] at k1
                                  rw [k2, ← k1]
                                obtain ⟨g', hg', hrow, _, _, hcl, hbl, hbo, hbg⟩ := hsp.row (by decide) HV2.out HR.out
                                simp only [Option.some.injEq, Addr.mk.injEq, and_true] at hg'
                                subst hg'
                                clear hsp
                                by_cases hqt : q < r.2
                                · have HN := hide (spw2 HSP.out HR.out hqt)
                                  obtain ⟨⟨x0, i0⟩, j0⟩ := hcl (q * 3) (by simp only [sZ]; omega)
                                  obtain ⟨⟨x1, i1⟩, j1⟩ := hcl (q * 3 + 1) (by simp only [sZ]; omega)
                                  obtain ⟨⟨x2, i2⟩, j2⟩ := hcl (q * 3 + 2) (by simp only [sZ]; omega)
                                  have hbl' : ¬ r.1 = wr.heap.size := by omega
                                  clear hcl HSP
                                  go_wp2_with fail
                                  go_roundw
                                  case rel => exact ⟨q + 1, by omega, by go_num, HN.out⟩
                                  case measure => simp [intOf]; omega
                                · have HN := hide (HSP.out.next HR.out (by omega))
                                  have hqq : q = r.2 := by omega
                                  subst hqq
                                  clear hqt hq HSP hcl
                                  go_wp2_with fail
                                  go_roundw
                                  case rel => exact ⟨k + 1, by omega, by go_num, HN.out⟩
                                  case measure => simp [intOf]; omega
                            · have hkk : k = (S 2).length := by omega
                              subst hkk
                              have HSQ := hide (HSP.out.done (Nat.le_refl _) 6)
                              clear hlt hk HSP HV2
                              have HSP := HSQ
                              clear HSQ
                              obtain ⟨ao6, cap6, hV6, _, hM6⟩ := HSP.out.form (g := 6) (by decide)
                              have HV6 := hide hV6
                              clear hV6
                              unfold maxLen at hM6
                              go_wp2_with fail
                              go_loopw [16] (fun i wr => ∃ k : Nat, k ≤ (S 6).length ∧ i = .int .i64 k ∧ SpI lo ob V S w [2, 0, 7, 5, 4, 3, 1] 6 k 0 wr) (fun i _ => (S 6).length - (intOf i).toNat)
                              case atStart => exact ⟨0, Nat.zero_le _, rfl, HSP.out⟩
                              case round =>
                                clear HSP
                                obtain ⟨k, hk, rfl, hsp⟩ := hrel
                                have HSP := hide hsp
                                have hob : wr.cell? ⟨ob, 6, none⟩ = some (.slice ao6 (S 6).length cap6) := by
                                  obtain ⟨a', c', k1, k2, _⟩ := hsp.form (g := 6) (by decide)
                                  rw [HV6.out] at k1
                                  rw [k2, ← k1]
                                clear hsp
                                by_cases hlt : k < (S 6).length
                                · obtain ⟨r, hr⟩ := getElem?_lt hlt
                                  obtain ⟨g, hao, hrow, h2, hmm, _⟩ := HSP.out.row (by decide) HV6.out hr
                                  have HR := hide hr
                                  have HAO := hide hao
                                  clear hr
                                  subst hao
                                  go_wp2_with fail
                                  go_loopw [17] (fun i wr => ∃ q : Nat, q ≤ r.2 ∧ i = .int .i64 q ∧ SpI lo ob V S w [2, 0, 7, 5, 4, 3, 1] 6 k q wr) (fun i _ => r.2 - (intOf i).toNat)
                                  case atStart => exact ⟨0, Nat.zero_le _, rfl, HSP.out⟩
                                  case round =>
                                    clear HSP hob hrow
                                    obtain ⟨q, hq, rfl, hsp⟩ := hrel
                                    have HSP := hide hsp
                                    have hob : wr.cell? ⟨ob, 6, none⟩ = some (.slice (some ⟨g, 0, none⟩) (S 6).length cap6) := by
                                      obtain ⟨a', c', k1, k2, _⟩ := hsp.form (g := 6) (by decide)
                                      rw [HV6.out] at k1
                                      rw [k2, ← k1]
                                    obtain ⟨g', hg', hrow, _, _, hcl, hbl, hbo, hbg⟩ := hsp.row (by decide) HV6.out HR.out
                                    simp only [Option.some.injEq, Addr.mk.injEq, and_true] at hg'
                                    subst hg'
                                    clear hsp
                                    by_cases hqt : q < r.2
                                    · have HN := hide (spw6 HSP.out HR.out hqt)
                                      obtain ⟨⟨x0, i0⟩, j0⟩ := hcl (q) (by simp only [sZ]; omega)
                                      have hbl' : ¬ r.1 = wr.heap.size := by omega
                                      clear hcl HSP
                                      go_wp2_with fail
                                      go_roundw
                                      case rel => exact ⟨q + 1, by omega, by go_num, HN.out⟩
                                      case measure => simp [intOf]; omega
                                    · have HN := hide (HSP.out.next HR.out (by omega))
                                      have hqq : q = r.2 := by omega
                                      subst hqq
                                      clear hqt hq HSP hcl
                                      go_wp2_with fail
                                      go_roundw
                                      case rel => exact ⟨k + 1, by omega, by go_num, HN.out⟩
                                      case measure => simp [intOf]; omega
                                · have hkk : k = (S 6).length := by omega
                                  subst hkk
                                  have HSQ := hide (HSP.out.done (Nat.le_refl _) 0)
                                  clear hlt hk HSP HV6
                                  have HSP := HSQ
                                  clear HSQ
                                  obtain ⟨z1, z2, z3⟩ := HSP.out.end_
                                  have z4 := HSP.out.end2
                                  go_wp2_with fail
                                  go_end0
                                  exact ⟨rfl, z1, z2, z3, z4⟩
end Go.Proofs.YtkgncijcnlfhiaaDoor

