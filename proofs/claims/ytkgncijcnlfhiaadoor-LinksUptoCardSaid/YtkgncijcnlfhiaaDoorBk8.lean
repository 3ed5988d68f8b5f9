import Derived.Deep.Cut
import Derived.Deep.CutRange
import Derived.Test.YtkgncijcnlfhiaaDoorBk7
import Derived.Test.YtkgncijcnlfhiaaDoorNl
namespace Go.Proofs.YtkgncijcnlfhiaaDoor
set_option linter.unusedVariables false
set_option linter.unusedSimpArgs false
open Go.RowKit
attribute [local go_sem ↓] Go.wp_at_zero Go.wp_at_succ
set_option maxRecDepth 100000 in
set_option maxHeartbeats 8000000 in
theorem book_holds (db : Nat) (vo : Value) (n : Int) (V : Nat → Value) (X : Nat → List Value) (ρ : Nat → BR) (w : World) (hS : BookS db w vo n V X ρ) (hE : BookE w ρ X) :
    Calls Tryd.prog 19 #[.pointer (some ⟨db, 1, none⟩)] w fun x w' => x = .returned (.bool true) ∧ Gr w w' := by
  have HS := hide hS
  have HE := hide hE
  have HG := hide (Gr.refl w)
  clear hS hE
  go_enter Tryd.func19, Tryd.ntmps19
  obtain ⟨Ni, Li, Mi, ai, zi, ci, di, hsi⟩ := sec_i HS.out HE.out
  have HSi := hide hsi
  clear hsi
  have hnli : Ni ≤ maxLen := HSi.out.nl
  unfold maxLen at hnli
  go_wp2_with fail
  go_loopw [3] (fun kv wr => ∃ k : Nat, k ≤ Ni ∧ kv = .int .i64 (k : Int) ∧ Hid (Gr w wr)) (fun kv _ => Ni - (intOf kv).toNat)
  case atStart => exact ⟨0, Nat.zero_le _, rfl, HG⟩
  case round =>
    clear HG
    obtain ⟨k, hk, rfl, HG⟩ := hrel
    have ci := HG.out.cell HSi.out.ci (by simp)
    by_cases hlt : k < Ni
    · obtain ⟨b, b', ae, ce, ha, ha', hcb, hcb', hll, hel⟩ := HSi.out.en k hlt
      subst ha; subst ha'
      have HEl := hide hel
      clear hel
      generalize Li k = l at hcb hll HEl
      generalize Mi k = m at hcb' HEl
      have HCb := hide hcb
      have HCc := hide hcb'
      clear hcb hcb'
      unfold maxLen at hll
      have hkn : (0 : Int) ≤ (k : Int) := by omega
      have hkn2 : (k : Int) < (Ni : Int) := by omega
      go_wp2_with fail
      go_loopw [4] (fun qv w2 => ∃ q : Nat, q ≤ l ∧ qv = .int .i64 (q : Int) ∧ Hid (Gr w w2)) (fun qv _ => l - (intOf qv).toNat)
      case atStart => exact ⟨0, Nat.zero_le _, rfl, HG⟩
      case round =>
        clear HG ci
        obtain ⟨q, hq, rfl, HG2⟩ := hrel
        rename World => w2
        by_cases hql : q < l
        · as_aux_lemma =>
            obtain ⟨eb, eo, hae, eb2, heb, h0⟩ := HEl.out q hql
            subst hae
            obtain rfl : eb = eb2 := by have h := heb; simp at h; omega
            clear heb
            have hqn : (0 : Int) ≤ (q : Int) := by omega
            have hqn2 : (q : Int) < (l : Int) := by omega
            have e0 : w2.cell? ⟨db, 2, none⟩ = some (.slice (some ⟨b, 0, none⟩) Ni ci) := HG2.out.cell HSi.out.ci (by simp)
            have e1 : w2.cell? ⟨b, k, none⟩ = some (.slice (some ⟨eb, eo, none⟩) l ce) := HG2.out.cell HCb.out (by simp)
            have e2 : w2.cell? ⟨db, 3, none⟩ = some (.slice (some ⟨b', 0, none⟩) Ni di) := HG2.out.cell HSi.out.cj (by simp)
            have e3 : w2.cell? ⟨b', k, none⟩ = some (.int .i64 m) := HG2.out.cell HCc.out (by simp)
            have e4 : w2.cell? ⟨eb, eo + q, none⟩ = some (.int .i64 m) := HG2.out.cell h0 (by simp)
            have KS : Hid (∀ w', Gr w2 w' → (fun w' => w'.cell? ⟨db, 2, none⟩ = some (.slice (some ⟨b, 0, none⟩) Ni ci) ∧ w'.cell? ⟨b, k, none⟩ = some (.slice (some ⟨eb, eo, none⟩) l ce) ∧ w'.cell? ⟨db, 3, none⟩ = some (.slice (some ⟨b', 0, none⟩) Ni di) ∧ w'.cell? ⟨b', k, none⟩ = some (.int .i64 m) ∧ w'.cell? ⟨eb, eo + q, none⟩ = some (.int .i64 m)) w') := hide (fun w' g => ⟨(HG2.out.trans g).cell HSi.out.ci (by simp), (HG2.out.trans g).cell HCb.out (by simp), (HG2.out.trans g).cell HSi.out.cj (by simp), (HG2.out.trans g).cell HCc.out (by simp), (HG2.out.trans g).cell h0 (by simp)⟩)
            clear h0
            go_wp2_with fail
            clear e0 e1 e2 e3 e4
            refine wp_region_held_drew (S := (fun w' => w'.cell? ⟨db, 2, none⟩ = some (.slice (some ⟨b, 0, none⟩) Ni ci) ∧ w'.cell? ⟨b, k, none⟩ = some (.slice (some ⟨eb, eo, none⟩) l ce) ∧ w'.cell? ⟨db, 3, none⟩ = some (.slice (some ⟨b', 0, none⟩) Ni di) ∧ w'.cell? ⟨b', k, none⟩ = some (.int .i64 m) ∧ w'.cell? ⟨eb, eo + q, none⟩ = some (.int .i64 m))) (by kernel_rfl) (KS.out _ (Gr.drew (Gr.refl _))) (fun hHeld => ?_)
            refine takeL (i := 0) (v := ?riv0) rfl (by kernel_rfl) (by kernel_rfl) (by kernel_rfl) (by intro c a w h; exact h) (by rfl) ?rihy0 hHeld ?rirest0
            case rihy0 => (intro w hSw; (try dsimp only at hSw); go_simp <;> with_reducible rfl)
            simp only [Act.put, List.setIfInBounds_toArray, List.set_cons_zero, List.set_cons_succ]
            refine takeL (i := 1) (v := ?riv1) rfl (by kernel_rfl) (by kernel_rfl) (by kernel_rfl) (by intro c a w h; exact h) (by rfl) ?rihy1 hHeld ?rirest1
            case rihy1 => (intro w hSw; (try dsimp only at hSw); go_simp <;> with_reducible rfl)
            simp only [Act.put, List.setIfInBounds_toArray, List.set_cons_zero, List.set_cons_succ]
            refine takeL (i := 2) (v := ?riv2) rfl (by kernel_rfl) (by kernel_rfl) (by kernel_rfl) (by intro c a w h; exact h) (by rfl) ?rihy2 hHeld ?rirest2
            case rihy2 => (intro w hSw; (try dsimp only at hSw); go_simp <;> with_reducible rfl)
            simp only [Act.put, List.setIfInBounds_toArray, List.set_cons_zero, List.set_cons_succ]
            refine takeL (i := 3) (v := ?riv3) rfl (by kernel_rfl) (by kernel_rfl) (by kernel_rfl) (by intro c a w h; exact h) (by rfl) ?rihy3 hHeld ?rirest3
            case rihy3 => (intro w hSw; (try dsimp only at hSw); go_simp <;> with_reducible rfl)
            simp only [Act.put, List.setIfInBounds_toArray, List.set_cons_zero, List.set_cons_succ]
            refine takeL (i := 4) (v := ?riv4) rfl (by kernel_rfl) (by kernel_rfl) (by kernel_rfl) (by intro c a w h; exact h) (by rfl) ?rihy4 hHeld ?rirest4
            case rihy4 => (intro w hSw; (try dsimp only at hSw); go_simp <;> with_reducible rfl)
            simp only [Act.put, List.setIfInBounds_toArray, List.set_cons_zero, List.set_cons_succ]
            refine takeL (i := 5) (v := ?riv5) rfl (by kernel_rfl) (by kernel_rfl) (by kernel_rfl) (by intro c a w h; exact h) (by rfl) ?rihy5 hHeld ?rirest5
            case rihy5 => (intro w hSw; (try dsimp only at hSw); go_simp <;> with_reducible rfl)
            simp only [Act.put, List.setIfInBounds_toArray, List.set_cons_zero, List.set_cons_succ]
            refine takeL (i := 6) (v := ?riv6) rfl (by kernel_rfl) (by kernel_rfl) (by kernel_rfl) (by intro c a w h; exact h) (by rfl) ?rihy6 hHeld ?rirest6
            case rihy6 => (intro w hSw; (try dsimp only at hSw); go_simp <;> with_reducible rfl)
            simp only [Act.put, List.setIfInBounds_toArray, List.set_cons_zero, List.set_cons_succ]
            refine takeL (i := 7) (v := ?riv7) rfl (by kernel_rfl) (by kernel_rfl) (by kernel_rfl) (by intro c a w h; exact h) (by rfl) ?rihy7 hHeld ?rirest7
            case rihy7 => (intro w hSw; (try dsimp only at hSw); go_simp <;> with_reducible rfl)
            simp only [Act.put, List.setIfInBounds_toArray, List.set_cons_zero, List.set_cons_succ]
            refine takeL (i := 8) (v := ?riv8) rfl (by kernel_rfl) (by kernel_rfl) (by kernel_rfl) (by intro c a w h; exact h) (by rfl) ?rihy8 hHeld ?rirest8
            case rihy8 => (intro w hSw; (try dsimp only at hSw); go_simp <;> with_reducible rfl)
            simp only [Act.put, List.setIfInBounds_toArray, List.set_cons_zero, List.set_cons_succ]
            refine takeL (i := 9) (v := ?riv9) rfl (by kernel_rfl) (by kernel_rfl) (by kernel_rfl) (by intro c a w h; exact h) (by rfl) ?rihy9 hHeld ?rirest9
            case rihy9 => (intro w hSw; (try dsimp only at hSw); go_simp <;> with_reducible rfl)
            simp only [Act.put, List.setIfInBounds_toArray, List.set_cons_zero, List.set_cons_succ]
            refine takeL (i := 10) (v := ?riv10) rfl (by kernel_rfl) (by kernel_rfl) (by kernel_rfl) (by intro c a w h; exact h) (by rfl) ?rihy10 hHeld ?rirest10
            case rihy10 => (intro w hSw; (try dsimp only at hSw); go_simp <;> with_reducible rfl)
            simp only [Act.put, List.setIfInBounds_toArray, List.set_cons_zero, List.set_cons_succ]
            refine takeL (i := 11) (v := ?riv11) rfl (by kernel_rfl) (by kernel_rfl) (by kernel_rfl) (by intro c a w h; exact h) (by rfl) ?rihy11 hHeld ?rirest11
            case rihy11 => (intro w hSw; (try dsimp only at hSw); go_simp <;> with_reducible rfl)
            simp only [Act.put, List.setIfInBounds_toArray, List.set_cons_zero, List.set_cons_succ]
            refine takeL (i := 12) (v := ?riv12) rfl (by kernel_rfl) (by kernel_rfl) (by kernel_rfl) (by intro c a w h; exact h) (by rfl) ?rihy12 hHeld ?rirest12
            case rihy12 => (intro w hSw; (try dsimp only at hSw); go_simp <;> with_reducible rfl)
            simp only [Act.put, List.setIfInBounds_toArray, List.set_cons_zero, List.set_cons_succ]
            refine takeL (i := 13) (v := ?riv13) rfl (by kernel_rfl) (by kernel_rfl) (by kernel_rfl) (by intro c a w h; exact h) (by rfl) ?rihy13 hHeld ?rirest13
            case rihy13 => (intro w hSw; (try dsimp only at hSw); go_simp <;> with_reducible rfl)
            simp only [Act.put, List.setIfInBounds_toArray, List.set_cons_zero, List.set_cons_succ]
            refine takeL (i := 14) (v := ?riv14) rfl (by kernel_rfl) (by kernel_rfl) (by kernel_rfl) (by intro c a w h; exact h) (by rfl) ?rihy14 hHeld ?rirest14
            case rihy14 => (intro w hSw; (try dsimp only at hSw); go_simp <;> with_reducible rfl)
            simp only [Act.put, List.setIfInBounds_toArray, List.set_cons_zero, List.set_cons_succ]
            refine takeL (i := 15) (v := ?riv15) rfl (by kernel_rfl) (by kernel_rfl) (by kernel_rfl) (by intro c a w h; exact h) (by rfl) ?rihy15 hHeld ?rirest15
            case rihy15 => (intro w hSw; (try dsimp only at hSw); go_simp <;> with_reducible rfl)
            simp only [Act.put, List.setIfInBounds_toArray, List.set_cons_zero, List.set_cons_succ]
            refine takeL (i := 16) (v := ?riv16) rfl (by kernel_rfl) (by kernel_rfl) (by kernel_rfl) (by intro c a w h; exact h) (by rfl) ?rihy16 hHeld ?rirest16
            case rihy16 => (intro w hSw; (try dsimp only at hSw); go_simp <;> with_reducible rfl)
            simp only [Act.put, List.setIfInBounds_toArray, List.set_cons_zero, List.set_cons_succ]
            refine takeL (i := 17) (v := ?riv17) rfl (by kernel_rfl) (by kernel_rfl) (by kernel_rfl) (by intro c a w h; exact h) (by rfl) ?rihy17 hHeld ?rirest17
            case rihy17 => (intro w hSw; (try dsimp only at hSw); go_simp <;> with_reducible rfl)
            simp only [Act.put, List.setIfInBounds_toArray, List.set_cons_zero, List.set_cons_succ]
            refine wpAnyH_done (by kernel_rfl) ?_ _
            clear hHeld KS
            go_wp2_with fail
            go_roundw
            case rel => exact ⟨q + 1, by omega, by go_num, hide (HG2.out.trans (Gr.drew (Gr.refl _)))⟩
            case measure => simp [intOf]; omega
        · have hqe : q = l := by omega
          subst hqe
          have di := HG2.out.cell HSi.out.ci (by simp)
          have db1 := HG2.out.cell HCb.out (by simp)
          go_wp2_with fail
          go_roundw
          case rel => exact ⟨k + 1, by omega, by go_num, HG2⟩
          case measure => simp [intOf]; omega
    · have hke : k = Ni := by omega
      subst hke
      clear hlt hk
      obtain ⟨Nc, Lc, Mc, ac, zc, cc, dc, hsc⟩ := sec_c HS.out HE.out
      have HSc := hide hsc
      clear hsc
      have hnlc : Nc ≤ maxLen := HSc.out.nl
      unfold maxLen at hnlc
      go_wp2_with fail
      go_loopw [5] (fun kv wr => ∃ k : Nat, k ≤ Nc ∧ kv = .int .i64 (k : Int) ∧ Hid (Gr w wr)) (fun kv _ => Nc - (intOf kv).toNat)
      case atStart => exact ⟨0, Nat.zero_le _, rfl, HG⟩
      case round =>
        clear HG
        obtain ⟨k, hk, rfl, HG⟩ := hrel
        have ci := HG.out.cell HSc.out.ci (by simp)
        by_cases hlt : k < Nc
        · obtain ⟨b, b', ae, ce, ha, ha', hcb, hcb', hll, hel⟩ := HSc.out.en k hlt
          subst ha; subst ha'
          have HEl := hide hel
          clear hel
          generalize Lc k = l at hcb hll HEl
          generalize Mc k = m at hcb' HEl
          have HCb := hide hcb
          have HCc := hide hcb'
          clear hcb hcb'
          unfold maxLen at hll
          have hkn : (0 : Int) ≤ (k : Int) := by omega
          have hkn2 : (k : Int) < (Nc : Int) := by omega
          go_wp2_with fail
          go_loopw [6] (fun qv w2 => ∃ q : Nat, q ≤ l ∧ qv = .int .i64 (q : Int) ∧ Hid (Gr w w2)) (fun qv _ => l - (intOf qv).toNat)
          case atStart => exact ⟨0, Nat.zero_le _, rfl, HG⟩
          case round =>
            clear HG ci
            obtain ⟨q, hq, rfl, HG2⟩ := hrel
            rename World => w2
            by_cases hql : q < l
            · as_aux_lemma =>
                obtain ⟨eb, eo, hae, eb2, heb, h0, h1, h2⟩ := HEl.out q hql
                subst hae
                obtain rfl : eb = eb2 := by have h := heb; simp at h; omega
                clear heb
                have hqn : (0 : Int) ≤ (q : Int) := by omega
                have hqn2 : (q : Int) < (l : Int) := by omega
                have e0 : w2.cell? ⟨db, 4, none⟩ = some (.slice (some ⟨b, 0, none⟩) Nc cc) := HG2.out.cell HSc.out.ci (by simp)
                have e1 : w2.cell? ⟨b, k, none⟩ = some (.slice (some ⟨eb, eo, none⟩) l ce) := HG2.out.cell HCb.out (by simp)
                have e2 : w2.cell? ⟨db, 5, none⟩ = some (.slice (some ⟨b', 0, none⟩) Nc dc) := HG2.out.cell HSc.out.cj (by simp)
                have e3 : w2.cell? ⟨b', k, none⟩ = some (.int .i64 m) := HG2.out.cell HCc.out (by simp)
                have e4 : w2.cell? ⟨eb, eo + q * 3, none⟩ = some (.int .i64 0) := HG2.out.cell h0 (by simp)
                have e5 : w2.cell? ⟨eb, eo + q * 3 + 1, none⟩ = some (.int .i64 m) := HG2.out.cell h1 (by simp)
                have e6 : w2.cell? ⟨eb, eo + q * 3 + 2, none⟩ = some (.int .i64 0) := HG2.out.cell h2 (by simp)
                have KS : Hid (∀ w', Gr w2 w' → (fun w' => w'.cell? ⟨db, 4, none⟩ = some (.slice (some ⟨b, 0, none⟩) Nc cc) ∧ w'.cell? ⟨b, k, none⟩ = some (.slice (some ⟨eb, eo, none⟩) l ce) ∧ w'.cell? ⟨db, 5, none⟩ = some (.slice (some ⟨b', 0, none⟩) Nc dc) ∧ w'.cell? ⟨b', k, none⟩ = some (.int .i64 m) ∧ w'.cell? ⟨eb, eo + q * 3, none⟩ = some (.int .i64 0) ∧ w'.cell? ⟨eb, eo + q * 3 + 1, none⟩ = some (.int .i64 m) ∧ w'.cell? ⟨eb, eo + q * 3 + 2, none⟩ = some (.int .i64 0)) w') := hide (fun w' g => ⟨(HG2.out.trans g).cell HSc.out.ci (by simp), (HG2.out.trans g).cell HCb.out (by simp), (HG2.out.trans g).cell HSc.out.cj (by simp), (HG2.out.trans g).cell HCc.out (by simp), (HG2.out.trans g).cell h0 (by simp), (HG2.out.trans g).cell h1 (by simp), (HG2.out.trans g).cell h2 (by simp)⟩)
                clear h0 h1 h2
                go_wp2_with fail
                clear e0 e1 e2 e3 e4 e5 e6
                refine wp_region_held_drew (S := (fun w' => w'.cell? ⟨db, 4, none⟩ = some (.slice (some ⟨b, 0, none⟩) Nc cc) ∧ w'.cell? ⟨b, k, none⟩ = some (.slice (some ⟨eb, eo, none⟩) l ce) ∧ w'.cell? ⟨db, 5, none⟩ = some (.slice (some ⟨b', 0, none⟩) Nc dc) ∧ w'.cell? ⟨b', k, none⟩ = some (.int .i64 m) ∧ w'.cell? ⟨eb, eo + q * 3, none⟩ = some (.int .i64 0) ∧ w'.cell? ⟨eb, eo + q * 3 + 1, none⟩ = some (.int .i64 m) ∧ w'.cell? ⟨eb, eo + q * 3 + 2, none⟩ = some (.int .i64 0))) (by kernel_rfl) (KS.out _ (Gr.drew (Gr.refl _))) (fun hHeld => ?_)
                refine takeL (i := 0) (v := ?rcv0) rfl (by kernel_rfl) (by kernel_rfl) (by kernel_rfl) (by intro c a w h; exact h) (by rfl) ?rchy0 hHeld ?rcrest0
                case rchy0 => (intro w hSw; (try dsimp only at hSw); go_simp <;> with_reducible rfl)
                simp only [Act.put, List.setIfInBounds_toArray, List.set_cons_zero, List.set_cons_succ]
                refine takeL (i := 1) (v := ?rcv1) rfl (by kernel_rfl) (by kernel_rfl) (by kernel_rfl) (by intro c a w h; exact h) (by rfl) ?rchy1 hHeld ?rcrest1
                case rchy1 => (intro w hSw; (try dsimp only at hSw); go_simp <;> with_reducible rfl)
                simp only [Act.put, List.setIfInBounds_toArray, List.set_cons_zero, List.set_cons_succ]
                refine takeL (i := 2) (v := ?rcv2) rfl (by kernel_rfl) (by kernel_rfl) (by kernel_rfl) (by intro c a w h; exact h) (by rfl) ?rchy2 hHeld ?rcrest2
                case rchy2 => (intro w hSw; (try dsimp only at hSw); go_simp <;> with_reducible rfl)
                simp only [Act.put, List.setIfInBounds_toArray, List.set_cons_zero, List.set_cons_succ]
                refine takeL (i := 3) (v := ?rcv3) rfl (by kernel_rfl) (by kernel_rfl) (by kernel_rfl) (by intro c a w h; exact h) (by rfl) ?rchy3 hHeld ?rcrest3
                case rchy3 => (intro w hSw; (try dsimp only at hSw); go_simp <;> with_reducible rfl)
                simp only [Act.put, List.setIfInBounds_toArray, List.set_cons_zero, List.set_cons_succ]
                refine takeL (i := 4) (v := ?rcv4) rfl (by kernel_rfl) (by kernel_rfl) (by kernel_rfl) (by intro c a w h; exact h) (by rfl) ?rchy4 hHeld ?rcrest4
                case rchy4 => (intro w hSw; (try dsimp only at hSw); go_simp <;> with_reducible rfl)
                simp only [Act.put, List.setIfInBounds_toArray, List.set_cons_zero, List.set_cons_succ]
                refine takeL (i := 5) (v := ?rcv5) rfl (by kernel_rfl) (by kernel_rfl) (by kernel_rfl) (by intro c a w h; exact h) (by rfl) ?rchy5 hHeld ?rcrest5
                case rchy5 => (intro w hSw; (try dsimp only at hSw); go_simp <;> with_reducible rfl)
                simp only [Act.put, List.setIfInBounds_toArray, List.set_cons_zero, List.set_cons_succ]
                refine takeL (i := 6) (v := ?rcv6) rfl (by kernel_rfl) (by kernel_rfl) (by kernel_rfl) (by intro c a w h; exact h) (by rfl) ?rchy6 hHeld ?rcrest6
                case rchy6 => (intro w hSw; (try dsimp only at hSw); go_simp <;> with_reducible rfl)
                simp only [Act.put, List.setIfInBounds_toArray, List.set_cons_zero, List.set_cons_succ]
                refine takeL (i := 7) (v := ?rcv7) rfl (by kernel_rfl) (by kernel_rfl) (by kernel_rfl) (by intro c a w h; exact h) (by rfl) ?rchy7 hHeld ?rcrest7
                case rchy7 => (intro w hSw; (try dsimp only at hSw); go_simp <;> with_reducible rfl)
                simp only [Act.put, List.setIfInBounds_toArray, List.set_cons_zero, List.set_cons_succ]
                refine takeL (i := 8) (v := ?rcv8) rfl (by kernel_rfl) (by kernel_rfl) (by kernel_rfl) (by intro c a w h; exact h) (by rfl) ?rchy8 hHeld ?rcrest8
                case rchy8 => (intro w hSw; (try dsimp only at hSw); go_simp <;> with_reducible rfl)
                simp only [Act.put, List.setIfInBounds_toArray, List.set_cons_zero, List.set_cons_succ]
                refine takeL (i := 9) (v := ?rcv9) rfl (by kernel_rfl) (by kernel_rfl) (by kernel_rfl) (by intro c a w h; exact h) (by rfl) ?rchy9 hHeld ?rcrest9
                case rchy9 => (intro w hSw; (try dsimp only at hSw); go_simp <;> with_reducible rfl)
                simp only [Act.put, List.setIfInBounds_toArray, List.set_cons_zero, List.set_cons_succ]
                refine takeL (i := 10) (v := ?rcv10) rfl (by kernel_rfl) (by kernel_rfl) (by kernel_rfl) (by intro c a w h; exact h) (by rfl) ?rchy10 hHeld ?rcrest10
                case rchy10 => (intro w hSw; (try dsimp only at hSw); go_simp <;> with_reducible rfl)
                simp only [Act.put, List.setIfInBounds_toArray, List.set_cons_zero, List.set_cons_succ]
                refine takeL (i := 11) (v := ?rcv11) rfl (by kernel_rfl) (by kernel_rfl) (by kernel_rfl) (by intro c a w h; exact h) (by rfl) ?rchy11 hHeld ?rcrest11
                case rchy11 => (intro w hSw; (try dsimp only at hSw); go_simp <;> with_reducible rfl)
                simp only [Act.put, List.setIfInBounds_toArray, List.set_cons_zero, List.set_cons_succ]
                refine takeL (i := 12) (v := ?rcv12) rfl (by kernel_rfl) (by kernel_rfl) (by kernel_rfl) (by intro c a w h; exact h) (by rfl) ?rchy12 hHeld ?rcrest12
                case rchy12 => (intro w hSw; (try dsimp only at hSw); go_simp <;> with_reducible rfl)
                simp only [Act.put, List.setIfInBounds_toArray, List.set_cons_zero, List.set_cons_succ]
                refine takeL (i := 13) (v := ?rcv13) rfl (by kernel_rfl) (by kernel_rfl) (by kernel_rfl) (by intro c a w h; exact h) (by rfl) ?rchy13 hHeld ?rcrest13
                case rchy13 => (intro w hSw; (try dsimp only at hSw); go_simp <;> with_reducible rfl)
                simp only [Act.put, List.setIfInBounds_toArray, List.set_cons_zero, List.set_cons_succ]
                refine takeL (i := 14) (v := ?rcv14) rfl (by kernel_rfl) (by kernel_rfl) (by kernel_rfl) (by intro c a w h; exact h) (by rfl) ?rchy14 hHeld ?rcrest14
                case rchy14 => (intro w hSw; (try dsimp only at hSw); go_simp <;> with_reducible rfl)
                simp only [Act.put, List.setIfInBounds_toArray, List.set_cons_zero, List.set_cons_succ]
                refine takeL (i := 15) (v := ?rcv15) rfl (by kernel_rfl) (by kernel_rfl) (by kernel_rfl) (by intro c a w h; exact h) (by rfl) ?rchy15 hHeld ?rcrest15
                case rchy15 => (intro w hSw; (try dsimp only at hSw); go_simp <;> with_reducible rfl)
                simp only [Act.put, List.setIfInBounds_toArray, List.set_cons_zero, List.set_cons_succ]
                refine takeL (i := 16) (v := ?rcv16) rfl (by kernel_rfl) (by kernel_rfl) (by kernel_rfl) (by intro c a w h; exact h) (by rfl) ?rchy16 hHeld ?rcrest16
                case rchy16 => (intro w hSw; (try dsimp only at hSw); go_simp <;> with_reducible rfl)
                simp only [Act.put, List.setIfInBounds_toArray, List.set_cons_zero, List.set_cons_succ]
                refine takeL (i := 17) (v := ?rcv17) rfl (by kernel_rfl) (by kernel_rfl) (by kernel_rfl) (by intro c a w h; exact h) (by rfl) ?rchy17 hHeld ?rcrest17
                case rchy17 => (intro w hSw; (try dsimp only at hSw); go_simp <;> with_reducible rfl)
                simp only [Act.put, List.setIfInBounds_toArray, List.set_cons_zero, List.set_cons_succ]
                refine takeL (i := 18) (v := ?rcv18) rfl (by kernel_rfl) (by kernel_rfl) (by kernel_rfl) (by intro c a w h; exact h) (by rfl) ?rchy18 hHeld ?rcrest18
                case rchy18 => (intro w hSw; (try dsimp only at hSw); go_simp <;> with_reducible rfl)
                simp only [Act.put, List.setIfInBounds_toArray, List.set_cons_zero, List.set_cons_succ]
                refine wpAnyH_done (by kernel_rfl) ?_ _
                clear hHeld KS
                go_wp2_with fail
                go_roundw
                case rel => exact ⟨q + 1, by omega, by go_num, hide (HG2.out.trans (Gr.drew (Gr.refl _)))⟩
                case measure => simp [intOf]; omega
            · have hqe : q = l := by omega
              subst hqe
              have di := HG2.out.cell HSc.out.ci (by simp)
              have db1 := HG2.out.cell HCb.out (by simp)
              go_wp2_with fail
              go_roundw
              case rel => exact ⟨k + 1, by omega, by go_num, HG2⟩
              case measure => simp [intOf]; omega
        · have hke : k = Nc := by omega
          subst hke
          clear hlt hk
          obtain ⟨Nl, Ll, Ml, al, zl, cl, dl, hsl⟩ := sec_l HS.out HE.out
          have HSl := hide hsl
          clear hsl
          have hnll : Nl ≤ maxLen := HSl.out.nl
          unfold maxLen at hnll
          go_wp2_with fail
          go_loopw [7] (fun kv wr => ∃ k : Nat, k ≤ Nl ∧ kv = .int .i64 (k : Int) ∧ Hid (Gr w wr)) (fun kv _ => Nl - (intOf kv).toNat)
          case atStart => exact ⟨0, Nat.zero_le _, rfl, HG⟩
          case round =>
            clear HG
            obtain ⟨k, hk, rfl, HG⟩ := hrel
            have ci := HG.out.cell HSl.out.ci (by simp)
            by_cases hlt : k < Nl
            · obtain ⟨b, b', ae, ce, ha, ha', hcb, hcb', hll, hel⟩ := HSl.out.en k hlt
              subst ha; subst ha'
              have HEl := hide hel
              clear hel
              generalize Ll k = l at hcb hll HEl
              generalize Ml k = m at hcb' HEl
              have HCb := hide hcb
              have HCc := hide hcb'
              clear hcb hcb'
              unfold maxLen at hll
              have hkn : (0 : Int) ≤ (k : Int) := by omega
              have hkn2 : (k : Int) < (Nl : Int) := by omega
              go_wp2_with fail
              go_loopw [8] (fun qv w2 => ∃ q : Nat, q ≤ l ∧ qv = .int .i64 (q : Int) ∧ Hid (Gr w w2)) (fun qv _ => l - (intOf qv).toNat)
              case atStart => exact ⟨0, Nat.zero_le _, rfl, HG⟩
              case round =>
                clear HG ci
                obtain ⟨q, hq, rfl, HG2⟩ := hrel
                rename World => w2
                by_cases hql : q < l
                · as_aux_lemma =>
                    obtain ⟨eb, eo, hae, eb2, fb, fo, fc, heb, h0, g0⟩ := HEl.out q hql
                    subst hae
                    obtain rfl : eb = eb2 := by have h := heb; simp at h; omega
                    clear heb
                    have hqn : (0 : Int) ≤ (q : Int) := by omega
                    have hqn2 : (q : Int) < (l : Int) := by omega
                    have e0 : w2.cell? ⟨db, 7, none⟩ = some (.slice (some ⟨b, 0, none⟩) Nl cl) := HG2.out.cell HSl.out.ci (by simp)
                    have e1 : w2.cell? ⟨b, k, none⟩ = some (.slice (some ⟨eb, eo, none⟩) l ce) := HG2.out.cell HCb.out (by simp)
                    have e2 : w2.cell? ⟨db, 10, none⟩ = some (.slice (some ⟨b', 0, none⟩) Nl dl) := HG2.out.cell HSl.out.cj (by simp)
                    have e3 : w2.cell? ⟨b', k, none⟩ = some (.int .i64 m) := HG2.out.cell HCc.out (by simp)
                    have e4 : w2.cell? ⟨eb, eo + q, none⟩ = some (.slice (some ⟨fb, fo, none⟩) 1 fc) := HG2.out.cell h0 (by simp)
                    have e5 : w2.cell? ⟨fb, fo, none⟩ = some (.int .i64 m) := HG2.out.cell g0 (by simp)
                    have KS : Hid (∀ w', Gr w2 w' → (fun w' => w'.cell? ⟨db, 7, none⟩ = some (.slice (some ⟨b, 0, none⟩) Nl cl) ∧ w'.cell? ⟨b, k, none⟩ = some (.slice (some ⟨eb, eo, none⟩) l ce) ∧ w'.cell? ⟨db, 10, none⟩ = some (.slice (some ⟨b', 0, none⟩) Nl dl) ∧ w'.cell? ⟨b', k, none⟩ = some (.int .i64 m) ∧ w'.cell? ⟨eb, eo + q, none⟩ = some (.slice (some ⟨fb, fo, none⟩) 1 fc) ∧ w'.cell? ⟨fb, fo, none⟩ = some (.int .i64 m)) w') := hide (fun w' g => ⟨(HG2.out.trans g).cell HSl.out.ci (by simp), (HG2.out.trans g).cell HCb.out (by simp), (HG2.out.trans g).cell HSl.out.cj (by simp), (HG2.out.trans g).cell HCc.out (by simp), (HG2.out.trans g).cell h0 (by simp), (HG2.out.trans g).cell g0 (by simp)⟩)
                    clear h0 g0
                    go_wp2_with fail
                    clear e0 e1 e2 e3 e4 e5
                    refine wp_region_held_drew (S := (fun w' => w'.cell? ⟨db, 7, none⟩ = some (.slice (some ⟨b, 0, none⟩) Nl cl) ∧ w'.cell? ⟨b, k, none⟩ = some (.slice (some ⟨eb, eo, none⟩) l ce) ∧ w'.cell? ⟨db, 10, none⟩ = some (.slice (some ⟨b', 0, none⟩) Nl dl) ∧ w'.cell? ⟨b', k, none⟩ = some (.int .i64 m) ∧ w'.cell? ⟨eb, eo + q, none⟩ = some (.slice (some ⟨fb, fo, none⟩) 1 fc) ∧ w'.cell? ⟨fb, fo, none⟩ = some (.int .i64 m))) (by kernel_rfl) (KS.out _ (Gr.drew (Gr.refl _))) (fun hHeld => ?_)
                    refine takeL (i := 0) (v := ?rlv0) rfl (by kernel_rfl) (by kernel_rfl) (by kernel_rfl) (by intro c a w h; exact h) (by rfl) ?rlhy0 hHeld ?rlrest0
                    case rlhy0 => (intro w hSw; (try dsimp only at hSw); go_simp <;> with_reducible rfl)
                    simp only [Act.put, List.setIfInBounds_toArray, List.set_cons_zero, List.set_cons_succ]
                    refine takeL (i := 1) (v := ?rlv1) rfl (by kernel_rfl) (by kernel_rfl) (by kernel_rfl) (by intro c a w h; exact h) (by rfl) ?rlhy1 hHeld ?rlrest1
                    case rlhy1 => (intro w hSw; (try dsimp only at hSw); go_simp <;> with_reducible rfl)
                    simp only [Act.put, List.setIfInBounds_toArray, List.set_cons_zero, List.set_cons_succ]
                    refine takeL (i := 2) (v := ?rlv2) rfl (by kernel_rfl) (by kernel_rfl) (by kernel_rfl) (by intro c a w h; exact h) (by rfl) ?rlhy2 hHeld ?rlrest2
                    case rlhy2 => (intro w hSw; (try dsimp only at hSw); go_simp <;> with_reducible rfl)
                    simp only [Act.put, List.setIfInBounds_toArray, List.set_cons_zero, List.set_cons_succ]
                    refine takeL (i := 3) (v := ?rlv3) rfl (by kernel_rfl) (by kernel_rfl) (by kernel_rfl) (by intro c a w h; exact h) (by rfl) ?rlhy3 hHeld ?rlrest3
                    case rlhy3 => (intro w hSw; (try dsimp only at hSw); go_simp <;> with_reducible rfl)
                    simp only [Act.put, List.setIfInBounds_toArray, List.set_cons_zero, List.set_cons_succ]
                    refine takeL (i := 4) (v := ?rlv4) rfl (by kernel_rfl) (by kernel_rfl) (by kernel_rfl) (by intro c a w h; exact h) (by rfl) ?rlhy4 hHeld ?rlrest4
                    case rlhy4 => (intro w hSw; (try dsimp only at hSw); go_simp <;> with_reducible rfl)
                    simp only [Act.put, List.setIfInBounds_toArray, List.set_cons_zero, List.set_cons_succ]
                    refine takeL (i := 5) (v := ?rlv5) rfl (by kernel_rfl) (by kernel_rfl) (by kernel_rfl) (by intro c a w h; exact h) (by rfl) ?rlhy5 hHeld ?rlrest5
                    case rlhy5 => (intro w hSw; (try dsimp only at hSw); go_simp <;> with_reducible rfl)
                    simp only [Act.put, List.setIfInBounds_toArray, List.set_cons_zero, List.set_cons_succ]
                    refine takeL (i := 6) (v := ?rlv6) rfl (by kernel_rfl) (by kernel_rfl) (by kernel_rfl) (by intro c a w h; exact h) (by rfl) ?rlhy6 hHeld ?rlrest6
                    case rlhy6 => (intro w hSw; (try dsimp only at hSw); go_simp <;> with_reducible rfl)
                    simp only [Act.put, List.setIfInBounds_toArray, List.set_cons_zero, List.set_cons_succ]
                    refine takeL (i := 7) (v := ?rlv7) rfl (by kernel_rfl) (by kernel_rfl) (by kernel_rfl) (by intro c a w h; exact h) (by rfl) ?rlhy7 hHeld ?rlrest7
                    case rlhy7 => (intro w hSw; (try dsimp only at hSw); go_simp <;> with_reducible rfl)
                    simp only [Act.put, List.setIfInBounds_toArray, List.set_cons_zero, List.set_cons_succ]
                    refine takeL (i := 8) (v := ?rlv8) rfl (by kernel_rfl) (by kernel_rfl) (by kernel_rfl) (by intro c a w h; exact h) (by rfl) ?rlhy8 hHeld ?rlrest8
                    case rlhy8 => (intro w hSw; (try dsimp only at hSw); go_simp <;> with_reducible rfl)
                    simp only [Act.put, List.setIfInBounds_toArray, List.set_cons_zero, List.set_cons_succ]
                    refine takeL (i := 9) (v := ?rlv9) rfl (by kernel_rfl) (by kernel_rfl) (by kernel_rfl) (by intro c a w h; exact h) (by rfl) ?rlhy9 hHeld ?rlrest9
                    case rlhy9 => (intro w hSw; (try dsimp only at hSw); go_simp <;> with_reducible rfl)
                    simp only [Act.put, List.setIfInBounds_toArray, List.set_cons_zero, List.set_cons_succ]
                    refine takeL (i := 10) (v := ?rlv10) rfl (by kernel_rfl) (by kernel_rfl) (by kernel_rfl) (by intro c a w h; exact h) (by rfl) ?rlhy10 hHeld ?rlrest10
                    case rlhy10 => (intro w hSw; (try dsimp only at hSw); go_simp <;> with_reducible rfl)
                    simp only [Act.put, List.setIfInBounds_toArray, List.set_cons_zero, List.set_cons_succ]
                    refine takeL (i := 11) (v := ?rlv11) rfl (by kernel_rfl) (by kernel_rfl) (by kernel_rfl) (by intro c a w h; exact h) (by rfl) ?rlhy11 hHeld ?rlrest11
                    case rlhy11 => (intro w hSw; (try dsimp only at hSw); go_simp <;> with_reducible rfl)
                    simp only [Act.put, List.setIfInBounds_toArray, List.set_cons_zero, List.set_cons_succ]
                    refine takeL (i := 12) (v := ?rlv12) rfl (by kernel_rfl) (by kernel_rfl) (by kernel_rfl) (by intro c a w h; exact h) (by rfl) ?rlhy12 hHeld ?rlrest12
                    case rlhy12 => (intro w hSw; (try dsimp only at hSw); go_simp <;> with_reducible rfl)
                    simp only [Act.put, List.setIfInBounds_toArray, List.set_cons_zero, List.set_cons_succ]
                    refine takeL (i := 13) (v := ?rlv13) rfl (by kernel_rfl) (by kernel_rfl) (by kernel_rfl) (by intro c a w h; exact h) (by rfl) ?rlhy13 hHeld ?rlrest13
                    case rlhy13 => (intro w hSw; (try dsimp only at hSw); go_simp <;> with_reducible rfl)
                    simp only [Act.put, List.setIfInBounds_toArray, List.set_cons_zero, List.set_cons_succ]
                    refine takeL (i := 14) (v := ?rlv14) rfl (by kernel_rfl) (by kernel_rfl) (by kernel_rfl) (by intro c a w h; exact h) (by rfl) ?rlhy14 hHeld ?rlrest14
                    case rlhy14 => (intro w hSw; (try dsimp only at hSw); go_simp <;> with_reducible rfl)
                    simp only [Act.put, List.setIfInBounds_toArray, List.set_cons_zero, List.set_cons_succ]
                    refine takeL (i := 15) (v := ?rlv15) rfl (by kernel_rfl) (by kernel_rfl) (by kernel_rfl) (by intro c a w h; exact h) (by rfl) ?rlhy15 hHeld ?rlrest15
                    case rlhy15 => (intro w hSw; (try dsimp only at hSw); go_simp <;> with_reducible rfl)
                    simp only [Act.put, List.setIfInBounds_toArray, List.set_cons_zero, List.set_cons_succ]
                    refine takeL (i := 16) (v := ?rlv16) rfl (by kernel_rfl) (by kernel_rfl) (by kernel_rfl) (by intro c a w h; exact h) (by rfl) ?rlhy16 hHeld ?rlrest16
                    case rlhy16 => (intro w hSw; (try dsimp only at hSw); go_simp <;> with_reducible rfl)
                    simp only [Act.put, List.setIfInBounds_toArray, List.set_cons_zero, List.set_cons_succ]
                    refine takeL (i := 17) (v := ?rlv17) rfl (by kernel_rfl) (by kernel_rfl) (by kernel_rfl) (by intro c a w h; exact h) (by rfl) ?rlhy17 hHeld ?rlrest17
                    case rlhy17 => (intro w hSw; (try dsimp only at hSw); go_simp <;> with_reducible rfl)
                    simp only [Act.put, List.setIfInBounds_toArray, List.set_cons_zero, List.set_cons_succ]
                    refine takeL (i := 18) (v := ?rlv18) rfl (by kernel_rfl) (by kernel_rfl) (by kernel_rfl) (by intro c a w h; exact h) (by rfl) ?rlhy18 hHeld ?rlrest18
                    case rlhy18 => (intro w hSw; (try dsimp only at hSw); go_simp <;> with_reducible rfl)
                    simp only [Act.put, List.setIfInBounds_toArray, List.set_cons_zero, List.set_cons_succ]
                    refine takeL (i := 19) (v := ?rlv19) rfl (by kernel_rfl) (by kernel_rfl) (by kernel_rfl) (by intro c a w h; exact h) (by rfl) ?rlhy19 hHeld ?rlrest19
                    case rlhy19 => (intro w hSw; (try dsimp only at hSw); go_simp <;> with_reducible rfl)
                    simp only [Act.put, List.setIfInBounds_toArray, List.set_cons_zero, List.set_cons_succ]
                    refine takeL (i := 20) (v := ?rlv20) rfl (by kernel_rfl) (by kernel_rfl) (by kernel_rfl) (by intro c a w h; exact h) (by rfl) ?rlhy20 hHeld ?rlrest20
                    case rlhy20 => (intro w hSw; (try dsimp only at hSw); go_simp <;> with_reducible rfl)
                    simp only [Act.put, List.setIfInBounds_toArray, List.set_cons_zero, List.set_cons_succ]
                    refine takeL (i := 21) (v := ?rlv21) rfl (by kernel_rfl) (by kernel_rfl) (by kernel_rfl) (by intro c a w h; exact h) (by rfl) ?rlhy21 hHeld ?rlrest21
                    case rlhy21 => (intro w hSw; (try dsimp only at hSw); go_simp <;> with_reducible rfl)
                    simp only [Act.put, List.setIfInBounds_toArray, List.set_cons_zero, List.set_cons_succ]
                    refine takeL (i := 22) (v := ?rlv22) rfl (by kernel_rfl) (by kernel_rfl) (by kernel_rfl) (by intro c a w h; exact h) (by rfl) ?rlhy22 hHeld ?rlrest22
                    case rlhy22 => (intro w hSw; (try dsimp only at hSw); go_simp <;> with_reducible rfl)
                    simp only [Act.put, List.setIfInBounds_toArray, List.set_cons_zero, List.set_cons_succ]
                    refine takeL (i := 23) (v := ?rlv23) rfl (by kernel_rfl) (by kernel_rfl) (by kernel_rfl) (by intro c a w h; exact h) (by rfl) ?rlhy23 hHeld ?rlrest23
                    case rlhy23 => (intro w hSw; (try dsimp only at hSw); go_simp <;> with_reducible rfl)
                    simp only [Act.put, List.setIfInBounds_toArray, List.set_cons_zero, List.set_cons_succ]
                    refine takeL (i := 24) (v := ?rlv24) rfl (by kernel_rfl) (by kernel_rfl) (by kernel_rfl) (by intro c a w h; exact h) (by rfl) ?rlhy24 hHeld ?rlrest24
                    case rlhy24 => (intro w hSw; (try dsimp only at hSw); go_simp <;> with_reducible rfl)
                    simp only [Act.put, List.setIfInBounds_toArray, List.set_cons_zero, List.set_cons_succ]
                    refine takeL (i := 25) (v := ?rlv25) rfl (by kernel_rfl) (by kernel_rfl) (by kernel_rfl) (by intro c a w h; exact h) (by rfl) ?rlhy25 hHeld ?rlrest25
                    case rlhy25 => (intro w hSw; (try dsimp only at hSw); go_simp <;> with_reducible rfl)
                    simp only [Act.put, List.setIfInBounds_toArray, List.set_cons_zero, List.set_cons_succ]
                    refine takeL (i := 26) (v := ?rlv26) rfl (by kernel_rfl) (by kernel_rfl) (by kernel_rfl) (by intro c a w h; exact h) (by rfl) ?rlhy26 hHeld ?rlrest26
                    case rlhy26 => (intro w hSw; (try dsimp only at hSw); go_simp <;> with_reducible rfl)
                    simp only [Act.put, List.setIfInBounds_toArray, List.set_cons_zero, List.set_cons_succ]
                    refine takeL (i := 27) (v := ?rlv27) rfl (by kernel_rfl) (by kernel_rfl) (by kernel_rfl) (by intro c a w h; exact h) (by rfl) ?rlhy27 hHeld ?rlrest27
                    case rlhy27 => (intro w hSw; (try dsimp only at hSw); go_simp <;> with_reducible rfl)
                    simp only [Act.put, List.setIfInBounds_toArray, List.set_cons_zero, List.set_cons_succ]
                    refine takeL (i := 28) (v := ?rlv28) rfl (by kernel_rfl) (by kernel_rfl) (by kernel_rfl) (by intro c a w h; exact h) (by rfl) ?rlhy28 hHeld ?rlrest28
                    case rlhy28 => (intro w hSw; (try dsimp only at hSw); go_simp <;> with_reducible rfl)
                    simp only [Act.put, List.setIfInBounds_toArray, List.set_cons_zero, List.set_cons_succ]
                    refine takeL (i := 29) (v := ?rlv29) rfl (by kernel_rfl) (by kernel_rfl) (by kernel_rfl) (by intro c a w h; exact h) (by rfl) ?rlhy29 hHeld ?rlrest29
                    case rlhy29 => (intro w hSw; (try dsimp only at hSw); go_simp <;> with_reducible rfl)
                    simp only [Act.put, List.setIfInBounds_toArray, List.set_cons_zero, List.set_cons_succ]
                    refine takeL (i := 30) (v := ?rlv30) rfl (by kernel_rfl) (by kernel_rfl) (by kernel_rfl) (by intro c a w h; exact h) (by rfl) ?rlhy30 hHeld ?rlrest30
                    case rlhy30 => (intro w hSw; (try dsimp only at hSw); go_simp <;> with_reducible rfl)
                    simp only [Act.put, List.setIfInBounds_toArray, List.set_cons_zero, List.set_cons_succ]
                    refine takeL (i := 31) (v := ?rlv31) rfl (by kernel_rfl) (by kernel_rfl) (by kernel_rfl) (by intro c a w h; exact h) (by rfl) ?rlhy31 hHeld ?rlrest31
                    case rlhy31 => (intro w hSw; (try dsimp only at hSw); go_simp <;> with_reducible rfl)
                    simp only [Act.put, List.setIfInBounds_toArray, List.set_cons_zero, List.set_cons_succ]
                    refine takeL (i := 32) (v := ?rlv32) rfl (by kernel_rfl) (by kernel_rfl) (by kernel_rfl) (by intro c a w h; exact h) (by rfl) ?rlhy32 hHeld ?rlrest32
                    case rlhy32 => (intro w hSw; (try dsimp only at hSw); go_simp <;> with_reducible rfl)
                    simp only [Act.put, List.setIfInBounds_toArray, List.set_cons_zero, List.set_cons_succ]
                    refine takeL (i := 33) (v := ?rlv33) rfl (by kernel_rfl) (by kernel_rfl) (by kernel_rfl) (by intro c a w h; exact h) (by rfl) ?rlhy33 hHeld ?rlrest33
                    case rlhy33 => (intro w hSw; (try dsimp only at hSw); go_simp <;> with_reducible rfl)
                    simp only [Act.put, List.setIfInBounds_toArray, List.set_cons_zero, List.set_cons_succ]
                    refine wpAnyH_done (by kernel_rfl) ?_ _
                    clear hHeld KS
                    go_wp2_with fail
                    go_roundw
                    case rel => exact ⟨q + 1, by omega, by go_num, hide (HG2.out.trans (Gr.drew (Gr.refl _)))⟩
                    case measure => simp [intOf]; omega
                · have hqe : q = l := by omega
                  subst hqe
                  have di := HG2.out.cell HSl.out.ci (by simp)
                  have db1 := HG2.out.cell HCb.out (by simp)
                  go_wp2_with fail
                  go_roundw
                  case rel => exact ⟨k + 1, by omega, by go_num, HG2⟩
                  case measure => simp [intOf]; omega
            · have hke : k = Nl := by omega
              subst hke
              clear hlt hk
              obtain ⟨Nf, Lf, Mf, af, zf, cf, df, hsf⟩ := sec_f HS.out HE.out
              have HSf := hide hsf
              clear hsf
              have hnlf : Nf ≤ maxLen := HSf.out.nl
              unfold maxLen at hnlf
              go_wp2_with fail
              go_loopw [9] (fun kv wr => ∃ k : Nat, k ≤ Nf ∧ kv = .int .i64 (k : Int) ∧ Hid (Gr w wr)) (fun kv _ => Nf - (intOf kv).toNat)
              case atStart => exact ⟨0, Nat.zero_le _, rfl, HG⟩
              case round =>
                clear HG
                obtain ⟨k, hk, rfl, HG⟩ := hrel
                have ci := HG.out.cell HSf.out.ci (by simp)
                by_cases hlt : k < Nf
                · obtain ⟨b, b', ae, ce, ha, ha', hcb, hcb', hll, hel⟩ := HSf.out.en k hlt
                  subst ha; subst ha'
                  have HEl := hide hel
                  clear hel
                  generalize Lf k = l at hcb hll HEl
                  generalize Mf k = m at hcb' HEl
                  have HCb := hide hcb
                  have HCc := hide hcb'
                  clear hcb hcb'
                  unfold maxLen at hll
                  have hkn : (0 : Int) ≤ (k : Int) := by omega
                  have hkn2 : (k : Int) < (Nf : Int) := by omega
                  go_wp2_with fail
                  go_loopw [10] (fun qv w2 => ∃ q : Nat, q ≤ l ∧ qv = .int .i64 (q : Int) ∧ Hid (Gr w w2)) (fun qv _ => l - (intOf qv).toNat)
                  case atStart => exact ⟨0, Nat.zero_le _, rfl, HG⟩
                  case round =>
                    clear HG ci
                    obtain ⟨q, hq, rfl, HG2⟩ := hrel
                    rename World => w2
                    by_cases hql : q < l
                    · as_aux_lemma =>
                        obtain ⟨eb, eo, hae, eb2, pa, la, ca, pc, lc, cc, heb, h0, h1, h2, h3⟩ := HEl.out q hql
                        subst hae
                        obtain rfl : eb = eb2 := by have h := heb; simp at h; omega
                        clear heb
                        have hqn : (0 : Int) ≤ (q : Int) := by omega
                        have hqn2 : (q : Int) < (l : Int) := by omega
                        have e0 : w2.cell? ⟨db, 6, none⟩ = some (.slice (some ⟨b, 0, none⟩) Nf cf) := HG2.out.cell HSf.out.ci (by simp)
                        have e1 : w2.cell? ⟨b, k, none⟩ = some (.slice (some ⟨eb, eo, none⟩) l ce) := HG2.out.cell HCb.out (by simp)
                        have e2 : w2.cell? ⟨db, 10, none⟩ = some (.slice (some ⟨b', 0, none⟩) Nf df) := HG2.out.cell HSf.out.cj (by simp)
                        have e3 : w2.cell? ⟨b', k, none⟩ = some (.int .i64 m) := HG2.out.cell HCc.out (by simp)
                        have e4 : w2.cell? ⟨eb, eo + q * 4, none⟩ = some (.slice pa 0 pc) := HG2.out.cell h0 (by simp)
                        have e5 : w2.cell? ⟨eb, eo + q * 4 + 1, none⟩ = some (.int .i64 m) := HG2.out.cell h1 (by simp)
                        have e6 : w2.cell? ⟨eb, eo + q * 4 + 2, none⟩ = some (.slice la 0 lc) := HG2.out.cell h2 (by simp)
                        have e7 : w2.cell? ⟨eb, eo + q * 4 + 3, none⟩ = some (.slice ca 0 cc) := HG2.out.cell h3 (by simp)
                        have HBX := hide (Box4.new w2 76 (.slice pa 0 pc) (.int .i64 m) (.slice la 0 lc) (.slice ca 0 cc))
                        have HGA : Hid (Gr w2 (w2.alloc (.cells #[.slice pa 0 pc, .int .i64 m, .slice la 0 lc, .slice ca 0 cc] 76))) := hide ((Gr.refl w2).alloc _)
                        have KS : Hid (∀ w', Gr (w2.alloc (.cells #[.slice pa 0 pc, .int .i64 m, .slice la 0 lc, .slice ca 0 cc] 76)) w' → (fun w' => w'.cell? ⟨db, 10, none⟩ = some (.slice (some ⟨b', 0, none⟩) Nf df) ∧ w'.cell? ⟨b', k, none⟩ = some (.int .i64 m) ∧ w'.cell? ⟨w2.heap.size, 0, none⟩ = some (.slice pa 0 pc) ∧ w'.cell? ⟨w2.heap.size, 1, none⟩ = some (.int .i64 m) ∧ w'.cell? ⟨w2.heap.size, 2, none⟩ = some (.slice la 0 lc) ∧ w'.cell? ⟨w2.heap.size, 3, none⟩ = some (.slice ca 0 cc)) w') := hide (fun w' g => ⟨(HG2.out.trans (HGA.out.trans g)).cell HSf.out.cj (by simp), (HG2.out.trans (HGA.out.trans g)).cell HCc.out (by simp), g.cell HBX.out.1 (by simp), g.cell HBX.out.2.1 (by simp), g.cell HBX.out.2.2.1 (by simp), g.cell HBX.out.2.2.2.1 (by simp)⟩)
                        clear h0 h1 h2 h3
                        go_wp2_with fail
                        clear e0 e1 e2 e3 e4 e5 e6 e7
                        generalize hWB : (w2.alloc (.cells #[.slice pa 0 pc, .int .i64 m, .slice la 0 lc, .slice ca 0 cc] 76)) = WB at KS HGA ⊢
                        refine wp_region_held_drew (S := (fun w' => w'.cell? ⟨db, 10, none⟩ = some (.slice (some ⟨b', 0, none⟩) Nf df) ∧ w'.cell? ⟨b', k, none⟩ = some (.int .i64 m) ∧ w'.cell? ⟨w2.heap.size, 0, none⟩ = some (.slice pa 0 pc) ∧ w'.cell? ⟨w2.heap.size, 1, none⟩ = some (.int .i64 m) ∧ w'.cell? ⟨w2.heap.size, 2, none⟩ = some (.slice la 0 lc) ∧ w'.cell? ⟨w2.heap.size, 3, none⟩ = some (.slice ca 0 cc))) (by kernel_rfl) (KS.out _ (Gr.drew (Gr.refl _))) (fun hHeld => ?_)
                        refine takeL (i := 0) (v := ?rfv0) rfl (by kernel_rfl) (by kernel_rfl) (by kernel_rfl) (by intro c a w h; exact h) (by rfl) ?rfhy0 hHeld ?rfrest0
                        case rfhy0 => (intro w hSw; (try dsimp only at hSw); go_simp <;> with_reducible rfl)
                        simp only [Act.put, List.setIfInBounds_toArray, List.set_cons_zero, List.set_cons_succ]
                        refine takeL (i := 1) (v := ?rfv1) rfl (by kernel_rfl) (by kernel_rfl) (by kernel_rfl) (by intro c a w h; exact h) (by rfl) ?rfhy1 hHeld ?rfrest1
                        case rfhy1 => (intro w hSw; (try dsimp only at hSw); go_simp <;> with_reducible rfl)
                        simp only [Act.put, List.setIfInBounds_toArray, List.set_cons_zero, List.set_cons_succ]
                        refine takeL (i := 2) (v := ?rfv2) rfl (by kernel_rfl) (by kernel_rfl) (by kernel_rfl) (by intro c a w h; exact h) (by rfl) ?rfhy2 hHeld ?rfrest2
                        case rfhy2 => (intro w hSw; (try dsimp only at hSw); go_simp <;> with_reducible rfl)
                        simp only [Act.put, List.setIfInBounds_toArray, List.set_cons_zero, List.set_cons_succ]
                        refine takeL (i := 3) (v := ?rfv3) rfl (by kernel_rfl) (by kernel_rfl) (by kernel_rfl) (by intro c a w h; exact h) (by rfl) ?rfhy3 hHeld ?rfrest3
                        case rfhy3 => (intro w hSw; (try dsimp only at hSw); go_simp <;> with_reducible rfl)
                        simp only [Act.put, List.setIfInBounds_toArray, List.set_cons_zero, List.set_cons_succ]
                        refine takeL (i := 4) (v := ?rfv4) rfl (by kernel_rfl) (by kernel_rfl) (by kernel_rfl) (by intro c a w h; exact h) (by rfl) ?rfhy4 hHeld ?rfrest4
                        case rfhy4 => (intro w hSw; (try dsimp only at hSw); go_simp <;> with_reducible rfl)
                        simp only [Act.put, List.setIfInBounds_toArray, List.set_cons_zero, List.set_cons_succ]
                        refine takeL (i := 5) (v := ?rfv5) rfl (by kernel_rfl) (by kernel_rfl) (by kernel_rfl) (by intro c a w h; exact h) (by rfl) ?rfhy5 hHeld ?rfrest5
                        case rfhy5 => (intro w hSw; (try dsimp only at hSw); go_simp <;> with_reducible rfl)
                        simp only [Act.put, List.setIfInBounds_toArray, List.set_cons_zero, List.set_cons_succ]
                        refine takeL (i := 6) (v := ?rfv6) rfl (by kernel_rfl) (by kernel_rfl) (by kernel_rfl) (by intro c a w h; exact h) (by rfl) ?rfhy6 hHeld ?rfrest6
                        case rfhy6 => (intro w hSw; (try dsimp only at hSw); go_simp <;> with_reducible rfl)
                        simp only [Act.put, List.setIfInBounds_toArray, List.set_cons_zero, List.set_cons_succ]
                        refine takeL (i := 7) (v := ?rfv7) rfl (by kernel_rfl) (by kernel_rfl) (by kernel_rfl) (by intro c a w h; exact h) (by rfl) ?rfhy7 hHeld ?rfrest7
                        case rfhy7 => (intro w hSw; (try dsimp only at hSw); go_simp <;> with_reducible rfl)
                        simp only [Act.put, List.setIfInBounds_toArray, List.set_cons_zero, List.set_cons_succ]
                        refine takeL (i := 8) (v := ?rfv8) rfl (by kernel_rfl) (by kernel_rfl) (by kernel_rfl) (by intro c a w h; exact h) (by rfl) ?rfhy8 hHeld ?rfrest8
                        case rfhy8 => (intro w hSw; (try dsimp only at hSw); go_simp <;> with_reducible rfl)
                        simp only [Act.put, List.setIfInBounds_toArray, List.set_cons_zero, List.set_cons_succ]
                        refine takeL (i := 9) (v := ?rfv9) rfl (by kernel_rfl) (by kernel_rfl) (by kernel_rfl) (by intro c a w h; exact h) (by rfl) ?rfhy9 hHeld ?rfrest9
                        case rfhy9 => (intro w hSw; (try dsimp only at hSw); go_simp <;> with_reducible rfl)
                        simp only [Act.put, List.setIfInBounds_toArray, List.set_cons_zero, List.set_cons_succ]
                        refine takeL (i := 10) (v := ?rfv10) rfl (by kernel_rfl) (by kernel_rfl) (by kernel_rfl) (by intro c a w h; exact h) (by rfl) ?rfhy10 hHeld ?rfrest10
                        case rfhy10 => (intro w hSw; (try dsimp only at hSw); go_simp <;> with_reducible rfl)
                        simp only [Act.put, List.setIfInBounds_toArray, List.set_cons_zero, List.set_cons_succ]
                        refine takeL (i := 11) (v := ?rfv11) rfl (by kernel_rfl) (by kernel_rfl) (by kernel_rfl) (by intro c a w h; exact h) (by rfl) ?rfhy11 hHeld ?rfrest11
                        case rfhy11 => (intro w hSw; (try dsimp only at hSw); go_simp <;> with_reducible rfl)
                        simp only [Act.put, List.setIfInBounds_toArray, List.set_cons_zero, List.set_cons_succ]
                        refine takeL (i := 12) (v := ?rfv12) rfl (by kernel_rfl) (by kernel_rfl) (by kernel_rfl) (by intro c a w h; exact h) (by rfl) ?rfhy12 hHeld ?rfrest12
                        case rfhy12 => (intro w hSw; (try dsimp only at hSw); go_simp <;> with_reducible rfl)
                        simp only [Act.put, List.setIfInBounds_toArray, List.set_cons_zero, List.set_cons_succ]
                        refine takeL (i := 13) (v := ?rfv13) rfl (by kernel_rfl) (by kernel_rfl) (by kernel_rfl) (by intro c a w h; exact h) (by rfl) ?rfhy13 hHeld ?rfrest13
                        case rfhy13 => (intro w hSw; (try dsimp only at hSw); go_simp <;> with_reducible rfl)
                        simp only [Act.put, List.setIfInBounds_toArray, List.set_cons_zero, List.set_cons_succ]
                        refine takeL (i := 14) (v := ?rfv14) rfl (by kernel_rfl) (by kernel_rfl) (by kernel_rfl) (by intro c a w h; exact h) (by rfl) ?rfhy14 hHeld ?rfrest14
                        case rfhy14 => (intro w hSw; (try dsimp only at hSw); go_simp <;> with_reducible rfl)
                        simp only [Act.put, List.setIfInBounds_toArray, List.set_cons_zero, List.set_cons_succ]
                        refine takeL (i := 15) (v := ?rfv15) rfl (by kernel_rfl) (by kernel_rfl) (by kernel_rfl) (by intro c a w h; exact h) (by rfl) ?rfhy15 hHeld ?rfrest15
                        case rfhy15 => (intro w hSw; (try dsimp only at hSw); go_simp <;> with_reducible rfl)
                        simp only [Act.put, List.setIfInBounds_toArray, List.set_cons_zero, List.set_cons_succ]
                        refine takeL (i := 16) (v := ?rfv16) rfl (by kernel_rfl) (by kernel_rfl) (by kernel_rfl) (by intro c a w h; exact h) (by rfl) ?rfhy16 hHeld ?rfrest16
                        case rfhy16 => (intro w hSw; (try dsimp only at hSw); go_simp <;> with_reducible rfl)
                        simp only [Act.put, List.setIfInBounds_toArray, List.set_cons_zero, List.set_cons_succ]
                        refine takeL (i := 17) (v := ?rfv17) rfl (by kernel_rfl) (by kernel_rfl) (by kernel_rfl) (by intro c a w h; exact h) (by rfl) ?rfhy17 hHeld ?rfrest17
                        case rfhy17 => (intro w hSw; (try dsimp only at hSw); go_simp <;> with_reducible rfl)
                        simp only [Act.put, List.setIfInBounds_toArray, List.set_cons_zero, List.set_cons_succ]
                        refine takeL (i := 18) (v := ?rfv18) rfl (by kernel_rfl) (by kernel_rfl) (by kernel_rfl) (by intro c a w h; exact h) (by rfl) ?rfhy18 hHeld ?rfrest18
                        case rfhy18 => (intro w hSw; (try dsimp only at hSw); go_simp <;> with_reducible rfl)
                        simp only [Act.put, List.setIfInBounds_toArray, List.set_cons_zero, List.set_cons_succ]
                        refine takeL (i := 19) (v := ?rfv19) rfl (by kernel_rfl) (by kernel_rfl) (by kernel_rfl) (by intro c a w h; exact h) (by rfl) ?rfhy19 hHeld ?rfrest19
                        case rfhy19 => (intro w hSw; (try dsimp only at hSw); go_simp <;> with_reducible rfl)
                        simp only [Act.put, List.setIfInBounds_toArray, List.set_cons_zero, List.set_cons_succ]
                        refine takeL (i := 20) (v := ?rfv20) rfl (by kernel_rfl) (by kernel_rfl) (by kernel_rfl) (by intro c a w h; exact h) (by rfl) ?rfhy20 hHeld ?rfrest20
                        case rfhy20 => (intro w hSw; (try dsimp only at hSw); go_simp <;> with_reducible rfl)
                        simp only [Act.put, List.setIfInBounds_toArray, List.set_cons_zero, List.set_cons_succ]
                        refine takeL (i := 21) (v := ?rfv21) rfl (by kernel_rfl) (by kernel_rfl) (by kernel_rfl) (by intro c a w h; exact h) (by rfl) ?rfhy21 hHeld ?rfrest21
                        case rfhy21 => (intro w hSw; (try dsimp only at hSw); go_simp <;> with_reducible rfl)
                        simp only [Act.put, List.setIfInBounds_toArray, List.set_cons_zero, List.set_cons_succ]
                        refine takeL (i := 22) (v := ?rfv22) rfl (by kernel_rfl) (by kernel_rfl) (by kernel_rfl) (by intro c a w h; exact h) (by rfl) ?rfhy22 hHeld ?rfrest22
                        case rfhy22 => (intro w hSw; (try dsimp only at hSw); go_simp <;> with_reducible rfl)
                        simp only [Act.put, List.setIfInBounds_toArray, List.set_cons_zero, List.set_cons_succ]
                        refine takeL (i := 23) (v := ?rfv23) rfl (by kernel_rfl) (by kernel_rfl) (by kernel_rfl) (by intro c a w h; exact h) (by rfl) ?rfhy23 hHeld ?rfrest23
                        case rfhy23 => (intro w hSw; (try dsimp only at hSw); go_simp <;> with_reducible rfl)
                        simp only [Act.put, List.setIfInBounds_toArray, List.set_cons_zero, List.set_cons_succ]
                        refine takeL (i := 24) (v := ?rfv24) rfl (by kernel_rfl) (by kernel_rfl) (by kernel_rfl) (by intro c a w h; exact h) (by rfl) ?rfhy24 hHeld ?rfrest24
                        case rfhy24 => (intro w hSw; (try dsimp only at hSw); go_simp <;> with_reducible rfl)
                        simp only [Act.put, List.setIfInBounds_toArray, List.set_cons_zero, List.set_cons_succ]
                        refine takeL (i := 25) (v := ?rfv25) rfl (by kernel_rfl) (by kernel_rfl) (by kernel_rfl) (by intro c a w h; exact h) (by rfl) ?rfhy25 hHeld ?rfrest25
                        case rfhy25 => (intro w hSw; (try dsimp only at hSw); go_simp <;> with_reducible rfl)
                        simp only [Act.put, List.setIfInBounds_toArray, List.set_cons_zero, List.set_cons_succ]
                        refine takeL (i := 26) (v := ?rfv26) rfl (by kernel_rfl) (by kernel_rfl) (by kernel_rfl) (by intro c a w h; exact h) (by rfl) ?rfhy26 hHeld ?rfrest26
                        case rfhy26 => (intro w hSw; (try dsimp only at hSw); go_simp <;> with_reducible rfl)
                        simp only [Act.put, List.setIfInBounds_toArray, List.set_cons_zero, List.set_cons_succ]
                        refine takeL (i := 27) (v := ?rfv27) rfl (by kernel_rfl) (by kernel_rfl) (by kernel_rfl) (by intro c a w h; exact h) (by rfl) ?rfhy27 hHeld ?rfrest27
                        case rfhy27 => (intro w hSw; (try dsimp only at hSw); go_simp <;> with_reducible rfl)
                        simp only [Act.put, List.setIfInBounds_toArray, List.set_cons_zero, List.set_cons_succ]
                        refine wpAnyH_done (by kernel_rfl) ?_ _
                        clear hHeld KS
                        go_wp2_with fail
                        go_roundw
                        case rel => exact ⟨q + 1, by omega, by go_num, hide (HG2.out.trans (HGA.out.trans (Gr.drew (Gr.refl _))))⟩
                        case measure => simp [intOf]; omega
                    · have hqe : q = l := by omega
                      subst hqe
                      have di := HG2.out.cell HSf.out.ci (by simp)
                      have db1 := HG2.out.cell HCb.out (by simp)
                      go_wp2_with fail
                      go_roundw
                      case rel => exact ⟨k + 1, by omega, by go_num, HG2⟩
                      case measure => simp [intOf]; omega
                · have hke : k = Nf := by omega
                  subst hke
                  clear hlt hk
                  obtain ⟨Np, Lp, Mp, ap, zp, cp, dp, hsp⟩ := sec_p HS.out HE.out
                  have HSp := hide hsp
                  clear hsp
                  have hnlp : Np ≤ maxLen := HSp.out.nl
                  unfold maxLen at hnlp
                  go_wp2_with fail
                  go_loopw [12] (fun kv wr => ∃ k : Nat, k ≤ Np ∧ kv = .int .i64 (k : Int) ∧ Hid (Gr w wr)) (fun kv _ => Np - (intOf kv).toNat)
                  case atStart => exact ⟨0, Nat.zero_le _, rfl, HG⟩
                  case round =>
                    clear HG
                    obtain ⟨k, hk, rfl, HG⟩ := hrel
                    have ci := HG.out.cell HSp.out.ci (by simp)
                    by_cases hlt : k < Np
                    · obtain ⟨b, b', ae, ce, ha, ha', hcb, hcb', hll, hel⟩ := HSp.out.en k hlt
                      subst ha; subst ha'
                      have HEl := hide hel
                      clear hel
                      generalize Lp k = l at hcb hll HEl
                      generalize Mp k = m at hcb' HEl
                      have HCb := hide hcb
                      have HCc := hide hcb'
                      clear hcb hcb'
                      unfold maxLen at hll
                      have hkn : (0 : Int) ≤ (k : Int) := by omega
                      have hkn2 : (k : Int) < (Np : Int) := by omega
                      go_wp2_with fail
                      go_loopw [13] (fun qv w2 => ∃ q : Nat, q ≤ l ∧ qv = .int .i64 (q : Int) ∧ Hid (Gr w w2)) (fun qv _ => l - (intOf qv).toNat)
                      case atStart => exact ⟨0, Nat.zero_le _, rfl, HG⟩
                      case round =>
                        clear HG ci
                        obtain ⟨q, hq, rfl, HG2⟩ := hrel
                        rename World => w2
                        by_cases hql : q < l
                        · as_aux_lemma =>
                            obtain ⟨eb, eo, hae, eb2, pa, pc, heb, h0, h1⟩ := HEl.out q hql
                            subst hae
                            obtain rfl : eb = eb2 := by have h := heb; simp at h; omega
                            clear heb
                            have hqn : (0 : Int) ≤ (q : Int) := by omega
                            have hqn2 : (q : Int) < (l : Int) := by omega
                            have e0 : w2.cell? ⟨db, 9, none⟩ = some (.slice (some ⟨b, 0, none⟩) Np cp) := HG2.out.cell HSp.out.ci (by simp)
                            have e1 : w2.cell? ⟨b, k, none⟩ = some (.slice (some ⟨eb, eo, none⟩) l ce) := HG2.out.cell HCb.out (by simp)
                            have e2 : w2.cell? ⟨db, 10, none⟩ = some (.slice (some ⟨b', 0, none⟩) Np dp) := HG2.out.cell HSp.out.cj (by simp)
                            have e3 : w2.cell? ⟨b', k, none⟩ = some (.int .i64 m) := HG2.out.cell HCc.out (by simp)
                            have e4 : w2.cell? ⟨eb, eo + q * 3 + 1, none⟩ = some (.slice pa 0 pc) := HG2.out.cell h0 (by simp)
                            have e5 : w2.cell? ⟨eb, eo + q * 3 + 2, none⟩ = some (.int .i64 m) := HG2.out.cell h1 (by simp)
                            have KS : Hid (∀ w', Gr w2 w' → (fun w' => w'.cell? ⟨db, 9, none⟩ = some (.slice (some ⟨b, 0, none⟩) Np cp) ∧ w'.cell? ⟨b, k, none⟩ = some (.slice (some ⟨eb, eo, none⟩) l ce) ∧ w'.cell? ⟨db, 10, none⟩ = some (.slice (some ⟨b', 0, none⟩) Np dp) ∧ w'.cell? ⟨b', k, none⟩ = some (.int .i64 m) ∧ w'.cell? ⟨eb, eo + q * 3 + 1, none⟩ = some (.slice pa 0 pc) ∧ w'.cell? ⟨eb, eo + q * 3 + 2, none⟩ = some (.int .i64 m)) w') := hide (fun w' g => ⟨(HG2.out.trans g).cell HSp.out.ci (by simp), (HG2.out.trans g).cell HCb.out (by simp), (HG2.out.trans g).cell HSp.out.cj (by simp), (HG2.out.trans g).cell HCc.out (by simp), (HG2.out.trans g).cell h0 (by simp), (HG2.out.trans g).cell h1 (by simp)⟩)
                            clear h0 h1
                            go_wp2_with fail
                            clear e0 e1 e2 e3 e4 e5
                            refine wp_region_held_drew (S := (fun w' => w'.cell? ⟨db, 9, none⟩ = some (.slice (some ⟨b, 0, none⟩) Np cp) ∧ w'.cell? ⟨b, k, none⟩ = some (.slice (some ⟨eb, eo, none⟩) l ce) ∧ w'.cell? ⟨db, 10, none⟩ = some (.slice (some ⟨b', 0, none⟩) Np dp) ∧ w'.cell? ⟨b', k, none⟩ = some (.int .i64 m) ∧ w'.cell? ⟨eb, eo + q * 3 + 1, none⟩ = some (.slice pa 0 pc) ∧ w'.cell? ⟨eb, eo + q * 3 + 2, none⟩ = some (.int .i64 m))) (by kernel_rfl) (KS.out _ (Gr.drew (Gr.refl _))) (fun hHeld => ?_)
                            refine takeL (i := 0) (v := ?rpv0) rfl (by kernel_rfl) (by kernel_rfl) (by kernel_rfl) (by intro c a w h; exact h) (by rfl) ?rphy0 hHeld ?rprest0
                            case rphy0 => (intro w hSw; (try dsimp only at hSw); go_simp <;> with_reducible rfl)
                            simp only [Act.put, List.setIfInBounds_toArray, List.set_cons_zero, List.set_cons_succ]
                            refine takeL (i := 1) (v := ?rpv1) rfl (by kernel_rfl) (by kernel_rfl) (by kernel_rfl) (by intro c a w h; exact h) (by rfl) ?rphy1 hHeld ?rprest1
                            case rphy1 => (intro w hSw; (try dsimp only at hSw); go_simp <;> with_reducible rfl)
                            simp only [Act.put, List.setIfInBounds_toArray, List.set_cons_zero, List.set_cons_succ]
                            refine takeL (i := 2) (v := ?rpv2) rfl (by kernel_rfl) (by kernel_rfl) (by kernel_rfl) (by intro c a w h; exact h) (by rfl) ?rphy2 hHeld ?rprest2
                            case rphy2 => (intro w hSw; (try dsimp only at hSw); go_simp <;> with_reducible rfl)
                            simp only [Act.put, List.setIfInBounds_toArray, List.set_cons_zero, List.set_cons_succ]
                            refine takeL (i := 3) (v := ?rpv3) rfl (by kernel_rfl) (by kernel_rfl) (by kernel_rfl) (by intro c a w h; exact h) (by rfl) ?rphy3 hHeld ?rprest3
                            case rphy3 => (intro w hSw; (try dsimp only at hSw); go_simp <;> with_reducible rfl)
                            simp only [Act.put, List.setIfInBounds_toArray, List.set_cons_zero, List.set_cons_succ]
                            refine takeL (i := 4) (v := ?rpv4) rfl (by kernel_rfl) (by kernel_rfl) (by kernel_rfl) (by intro c a w h; exact h) (by rfl) ?rphy4 hHeld ?rprest4
                            case rphy4 => (intro w hSw; (try dsimp only at hSw); go_simp <;> with_reducible rfl)
                            simp only [Act.put, List.setIfInBounds_toArray, List.set_cons_zero, List.set_cons_succ]
                            refine takeL (i := 5) (v := ?rpv5) rfl (by kernel_rfl) (by kernel_rfl) (by kernel_rfl) (by intro c a w h; exact h) (by rfl) ?rphy5 hHeld ?rprest5
                            case rphy5 => (intro w hSw; (try dsimp only at hSw); go_simp <;> with_reducible rfl)
                            simp only [Act.put, List.setIfInBounds_toArray, List.set_cons_zero, List.set_cons_succ]
                            refine takeL (i := 6) (v := ?rpv6) rfl (by kernel_rfl) (by kernel_rfl) (by kernel_rfl) (by intro c a w h; exact h) (by rfl) ?rphy6 hHeld ?rprest6
                            case rphy6 => (intro w hSw; (try dsimp only at hSw); go_simp <;> with_reducible rfl)
                            simp only [Act.put, List.setIfInBounds_toArray, List.set_cons_zero, List.set_cons_succ]
                            refine takeL (i := 7) (v := ?rpv7) rfl (by kernel_rfl) (by kernel_rfl) (by kernel_rfl) (by intro c a w h; exact h) (by rfl) ?rphy7 hHeld ?rprest7
                            case rphy7 => (intro w hSw; (try dsimp only at hSw); go_simp <;> with_reducible rfl)
                            simp only [Act.put, List.setIfInBounds_toArray, List.set_cons_zero, List.set_cons_succ]
                            refine takeL (i := 8) (v := ?rpv8) rfl (by kernel_rfl) (by kernel_rfl) (by kernel_rfl) (by intro c a w h; exact h) (by rfl) ?rphy8 hHeld ?rprest8
                            case rphy8 => (intro w hSw; (try dsimp only at hSw); go_simp <;> with_reducible rfl)
                            simp only [Act.put, List.setIfInBounds_toArray, List.set_cons_zero, List.set_cons_succ]
                            refine takeL (i := 9) (v := ?rpv9) rfl (by kernel_rfl) (by kernel_rfl) (by kernel_rfl) (by intro c a w h; exact h) (by rfl) ?rphy9 hHeld ?rprest9
                            case rphy9 => (intro w hSw; (try dsimp only at hSw); go_simp <;> with_reducible rfl)
                            simp only [Act.put, List.setIfInBounds_toArray, List.set_cons_zero, List.set_cons_succ]
                            refine takeL (i := 10) (v := ?rpv10) rfl (by kernel_rfl) (by kernel_rfl) (by kernel_rfl) (by intro c a w h; exact h) (by rfl) ?rphy10 hHeld ?rprest10
                            case rphy10 => (intro w hSw; (try dsimp only at hSw); go_simp <;> with_reducible rfl)
                            simp only [Act.put, List.setIfInBounds_toArray, List.set_cons_zero, List.set_cons_succ]
                            refine takeL (i := 11) (v := ?rpv11) rfl (by kernel_rfl) (by kernel_rfl) (by kernel_rfl) (by intro c a w h; exact h) (by rfl) ?rphy11 hHeld ?rprest11
                            case rphy11 => (intro w hSw; (try dsimp only at hSw); go_simp <;> with_reducible rfl)
                            simp only [Act.put, List.setIfInBounds_toArray, List.set_cons_zero, List.set_cons_succ]
                            refine takeL (i := 12) (v := ?rpv12) rfl (by kernel_rfl) (by kernel_rfl) (by kernel_rfl) (by intro c a w h; exact h) (by rfl) ?rphy12 hHeld ?rprest12
                            case rphy12 => (intro w hSw; (try dsimp only at hSw); go_simp <;> with_reducible rfl)
                            simp only [Act.put, List.setIfInBounds_toArray, List.set_cons_zero, List.set_cons_succ]
                            refine takeL (i := 13) (v := ?rpv13) rfl (by kernel_rfl) (by kernel_rfl) (by kernel_rfl) (by intro c a w h; exact h) (by rfl) ?rphy13 hHeld ?rprest13
                            case rphy13 => (intro w hSw; (try dsimp only at hSw); go_simp <;> with_reducible rfl)
                            simp only [Act.put, List.setIfInBounds_toArray, List.set_cons_zero, List.set_cons_succ]
                            refine takeL (i := 14) (v := ?rpv14) rfl (by kernel_rfl) (by kernel_rfl) (by kernel_rfl) (by intro c a w h; exact h) (by rfl) ?rphy14 hHeld ?rprest14
                            case rphy14 => (intro w hSw; (try dsimp only at hSw); go_simp <;> with_reducible rfl)
                            simp only [Act.put, List.setIfInBounds_toArray, List.set_cons_zero, List.set_cons_succ]
                            refine takeL (i := 15) (v := ?rpv15) rfl (by kernel_rfl) (by kernel_rfl) (by kernel_rfl) (by intro c a w h; exact h) (by rfl) ?rphy15 hHeld ?rprest15
                            case rphy15 => (intro w hSw; (try dsimp only at hSw); go_simp <;> with_reducible rfl)
                            simp only [Act.put, List.setIfInBounds_toArray, List.set_cons_zero, List.set_cons_succ]
                            refine takeL (i := 16) (v := ?rpv16) rfl (by kernel_rfl) (by kernel_rfl) (by kernel_rfl) (by intro c a w h; exact h) (by rfl) ?rphy16 hHeld ?rprest16
                            case rphy16 => (intro w hSw; (try dsimp only at hSw); go_simp <;> with_reducible rfl)
                            simp only [Act.put, List.setIfInBounds_toArray, List.set_cons_zero, List.set_cons_succ]
                            refine takeL (i := 17) (v := ?rpv17) rfl (by kernel_rfl) (by kernel_rfl) (by kernel_rfl) (by intro c a w h; exact h) (by rfl) ?rphy17 hHeld ?rprest17
                            case rphy17 => (intro w hSw; (try dsimp only at hSw); go_simp <;> with_reducible rfl)
                            simp only [Act.put, List.setIfInBounds_toArray, List.set_cons_zero, List.set_cons_succ]
                            refine takeL (i := 18) (v := ?rpv18) rfl (by kernel_rfl) (by kernel_rfl) (by kernel_rfl) (by intro c a w h; exact h) (by rfl) ?rphy18 hHeld ?rprest18
                            case rphy18 => (intro w hSw; (try dsimp only at hSw); go_simp <;> with_reducible rfl)
                            simp only [Act.put, List.setIfInBounds_toArray, List.set_cons_zero, List.set_cons_succ]
                            refine takeL (i := 19) (v := ?rpv19) rfl (by kernel_rfl) (by kernel_rfl) (by kernel_rfl) (by intro c a w h; exact h) (by rfl) ?rphy19 hHeld ?rprest19
                            case rphy19 => (intro w hSw; (try dsimp only at hSw); go_simp <;> with_reducible rfl)
                            simp only [Act.put, List.setIfInBounds_toArray, List.set_cons_zero, List.set_cons_succ]
                            refine takeL (i := 20) (v := ?rpv20) rfl (by kernel_rfl) (by kernel_rfl) (by kernel_rfl) (by intro c a w h; exact h) (by rfl) ?rphy20 hHeld ?rprest20
                            case rphy20 => (intro w hSw; (try dsimp only at hSw); go_simp <;> with_reducible rfl)
                            simp only [Act.put, List.setIfInBounds_toArray, List.set_cons_zero, List.set_cons_succ]
                            refine takeL (i := 21) (v := ?rpv21) rfl (by kernel_rfl) (by kernel_rfl) (by kernel_rfl) (by intro c a w h; exact h) (by rfl) ?rphy21 hHeld ?rprest21
                            case rphy21 => (intro w hSw; (try dsimp only at hSw); go_simp <;> with_reducible rfl)
                            simp only [Act.put, List.setIfInBounds_toArray, List.set_cons_zero, List.set_cons_succ]
                            refine takeL (i := 22) (v := ?rpv22) rfl (by kernel_rfl) (by kernel_rfl) (by kernel_rfl) (by intro c a w h; exact h) (by rfl) ?rphy22 hHeld ?rprest22
                            case rphy22 => (intro w hSw; (try dsimp only at hSw); go_simp <;> with_reducible rfl)
                            simp only [Act.put, List.setIfInBounds_toArray, List.set_cons_zero, List.set_cons_succ]
                            refine takeL (i := 23) (v := ?rpv23) rfl (by kernel_rfl) (by kernel_rfl) (by kernel_rfl) (by intro c a w h; exact h) (by rfl) ?rphy23 hHeld ?rprest23
                            case rphy23 => (intro w hSw; (try dsimp only at hSw); go_simp <;> with_reducible rfl)
                            simp only [Act.put, List.setIfInBounds_toArray, List.set_cons_zero, List.set_cons_succ]
                            refine takeL (i := 24) (v := ?rpv24) rfl (by kernel_rfl) (by kernel_rfl) (by kernel_rfl) (by intro c a w h; exact h) (by rfl) ?rphy24 hHeld ?rprest24
                            case rphy24 => (intro w hSw; (try dsimp only at hSw); go_simp <;> with_reducible rfl)
                            simp only [Act.put, List.setIfInBounds_toArray, List.set_cons_zero, List.set_cons_succ]
                            refine takeL (i := 25) (v := ?rpv25) rfl (by kernel_rfl) (by kernel_rfl) (by kernel_rfl) (by intro c a w h; exact h) (by rfl) ?rphy25 hHeld ?rprest25
                            case rphy25 => (intro w hSw; (try dsimp only at hSw); go_simp <;> with_reducible rfl)
                            simp only [Act.put, List.setIfInBounds_toArray, List.set_cons_zero, List.set_cons_succ]
                            refine takeL (i := 26) (v := ?rpv26) rfl (by kernel_rfl) (by kernel_rfl) (by kernel_rfl) (by intro c a w h; exact h) (by rfl) ?rphy26 hHeld ?rprest26
                            case rphy26 => (intro w hSw; (try dsimp only at hSw); go_simp <;> with_reducible rfl)
                            simp only [Act.put, List.setIfInBounds_toArray, List.set_cons_zero, List.set_cons_succ]
                            refine takeL (i := 27) (v := ?rpv27) rfl (by kernel_rfl) (by kernel_rfl) (by kernel_rfl) (by intro c a w h; exact h) (by rfl) ?rphy27 hHeld ?rprest27
                            case rphy27 => (intro w hSw; (try dsimp only at hSw); go_simp <;> with_reducible rfl)
                            simp only [Act.put, List.setIfInBounds_toArray, List.set_cons_zero, List.set_cons_succ]
                            refine takeL (i := 28) (v := ?rpv28) rfl (by kernel_rfl) (by kernel_rfl) (by kernel_rfl) (by intro c a w h; exact h) (by rfl) ?rphy28 hHeld ?rprest28
                            case rphy28 => (intro w hSw; (try dsimp only at hSw); go_simp <;> with_reducible rfl)
                            simp only [Act.put, List.setIfInBounds_toArray, List.set_cons_zero, List.set_cons_succ]
                            refine takeL (i := 29) (v := ?rpv29) rfl (by kernel_rfl) (by kernel_rfl) (by kernel_rfl) (by intro c a w h; exact h) (by rfl) ?rphy29 hHeld ?rprest29
                            case rphy29 => (intro w hSw; (try dsimp only at hSw); go_simp <;> with_reducible rfl)
                            simp only [Act.put, List.setIfInBounds_toArray, List.set_cons_zero, List.set_cons_succ]
                            refine takeL (i := 30) (v := ?rpv30) rfl (by kernel_rfl) (by kernel_rfl) (by kernel_rfl) (by intro c a w h; exact h) (by rfl) ?rphy30 hHeld ?rprest30
                            case rphy30 => (intro w hSw; (try dsimp only at hSw); go_simp <;> with_reducible rfl)
                            simp only [Act.put, List.setIfInBounds_toArray, List.set_cons_zero, List.set_cons_succ]
                            refine takeL (i := 31) (v := ?rpv31) rfl (by kernel_rfl) (by kernel_rfl) (by kernel_rfl) (by intro c a w h; exact h) (by rfl) ?rphy31 hHeld ?rprest31
                            case rphy31 => (intro w hSw; (try dsimp only at hSw); go_simp <;> with_reducible rfl)
                            simp only [Act.put, List.setIfInBounds_toArray, List.set_cons_zero, List.set_cons_succ]
                            refine takeL (i := 32) (v := ?rpv32) rfl (by kernel_rfl) (by kernel_rfl) (by kernel_rfl) (by intro c a w h; exact h) (by rfl) ?rphy32 hHeld ?rprest32
                            case rphy32 => (intro w hSw; (try dsimp only at hSw); go_simp <;> with_reducible rfl)
                            simp only [Act.put, List.setIfInBounds_toArray, List.set_cons_zero, List.set_cons_succ]
                            refine takeL (i := 33) (v := ?rpv33) rfl (by kernel_rfl) (by kernel_rfl) (by kernel_rfl) (by intro c a w h; exact h) (by rfl) ?rphy33 hHeld ?rprest33
                            case rphy33 => (intro w hSw; (try dsimp only at hSw); go_simp <;> with_reducible rfl)
                            simp only [Act.put, List.setIfInBounds_toArray, List.set_cons_zero, List.set_cons_succ]
                            refine wpAnyH_done (by kernel_rfl) ?_ _
                            clear hHeld KS
                            go_wp2_with fail
                            go_roundw
                            case rel => exact ⟨q + 1, by omega, by go_num, hide (HG2.out.trans (Gr.drew (Gr.refl _)))⟩
                            case measure => simp [intOf]; omega
                        · have hqe : q = l := by omega
                          subst hqe
                          have di := HG2.out.cell HSp.out.ci (by simp)
                          have db1 := HG2.out.cell HCb.out (by simp)
                          go_wp2_with fail
                          go_roundw
                          case rel => exact ⟨k + 1, by omega, by go_num, HG2⟩
                          case measure => simp [intOf]; omega
                    · have hke : k = Np := by omega
                      subst hke
                      clear hlt hk
                      obtain ⟨Nx, Lx, Mx, ax, zx, cx, dx, hsx⟩ := sec_x HS.out HE.out
                      have HSx := hide hsx
                      clear hsx
                      have hnlx : Nx ≤ maxLen := HSx.out.nl
                      unfold maxLen at hnlx
                      go_wp2_with fail
                      go_loopw [14] (fun kv wr => ∃ k : Nat, k ≤ Nx ∧ kv = .int .i64 (k : Int) ∧ Hid (Gr w wr)) (fun kv _ => Nx - (intOf kv).toNat)
                      case atStart => exact ⟨0, Nat.zero_le _, rfl, HG⟩
                      case round =>
                        clear HG
                        obtain ⟨k, hk, rfl, HG⟩ := hrel
                        have ci := HG.out.cell HSx.out.ci (by simp)
                        by_cases hlt : k < Nx
                        · obtain ⟨b, b', ae, ce, ha, ha', hcb, hcb', hll, hel⟩ := HSx.out.en k hlt
                          subst ha; subst ha'
                          have HEl := hide hel
                          clear hel
                          generalize Lx k = l at hcb hll HEl
                          generalize Mx k = m at hcb' HEl
                          have HCb := hide hcb
                          have HCc := hide hcb'
                          clear hcb hcb'
                          unfold maxLen at hll
                          have hkn : (0 : Int) ≤ (k : Int) := by omega
                          have hkn2 : (k : Int) < (Nx : Int) := by omega
                          go_wp2_with fail
                          go_loopw [15] (fun qv w2 => ∃ q : Nat, q ≤ l ∧ qv = .int .i64 (q : Int) ∧ Hid (Gr w w2)) (fun qv _ => l - (intOf qv).toNat)
                          case atStart => exact ⟨0, Nat.zero_le _, rfl, HG⟩
                          case round =>
                            clear HG ci
                            obtain ⟨q, hq, rfl, HG2⟩ := hrel
                            rename World => w2
                            by_cases hql : q < l
                            · as_aux_lemma =>
                                obtain ⟨eb, eo, hae, eb2, heb, h0, h1⟩ := HEl.out q hql
                                subst hae
                                obtain rfl : eb = eb2 := by have h := heb; simp at h; omega
                                clear heb
                                have hqn : (0 : Int) ≤ (q : Int) := by omega
                                have hqn2 : (q : Int) < (l : Int) := by omega
                                have e0 : w2.cell? ⟨db, 8, none⟩ = some (.slice (some ⟨b, 0, none⟩) Nx cx) := HG2.out.cell HSx.out.ci (by simp)
                                have e1 : w2.cell? ⟨b, k, none⟩ = some (.slice (some ⟨eb, eo, none⟩) l ce) := HG2.out.cell HCb.out (by simp)
                                have e2 : w2.cell? ⟨db, 10, none⟩ = some (.slice (some ⟨b', 0, none⟩) Nx dx) := HG2.out.cell HSx.out.cj (by simp)
                                have e3 : w2.cell? ⟨b', k, none⟩ = some (.int .i64 m) := HG2.out.cell HCc.out (by simp)
                                have e4 : w2.cell? ⟨eb, eo + q * 2, none⟩ = some (.string ⟨#[]⟩) := HG2.out.cell h0 (by simp)
                                have e5 : w2.cell? ⟨eb, eo + q * 2 + 1, none⟩ = some (.int .i64 m) := HG2.out.cell h1 (by simp)
                                have KS : Hid (∀ w', Gr w2 w' → (fun w' => w'.cell? ⟨db, 8, none⟩ = some (.slice (some ⟨b, 0, none⟩) Nx cx) ∧ w'.cell? ⟨b, k, none⟩ = some (.slice (some ⟨eb, eo, none⟩) l ce) ∧ w'.cell? ⟨db, 10, none⟩ = some (.slice (some ⟨b', 0, none⟩) Nx dx) ∧ w'.cell? ⟨b', k, none⟩ = some (.int .i64 m) ∧ w'.cell? ⟨eb, eo + q * 2, none⟩ = some (.string ⟨#[]⟩) ∧ w'.cell? ⟨eb, eo + q * 2 + 1, none⟩ = some (.int .i64 m)) w') := hide (fun w' g => ⟨(HG2.out.trans g).cell HSx.out.ci (by simp), (HG2.out.trans g).cell HCb.out (by simp), (HG2.out.trans g).cell HSx.out.cj (by simp), (HG2.out.trans g).cell HCc.out (by simp), (HG2.out.trans g).cell h0 (by simp), (HG2.out.trans g).cell h1 (by simp)⟩)
                                clear h0 h1
                                go_wp2_with fail
                                clear e0 e1 e2 e3 e4 e5
                                refine wp_region_held_drew (S := (fun w' => w'.cell? ⟨db, 8, none⟩ = some (.slice (some ⟨b, 0, none⟩) Nx cx) ∧ w'.cell? ⟨b, k, none⟩ = some (.slice (some ⟨eb, eo, none⟩) l ce) ∧ w'.cell? ⟨db, 10, none⟩ = some (.slice (some ⟨b', 0, none⟩) Nx dx) ∧ w'.cell? ⟨b', k, none⟩ = some (.int .i64 m) ∧ w'.cell? ⟨eb, eo + q * 2, none⟩ = some (.string ⟨#[]⟩) ∧ w'.cell? ⟨eb, eo + q * 2 + 1, none⟩ = some (.int .i64 m))) (by kernel_rfl) (KS.out _ (Gr.drew (Gr.refl _))) (fun hHeld => ?_)
                                refine takeL (i := 0) (v := ?rxv0) rfl (by kernel_rfl) (by kernel_rfl) (by kernel_rfl) (by intro c a w h; exact h) (by rfl) ?rxhy0 hHeld ?rxrest0
                                case rxhy0 => (intro w hSw; (try dsimp only at hSw); go_simp <;> with_reducible rfl)
                                simp only [Act.put, List.setIfInBounds_toArray, List.set_cons_zero, List.set_cons_succ]
                                refine takeL (i := 1) (v := ?rxv1) rfl (by kernel_rfl) (by kernel_rfl) (by kernel_rfl) (by intro c a w h; exact h) (by rfl) ?rxhy1 hHeld ?rxrest1
                                case rxhy1 => (intro w hSw; (try dsimp only at hSw); go_simp <;> with_reducible rfl)
                                simp only [Act.put, List.setIfInBounds_toArray, List.set_cons_zero, List.set_cons_succ]
                                refine takeL (i := 2) (v := ?rxv2) rfl (by kernel_rfl) (by kernel_rfl) (by kernel_rfl) (by intro c a w h; exact h) (by rfl) ?rxhy2 hHeld ?rxrest2
                                case rxhy2 => (intro w hSw; (try dsimp only at hSw); go_simp <;> with_reducible rfl)
                                simp only [Act.put, List.setIfInBounds_toArray, List.set_cons_zero, List.set_cons_succ]
                                refine takeL (i := 3) (v := ?rxv3) rfl (by kernel_rfl) (by kernel_rfl) (by kernel_rfl) (by intro c a w h; exact h) (by rfl) ?rxhy3 hHeld ?rxrest3
                                case rxhy3 => (intro w hSw; (try dsimp only at hSw); go_simp <;> with_reducible rfl)
                                simp only [Act.put, List.setIfInBounds_toArray, List.set_cons_zero, List.set_cons_succ]
                                refine takeL (i := 4) (v := ?rxv4) rfl (by kernel_rfl) (by kernel_rfl) (by kernel_rfl) (by intro c a w h; exact h) (by rfl) ?rxhy4 hHeld ?rxrest4
                                case rxhy4 => (intro w hSw; (try dsimp only at hSw); go_simp <;> with_reducible rfl)
                                simp only [Act.put, List.setIfInBounds_toArray, List.set_cons_zero, List.set_cons_succ]
                                refine takeL (i := 5) (v := ?rxv5) rfl (by kernel_rfl) (by kernel_rfl) (by kernel_rfl) (by intro c a w h; exact h) (by rfl) ?rxhy5 hHeld ?rxrest5
                                case rxhy5 => (intro w hSw; (try dsimp only at hSw); go_simp <;> with_reducible rfl)
                                simp only [Act.put, List.setIfInBounds_toArray, List.set_cons_zero, List.set_cons_succ]
                                refine takeL (i := 6) (v := ?rxv6) rfl (by kernel_rfl) (by kernel_rfl) (by kernel_rfl) (by intro c a w h; exact h) (by rfl) ?rxhy6 hHeld ?rxrest6
                                case rxhy6 => (intro w hSw; (try dsimp only at hSw); go_simp <;> with_reducible rfl)
                                simp only [Act.put, List.setIfInBounds_toArray, List.set_cons_zero, List.set_cons_succ]
                                refine takeL (i := 7) (v := ?rxv7) rfl (by kernel_rfl) (by kernel_rfl) (by kernel_rfl) (by intro c a w h; exact h) (by rfl) ?rxhy7 hHeld ?rxrest7
                                case rxhy7 => (intro w hSw; (try dsimp only at hSw); go_simp <;> with_reducible rfl)
                                simp only [Act.put, List.setIfInBounds_toArray, List.set_cons_zero, List.set_cons_succ]
                                refine takeL (i := 8) (v := ?rxv8) rfl (by kernel_rfl) (by kernel_rfl) (by kernel_rfl) (by intro c a w h; exact h) (by rfl) ?rxhy8 hHeld ?rxrest8
                                case rxhy8 => (intro w hSw; (try dsimp only at hSw); go_simp <;> with_reducible rfl)
                                simp only [Act.put, List.setIfInBounds_toArray, List.set_cons_zero, List.set_cons_succ]
                                refine takeL (i := 9) (v := ?rxv9) rfl (by kernel_rfl) (by kernel_rfl) (by kernel_rfl) (by intro c a w h; exact h) (by rfl) ?rxhy9 hHeld ?rxrest9
                                case rxhy9 => (intro w hSw; (try dsimp only at hSw); go_simp <;> with_reducible rfl)
                                simp only [Act.put, List.setIfInBounds_toArray, List.set_cons_zero, List.set_cons_succ]
                                refine takeL (i := 10) (v := ?rxv10) rfl (by kernel_rfl) (by kernel_rfl) (by kernel_rfl) (by intro c a w h; exact h) (by rfl) ?rxhy10 hHeld ?rxrest10
                                case rxhy10 => (intro w hSw; (try dsimp only at hSw); go_simp <;> with_reducible rfl)
                                simp only [Act.put, List.setIfInBounds_toArray, List.set_cons_zero, List.set_cons_succ]
                                refine takeL (i := 11) (v := ?rxv11) rfl (by kernel_rfl) (by kernel_rfl) (by kernel_rfl) (by intro c a w h; exact h) (by rfl) ?rxhy11 hHeld ?rxrest11
                                case rxhy11 => (intro w hSw; (try dsimp only at hSw); go_simp <;> with_reducible rfl)
                                simp only [Act.put, List.setIfInBounds_toArray, List.set_cons_zero, List.set_cons_succ]
                                refine takeL (i := 12) (v := ?rxv12) rfl (by kernel_rfl) (by kernel_rfl) (by kernel_rfl) (by intro c a w h; exact h) (by rfl) ?rxhy12 hHeld ?rxrest12
                                case rxhy12 => (intro w hSw; (try dsimp only at hSw); go_simp <;> with_reducible rfl)
                                simp only [Act.put, List.setIfInBounds_toArray, List.set_cons_zero, List.set_cons_succ]
                                refine takeL (i := 13) (v := ?rxv13) rfl (by kernel_rfl) (by kernel_rfl) (by kernel_rfl) (by intro c a w h; exact h) (by rfl) ?rxhy13 hHeld ?rxrest13
                                case rxhy13 => (intro w hSw; (try dsimp only at hSw); go_simp <;> with_reducible rfl)
                                simp only [Act.put, List.setIfInBounds_toArray, List.set_cons_zero, List.set_cons_succ]
                                refine takeL (i := 14) (v := ?rxv14) rfl (by kernel_rfl) (by kernel_rfl) (by kernel_rfl) (by intro c a w h; exact h) (by rfl) ?rxhy14 hHeld ?rxrest14
                                case rxhy14 => (intro w hSw; (try dsimp only at hSw); go_simp <;> with_reducible rfl)
                                simp only [Act.put, List.setIfInBounds_toArray, List.set_cons_zero, List.set_cons_succ]
                                refine takeL (i := 15) (v := ?rxv15) rfl (by kernel_rfl) (by kernel_rfl) (by kernel_rfl) (by intro c a w h; exact h) (by rfl) ?rxhy15 hHeld ?rxrest15
                                case rxhy15 => (intro w hSw; (try dsimp only at hSw); go_simp <;> with_reducible rfl)
                                simp only [Act.put, List.setIfInBounds_toArray, List.set_cons_zero, List.set_cons_succ]
                                refine takeL (i := 16) (v := ?rxv16) rfl (by kernel_rfl) (by kernel_rfl) (by kernel_rfl) (by intro c a w h; exact h) (by rfl) ?rxhy16 hHeld ?rxrest16
                                case rxhy16 => (intro w hSw; (try dsimp only at hSw); go_simp <;> with_reducible rfl)
                                simp only [Act.put, List.setIfInBounds_toArray, List.set_cons_zero, List.set_cons_succ]
                                refine takeL (i := 17) (v := ?rxv17) rfl (by kernel_rfl) (by kernel_rfl) (by kernel_rfl) (by intro c a w h; exact h) (by rfl) ?rxhy17 hHeld ?rxrest17
                                case rxhy17 => (intro w hSw; (try dsimp only at hSw); go_simp <;> with_reducible rfl)
                                simp only [Act.put, List.setIfInBounds_toArray, List.set_cons_zero, List.set_cons_succ]
                                refine takeL (i := 18) (v := ?rxv18) rfl (by kernel_rfl) (by kernel_rfl) (by kernel_rfl) (by intro c a w h; exact h) (by rfl) ?rxhy18 hHeld ?rxrest18
                                case rxhy18 => (intro w hSw; (try dsimp only at hSw); go_simp <;> with_reducible rfl)
                                simp only [Act.put, List.setIfInBounds_toArray, List.set_cons_zero, List.set_cons_succ]
                                refine wpAnyH_done (by kernel_rfl) ?_ _
                                clear hHeld KS
                                go_wp2_with fail
                                go_roundw
                                case rel => exact ⟨q + 1, by omega, by go_num, hide (HG2.out.trans (Gr.drew (Gr.refl _)))⟩
                                case measure => simp [intOf]; omega
                            · have hqe : q = l := by omega
                              subst hqe
                              have di := HG2.out.cell HSx.out.ci (by simp)
                              have db1 := HG2.out.cell HCb.out (by simp)
                              go_wp2_with fail
                              go_roundw
                              case rel => exact ⟨k + 1, by omega, by go_num, HG2⟩
                              case measure => simp [intOf]; omega
                        · have hke : k = Nx := by omega
                          subst hke
                          clear hlt hk
                          skip
                          go_wp2_with fail
                          go_ret
                          exact ⟨rfl, HG.out⟩
end Go.Proofs.YtkgncijcnlfhiaaDoor

