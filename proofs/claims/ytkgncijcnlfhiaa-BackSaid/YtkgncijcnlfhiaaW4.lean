import Derived.Test.YtkgncijcnlfhiaaR0
namespace Go.Proofs.Ytkgncijcnlfhiaa
set_option linter.unusedVariables false
set_option linter.unusedSimpArgs false
open Go.RowKit
attribute [local go_sem ↓] Go.wp_at_zero Go.wp_at_succ

set_option maxHeartbeats 1000000 in
theorem shapes_any (l : List (List Int)) (v : Value) (e a : Int) (w : World) (hR : RShapes w v l) :
    Calls Try.prog 40 #[v, .agg #[.int .i64 e, .int .i64 0, .int .i64 a]] w fun x w' =>
      x = ends (shapesOk l) e a ∧ Gr w w' := by
  obtain ⟨ao, cap, rfl, hm, hc⟩ := hR
  unfold maxLen at hm
  have HC := hide hc
  clear hc
  obtain ⟨he, hn, ha⟩ := cells_box w e a
  unfold shapesOk
  cases hb : wB l.length 0 20
  · go_enter Try.func40, Try.ntmps40
    go_wp2
    go_region_with (first | (go_at_call 64; refine (within_any _ _ _ _).mono ?_; rintro e w' ⟨rfl, rfl⟩) | (go_at_call 36; refine (unless_no _ _ _).mono ?_; rintro e w' ⟨rfl, hg'⟩; refine left_region ?_))
    all_goals exact ⟨rfl, rfl, (by repeat (first | exact Gr.refl _ | assumption | refine Gr.drew ?_ | refine Gr.alloc ?_ _ | refine Gr.trans ?_ (by assumption)))⟩
  · go_enter Try.func40, Try.ntmps40
    go_wp2
    go_region_held3 (fun w' => w'.cell? ⟨w.heap.size, 0, none⟩ = some (.int .i64 e) ∧ w'.cell? ⟨w.heap.size, 1, none⟩ = some (.int .i64 0) ∧ w'.cell? ⟨w.heap.size, 2, none⟩ = some (.int .i64 a)) (first | go_keep | exact ⟨hg'.cell (by assumption) (by simp), hg'.cell (by assumption) (by simp), hg'.cell (by assumption) (by simp)⟩) (first | (go_at_call 64; refine (within_any _ _ _ _).mono ?_; rintro e w' ⟨rfl, rfl⟩) | (go_at_call 36; refine (unless_yes _ _ _).mono ?_; rintro e w' ⟨rfl, hg'⟩))
    have he1 := hg'.cell he (by simp)
    have hn1 := hg'.cell hn (by simp)
    have ha1 := hg'.cell ha (by simp)
    have hg0 : Gr w w' := (by repeat (first | exact Gr.refl _ | assumption | refine Gr.drew ?_ | refine Gr.alloc ?_ _ | refine Gr.trans ?_ (by assumption)))
    clear hg' he hn ha
    go_wp2
    go_loopw [13] (fun i wr => ∃ k : Nat, k ≤ l.length ∧ i = .int .i64 k ∧ (l.take k).all (shapeOk l.length) = true ∧ wr.cell? ⟨w.heap.size, 0, none⟩ = some (.int .i64 e) ∧ wr.cell? ⟨w.heap.size, 1, none⟩ = some (.int .i64 0) ∧ wr.cell? ⟨w.heap.size, 2, none⟩ = some (.int .i64 a) ∧ Gr w wr) (fun i _ => l.length - (intOf i).toNat)
    case atStart => exact ⟨0, Nat.zero_le _, rfl, by simp, he1, hn1, ha1, hg0⟩
    case round =>
      clear he1 hn1 ha1 hg0
      obtain ⟨k, hk, rfl, hall, he, hn, ha, hg⟩ := hrel
      have HA := hide hall
      clear hall
      by_cases hlt : k < l.length
      · obtain ⟨x, hx⟩ := getElem?_lt hlt
        obtain ⟨b, off, vx, hao, hcell, hRx⟩ := HC.out k x hx
        subst hao
        have hcell' := hg.cell hcell (by simp)
        have hmx := hRx.choose_spec.choose_spec.2.1
        unfold maxLen at hmx
        obtain ⟨ax, cx, rfl⟩ := hRx.shape
        have HRX := hide (hRx.gr hg)
        have HX := hide hx
        clear hx hRx hcell
        cases hbx : wB x.length 1 8
        · have HF : Hid (l.all (shapeOk l.length) = false) := hide (all_false_at HX.out (by simp [shapeOk, hbx]))
          go_wp2
          go_region_with (first | (go_at_call 64; refine (within_any _ _ _ _).mono ?_; rintro e w' ⟨rfl, rfl⟩) | (go_at_call 36; refine (unless_no _ _ _).mono ?_; rintro e w' ⟨rfl, hg'⟩; refine left_region ?_))
          all_goals exact ⟨rfl, by rw [HF.out]; rfl, (by repeat (first | exact Gr.refl _ | assumption | refine Gr.drew ?_ | refine Gr.alloc ?_ _ | refine Gr.trans ?_ (by assumption)))⟩
        · cases hkx : x.all (inB l.length)
          · have HF : Hid (l.all (shapeOk l.length) = false) := hide (all_false_at HX.out (by simp [shapeOk, hkx]))
            have HK := hide hkx
            clear hkx
            go_wp2
            go_region_held3 (fun w' => w'.cell? ⟨w.heap.size, 0, none⟩ = some (.int .i64 e) ∧ w'.cell? ⟨w.heap.size, 1, none⟩ = some (.int .i64 0) ∧ w'.cell? ⟨w.heap.size, 2, none⟩ = some (.int .i64 a)) (first | go_keep | exact ⟨hg'.cell (by assumption) (by simp), hg'.cell (by assumption) (by simp), hg'.cell (by assumption) (by simp)⟩) (first | (go_at_call 64; refine (within_any _ _ _ _).mono ?_; rintro e w' ⟨rfl, rfl⟩) | (go_at_call 36; refine (unless_yes _ _ _).mono ?_; rintro e w' ⟨rfl, hg'⟩))
            have he1 := hg'.cell he (by simp)
            have hn1 := hg'.cell hn (by simp)
            have ha1 := hg'.cell ha (by simp)
            go_wp2_with (first | (go_at_call 65; refine (no_of (kinds_any x _ l.length e a _ (by exact HRX.out.gr (by repeat (first | exact Gr.refl _ | assumption | refine Gr.drew ?_ | refine Gr.alloc ?_ _ | refine Gr.trans ?_ (by assumption))))) HK.out).mono ?_; rintro e w2 ⟨rfl, hg2⟩))
            exact ⟨rfl, by rw [HF.out]; rfl, (by repeat (first | exact Gr.refl _ | assumption | refine Gr.drew ?_ | refine Gr.alloc ?_ _ | refine Gr.trans ?_ (by assumption)))⟩
          · have HT : Hid ((l.take (k + 1)).all (shapeOk l.length) = true) := hide (by rw [all_take_succ HX.out, HA.out]; simp [shapeOk, hbx, hkx])
            have HK := hide hkx
            clear hkx
            go_wp2
            go_region_held3 (fun w' => w'.cell? ⟨w.heap.size, 0, none⟩ = some (.int .i64 e) ∧ w'.cell? ⟨w.heap.size, 1, none⟩ = some (.int .i64 0) ∧ w'.cell? ⟨w.heap.size, 2, none⟩ = some (.int .i64 a)) (first | go_keep | exact ⟨hg'.cell (by assumption) (by simp), hg'.cell (by assumption) (by simp), hg'.cell (by assumption) (by simp)⟩) (first | (go_at_call 64; refine (within_any _ _ _ _).mono ?_; rintro e w' ⟨rfl, rfl⟩) | (go_at_call 36; refine (unless_yes _ _ _).mono ?_; rintro e w' ⟨rfl, hg'⟩))
            have he1 := hg'.cell he (by simp)
            have hn1 := hg'.cell hn (by simp)
            have ha1 := hg'.cell ha (by simp)
            go_wp2_with (first | (go_at_call 65; refine (yes_of (kinds_any x _ l.length e a _ (by exact HRX.out.gr (by repeat (first | exact Gr.refl _ | assumption | refine Gr.drew ?_ | refine Gr.alloc ?_ _ | refine Gr.trans ?_ (by assumption))))) HK.out).mono ?_; rintro e w2 ⟨rfl, hg2⟩))
            go_roundw
            case rel => exact ⟨k + 1, by omega, by go_num, HT.out, hg2.cell he1 (by simp), hg2.cell hn1 (by simp), hg2.cell ha1 (by simp), (by repeat (first | exact Gr.refl _ | assumption | refine Gr.drew ?_ | refine Gr.alloc ?_ _ | refine Gr.trans ?_ (by assumption)))⟩
            case measure => simp [intOf]; omega
      · go_wp2
        go_end0
        exact ⟨by rw [all_end HA.out hlt]; rfl, hg⟩

end Go.Proofs.Ytkgncijcnlfhiaa
