import Derived.Test.YtkgncijcnlfhiaaW6
namespace Go.Proofs.Ytkgncijcnlfhiaa
set_option linter.unusedVariables false
set_option linter.unusedSimpArgs false
open Go.RowKit
attribute [local go_sem ↓] Go.wp_at_zero Go.wp_at_succ

set_option maxHeartbeats 2000000 in
theorem exports_any (l : List PExp) (v : Value) (n e a : Int) (w : World) (hn : 0 ≤ n) (hn' : n ≤ 1000000) (hR : RExports w v l) :
    Calls Try.prog 52 #[v, .int .i64 n, .agg #[.int .i64 e, .int .i64 0, .int .i64 a]] w fun x w' =>
      x = ends (exportsOk l n) e a ∧ Gr w w' := by
  obtain ⟨ao, cap, rfl, hm, hc⟩ := hR
  unfold maxLen at hm
  have hwr : IntKind.i64.wrap (n - 1) = n - 1 := Go.IntWalk.i64_in _ (by omega)
  have HC := hide hc
  clear hc
  obtain ⟨he, hn, ha⟩ := cells_box w e a
  unfold exportsOk
  cases hb : wB l.length 0 20
  · go_enter Try.func52, Try.ntmps52
    go_wp2
    go_region_with (first | (go_at_call 64; refine (within_any _ _ _ _).mono ?_; rintro e w' ⟨rfl, rfl⟩) | (go_at_call 36; refine (unless_no _ _ _).mono ?_; rintro e w' ⟨rfl, hg'⟩; refine left_region ?_))
    all_goals exact ⟨rfl, rfl, (by repeat (first | exact Gr.refl _ | assumption | refine Gr.drew ?_ | refine Gr.alloc ?_ _ | refine Gr.trans ?_ (by assumption)))⟩
  · go_enter Try.func52, Try.ntmps52
    go_wp2
    go_region_held3 (fun w' => w'.cell? ⟨w.heap.size, 0, none⟩ = some (.int .i64 e) ∧ w'.cell? ⟨w.heap.size, 1, none⟩ = some (.int .i64 0) ∧ w'.cell? ⟨w.heap.size, 2, none⟩ = some (.int .i64 a)) (first | go_keep | exact ⟨hg'.cell (by assumption) (by simp), hg'.cell (by assumption) (by simp), hg'.cell (by assumption) (by simp)⟩) (first | (go_at_call 64; refine (within_any _ _ _ _).mono ?_; rintro e w' ⟨rfl, rfl⟩) | (go_at_call 36; refine (unless_yes _ _ _).mono ?_; rintro e w' ⟨rfl, hg'⟩))
    have he1 := hg'.cell he (by simp)
    have hn1 := hg'.cell hn (by simp)
    have ha1 := hg'.cell ha (by simp)
    have hg0 : Gr w w' := (by repeat (first | exact Gr.refl _ | assumption | refine Gr.drew ?_ | refine Gr.alloc ?_ _ | refine Gr.trans ?_ (by assumption)))
    clear hg' he hn ha
    go_wp2
    go_loopw [15] (fun i wr => ∃ k : Nat, k ≤ l.length ∧ i = .int .i64 k ∧ (l.take k).all (expOk n) = true ∧ wr.cell? ⟨w.heap.size, 0, none⟩ = some (.int .i64 e) ∧ wr.cell? ⟨w.heap.size, 1, none⟩ = some (.int .i64 0) ∧ wr.cell? ⟨w.heap.size, 2, none⟩ = some (.int .i64 a) ∧ Gr w wr) (fun i _ => l.length - (intOf i).toNat)
    case atStart => exact ⟨0, Nat.zero_le _, rfl, by simp, he1, hn1, ha1, hg0⟩
    case round =>
      clear he1 hn1 ha1 hg0
      obtain ⟨k, hk, rfl, hall, he, hn, ha, hg⟩ := hrel
      have HA := hide hall
      clear hall
      by_cases hlt : k < l.length
      · obtain ⟨x, hx⟩ := getElem?_lt hlt
        obtain ⟨b, off, vs, hao, hc0, hc1, hRs⟩ := HC.out k x hx
        subst hao
        have hc0' := hg.cell hc0 (by simp)
        have hc1' := hg.cell hc1 (by simp)
        have HRS := hide hRs
        obtain ⟨s, rfl, hsl, hsm⟩ := hRs
        have HX := hide hx
        clear hx hc0 hc1 hsl hsm
        have hi1 : (wr.alloc (.cells #[.string s, .int .i64 x.func] 58)).cell? ⟨wr.heap.size, 1, none⟩ = some (.int .i64 x.func) := by simp [go_sem]
        have hea := (World.grownBy_alloc wr (.cells #[.string s, .int .i64 x.func] 58) none).cell he (by simp)
        have hna := (World.grownBy_alloc wr (.cells #[.string s, .int .i64 x.func] 58) none).cell hn (by simp)
        have haa := (World.grownBy_alloc wr (.cells #[.string s, .int .i64 x.func] 58) none).cell ha (by simp)
        cases hsg : nameOk x.name
        · have HF : Hid (l.all (expOk n) = false) := hide (all_false_at HX.out (by simp [expOk, hsg]))
          have HS := hide hsg
          clear hsg
          go_wp2_with (go_at_call 74; refine (no_of (name_list x.name _ e a _ HRS.out) HS.out).mono ?_; rintro e w1 ⟨rfl, hg1⟩)
          exact ⟨rfl, by rw [HF.out]; rfl, (by repeat (first | exact Gr.refl _ | assumption | refine Gr.drew ?_ | refine Gr.alloc ?_ _ | refine Gr.trans ?_ (by assumption)))⟩
        · have HS := hide hsg
          go_wp2_with (first | (go_at_call 74; refine (yes_of (name_list x.name _ e a _ HRS.out) HS.out).mono ?_; rintro e w1 ⟨rfl, hg1⟩; have he1 := hg1.cell hea (by simp); have hn1 := hg1.cell hna (by simp); have ha1 := hg1.cell haa (by simp); have hi11 := hg1.cell hi1 (by simp)))
          have hgr : Gr w w1 := (by repeat (first | exact Gr.refl _ | assumption | refine Gr.drew ?_ | refine Gr.alloc ?_ _ | refine Gr.trans ?_ (by assumption)))
          clear hi1 hea hna haa he hn ha hg1
          cases hkl : wB x.func 0 (n - 1)
          · have HF : Hid (l.all (expOk n) = false) := hide (all_false_at HX.out (by simp [expOk, hkl]))
            go_region_with (first | (go_at_call 64; refine (within_any _ _ _ _).mono ?_; rintro e w' ⟨rfl, rfl⟩) | (go_at_call 36; refine (unless_no _ _ _).mono ?_; rintro e w' ⟨rfl, hg'⟩; refine left_region ?_))
            all_goals exact ⟨rfl, by rw [HF.out]; rfl, (by repeat (first | exact Gr.refl _ | assumption | refine Gr.drew ?_ | refine Gr.alloc ?_ _ | refine Gr.trans ?_ (by assumption)))⟩
          · have HT : Hid ((l.take (k + 1)).all (expOk n) = true) := hide (by rw [all_take_succ HX.out, HA.out]; simp [expOk, hsg, hkl])
            go_region_held3 (fun w' => w'.cell? ⟨w.heap.size, 0, none⟩ = some (.int .i64 e) ∧ w'.cell? ⟨w.heap.size, 1, none⟩ = some (.int .i64 0) ∧ w'.cell? ⟨w.heap.size, 2, none⟩ = some (.int .i64 a) ∧ w'.cell? ⟨wr.heap.size, 1, none⟩ = some (.int .i64 x.func)) (first | go_keep | (refine ⟨?_, ?_, ?_, ?_⟩ <;> exact hg'.cell (by assumption) (by simp))) (first | (go_at_call 64; refine (within_any _ _ _ _).mono ?_; rintro e w' ⟨rfl, rfl⟩) | (go_at_call 36; refine (unless_yes _ _ _).mono ?_; rintro e w' ⟨rfl, hg'⟩))
            go_wp2
            go_roundw
            case rel => exact ⟨k + 1, by omega, by go_num, HT.out, hg'.cell he1 (by simp), hg'.cell hn1 (by simp), hg'.cell ha1 (by simp), (by repeat (first | exact Gr.refl _ | assumption | refine Gr.drew ?_ | refine Gr.alloc ?_ _ | refine Gr.trans ?_ (by assumption)))⟩
            case measure => simp [intOf]; omega
      · go_wp2
        go_end0
        exact ⟨by rw [all_end HA.out hlt]; rfl, hg⟩
end Go.Proofs.Ytkgncijcnlfhiaa
