import Derived.Test.YtkgncijcnlfhiaaDoorW4c
import Derived.Test.YtkgncijcnlfhiaaDoorW4
namespace Go.Proofs.YtkgncijcnlfhiaaDoor
set_option linter.unusedVariables false
set_option linter.unusedSimpArgs false
open Go.RowKit
attribute [local go_sem ↓] Go.wp_at_zero Go.wp_at_succ

set_option maxHeartbeats 2000000 in
theorem funcs_any (l : List PFunc) (v : Value) (n e a : Int) (w : World) (hR : RFuncs w v l) :
    Calls Tryd.prog 86 #[v, .int .i64 n, .agg #[.int .i64 e, .int .i64 0, .int .i64 a]] w fun x w' =>
      x = ends (funcsOk l n) e a ∧ Gr w w' := by
  obtain ⟨ao, cap, rfl, hm, hc⟩ := hR
  unfold maxLen at hm
  have HC := hide hc
  clear hc
  obtain ⟨he, hn, ha⟩ := cells_box w e a
  unfold funcsOk
  cases hb : wB l.length 0 30
  · go_enter Tryd.func86, Tryd.ntmps86
    go_wp2
    go_region_with (first | (go_at_call 131; refine (within_any _ _ _ _).mono ?_; rintro e w' ⟨rfl, rfl⟩) | (go_at_call 76; refine (unless_no _ _ _).mono ?_; rintro e w' ⟨rfl, hg'⟩; refine left_region ?_))
    all_goals exact ⟨rfl, rfl, (by repeat (first | exact Gr.refl _ | assumption | refine Gr.drew ?_ | refine Gr.alloc ?_ _ | refine Gr.trans ?_ (by assumption)))⟩
  · go_enter Tryd.func86, Tryd.ntmps86
    go_wp2
    go_region_held3 (fun w' => w'.cell? ⟨w.heap.size, 0, none⟩ = some (.int .i64 e) ∧ w'.cell? ⟨w.heap.size, 1, none⟩ = some (.int .i64 0) ∧ w'.cell? ⟨w.heap.size, 2, none⟩ = some (.int .i64 a)) (first | go_keep | exact ⟨hg'.cell (by assumption) (by simp), hg'.cell (by assumption) (by simp), hg'.cell (by assumption) (by simp)⟩) (first | (go_at_call 131; refine (within_any _ _ _ _).mono ?_; rintro e w' ⟨rfl, rfl⟩) | (go_at_call 76; refine (unless_yes _ _ _).mono ?_; rintro e w' ⟨rfl, hg'⟩))
    have he1 := hg'.cell he (by simp)
    have hn1 := hg'.cell hn (by simp)
    have ha1 := hg'.cell ha (by simp)
    have hg0 : Gr w w' := (by repeat (first | exact Gr.refl _ | assumption | refine Gr.drew ?_ | refine Gr.alloc ?_ _ | refine Gr.trans ?_ (by assumption)))
    clear hg' he hn ha
    go_wp2
    go_loopw [15] (fun i wr => ∃ k : Nat, k ≤ l.length ∧ i = .int .i64 k ∧ (l.take k).all (funcOk n) = true ∧ wr.cell? ⟨w.heap.size, 0, none⟩ = some (.int .i64 e) ∧ wr.cell? ⟨w.heap.size, 1, none⟩ = some (.int .i64 0) ∧ wr.cell? ⟨w.heap.size, 2, none⟩ = some (.int .i64 a) ∧ Gr w wr) (fun i _ => l.length - (intOf i).toNat)
    case atStart => exact ⟨0, Nat.zero_le _, rfl, by simp, he1, hn1, ha1, hg0⟩
    case round =>
      clear he1 hn1 ha1 hg0
      obtain ⟨k, hk, rfl, hall, he, hn, ha, hg⟩ := hrel
      have HA := hide hall
      clear hall
      by_cases hlt : k < l.length
      · obtain ⟨x, hx⟩ := getElem?_lt hlt
        obtain ⟨b, off, vp, vl, vc, hao, hc0, hc1, hc2, hc3, hRp, hRl, hRc⟩ := HC.out k x hx
        subst hao
        have hc0' := hg.cell hc0 (by simp)
        have hc1' := hg.cell hc1 (by simp)
        have hc2' := hg.cell hc2 (by simp)
        have hc3' := hg.cell hc3 (by simp)
        have hml := hRl.choose_spec.choose_spec.2.1
        unfold maxLen at hml
        obtain ⟨al, cl, rfl⟩ := hRl.shape
        obtain ⟨ap, cp, rfl⟩ := hRp.shape
        obtain ⟨ac, cc, rfl⟩ := hRc.shape
        have HRP := hide (hRp.gr hg)
        have HRL := hide (hRl.gr hg)
        have HRC := hide (hRc.gr hg)
        have HX := hide hx
        clear hx hc0 hc1 hc2 hc3 hRp hRl hRc
        have hi2 : (wr.alloc (.cells #[.slice ap x.params.length cp, .int .i64 x.result, .slice al x.locals.length cl, .slice ac x.code.length cc] 76)).cell? ⟨wr.heap.size, 2, none⟩ = some (.slice al x.locals.length cl) := by simp [go_sem]
        have hi3 : (wr.alloc (.cells #[.slice ap x.params.length cp, .int .i64 x.result, .slice al x.locals.length cl, .slice ac x.code.length cc] 76)).cell? ⟨wr.heap.size, 3, none⟩ = some (.slice ac x.code.length cc) := by simp [go_sem]
        have hea := (World.grownBy_alloc wr (.cells #[.slice ap x.params.length cp, .int .i64 x.result, .slice al x.locals.length cl, .slice ac x.code.length cc] 76) none).cell he (by simp)
        have hna := (World.grownBy_alloc wr (.cells #[.slice ap x.params.length cp, .int .i64 x.result, .slice al x.locals.length cl, .slice ac x.code.length cc] 76) none).cell hn (by simp)
        have haa := (World.grownBy_alloc wr (.cells #[.slice ap x.params.length cp, .int .i64 x.result, .slice al x.locals.length cl, .slice ac x.code.length cc] 76) none).cell ha (by simp)
        cases hsg : sigOk x.params x.result n
        · have HF : Hid (l.all (funcOk n) = false) := hide (all_false_at HX.out (by simp [funcOk, hsg]))
          have HS := hide hsg
          clear hsg
          go_wp2_with (go_at_call 137; refine (no_of (signature_any x.params _ x.result n e a _ (by exact HRP.out.gr (by repeat (first | exact Gr.refl _ | assumption | refine Gr.drew ?_ | refine Gr.alloc ?_ _ | refine Gr.trans ?_ (by assumption))))) HS.out).mono ?_; rintro e w1 ⟨rfl, hg1⟩)
          exact ⟨rfl, by rw [HF.out]; rfl, (by repeat (first | exact Gr.refl _ | assumption | refine Gr.drew ?_ | refine Gr.alloc ?_ _ | refine Gr.trans ?_ (by assumption)))⟩
        · have HS := hide hsg
          go_wp2_with (go_at_call 137; refine (yes_of (signature_any x.params _ x.result n e a _ (by exact HRP.out.gr (by repeat (first | exact Gr.refl _ | assumption | refine Gr.drew ?_ | refine Gr.alloc ?_ _ | refine Gr.trans ?_ (by assumption))))) HS.out).mono ?_; rintro e w1 ⟨rfl, hg1⟩)
          have he1 := hg1.cell hea (by simp)
          have hn1 := hg1.cell hna (by simp)
          have ha1 := hg1.cell haa (by simp)
          have hi21 := hg1.cell hi2 (by simp)
          have hi31 := hg1.cell hi3 (by simp)
          have hgr : Gr wr w1 := (by repeat (first | exact Gr.refl _ | assumption | refine Gr.drew ?_ | refine Gr.alloc ?_ _ | refine Gr.trans ?_ (by assumption)))
          clear hi2 hi3 hea hna haa he hn ha hg1
          cases hbl : wB x.locals.length 0 10
          · have HF : Hid (l.all (funcOk n) = false) := hide (all_false_at HX.out (by simp [funcOk, hbl]))
            go_region_with (first | (go_at_call 131; refine (within_any _ _ _ _).mono ?_; rintro e w' ⟨rfl, rfl⟩) | (go_at_call 76; refine (unless_no _ _ _).mono ?_; rintro e w' ⟨rfl, hg'⟩; refine left_region ?_))
            all_goals exact ⟨rfl, by rw [HF.out]; rfl, (by repeat (first | exact Gr.refl _ | assumption | refine Gr.drew ?_ | refine Gr.alloc ?_ _ | refine Gr.trans ?_ (by assumption)))⟩
          · go_region_held3 (fun w' => w'.cell? ⟨w.heap.size, 0, none⟩ = some (.int .i64 e) ∧ w'.cell? ⟨w.heap.size, 1, none⟩ = some (.int .i64 0) ∧ w'.cell? ⟨w.heap.size, 2, none⟩ = some (.int .i64 a) ∧ w'.cell? ⟨wr.heap.size, 2, none⟩ = some (.slice al x.locals.length cl)) (first | go_keep | (refine ⟨?_, ?_, ?_, ?_⟩ <;> exact hg'.cell (by assumption) (by simp))) (first | (go_at_call 131; refine (within_any _ _ _ _).mono ?_; rintro e w' ⟨rfl, rfl⟩) | (go_at_call 76; refine (unless_yes _ _ _).mono ?_; rintro e w' ⟨rfl, hg'⟩))
            have he2 := hg'.cell he1 (by simp)
            have hn2 := hg'.cell hn1 (by simp)
            have ha2 := hg'.cell ha1 (by simp)
            have hi22 := hg'.cell hi21 (by simp)
            have hi32 := hg'.cell hi31 (by simp)
            have hgr2 : Gr wr w' := (by repeat (first | exact Gr.refl _ | assumption | refine Gr.drew ?_ | refine Gr.alloc ?_ _ | refine Gr.trans ?_ (by assumption)))
            clear hgr hg' he1 hn1 ha1 hi21 hi31
            cases hkl : x.locals.all (inB n)
            · have HF : Hid (l.all (funcOk n) = false) := hide (all_false_at HX.out (by simp [funcOk, hkl]))
              have HK := hide hkl
              clear hkl
              go_wp2_with (go_at_call 132; refine (no_of (kinds_any x.locals _ n e a _ (by exact HRL.out.gr (by repeat (first | exact Gr.refl _ | assumption | refine Gr.drew ?_ | refine Gr.alloc ?_ _ | refine Gr.trans ?_ (by assumption))))) HK.out).mono ?_; rintro e w2 ⟨rfl, hg2⟩)
              exact ⟨rfl, by rw [HF.out]; rfl, (by repeat (first | exact Gr.refl _ | assumption | refine Gr.drew ?_ | refine Gr.alloc ?_ _ | refine Gr.trans ?_ (by assumption)))⟩
            · have HK := hide hkl
              go_wp2_with (go_at_call 132; refine (yes_of (kinds_any x.locals _ n e a _ (by exact HRL.out.gr (by repeat (first | exact Gr.refl _ | assumption | refine Gr.drew ?_ | refine Gr.alloc ?_ _ | refine Gr.trans ?_ (by assumption))))) HK.out).mono ?_; rintro e w2 ⟨rfl, hg2⟩; have he3 := hg2.cell he2 (by simp); have hn3 := hg2.cell hn2 (by simp); have ha3 := hg2.cell ha2 (by simp); have hi33 := hg2.cell hi32 (by simp))
              cases hcd : codeOk x.code
              · have HF : Hid (l.all (funcOk n) = false) := hide (all_false_at HX.out (by simp [funcOk, hcd]))
                have HK2 := hide hcd
                clear hcd
                go_wp2_with (go_at_call 138; refine (no_of (code_any x.code _ e a _ (by exact HRC.out.gr (by repeat (first | exact Gr.refl _ | assumption | refine Gr.drew ?_ | refine Gr.alloc ?_ _ | refine Gr.trans ?_ (by assumption))))) HK2.out).mono ?_; rintro e w3 ⟨rfl, hg3⟩)
                exact ⟨rfl, by rw [HF.out]; rfl, (by repeat (first | exact Gr.refl _ | assumption | refine Gr.drew ?_ | refine Gr.alloc ?_ _ | refine Gr.trans ?_ (by assumption)))⟩
              · have HT : Hid ((l.take (k + 1)).all (funcOk n) = true) := hide (by rw [all_take_succ HX.out, HA.out]; simp [funcOk, hsg, hbl, HK.out, hcd])
                have HK2 := hide hcd
                clear hcd
                go_wp2_with (go_at_call 138; refine (yes_of (code_any x.code _ e a _ (by exact HRC.out.gr (by repeat (first | exact Gr.refl _ | assumption | refine Gr.drew ?_ | refine Gr.alloc ?_ _ | refine Gr.trans ?_ (by assumption))))) HK2.out).mono ?_; rintro e w3 ⟨rfl, hg3⟩)
                go_roundw
                case rel => exact ⟨k + 1, by omega, by go_num, HT.out, hg3.cell he3 (by simp), hg3.cell hn3 (by simp), hg3.cell ha3 (by simp), (by repeat (first | exact Gr.refl _ | assumption | refine Gr.drew ?_ | refine Gr.alloc ?_ _ | refine Gr.trans ?_ (by assumption)))⟩
                case measure => simp [intOf]; omega
      · go_wp2
        go_end0
        exact ⟨by rw [all_end HA.out hlt]; rfl, hg⟩
end Go.Proofs.YtkgncijcnlfhiaaDoor

namespace Go.Proofs.YtkgncijcnlfhiaaDoor
set_option linter.unusedVariables false
set_option linter.unusedSimpArgs false
open Go.RowKit
attribute [local go_sem ↓] Go.wp_at_zero Go.wp_at_succ

theorem name_list (l : List UInt8) (v : Value) (e a : Int) (w : World) (h : RText v l) :
    Calls Tryd.prog 141 #[v, .agg #[.int .i64 e, .int .i64 0, .int .i64 a]] w fun x w' => x = ends (nameOk l) e a ∧ Gr w w' := by
  obtain ⟨s, rfl, rfl, hs⟩ := h
  exact name_any s e a w hs

set_option maxHeartbeats 2000000 in
theorem imports_any (l : List PImp) (v : Value) (n e a : Int) (w : World) (hR : RImports w v l) :
    Calls Tryd.prog 89 #[v, .int .i64 n, .agg #[.int .i64 e, .int .i64 0, .int .i64 a]] w fun x w' =>
      x = ends (importsOk l n) e a ∧ Gr w w' := by
  obtain ⟨ao, cap, rfl, hm, hc⟩ := hR
  unfold maxLen at hm
  have HC := hide hc
  clear hc
  obtain ⟨he, hn, ha⟩ := cells_box w e a
  unfold importsOk
  cases hb : wB l.length 0 20
  · go_enter Tryd.func89, Tryd.ntmps89
    go_wp2
    go_region_with (first | (go_at_call 131; refine (within_any _ _ _ _).mono ?_; rintro e w' ⟨rfl, rfl⟩) | (go_at_call 76; refine (unless_no _ _ _).mono ?_; rintro e w' ⟨rfl, hg'⟩; refine left_region ?_))
    all_goals exact ⟨rfl, rfl, (by repeat (first | exact Gr.refl _ | assumption | refine Gr.drew ?_ | refine Gr.alloc ?_ _ | refine Gr.trans ?_ (by assumption)))⟩
  · go_enter Tryd.func89, Tryd.ntmps89
    go_wp2
    go_region_held3 (fun w' => w'.cell? ⟨w.heap.size, 0, none⟩ = some (.int .i64 e) ∧ w'.cell? ⟨w.heap.size, 1, none⟩ = some (.int .i64 0) ∧ w'.cell? ⟨w.heap.size, 2, none⟩ = some (.int .i64 a)) (first | go_keep | exact ⟨hg'.cell (by assumption) (by simp), hg'.cell (by assumption) (by simp), hg'.cell (by assumption) (by simp)⟩) (first | (go_at_call 131; refine (within_any _ _ _ _).mono ?_; rintro e w' ⟨rfl, rfl⟩) | (go_at_call 76; refine (unless_yes _ _ _).mono ?_; rintro e w' ⟨rfl, hg'⟩))
    have he1 := hg'.cell he (by simp)
    have hn1 := hg'.cell hn (by simp)
    have ha1 := hg'.cell ha (by simp)
    have hg0 : Gr w w' := (by repeat (first | exact Gr.refl _ | assumption | refine Gr.drew ?_ | refine Gr.alloc ?_ _ | refine Gr.trans ?_ (by assumption)))
    clear hg' he hn ha
    go_wp2
    go_loopw [15] (fun i wr => ∃ k : Nat, k ≤ l.length ∧ i = .int .i64 k ∧ (l.take k).all (impOk n) = true ∧ wr.cell? ⟨w.heap.size, 0, none⟩ = some (.int .i64 e) ∧ wr.cell? ⟨w.heap.size, 1, none⟩ = some (.int .i64 0) ∧ wr.cell? ⟨w.heap.size, 2, none⟩ = some (.int .i64 a) ∧ Gr w wr) (fun i _ => l.length - (intOf i).toNat)
    case atStart => exact ⟨0, Nat.zero_le _, rfl, by simp, he1, hn1, ha1, hg0⟩
    case round =>
      clear he1 hn1 ha1 hg0
      obtain ⟨k, hk, rfl, hall, he, hn, ha, hg⟩ := hrel
      have HA := hide hall
      clear hall
      by_cases hlt : k < l.length
      · obtain ⟨x, hx⟩ := getElem?_lt hlt
        obtain ⟨b, off, vs, vp, hao, hc0, hc1, hc2, hRs, hRp⟩ := HC.out k x hx
        subst hao
        have hc0' := hg.cell hc0 (by simp)
        have hc1' := hg.cell hc1 (by simp)
        have hc2' := hg.cell hc2 (by simp)
        obtain ⟨ap, cp, rfl⟩ := hRp.shape
        have HRP := hide (hRp.gr hg)
        have HRS := hide hRs
        obtain ⟨s, rfl, hsl, hsm⟩ := hRs
        have HX := hide hx
        clear hx hc0 hc1 hc2 hRp hsl hsm
        have hi1 : (wr.alloc (.cells #[.string s, .slice ap x.params.length cp, .int .i64 x.result] 79)).cell? ⟨wr.heap.size, 1, none⟩ = some (.slice ap x.params.length cp) := by simp [go_sem]
        have hi2 : (wr.alloc (.cells #[.string s, .slice ap x.params.length cp, .int .i64 x.result] 79)).cell? ⟨wr.heap.size, 2, none⟩ = some (.int .i64 x.result) := by simp [go_sem]
        have hea := (World.grownBy_alloc wr (.cells #[.string s, .slice ap x.params.length cp, .int .i64 x.result] 79) none).cell he (by simp)
        have hna := (World.grownBy_alloc wr (.cells #[.string s, .slice ap x.params.length cp, .int .i64 x.result] 79) none).cell hn (by simp)
        have haa := (World.grownBy_alloc wr (.cells #[.string s, .slice ap x.params.length cp, .int .i64 x.result] 79) none).cell ha (by simp)
        cases hsg : nameOk x.name
        · have HF : Hid (l.all (impOk n) = false) := hide (all_false_at HX.out (by simp [impOk, hsg]))
          have HS := hide hsg
          clear hsg
          go_wp2_with (go_at_call 141; refine (no_of (name_list x.name _ e a _ HRS.out) HS.out).mono ?_; rintro e w1 ⟨rfl, hg1⟩)
          exact ⟨rfl, by rw [HF.out]; rfl, (by repeat (first | exact Gr.refl _ | assumption | refine Gr.drew ?_ | refine Gr.alloc ?_ _ | refine Gr.trans ?_ (by assumption)))⟩
        · have HS := hide hsg
          cases hkl : sigOk x.params x.result n
          · have HF : Hid (l.all (impOk n) = false) := hide (all_false_at HX.out (by simp [impOk, hkl]))
            have HK := hide hkl
            clear hkl hsg
            go_wp2_with (first | (go_at_call 141; refine (yes_of (name_list x.name _ e a _ HRS.out) HS.out).mono ?_; rintro e w1 ⟨rfl, hg1⟩; have he1 := hg1.cell hea (by simp); have hn1 := hg1.cell hna (by simp); have ha1 := hg1.cell haa (by simp); have hi11 := hg1.cell hi1 (by simp); have hi21 := hg1.cell hi2 (by simp)) | (go_at_call 137; refine (no_of (signature_any x.params _ x.result n e a _ (by exact HRP.out.gr (by repeat (first | exact Gr.refl _ | assumption | refine Gr.drew ?_ | refine Gr.alloc ?_ _ | refine Gr.trans ?_ (by assumption))))) HK.out).mono ?_; rintro e w2 ⟨rfl, hg2⟩))
            exact ⟨rfl, by rw [HF.out]; rfl, (by repeat (first | exact Gr.refl _ | assumption | refine Gr.drew ?_ | refine Gr.alloc ?_ _ | refine Gr.trans ?_ (by assumption)))⟩
          · have HT : Hid ((l.take (k + 1)).all (impOk n) = true) := hide (by rw [all_take_succ HX.out, HA.out]; simp [impOk, hsg, hkl])
            have HK := hide hkl
            clear hkl hsg
            go_wp2_with (first | (go_at_call 141; refine (yes_of (name_list x.name _ e a _ HRS.out) HS.out).mono ?_; rintro e w1 ⟨rfl, hg1⟩; have he1 := hg1.cell hea (by simp); have hn1 := hg1.cell hna (by simp); have ha1 := hg1.cell haa (by simp); have hi11 := hg1.cell hi1 (by simp); have hi21 := hg1.cell hi2 (by simp)) | (go_at_call 137; refine (yes_of (signature_any x.params _ x.result n e a _ (by exact HRP.out.gr (by repeat (first | exact Gr.refl _ | assumption | refine Gr.drew ?_ | refine Gr.alloc ?_ _ | refine Gr.trans ?_ (by assumption))))) HK.out).mono ?_; rintro e w2 ⟨rfl, hg2⟩))
            go_roundw
            case rel => exact ⟨k + 1, by omega, by go_num, HT.out, hg2.cell he1 (by simp), hg2.cell hn1 (by simp), hg2.cell ha1 (by simp), (by repeat (first | exact Gr.refl _ | assumption | refine Gr.drew ?_ | refine Gr.alloc ?_ _ | refine Gr.trans ?_ (by assumption)))⟩
            case measure => simp [intOf]; omega
      · go_wp2
        go_end0
        exact ⟨by rw [all_end HA.out hlt]; rfl, hg⟩

end Go.Proofs.YtkgncijcnlfhiaaDoor

namespace Go.Proofs.YtkgncijcnlfhiaaDoor
set_option linter.unusedVariables false
set_option linter.unusedSimpArgs false
open Go.RowKit
attribute [local go_sem ↓] Go.wp_at_zero Go.wp_at_succ

set_option maxHeartbeats 2000000 in
theorem exports_any (l : List PExp) (v : Value) (n e a : Int) (w : World) (hn : 0 ≤ n) (hn' : n ≤ 1000000) (hR : RExports w v l) :
    Calls Tryd.prog 92 #[v, .int .i64 n, .agg #[.int .i64 e, .int .i64 0, .int .i64 a]] w fun x w' =>
      x = ends (exportsOk l n) e a ∧ Gr w w' := by
  obtain ⟨ao, cap, rfl, hm, hc⟩ := hR
  unfold maxLen at hm
  have hwr : IntKind.i64.wrap (n - 1) = n - 1 := Go.IntWalk.i64_in _ (by omega)
  have HC := hide hc
  clear hc
  obtain ⟨he, hn, ha⟩ := cells_box w e a
  unfold exportsOk
  cases hb : wB l.length 0 20
  · go_enter Tryd.func92, Tryd.ntmps92
    go_wp2
    go_region_with (first | (go_at_call 131; refine (within_any _ _ _ _).mono ?_; rintro e w' ⟨rfl, rfl⟩) | (go_at_call 76; refine (unless_no _ _ _).mono ?_; rintro e w' ⟨rfl, hg'⟩; refine left_region ?_))
    all_goals exact ⟨rfl, rfl, (by repeat (first | exact Gr.refl _ | assumption | refine Gr.drew ?_ | refine Gr.alloc ?_ _ | refine Gr.trans ?_ (by assumption)))⟩
  · go_enter Tryd.func92, Tryd.ntmps92
    go_wp2
    go_region_held3 (fun w' => w'.cell? ⟨w.heap.size, 0, none⟩ = some (.int .i64 e) ∧ w'.cell? ⟨w.heap.size, 1, none⟩ = some (.int .i64 0) ∧ w'.cell? ⟨w.heap.size, 2, none⟩ = some (.int .i64 a)) (first | go_keep | exact ⟨hg'.cell (by assumption) (by simp), hg'.cell (by assumption) (by simp), hg'.cell (by assumption) (by simp)⟩) (first | (go_at_call 131; refine (within_any _ _ _ _).mono ?_; rintro e w' ⟨rfl, rfl⟩) | (go_at_call 76; refine (unless_yes _ _ _).mono ?_; rintro e w' ⟨rfl, hg'⟩))
    have he1 := hg'.cell he (by simp)
    have hn1 := hg'.cell hn (by simp)
    have ha1 := hg'.cell ha (by simp)
    have hg0 : Gr w w' := (by repeat (first | exact Gr.refl _ | assumption | refine Gr.drew ?_ | refine Gr.alloc ?_ _ | refine Gr.trans ?_ (by assumption)))
    clear hg' he hn ha
    go_wp2
    go_loopw [15] (fun i wr => ∃ k : Nat, k ≤ l.length ∧ i = .int .i64 k ∧ (l.take k).all (expOk n) = true ∧ wr.cell? ⟨w.heap.size, 0, none⟩ = some (.int .i64 e) ∧ wr.cell? ⟨w.heap.size, 1, none⟩ = some (.int .i64 0) ∧ wr.cell? ⟨w.heap.size, 2, none⟩ = some (.int .i64 a) ∧ Gr w wr) (fun i _ => l.length - (intOf i).toNat)
    case atStart => exact ⟨0, Nat.zero_le _, rfl, by simp, he1, hn1, ha1, hg0⟩
    case round =>
      clear he1 hn1 ha1 hg0
      obtain ⟨k, hk, rfl, hall, he, hn, ha, hg⟩ := hrel
      have HA := hide hall
      clear hall
      by_cases hlt : k < l.length
      · obtain ⟨x, hx⟩ := getElem?_lt hlt
        obtain ⟨b, off, vs, hao, hc0, hc1, hRs⟩ := HC.out k x hx
        subst hao
        have hc0' := hg.cell hc0 (by simp)
        have hc1' := hg.cell hc1 (by simp)
        have HRS := hide hRs
        obtain ⟨s, rfl, hsl, hsm⟩ := hRs
        have HX := hide hx
        clear hx hc0 hc1 hsl hsm
        have hi1 : (wr.alloc (.cells #[.string s, .int .i64 x.func] 81)).cell? ⟨wr.heap.size, 1, none⟩ = some (.int .i64 x.func) := by simp [go_sem]
        have hea := (World.grownBy_alloc wr (.cells #[.string s, .int .i64 x.func] 81) none).cell he (by simp)
        have hna := (World.grownBy_alloc wr (.cells #[.string s, .int .i64 x.func] 81) none).cell hn (by simp)
        have haa := (World.grownBy_alloc wr (.cells #[.string s, .int .i64 x.func] 81) none).cell ha (by simp)
        cases hsg : nameOk x.name
        · have HF : Hid (l.all (expOk n) = false) := hide (all_false_at HX.out (by simp [expOk, hsg]))
          have HS := hide hsg
          clear hsg
          go_wp2_with (go_at_call 141; refine (no_of (name_list x.name _ e a _ HRS.out) HS.out).mono ?_; rintro e w1 ⟨rfl, hg1⟩)
          exact ⟨rfl, by rw [HF.out]; rfl, (by repeat (first | exact Gr.refl _ | assumption | refine Gr.drew ?_ | refine Gr.alloc ?_ _ | refine Gr.trans ?_ (by assumption)))⟩
        · have HS := hide hsg
          go_wp2_with (first | (go_at_call 141; refine (yes_of (name_list x.name _ e a _ HRS.out) HS.out).mono ?_; rintro e w1 ⟨rfl, hg1⟩; have he1 := hg1.cell hea (by simp); have hn1 := hg1.cell hna (by simp); have ha1 := hg1.cell haa (by simp); have hi11 := hg1.cell hi1 (by simp)))
          have hgr : Gr w w1 := (by repeat (first | exact Gr.refl _ | assumption | refine Gr.drew ?_ | refine Gr.alloc ?_ _ | refine Gr.trans ?_ (by assumption)))
          clear hi1 hea hna haa he hn ha hg1
          cases hkl : wB x.func 0 (n - 1)
          · have HF : Hid (l.all (expOk n) = false) := hide (all_false_at HX.out (by simp [expOk, hkl]))
            go_region_with (first | (go_at_call 131; refine (within_any _ _ _ _).mono ?_; rintro e w' ⟨rfl, rfl⟩) | (go_at_call 76; refine (unless_no _ _ _).mono ?_; rintro e w' ⟨rfl, hg'⟩; refine left_region ?_))
            all_goals exact ⟨rfl, by rw [HF.out]; rfl, (by repeat (first | exact Gr.refl _ | assumption | refine Gr.drew ?_ | refine Gr.alloc ?_ _ | refine Gr.trans ?_ (by assumption)))⟩
          · have HT : Hid ((l.take (k + 1)).all (expOk n) = true) := hide (by rw [all_take_succ HX.out, HA.out]; simp [expOk, hsg, hkl])
            go_region_held3 (fun w' => w'.cell? ⟨w.heap.size, 0, none⟩ = some (.int .i64 e) ∧ w'.cell? ⟨w.heap.size, 1, none⟩ = some (.int .i64 0) ∧ w'.cell? ⟨w.heap.size, 2, none⟩ = some (.int .i64 a) ∧ w'.cell? ⟨wr.heap.size, 1, none⟩ = some (.int .i64 x.func)) (first | go_keep | (refine ⟨?_, ?_, ?_, ?_⟩ <;> exact hg'.cell (by assumption) (by simp))) (first | (go_at_call 131; refine (within_any _ _ _ _).mono ?_; rintro e w' ⟨rfl, rfl⟩) | (go_at_call 76; refine (unless_yes _ _ _).mono ?_; rintro e w' ⟨rfl, hg'⟩))
            go_wp2
            go_roundw
            case rel => exact ⟨k + 1, by omega, by go_num, HT.out, hg'.cell he1 (by simp), hg'.cell hn1 (by simp), hg'.cell ha1 (by simp), (by repeat (first | exact Gr.refl _ | assumption | refine Gr.drew ?_ | refine Gr.alloc ?_ _ | refine Gr.trans ?_ (by assumption)))⟩
            case measure => simp [intOf]; omega
      · go_wp2
        go_end0
        exact ⟨by rw [all_end HA.out hlt]; rfl, hg⟩
end Go.Proofs.YtkgncijcnlfhiaaDoor

