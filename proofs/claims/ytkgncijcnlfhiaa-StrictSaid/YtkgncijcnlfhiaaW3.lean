import Derived.Test.YtkgncijcnlfhiaaW2
namespace Go.Proofs.Ytkgncijcnlfhiaa
set_option linter.unusedVariables false
set_option linter.unusedSimpArgs false
open Go.RowKit
attribute [local go_sem ↓] Go.wp_at_zero Go.wp_at_succ

theorem yes_of {f : FuncId} {args : Array Value} {w : World} {b : Bool} {e a : Int} (h : Calls Try.prog f args w fun x w' => x = ends b e a ∧ Gr w w') (hb : b = true) :
    Calls Try.prog f args w fun x w' => x = .returned (.tuple #[]) ∧ Gr w w' := by subst hb; exact h
theorem no_of {f : FuncId} {args : Array Value} {w : World} {b : Bool} {e a : Int} (h : Calls Try.prog f args w fun x w' => x = ends b e a ∧ Gr w w') (hb : b = false) :
    Calls Try.prog f args w fun x w' => x = .panicked (thrown e a) ∧ Gr w w' := by subst hb; exact h
theorem RInts.shape {w : World} {v : Value} {l : List Int} (h : RInts w v l) : ∃ ao cap, v = .slice ao l.length cap := by
  obtain ⟨ao, cap, hv, _⟩ := h; exact ⟨ao, cap, hv⟩

set_option maxHeartbeats 1000000 in
theorem signature_any (l : List Int) (v : Value) (r n e a : Int) (w : World) (hR : RInts w v l) :
    Calls Try.prog 70 #[v, .int .i64 r, .int .i64 n, .agg #[.int .i64 e, .int .i64 0, .int .i64 a]] w fun x w' =>
      x = ends (sigOk l r n) e a ∧ Gr w w' := by
  have hm := hR.choose_spec.choose_spec.2.1
  obtain ⟨ao, cap, rfl⟩ := hR.shape
  unfold maxLen at hm
  have HR := hide hR
  clear hR
  obtain ⟨he, hn, ha⟩ := cells_box w e a
  unfold sigOk
  cases hb : wB l.length 0 6
  · go_enter Try.func70, Try.ntmps70
    go_wp2
    go_region_with (first | (go_at_call 64; refine (within_any _ _ _ _).mono ?_; rintro e w' ⟨rfl, rfl⟩) | (go_at_call 36; refine (unless_no _ _ _).mono ?_; rintro e w' ⟨rfl, hg'⟩; refine left_region ?_))
    all_goals exact ⟨rfl, rfl, (by repeat (first | exact Gr.refl _ | assumption | refine Gr.drew ?_ | refine Gr.alloc ?_ _ | refine Gr.trans ?_ (by assumption)))⟩
  · cases hk : l.all (inB n)
    · have HK := hide hk
      clear hk
      go_enter Try.func70, Try.ntmps70
      go_wp2
      go_region_held3 (fun w' => w'.cell? ⟨w.heap.size, 0, none⟩ = some (.int .i64 e) ∧ w'.cell? ⟨w.heap.size, 1, none⟩ = some (.int .i64 0) ∧ w'.cell? ⟨w.heap.size, 2, none⟩ = some (.int .i64 a)) (first | go_keep | exact ⟨hg'.cell (by assumption) (by simp), hg'.cell (by assumption) (by simp), hg'.cell (by assumption) (by simp)⟩) (first | (go_at_call 64; refine (within_any _ _ _ _).mono ?_; rintro e w' ⟨rfl, rfl⟩) | (go_at_call 36; refine (unless_yes _ _ _).mono ?_; rintro e w' ⟨rfl, hg'⟩))
      have he1 := hg'.cell he (by simp)
      have hn1 := hg'.cell hn (by simp)
      have ha1 := hg'.cell ha (by simp)
      go_wp2_with (first | (go_at_call 65; refine (no_of (kinds_any l _ n e a _ (by exact HR.out.gr (by repeat (first | exact Gr.refl _ | assumption | refine Gr.drew ?_ | refine Gr.alloc ?_ _ | refine Gr.trans ?_ (by assumption))))) HK.out).mono ?_; rintro e w2 ⟨rfl, hg2⟩))
      exact ⟨rfl, rfl, (by repeat (first | exact Gr.refl _ | assumption | refine Gr.drew ?_ | refine Gr.alloc ?_ _ | refine Gr.trans ?_ (by assumption)))⟩
    · have HK := hide hk
      clear hk
      cases hr : wB r 0 n
      · go_enter Try.func70, Try.ntmps70
        go_wp2
        go_region_held3 (fun w' => w'.cell? ⟨w.heap.size, 0, none⟩ = some (.int .i64 e) ∧ w'.cell? ⟨w.heap.size, 1, none⟩ = some (.int .i64 0) ∧ w'.cell? ⟨w.heap.size, 2, none⟩ = some (.int .i64 a)) (first | go_keep | exact ⟨hg'.cell (by assumption) (by simp), hg'.cell (by assumption) (by simp), hg'.cell (by assumption) (by simp)⟩) (first | (go_at_call 64; refine (within_any _ _ _ _).mono ?_; rintro e w' ⟨rfl, rfl⟩) | (go_at_call 36; refine (unless_yes _ _ _).mono ?_; rintro e w' ⟨rfl, hg'⟩))
        have he1 := hg'.cell he (by simp)
        have hn1 := hg'.cell hn (by simp)
        have ha1 := hg'.cell ha (by simp)
        go_wp2_with (first | (go_at_call 65; refine (yes_of (kinds_any l _ n e a _ (by exact HR.out.gr (by repeat (first | exact Gr.refl _ | assumption | refine Gr.drew ?_ | refine Gr.alloc ?_ _ | refine Gr.trans ?_ (by assumption))))) HK.out).mono ?_; rintro e w2 ⟨rfl, hg2⟩))
        have he2 := hg2.cell he1 (by simp)
        have hn2 := hg2.cell hn1 (by simp)
        have ha2 := hg2.cell ha1 (by simp)
        go_region_with (first | (go_at_call 64; refine (within_any _ _ _ _).mono ?_; rintro e w' ⟨rfl, rfl⟩) | (go_at_call 36; refine (unless_no _ _ _).mono ?_; rintro e w' ⟨rfl, hg'⟩; refine left_region ?_))
        all_goals exact ⟨rfl, by simp [inB, hr]; rfl, (by repeat (first | exact Gr.refl _ | assumption | refine Gr.drew ?_ | refine Gr.alloc ?_ _ | refine Gr.trans ?_ (by assumption)))⟩
      · go_enter Try.func70, Try.ntmps70
        go_wp2
        go_region_held3 (fun w' => w'.cell? ⟨w.heap.size, 0, none⟩ = some (.int .i64 e) ∧ w'.cell? ⟨w.heap.size, 1, none⟩ = some (.int .i64 0) ∧ w'.cell? ⟨w.heap.size, 2, none⟩ = some (.int .i64 a)) (first | go_keep | exact ⟨hg'.cell (by assumption) (by simp), hg'.cell (by assumption) (by simp), hg'.cell (by assumption) (by simp)⟩) (first | (go_at_call 64; refine (within_any _ _ _ _).mono ?_; rintro e w' ⟨rfl, rfl⟩) | (go_at_call 36; refine (unless_yes _ _ _).mono ?_; rintro e w' ⟨rfl, hg'⟩))
        have he1 := hg'.cell he (by simp)
        have hn1 := hg'.cell hn (by simp)
        have ha1 := hg'.cell ha (by simp)
        go_wp2_with (first | (go_at_call 65; refine (yes_of (kinds_any l _ n e a _ (by exact HR.out.gr (by repeat (first | exact Gr.refl _ | assumption | refine Gr.drew ?_ | refine Gr.alloc ?_ _ | refine Gr.trans ?_ (by assumption))))) HK.out).mono ?_; rintro e w2 ⟨rfl, hg2⟩))
        have he2 := hg2.cell he1 (by simp)
        have hn2 := hg2.cell hn1 (by simp)
        have ha2 := hg2.cell ha1 (by simp)
        go_region_with (first | (go_at_call 64; refine (within_any _ _ _ _).mono ?_; rintro e w' ⟨rfl, rfl⟩) | (go_at_call 36; refine (unless_yes _ _ _).mono ?_; rintro e w' ⟨rfl, hg'⟩))
        all_goals go_wp2
        all_goals go_end0
        all_goals exact ⟨by simp [inB, hr]; rfl, (by repeat (first | exact Gr.refl _ | assumption | refine Gr.drew ?_ | refine Gr.alloc ?_ _ | refine Gr.trans ?_ (by assumption)))⟩
end Go.Proofs.Ytkgncijcnlfhiaa
