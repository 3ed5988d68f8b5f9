import Derived.Test.YtkgncijcnlfhiaaW1
namespace Go.Proofs.Ytkgncijcnlfhiaa
set_option linter.unusedVariables false
set_option linter.unusedSimpArgs false
open Go.RowKit
attribute [local go_sem ↓] Go.wp_at_zero Go.wp_at_succ

theorem op_any (v : Int) (w : World) :
    Calls Try.prog 79 #[.int .i64 v] w fun x w' => x = .returned (.bool (wB v 0 20)) ∧ w' = w := by
  go_enter Try.func79, Try.ntmps79
  go_wp2_with (go_at_call 64; refine (within_any _ _ _ _).mono ?_; rintro e w' ⟨rfl, rfl⟩)
  go_ret
  exact ⟨rfl, rfl⟩

set_option maxHeartbeats 2000000 in
theorem operands_any (v : Int) (w : World) :
    Calls Try.prog 76 #[.int .i64 v] w fun x w' => x = .returned (.int .i64 (operandsN v)) ∧ w' = w := by
  go_enter Try.func76, Try.ntmps76
  go_wp2
  all_goals go_ret
  all_goals (refine ⟨?_, rfl⟩; simp_all [operandsN])

theorem cells_box (w : World) (e a : Int) : (w.alloc (.cells #[.int .i64 e, .int .i64 0, .int .i64 a] 45)).cell? ⟨w.heap.size, 0, none⟩ = some (.int .i64 e) ∧ (w.alloc (.cells #[.int .i64 e, .int .i64 0, .int .i64 a] 45)).cell? ⟨w.heap.size, 1, none⟩ = some (.int .i64 0) ∧ (w.alloc (.cells #[.int .i64 e, .int .i64 0, .int .i64 a] 45)).cell? ⟨w.heap.size, 2, none⟩ = some (.int .i64 a) := by
  refine ⟨?_, ?_, ?_⟩ <;> simp [go_sem]

theorem name_any (s : ByteArray) (e a : Int) (w : World) (hs : s.size ≤ maxLen) :
    Calls Try.prog 74 #[.string s, .agg #[.int .i64 e, .int .i64 0, .int .i64 a]] w fun x w' =>
      x = ends (nameOk s.data.toList) e a ∧ Gr w w' := by
  unfold maxLen at hs
  have HN : nameOk s.data.toList = wB s.size 1 20 := by unfold nameOk; rw [Array.length_toList]; rfl
  rw [HN]
  cases hb : wB s.size 1 20
  · go_enter Try.func74, Try.ntmps74
    go_wp2
    go_region_with (first | (go_at_call 64; refine (within_any _ _ _ _).mono ?_; rintro e w' ⟨rfl, rfl⟩) | (go_at_call 36; refine (unless_no _ _ _).mono ?_; rintro e w' ⟨rfl, hg'⟩; refine left_region ?_))
    all_goals exact ⟨rfl, rfl, ((Gr.refl _).alloc _).drew.trans hg'⟩
  · go_enter Try.func74, Try.ntmps74
    go_wp2
    go_region_with (first | (go_at_call 64; refine (within_any _ _ _ _).mono ?_; rintro e w' ⟨rfl, rfl⟩) | (go_at_call 36; refine (unless_yes _ _ _).mono ?_; rintro e w' ⟨rfl, hg'⟩))
    all_goals go_wp2
    all_goals go_end0
    all_goals exact ⟨rfl, ((Gr.refl _).alloc _).drew.trans hg'⟩

theorem consts_any (v : Value) (l : List Int) (e a : Int) (w : World) (hv : ∃ ao cap, v = .slice ao l.length cap) (hs : l.length ≤ maxLen) :
    Calls Try.prog 43 #[v, .agg #[.int .i64 e, .int .i64 0, .int .i64 a]] w fun x w' =>
      x = ends (constsOk l) e a ∧ Gr w w' := by
  obtain ⟨ao, cap, rfl⟩ := hv
  unfold maxLen at hs
  have HN : constsOk l = wB l.length 0 50 := rfl
  rw [HN]
  cases hb : wB l.length 0 50
  · go_enter Try.func43, Try.ntmps43
    go_wp2
    go_region_with (first | (go_at_call 64; refine (within_any _ _ _ _).mono ?_; rintro e w' ⟨rfl, rfl⟩) | (go_at_call 36; refine (unless_no _ _ _).mono ?_; rintro e w' ⟨rfl, hg'⟩; refine left_region ?_))
    all_goals exact ⟨rfl, rfl, ((Gr.refl _).alloc _).drew.trans hg'⟩
  · go_enter Try.func43, Try.ntmps43
    go_wp2
    go_region_with (first | (go_at_call 64; refine (within_any _ _ _ _).mono ?_; rintro e w' ⟨rfl, rfl⟩) | (go_at_call 36; refine (unless_yes _ _ _).mono ?_; rintro e w' ⟨rfl, hg'⟩))
    all_goals go_wp2
    all_goals go_end0
    all_goals exact ⟨rfl, ((Gr.refl _).alloc _).drew.trans hg'⟩

theorem operand_any (v : Int) (n : Bool) (e a : Int) (w : World) :
    Calls Try.prog 80 #[.int .i64 v, .bool n, .agg #[.int .i64 e, .int .i64 0, .int .i64 a]] w fun x w' =>
      x = ends (operandOk v n) e a ∧ Gr w w' := by
  cases n
  · by_cases hz : v = 0
    · subst hz
      go_enter Try.func80, Try.ntmps80
      go_wp2_with (first | (go_at_call 36; refine (unless_yes _ _ _).mono ?_; rintro e w' ⟨rfl, hg'⟩))
      go_end0
      exact ⟨rfl, ((Gr.refl _).alloc _).trans hg'⟩
    · have hz' : (v == 0) = false := by simpa using hz
      have HF : Hid (operandOk v false = false) := hide (by simp [operandOk, hz])
      go_enter Try.func80, Try.ntmps80
      go_wp2_with (first | (go_at_call 36; refine (unless_no _ _ _).mono ?_; rintro e w' ⟨rfl, hg'⟩))
      exact ⟨rfl, by rw [HF.out]; rfl, ((Gr.refl _).alloc _).trans hg'⟩
  · cases hb : wB v 0 65535
    · go_enter Try.func80, Try.ntmps80
      go_wp2
      go_region_with (first | (go_at_call 64; refine (within_any _ _ _ _).mono ?_; rintro e w' ⟨rfl, rfl⟩) | (go_at_call 36; refine (unless_no _ _ _).mono ?_; rintro e w' ⟨rfl, hg'⟩; refine left_region ?_))
      all_goals exact ⟨rfl, by simp [operandOk, hb]; rfl, ((Gr.refl _).alloc _).drew.trans hg'⟩
    · go_enter Try.func80, Try.ntmps80
      go_wp2
      go_region_with (first | (go_at_call 64; refine (within_any _ _ _ _).mono ?_; rintro e w' ⟨rfl, rfl⟩) | (go_at_call 36; refine (unless_yes _ _ _).mono ?_; rintro e w' ⟨rfl, hg'⟩))
      all_goals go_wp2
      all_goals go_end0
      all_goals exact ⟨by simp [operandOk, hb]; rfl, ((Gr.refl _).alloc _).drew.trans hg'⟩
end Go.Proofs.Ytkgncijcnlfhiaa
