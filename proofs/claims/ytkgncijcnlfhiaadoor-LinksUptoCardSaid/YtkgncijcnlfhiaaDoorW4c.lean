import Derived.Test.YtkgncijcnlfhiaaDoorR0
namespace Go.Proofs.YtkgncijcnlfhiaaDoor
set_option linter.unusedVariables false
set_option linter.unusedSimpArgs false
open Go.RowKit
attribute [local go_sem ↓] Go.wp_at_zero Go.wp_at_succ

set_option maxHeartbeats 2000000 in
theorem code_any (l : List PIns) (v : Value) (e a : Int) (w : World) (hR : RCode w v l) :
    Calls Tryd.prog 138 #[v, .agg #[.int .i64 e, .int .i64 0, .int .i64 a]] w fun x w' =>
      x = ends (codeOk l) e a ∧ Gr w w' := by
  obtain ⟨ao, cap, rfl, hm, hc⟩ := hR
  unfold maxLen at hm
  have HC := hide hc
  clear hc
  obtain ⟨he, hn, ha⟩ := cells_box w e a
  unfold codeOk
  cases hb : wB l.length 1 200
  · go_enter Tryd.func138, Tryd.ntmps138
    go_wp2
    go_region_with (first | (go_at_call 131; refine (within_any _ _ _ _).mono ?_; rintro e w' ⟨rfl, rfl⟩) | (go_at_call 76; refine (unless_no _ _ _).mono ?_; rintro e w' ⟨rfl, hg'⟩; refine left_region ?_))
    all_goals exact ⟨rfl, rfl, (by repeat (first | exact Gr.refl _ | assumption | refine Gr.drew ?_ | refine Gr.alloc ?_ _ | refine Gr.trans ?_ (by assumption)))⟩
  · go_enter Tryd.func138, Tryd.ntmps138
    go_wp2
    go_region_held3 (fun w' => w'.cell? ⟨w.heap.size, 0, none⟩ = some (.int .i64 e) ∧ w'.cell? ⟨w.heap.size, 1, none⟩ = some (.int .i64 0) ∧ w'.cell? ⟨w.heap.size, 2, none⟩ = some (.int .i64 a)) (first | go_keep | exact ⟨hg'.cell (by assumption) (by simp), hg'.cell (by assumption) (by simp), hg'.cell (by assumption) (by simp)⟩) (first | (go_at_call 131; refine (within_any _ _ _ _).mono ?_; rintro e w' ⟨rfl, rfl⟩) | (go_at_call 76; refine (unless_yes _ _ _).mono ?_; rintro e w' ⟨rfl, hg'⟩))
    have he1 := hg'.cell he (by simp)
    have hn1 := hg'.cell hn (by simp)
    have ha1 := hg'.cell ha (by simp)
    have hg0 : Gr w w' := (by repeat (first | exact Gr.refl _ | assumption | refine Gr.drew ?_ | refine Gr.alloc ?_ _ | refine Gr.trans ?_ (by assumption)))
    clear hg' he hn ha
    go_wp2
    go_loopw [13] (fun i wr => ∃ k : Nat, k ≤ l.length ∧ i = .int .i64 k ∧ (l.take k).all insOk = true ∧ wr.cell? ⟨w.heap.size, 0, none⟩ = some (.int .i64 e) ∧ wr.cell? ⟨w.heap.size, 1, none⟩ = some (.int .i64 0) ∧ wr.cell? ⟨w.heap.size, 2, none⟩ = some (.int .i64 a) ∧ Gr w wr) (fun i _ => l.length - (intOf i).toNat)
    case atStart => exact ⟨0, Nat.zero_le _, rfl, by simp, he1, hn1, ha1, hg0⟩
    case round =>
      clear he1 hn1 ha1 hg0
      obtain ⟨k, hk, rfl, hall, he, hn, ha, hg⟩ := hrel
      have HA := hide hall
      clear hall
      by_cases hlt : k < l.length
      · obtain ⟨x, hx⟩ := getElem?_lt hlt
        obtain ⟨b, off, hao, hc0, hc1, hc2⟩ := HC.out k x hx
        subst hao
        have hc0' := hg.cell hc0 (by simp)
        have hc1' := hg.cell hc1 (by simp)
        have hc2' := hg.cell hc2 (by simp)
        have HX := hide hx
        clear hx hc0 hc1 hc2
        have hi0 : (wr.alloc (.cells #[.int .i64 x.op, .int .i64 x.a, .int .i64 x.b] 91)).cell? ⟨wr.heap.size, 0, none⟩ = some (.int .i64 x.op) := by simp [go_sem]
        have hi1 : (wr.alloc (.cells #[.int .i64 x.op, .int .i64 x.a, .int .i64 x.b] 91)).cell? ⟨wr.heap.size, 1, none⟩ = some (.int .i64 x.a) := by simp [go_sem]
        have hi2 : (wr.alloc (.cells #[.int .i64 x.op, .int .i64 x.a, .int .i64 x.b] 91)).cell? ⟨wr.heap.size, 2, none⟩ = some (.int .i64 x.b) := by simp [go_sem]
        have hga : Gr w (wr.alloc (.cells #[.int .i64 x.op, .int .i64 x.a, .int .i64 x.b] 91)) := hg.alloc _
        have hea := (World.grownBy_alloc wr (.cells #[.int .i64 x.op, .int .i64 x.a, .int .i64 x.b] 91) none).cell he (by simp)
        have hna := (World.grownBy_alloc wr (.cells #[.int .i64 x.op, .int .i64 x.a, .int .i64 x.b] 91) none).cell hn (by simp)
        have haa := (World.grownBy_alloc wr (.cells #[.int .i64 x.op, .int .i64 x.a, .int .i64 x.b] 91) none).cell ha (by simp)
        cases hop : wB x.op 0 20
        · have HF : Hid (l.all insOk = false) := hide (all_false_at HX.out (by simp [insOk, hop]))
          go_wp2
          go_region_with (first | (go_at_call 156; refine (op_any _ _).mono ?_; rintro e w' ⟨rfl, rfl⟩) | (go_at_call 76; refine (unless_no _ _ _).mono ?_; rintro e w' ⟨rfl, hg'⟩; refine left_region ?_))
          all_goals exact ⟨rfl, by rw [HF.out]; rfl, (by repeat (first | exact Gr.refl _ | assumption | refine Gr.drew ?_ | refine Gr.alloc ?_ _ | refine Gr.trans ?_ (by assumption)))⟩
        · go_wp2
          go_region_held3 (fun w' => w'.cell? ⟨w.heap.size, 0, none⟩ = some (.int .i64 e) ∧ w'.cell? ⟨w.heap.size, 1, none⟩ = some (.int .i64 0) ∧ w'.cell? ⟨w.heap.size, 2, none⟩ = some (.int .i64 a) ∧ w'.cell? ⟨wr.heap.size, 0, none⟩ = some (.int .i64 x.op) ∧ w'.cell? ⟨wr.heap.size, 1, none⟩ = some (.int .i64 x.a) ∧ w'.cell? ⟨wr.heap.size, 2, none⟩ = some (.int .i64 x.b)) (first | go_keep | (refine ⟨?_, ?_, ?_, ?_, ?_, ?_⟩ <;> exact hg'.cell (by assumption) (by simp))) (first | (go_at_call 156; refine (op_any _ _).mono ?_; rintro e w' ⟨rfl, rfl⟩) | (go_at_call 76; refine (unless_yes _ _ _).mono ?_; rintro e w' ⟨rfl, hg'⟩))
          have he1 := hg'.cell hea (by simp)
          have hn1 := hg'.cell hna (by simp)
          have ha1 := hg'.cell haa (by simp)
          have hi01 := hg'.cell hi0 (by simp)
          have hi11 := hg'.cell hi1 (by simp)
          have hi21 := hg'.cell hi2 (by simp)
          have hg1 : Gr w w' := (by repeat (first | exact Gr.refl _ | assumption | refine Gr.drew ?_ | refine Gr.alloc ?_ _ | refine Gr.trans ?_ (by assumption)))
          clear hi0 hi1 hi2 hga hea hna haa hg' he hn ha
          cases hone : (x.op == 1)
          · have hne : ¬ x.op = 1 := by simpa using hone
            cases hab : operandOk x.a (decide (1 ≤ operandsN x.op))
            · have HF : Hid (l.all insOk = false) := hide (all_false_at HX.out (by simp only [insOk, hne, if_false, hab, Bool.and_false, Bool.false_and]))
              have HB := hide hab
              clear hab hne
              go_wp2
              go_region_with (first | (go_at_call 153; refine (operands_any _ _).mono ?_; rintro e w' ⟨rfl, rfl⟩) | (go_at_call 157; refine (no_of (operand_any _ _ _ _ _) HB.out).mono ?_; rintro e w' ⟨rfl, hg'⟩; refine left_region ?_))
              all_goals exact ⟨rfl, by rw [HF.out]; rfl, (by repeat (first | exact Gr.refl _ | assumption | refine Gr.drew ?_ | refine Gr.alloc ?_ _ | refine Gr.trans ?_ (by assumption)))⟩
            · cases hbb : operandOk x.b (decide (2 ≤ operandsN x.op))
              · have HF : Hid (l.all insOk = false) := hide (all_false_at HX.out (by simp only [insOk, hbb, Bool.and_false]))
                have HB := hide hab
                have HC2 := hide hbb
                clear hab hbb hne
                go_wp2
                go_region_held3 (fun w' => w'.cell? ⟨w.heap.size, 0, none⟩ = some (.int .i64 e) ∧ w'.cell? ⟨w.heap.size, 1, none⟩ = some (.int .i64 0) ∧ w'.cell? ⟨w.heap.size, 2, none⟩ = some (.int .i64 a) ∧ w'.cell? ⟨wr.heap.size, 0, none⟩ = some (.int .i64 x.op) ∧ w'.cell? ⟨wr.heap.size, 1, none⟩ = some (.int .i64 x.a) ∧ w'.cell? ⟨wr.heap.size, 2, none⟩ = some (.int .i64 x.b)) (first | go_keep | (refine ⟨?_, ?_, ?_, ?_, ?_, ?_⟩ <;> exact hg'.cell (by assumption) (by simp))) (first | (go_at_call 153; refine (operands_any _ _).mono ?_; rintro e w' ⟨rfl, rfl⟩) | (go_at_call 157; refine (yes_of (operand_any _ _ _ _ _) HB.out).mono ?_; rintro e w' ⟨rfl, hg'⟩))
                have he2 := hg'.cell he1 (by simp)
                have hn2 := hg'.cell hn1 (by simp)
                have ha2 := hg'.cell ha1 (by simp)
                have hi02 := hg'.cell hi01 (by simp)
                have hi12 := hg'.cell hi11 (by simp)
                have hi22 := hg'.cell hi21 (by simp)
                have hg2 : Gr w w' := (by repeat (first | exact Gr.refl _ | assumption | refine Gr.drew ?_ | refine Gr.alloc ?_ _ | refine Gr.trans ?_ (by assumption)))
                go_wp2
                go_region_with (first | (go_at_call 153; refine (operands_any _ _).mono ?_; rintro e w' ⟨rfl, rfl⟩) | (go_at_call 157; refine (no_of (operand_any _ _ _ _ _) HC2.out).mono ?_; rintro e w' ⟨rfl, hg'⟩; refine left_region ?_))
                all_goals exact ⟨rfl, by rw [HF.out]; rfl, (by repeat (first | exact Gr.refl _ | assumption | refine Gr.drew ?_ | refine Gr.alloc ?_ _ | refine Gr.trans ?_ (by assumption)))⟩
              · have HT : Hid ((l.take (k + 1)).all insOk = true) := hide (by rw [all_take_succ HX.out, HA.out]; simp only [insOk, hop, hne, if_false, hab, hbb, Bool.and_true])
                have HB := hide hab
                have HC2 := hide hbb
                clear hab hbb hne
                go_wp2
                go_region_held3 (fun w' => w'.cell? ⟨w.heap.size, 0, none⟩ = some (.int .i64 e) ∧ w'.cell? ⟨w.heap.size, 1, none⟩ = some (.int .i64 0) ∧ w'.cell? ⟨w.heap.size, 2, none⟩ = some (.int .i64 a) ∧ w'.cell? ⟨wr.heap.size, 0, none⟩ = some (.int .i64 x.op) ∧ w'.cell? ⟨wr.heap.size, 1, none⟩ = some (.int .i64 x.a) ∧ w'.cell? ⟨wr.heap.size, 2, none⟩ = some (.int .i64 x.b)) (first | go_keep | (refine ⟨?_, ?_, ?_, ?_, ?_, ?_⟩ <;> exact hg'.cell (by assumption) (by simp))) (first | (go_at_call 153; refine (operands_any _ _).mono ?_; rintro e w' ⟨rfl, rfl⟩) | (go_at_call 157; refine (yes_of (operand_any _ _ _ _ _) HB.out).mono ?_; rintro e w' ⟨rfl, hg'⟩))
                have he2 := hg'.cell he1 (by simp)
                have hn2 := hg'.cell hn1 (by simp)
                have ha2 := hg'.cell ha1 (by simp)
                have hi02 := hg'.cell hi01 (by simp)
                have hi12 := hg'.cell hi11 (by simp)
                have hi22 := hg'.cell hi21 (by simp)
                have hg2 : Gr w w' := (by repeat (first | exact Gr.refl _ | assumption | refine Gr.drew ?_ | refine Gr.alloc ?_ _ | refine Gr.trans ?_ (by assumption)))
                go_wp2
                go_region_held3 (fun w' => w'.cell? ⟨w.heap.size, 0, none⟩ = some (.int .i64 e) ∧ w'.cell? ⟨w.heap.size, 1, none⟩ = some (.int .i64 0) ∧ w'.cell? ⟨w.heap.size, 2, none⟩ = some (.int .i64 a) ∧ w'.cell? ⟨wr.heap.size, 0, none⟩ = some (.int .i64 x.op) ∧ w'.cell? ⟨wr.heap.size, 1, none⟩ = some (.int .i64 x.a) ∧ w'.cell? ⟨wr.heap.size, 2, none⟩ = some (.int .i64 x.b)) (first | go_keep | (refine ⟨?_, ?_, ?_, ?_, ?_, ?_⟩ <;> exact hg'.cell (by assumption) (by simp))) (first | (go_at_call 153; refine (operands_any _ _).mono ?_; rintro e w' ⟨rfl, rfl⟩) | (go_at_call 157; refine (yes_of (operand_any _ _ _ _ _) HC2.out).mono ?_; rintro e w' ⟨rfl, hg'⟩))
                go_wp2
                go_roundw
                case rel => exact ⟨k + 1, by omega, by go_num, HT.out, hg'.cell he2 (by simp), hg'.cell hn2 (by simp), hg'.cell ha2 (by simp), (by repeat (first | exact Gr.refl _ | assumption | refine Gr.drew ?_ | refine Gr.alloc ?_ _ | refine Gr.trans ?_ (by assumption)))⟩
                case measure => simp [intOf]; omega
          · cases hsm : wB x.a (-2147483648) 2147483647
            · have HF : Hid (l.all insOk = false) := hide (all_false_at HX.out (by simp [insOk, (beq_iff_eq.1 hone), hsm]))
              go_wp2
              go_region_with (first | (go_at_call 131; refine (within_any _ _ _ _).mono ?_; rintro e w' ⟨rfl, rfl⟩) | (go_at_call 76; refine (unless_no _ _ _).mono ?_; rintro e w' ⟨rfl, hg'⟩; refine left_region ?_))
              all_goals exact ⟨rfl, by rw [HF.out]; rfl, (by repeat (first | exact Gr.refl _ | assumption | refine Gr.drew ?_ | refine Gr.alloc ?_ _ | refine Gr.trans ?_ (by assumption)))⟩
            · cases hbb : operandOk x.b (decide (2 ≤ operandsN x.op))
              · have HF : Hid (l.all insOk = false) := hide (all_false_at HX.out (by simp only [insOk, hbb, Bool.and_false]))
                have HC2 := hide hbb
                clear hbb
                go_wp2
                go_region_held3 (fun w' => w'.cell? ⟨w.heap.size, 0, none⟩ = some (.int .i64 e) ∧ w'.cell? ⟨w.heap.size, 1, none⟩ = some (.int .i64 0) ∧ w'.cell? ⟨w.heap.size, 2, none⟩ = some (.int .i64 a) ∧ w'.cell? ⟨wr.heap.size, 0, none⟩ = some (.int .i64 x.op) ∧ w'.cell? ⟨wr.heap.size, 1, none⟩ = some (.int .i64 x.a) ∧ w'.cell? ⟨wr.heap.size, 2, none⟩ = some (.int .i64 x.b)) (first | go_keep | (refine ⟨?_, ?_, ?_, ?_, ?_, ?_⟩ <;> exact hg'.cell (by assumption) (by simp))) (first | (go_at_call 131; refine (within_any _ _ _ _).mono ?_; rintro e w' ⟨rfl, rfl⟩) | (go_at_call 76; refine (unless_yes _ _ _).mono ?_; rintro e w' ⟨rfl, hg'⟩))
                have he2 := hg'.cell he1 (by simp)
                have hn2 := hg'.cell hn1 (by simp)
                have ha2 := hg'.cell ha1 (by simp)
                have hi02 := hg'.cell hi01 (by simp)
                have hi12 := hg'.cell hi11 (by simp)
                have hi22 := hg'.cell hi21 (by simp)
                have hg2 : Gr w w' := (by repeat (first | exact Gr.refl _ | assumption | refine Gr.drew ?_ | refine Gr.alloc ?_ _ | refine Gr.trans ?_ (by assumption)))
                go_wp2
                go_region_with (first | (go_at_call 153; refine (operands_any _ _).mono ?_; rintro e w' ⟨rfl, rfl⟩) | (go_at_call 157; refine (no_of (operand_any _ _ _ _ _) HC2.out).mono ?_; rintro e w' ⟨rfl, hg'⟩; refine left_region ?_))
                all_goals exact ⟨rfl, by rw [HF.out]; rfl, (by repeat (first | exact Gr.refl _ | assumption | refine Gr.drew ?_ | refine Gr.alloc ?_ _ | refine Gr.trans ?_ (by assumption)))⟩
              · have HT : Hid ((l.take (k + 1)).all insOk = true) := hide (by rw [all_take_succ HX.out, HA.out]; simp only [insOk, hop, beq_iff_eq.1 hone, if_true, hsm, Bool.and_true, Bool.true_and]; rw [beq_iff_eq.1 hone] at hbb; exact hbb)
                have HC2 := hide hbb
                clear hbb
                go_wp2
                go_region_held3 (fun w' => w'.cell? ⟨w.heap.size, 0, none⟩ = some (.int .i64 e) ∧ w'.cell? ⟨w.heap.size, 1, none⟩ = some (.int .i64 0) ∧ w'.cell? ⟨w.heap.size, 2, none⟩ = some (.int .i64 a) ∧ w'.cell? ⟨wr.heap.size, 0, none⟩ = some (.int .i64 x.op) ∧ w'.cell? ⟨wr.heap.size, 1, none⟩ = some (.int .i64 x.a) ∧ w'.cell? ⟨wr.heap.size, 2, none⟩ = some (.int .i64 x.b)) (first | go_keep | (refine ⟨?_, ?_, ?_, ?_, ?_, ?_⟩ <;> exact hg'.cell (by assumption) (by simp))) (first | (go_at_call 131; refine (within_any _ _ _ _).mono ?_; rintro e w' ⟨rfl, rfl⟩) | (go_at_call 76; refine (unless_yes _ _ _).mono ?_; rintro e w' ⟨rfl, hg'⟩))
                have he2 := hg'.cell he1 (by simp)
                have hn2 := hg'.cell hn1 (by simp)
                have ha2 := hg'.cell ha1 (by simp)
                have hi02 := hg'.cell hi01 (by simp)
                have hi12 := hg'.cell hi11 (by simp)
                have hi22 := hg'.cell hi21 (by simp)
                have hg2 : Gr w w' := (by repeat (first | exact Gr.refl _ | assumption | refine Gr.drew ?_ | refine Gr.alloc ?_ _ | refine Gr.trans ?_ (by assumption)))
                go_wp2
                go_region_held3 (fun w' => w'.cell? ⟨w.heap.size, 0, none⟩ = some (.int .i64 e) ∧ w'.cell? ⟨w.heap.size, 1, none⟩ = some (.int .i64 0) ∧ w'.cell? ⟨w.heap.size, 2, none⟩ = some (.int .i64 a) ∧ w'.cell? ⟨wr.heap.size, 0, none⟩ = some (.int .i64 x.op) ∧ w'.cell? ⟨wr.heap.size, 1, none⟩ = some (.int .i64 x.a) ∧ w'.cell? ⟨wr.heap.size, 2, none⟩ = some (.int .i64 x.b)) (first | go_keep | (refine ⟨?_, ?_, ?_, ?_, ?_, ?_⟩ <;> exact hg'.cell (by assumption) (by simp))) (first | (go_at_call 153; refine (operands_any _ _).mono ?_; rintro e w' ⟨rfl, rfl⟩) | (go_at_call 157; refine (yes_of (operand_any _ _ _ _ _) HC2.out).mono ?_; rintro e w' ⟨rfl, hg'⟩))
                go_wp2
                go_roundw
                case rel => exact ⟨k + 1, by omega, by go_num, HT.out, hg'.cell he2 (by simp), hg'.cell hn2 (by simp), hg'.cell ha2 (by simp), (by repeat (first | exact Gr.refl _ | assumption | refine Gr.drew ?_ | refine Gr.alloc ?_ _ | refine Gr.trans ?_ (by assumption)))⟩
                case measure => simp [intOf]; omega
      · go_wp2
        go_end0
        exact ⟨by rw [all_end HA.out hlt]; rfl, hg⟩
end Go.Proofs.YtkgncijcnlfhiaaDoor

