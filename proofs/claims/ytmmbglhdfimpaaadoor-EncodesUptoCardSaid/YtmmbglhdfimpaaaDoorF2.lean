import Derived.Test.YtmmbglhdfimpaaaDoorF1
import Derived.Test.YtmmbglhdfimpaaaDoorW4c
namespace Go.Proofs.YtmmbglhdfimpaaaDoor
set_option linter.unusedVariables false
set_option linter.unusedSimpArgs false
open Go.RowKit
attribute [local go_sem ↓] Go.wp_at_zero Go.wp_at_succ
/-- the document's table of operands lies where it was laid -/
def Tab (w : World) : Prop := ∀ j : Nat, j < 21 → w.cell? ⟨0, j, none⟩ = some (.int .i64 (operandsN j))
theorem Tab.gr {w w' : World} (h : Tab w) (g : Gr w w') : Tab w' := fun j hj => g.cell (h j hj) (by simp)
theorem opN_cases (op : Int) : operandsN op = 0 ∨ operandsN op = 1 ∨ operandsN op = 2 := by
  unfold operandsN; split
  · exact .inr (.inr rfl)
  · split
    · exact .inr (.inl rfl)
    · exact .inl rfl

set_option maxRecDepth 100000 in
set_option maxHeartbeats 1000000 in
theorem kinds_ref (v : Value) (l : List Int) (n most : Int) (w : World) (hR : RInts w v l) :
    Calls Tryd.prog 69 #[v, .int .i64 n, .int .i64 most] w fun x w' => x = .returned (.bool (l.all (inB n) && decide ((l.length : Int) ≤ most))) ∧ w' = w := by
  have HR := hide hR
  obtain ⟨a1, c1, rfl, hm, _⟩ := hR
  unfold maxLen at hm
  go_enter Tryd.func69, Tryd.ntmps69
  go_wp2_with fail
  go_loopw [7] (fun i wr => ∃ k : Nat, i = .int .i64 k ∧ k ≤ l.length ∧ (l.take k).all (inB n) = true ∧ wr = w) (fun i _ => l.length - (intOf i).toNat)
  case atStart => exact ⟨0, rfl, Nat.zero_le _, by simp, rfl⟩
  case round =>
    obtain ⟨k, rfl, hk, hall, rfl⟩ := hrel
    have HA := hide hall
    clear hall
    by_cases hlt : k < l.length
    · obtain ⟨a1', c1', h1e, _, hc1⟩ := HR.out
      simp only [Value.slice.injEq, true_and] at h1e
      obtain ⟨b1, o1, rfl, hx1⟩ := hc1 k hlt
      obtain ⟨rfl, rfl⟩ := h1e
      have hxk : l[k]? = some (l.getD k 0) := by simp [List.getD_eq_getElem?_getD, hlt]
      generalize l.getD k 0 = x at hx1 hxk
      have HXk := hide hxk
      clear hc1 hxk
      by_cases h0 : x < 0
      · have HF : Hid (l.all (inB n) = false) := hide (all_false_at HXk.out (by simp [inB, wB]; omega))
        go_wp2_with fail
        go_ret
        exact ⟨by rw [HF.out]; rfl, rfl⟩
      · by_cases h1 : n < x
        · have HF : Hid (l.all (inB n) = false) := hide (all_false_at HXk.out (by simp [inB, wB]; omega))
          go_wp2_with fail
          go_ret
          exact ⟨by rw [HF.out]; rfl, rfl⟩
        · have HT : Hid ((l.take (k + 1)).all (inB n) = true) := hide (by rw [all_take_succ HXk.out, HA.out]; simp [inB, wB]; omega)
          go_wp2_with fail
          exact ⟨⟨k + 1, by simp, hlt, HT.out, trivial⟩, by simp [intOf]; omega⟩
    · have hkk : k = l.length := by omega
      subst hkk
      have HE : Hid (l.all (inB n) = true) := hide (by have h := HA.out; rwa [List.take_length] at h)
      go_wp2_with fail
      go_ret
      exact ⟨by rw [HE.out]; rfl, rfl⟩

set_option maxRecDepth 100000 in
set_option maxHeartbeats 2000000 in
theorem ins_ref (i : PIns) (w : World) (hT : Tab w) :
    Calls Tryd.prog 120 #[.agg #[.int .i64 i.op, .int .i64 i.a, .int .i64 i.b]] w fun x w' => x = .returned (.bool (insOk i)) ∧ Gr w w' := by
  obtain ⟨op, a, b⟩ := i
  have hga := Gr.alloc (Gr.refl w) (.cells #[.int .i64 op, .int .i64 a, .int .i64 b] 91)
  have HG := hide hga
  by_cases hr : 0 ≤ op ∧ op ≤ 20
  · obtain ⟨j, rfl⟩ : ∃ j : Nat, op = (j : Int) := ⟨op.toNat, by omega⟩
    have hj : j < 21 := by omega
    have ht := hga.cell (hT j hj) (by simp)
    by_cases h1 : j = 1
    · subst h1
      clear ht hga
      go_enter Tryd.func120, Tryd.ntmps120
      go_wp2_with fail
      all_goals go_ret
      all_goals refine ⟨?_, (Gr.refl w).alloc _⟩
      all_goals show Ending.returned (Value.bool _) = Ending.returned (Value.bool _)
      all_goals refine congrArg (fun t => Ending.returned (Value.bool t)) ?_
      all_goals rw [Bool.eq_iff_iff]
      all_goals simp [insOk, wB, operandOk, operandsN]
      all_goals omega
    · have hj1 : ¬ (j : Int) = 1 := by omega
      have hjb : ((j : Int) == 1) = false := by simpa using hj1
      have HOK : Hid (∀ a b, insOk ⟨j, a, b⟩ = (operandOk a (decide (1 ≤ operandsN j)) && operandOk b (decide (2 ≤ operandsN j)))) := hide (by
        intro a b; unfold insOk; simp only [if_neg hj1]; rw [show wB (j : Int) 0 20 = true by simp [wB]; omega]; simp)
      have HN := hide (opN_cases (j : Int))
      clear hga
      generalize operandsN (j : Int) = n at ht HOK HN
      have hj0 : (0 : Int) ≤ (j : Int) := by omega
      have hj2 : (j : Int) < 21 := by omega
      by_cases hb0 : b = 0
      · subst hb0
        rcases HN.out with rfl | rfl | rfl
        · clear HN hr hj1
          go_enter Tryd.func120, Tryd.ntmps120
          go_wp2_with fail
          all_goals go_ret
          all_goals refine ⟨?_, (Gr.refl w).alloc _⟩
          all_goals show Ending.returned (Value.bool _) = Ending.returned (Value.bool _)
          all_goals refine congrArg (fun t => Ending.returned (Value.bool t)) ?_
          all_goals rw [HOK.out, Bool.eq_iff_iff]
          all_goals simp [wB, operandOk]
          all_goals omega
        · clear HN hr hj1
          go_enter Tryd.func120, Tryd.ntmps120
          go_wp2_with fail
          all_goals go_ret
          all_goals refine ⟨?_, (Gr.refl w).alloc _⟩
          all_goals show Ending.returned (Value.bool _) = Ending.returned (Value.bool _)
          all_goals refine congrArg (fun t => Ending.returned (Value.bool t)) ?_
          all_goals rw [HOK.out, Bool.eq_iff_iff]
          all_goals simp [wB, operandOk]
          all_goals omega
        · clear HN hr hj1
          go_enter Tryd.func120, Tryd.ntmps120
          go_wp2_with fail
          all_goals go_ret
          all_goals refine ⟨?_, (Gr.refl w).alloc _⟩
          all_goals show Ending.returned (Value.bool _) = Ending.returned (Value.bool _)
          all_goals refine congrArg (fun t => Ending.returned (Value.bool t)) ?_
          all_goals rw [HOK.out, Bool.eq_iff_iff]
          all_goals simp [wB, operandOk]
          all_goals omega
      · have hbn : (b != 0) = true := by simpa using hb0
        rcases HN.out with rfl | rfl | rfl
        · clear HN hr hj1
          go_enter Tryd.func120, Tryd.ntmps120
          go_wp2_with fail
          all_goals go_ret
          all_goals refine ⟨?_, (Gr.refl w).alloc _⟩
          all_goals show Ending.returned (Value.bool _) = Ending.returned (Value.bool _)
          all_goals refine congrArg (fun t => Ending.returned (Value.bool t)) ?_
          all_goals rw [HOK.out, Bool.eq_iff_iff]
          all_goals simp [wB, operandOk]
          all_goals omega
        · clear HN hr hj1
          go_enter Tryd.func120, Tryd.ntmps120
          go_wp2_with fail
          all_goals go_ret
          all_goals refine ⟨?_, (Gr.refl w).alloc _⟩
          all_goals show Ending.returned (Value.bool _) = Ending.returned (Value.bool _)
          all_goals refine congrArg (fun t => Ending.returned (Value.bool t)) ?_
          all_goals rw [HOK.out, Bool.eq_iff_iff]
          all_goals simp [wB, operandOk]
          all_goals omega
        · clear HN hr hj1
          go_enter Tryd.func120, Tryd.ntmps120
          go_wp2_with fail
          all_goals go_ret
          all_goals refine ⟨?_, (Gr.refl w).alloc _⟩
          all_goals show Ending.returned (Value.bool _) = Ending.returned (Value.bool _)
          all_goals refine congrArg (fun t => Ending.returned (Value.bool t)) ?_
          all_goals rw [HOK.out, Bool.eq_iff_iff]
          all_goals simp [wB, operandOk]
          all_goals omega
  · have HF : Hid (insOk ⟨op, a, b⟩ = false) := hide (by unfold insOk; rw [show wB op 0 20 = false by simp [wB]; omega]; rfl)
    clear hga
    by_cases h0 : op < 0
    · go_enter Tryd.func120, Tryd.ntmps120
      go_wp2_with fail
      go_ret
      exact ⟨by rw [HF.out]; rfl, HG.out⟩
    · have h20 : 20 < op := by omega
      go_enter Tryd.func120, Tryd.ntmps120
      go_wp2_with fail
      go_ret
      exact ⟨by rw [HF.out]; rfl, HG.out⟩
end Go.Proofs.YtmmbglhdfimpaaaDoor
