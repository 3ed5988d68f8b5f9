import Derived.Test.YtkgncijcnlfhiaaDoorW4
import Derived.Test.YtkgncijcnlfhiaaDoorW4c
namespace Go.Proofs.YtkgncijcnlfhiaaDoor
set_option linter.unusedVariables false
set_option linter.unusedSimpArgs false
open Go.RowKit
attribute [local go_sem ↓] Go.wp_at_zero Go.wp_at_succ
/-- the document's table of operands lies where it was laid -/
def Tab (w : World) : Prop := ∀ j : Nat, j < 21 → w.cell? ⟨0, j, none⟩ = some (.int .i64 (operandsN j))
theorem Tab.gr {w w' : World} (h : Tab w) (g : Gr w w') : Tab w' := fun j hj => g.cell (h j hj) (by simp)
theorem opN_cases (op : Int) : operandsN op = 0 ∨ operandsN op = 1 ∨ operandsN op = 2 := by
  unfold operandsN; split
  · exact .inr (.inr rfl)
  · split
    · exact .inr (.inl rfl)
    · exact .inl rfl

set_option maxRecDepth 100000 in
set_option maxHeartbeats 1000000 in
theorem kinds_ref (v : Value) (l : List Int) (n most : Int) (w : World) (hR : RInts w v l) :
    Calls Tryd.prog 69 #[v, .int .i64 n, .int .i64 most] w fun x w' => x = .returned (.bool (l.all (inB n) && decide ((l.length : Int) ≤ most))) ∧ w' = w := by
  have HR := hide hR
  obtain ⟨a1, c1, rfl, hm, _⟩ := hR
  unfold maxLen at hm
  go_enter Tryd.func69, Tryd.ntmps69
  go_wp2_with fail
  go_loopw [7] (fun i wr => ∃ k : Nat, i = .int .i64 k ∧ k ≤ l.length ∧ (l.take k).all (inB n) = true ∧ wr = w) (fun i _ => l.length - (intOf i).toNat)
  case atStart => exact ⟨0, rfl, Nat.zero_le _, by simp, rfl⟩
  case round =>
    obtain ⟨k, rfl, hk, hall, rfl⟩ := hrel
    have HA := hide hall
    clear hall
    by_cases hlt : k < l.length
    · obtain ⟨a1', c1', h1e, _, hc1⟩ := HR.out
      simp only [Value.slice.injEq, true_and] at h1e
      obtain ⟨b1, o1, rfl, hx1⟩ := hc1 k hlt
      obtain ⟨rfl, rfl⟩ := h1e
      have hxk : l[k]? = some (l.getD k 0) := by simp [List.getD_eq_getElem?_getD, hlt]
      generalize l.getD k 0 = x at hx1 hxk
      have HXk := hide hxk
      clear hc1 hxk
      by_cases h0 : x < 0
      · have HF : Hid (l.all (inB n) = false) := hide (all_false_at HXk.out (by simp [inB, wB]; omega))
        go_wp2_with fail
        go_ret
        exact ⟨by rw [HF.out]; rfl, rfl⟩
      · by_cases h1 : n < x
        · have HF : Hid (l.all (inB n) = false) := hide (all_false_at HXk.out (by simp [inB, wB]; omega))
          go_wp2_with fail
          go_ret
          exact ⟨by rw [HF.out]; rfl, rfl⟩
        · have HT : Hid ((l.take (k + 1)).all (inB n) = true) := hide (by rw [all_take_succ HXk.out, HA.out]; simp [inB, wB]; omega)
          go_wp2_with fail
          exact ⟨⟨k + 1, by simp, hlt, HT.out, trivial⟩, by simp [intOf]; omega⟩
    · have hkk : k = l.length := by omega
      subst hkk
      have HE : Hid (l.all (inB n) = true) := hide (by have h := HA.out; rwa [List.take_length] at h)
      go_wp2_with fail
      go_ret
      exact ⟨by rw [HE.out]; rfl, rfl⟩

set_option maxRecDepth 100000 in
set_option maxHeartbeats 2000000 in
theorem ins_ref (i : PIns) (w : World) (hT : Tab w) :
    Calls Tryd.prog 120 #[.agg #[.int .i64 i.op, .int .i64 i.a, .int .i64 i.b]] w fun x w' => x = .returned (.bool (insOk i)) ∧ Gr w w' := by
  obtain ⟨op, a, b⟩ := i
  have hga := Gr.alloc (Gr.refl w) (.cells #[.int .i64 op, .int .i64 a, .int .i64 b] 91)
  have HG := hide hga
  by_cases hr : 0 ≤ op ∧ op ≤ 20
  · obtain ⟨j, rfl⟩ : ∃ j : Nat, op = (j : Int) := ⟨op.toNat, by omega⟩
    have hj : j < 21 := by omega
    have ht := hga.cell (hT j hj) (by simp)
    by_cases h1 : j = 1
    · subst h1
      clear ht hga
      go_enter Tryd.func120, Tryd.ntmps120
      go_wp2_with fail
      all_goals go_ret
      all_goals refine ⟨?_, (Gr.refl w).alloc _⟩
      all_goals show Ending.returned (Value.bool _) = Ending.returned (Value.bool _)
      all_goals refine congrArg (fun t => Ending.returned (Value.bool t)) ?_
      all_goals rw [Bool.eq_iff_iff]
      all_goals simp [insOk, wB, operandOk, operandsN]
      all_goals omega
    · have hj1 : ¬ (j : Int) = 1 := by omega
      have hjb : ((j : Int) == 1) = false := by simpa using hj1
      have HOK : Hid (∀ a b, insOk ⟨j, a, b⟩ = (operandOk a (decide (1 ≤ operandsN j)) && operandOk b (decide (2 ≤ operandsN j)))) := hide (by
        intro a b; unfold insOk; simp only [if_neg hj1]; rw [show wB (j : Int) 0 20 = true by simp [wB]; omega]; simp)
      have HN := hide (opN_cases (j : Int))
      clear hga
      generalize operandsN (j : Int) = n at ht HOK HN
      have hj0 : (0 : Int) ≤ (j : Int) := by omega
      have hj2 : (j : Int) < 21 := by omega
      by_cases hb0 : b = 0
      · subst hb0
        rcases HN.out with rfl | rfl | rfl
        · clear HN hr hj1
          go_enter Tryd.func120, Tryd.ntmps120
          go_wp2_with fail
          all_goals go_ret
          all_goals refine ⟨?_, (Gr.refl w).alloc _⟩
          all_goals show Ending.returned (Value.bool _) = Ending.returned (Value.bool _)
          all_goals refine congrArg (fun t => Ending.returned (Value.bool t)) ?_
          all_goals rw [HOK.out, Bool.eq_iff_iff]
          all_goals simp [wB, operandOk]
          all_goals omega
        · clear HN hr hj1
          go_enter Tryd.func120, Tryd.ntmps120
          go_wp2_with fail
          all_goals go_ret
          all_goals refine ⟨?_, (Gr.refl w).alloc _⟩
          all_goals show Ending.returned (Value.bool _) = Ending.returned (Value.bool _)
          all_goals refine congrArg (fun t => Ending.returned (Value.bool t)) ?_
          all_goals rw [HOK.out, Bool.eq_iff_iff]
          all_goals simp [wB, operandOk]
          all_goals omega
        · clear HN hr hj1
          go_enter Tryd.func120, Tryd.ntmps120
          go_wp2_with fail
          all_goals go_ret
          all_goals refine ⟨?_, (Gr.refl w).alloc _⟩
          all_goals show Ending.returned (Value.bool _) = Ending.returned (Value.bool _)
          all_goals refine congrArg (fun t => Ending.returned (Value.bool t)) ?_
          all_goals rw [HOK.out, Bool.eq_iff_iff]
          all_goals simp [wB, operandOk]
          all_goals omega
      · have hbn : (b != 0) = true := by simpa using hb0
        rcases HN.out with rfl | rfl | rfl
        · clear HN hr hj1
          go_enter Tryd.func120, Tryd.ntmps120
          go_wp2_with fail
          all_goals go_ret
          all_goals refine ⟨?_, (Gr.refl w).alloc _⟩
          all_goals show Ending.returned (Value.bool _) = Ending.returned (Value.bool _)
          all_goals refine congrArg (fun t => Ending.returned (Value.bool t)) ?_
          all_goals rw [HOK.out, Bool.eq_iff_iff]
          all_goals simp [wB, operandOk]
          all_goals omega
        · clear HN hr hj1
          go_enter Tryd.func120, Tryd.ntmps120
          go_wp2_with fail
          all_goals go_ret
          all_goals refine ⟨?_, (Gr.refl w).alloc _⟩
          all_goals show Ending.returned (Value.bool _) = Ending.returned (Value.bool _)
          all_goals refine congrArg (fun t => Ending.returned (Value.bool t)) ?_
          all_goals rw [HOK.out, Bool.eq_iff_iff]
          all_goals simp [wB, operandOk]
          all_goals omega
        · clear HN hr hj1
          go_enter Tryd.func120, Tryd.ntmps120
          go_wp2_with fail
          all_goals go_ret
          all_goals refine ⟨?_, (Gr.refl w).alloc _⟩
          all_goals show Ending.returned (Value.bool _) = Ending.returned (Value.bool _)
          all_goals refine congrArg (fun t => Ending.returned (Value.bool t)) ?_
          all_goals rw [HOK.out, Bool.eq_iff_iff]
          all_goals simp [wB, operandOk]
          all_goals omega
  · have HF : Hid (insOk ⟨op, a, b⟩ = false) := hide (by unfold insOk; rw [show wB op 0 20 = false by simp [wB]; omega]; rfl)
    clear hga
    by_cases h0 : op < 0
    · go_enter Tryd.func120, Tryd.ntmps120
      go_wp2_with fail
      go_ret
      exact ⟨by rw [HF.out]; rfl, HG.out⟩
    · have h20 : 20 < op := by omega
      go_enter Tryd.func120, Tryd.ntmps120
      go_wp2_with fail
      go_ret
      exact ⟨by rw [HF.out]; rfl, HG.out⟩
end Go.Proofs.YtkgncijcnlfhiaaDoor

namespace Go.Proofs.YtkgncijcnlfhiaaDoor
set_option linter.unusedVariables false
set_option linter.unusedSimpArgs false
open Go.RowKit
attribute [local go_sem ↓] Go.wp_at_zero Go.wp_at_succ
theorem Box4.gr {w w' : World} {b : Nat} {x0 x1 x2 x3 : Value} (h : Box4 w b x0 x1 x2 x3) (g : Gr w w') : Box4 w' b x0 x1 x2 x3 := h.gc (cb := b + 1) g.toGc (by omega)
set_option maxRecDepth 100000 in
theorem named_ref (s : ByteArray) (w : World) (hs : s.size ≤ maxLen) :
    Calls Tryd.prog 71 #[.string s] w fun x w' => x = .returned (.bool (nameOk s.data.toList)) ∧ w' = w := by
  have hl : s.data.toList.length = s.size := by rw [Array.length_toList]; rfl
  unfold maxLen at hs
  have HE : Hid (nameOk s.data.toList = decide (1 ≤ s.size ∧ s.size ≤ 20)) := hide (by unfold nameOk wB; rw [hl, Bool.eq_iff_iff]; simp; omega)
  clear hl
  by_cases h1 : 1 ≤ s.size
  · go_enter Tryd.func71, Tryd.ntmps71
    go_wp2_with fail
    go_ret
    refine ⟨?_, rfl⟩
    show Ending.returned (Value.bool _) = Ending.returned (Value.bool _)
    refine congrArg (fun t => Ending.returned (Value.bool t)) ?_
    rw [HE.out, Bool.eq_iff_iff]; simp; omega
  · go_enter Tryd.func71, Tryd.ntmps71
    go_wp2_with fail
    go_ret
    refine ⟨?_, rfl⟩
    show Ending.returned (Value.bool _) = Ending.returned (Value.bool _)
    refine congrArg (fun t => Ending.returned (Value.bool t)) ?_
    rw [HE.out, Bool.eq_iff_iff]; simp; omega

theorem len_dec (n : Nat) (m : Int) : wB (n : Int) 0 m = decide ((n : Int) ≤ m) := by unfold wB; rw [Bool.eq_iff_iff]; simp
theorem funcOk_eq (n : Int) (f : PFunc) : funcOk n f = ((f.params.all (inB n) && decide ((f.params.length : Int) ≤ 6)) && ((f.locals.all (inB n) && decide ((f.locals.length : Int) ≤ 10)) && (inB n f.result && (wB f.code.length 1 200 && f.code.all insOk)))) := by
  unfold funcOk sigOk codeOk
  rw [len_dec, len_dec]
  generalize f.params.all (inB n) = a
  generalize f.locals.all (inB n) = b
  generalize f.code.all insOk = c
  generalize decide ((f.params.length : Int) ≤ 6) = d
  generalize decide ((f.locals.length : Int) ≤ 10) = e
  generalize inB n f.result = r
  generalize wB f.code.length 1 200 = g
  cases a <;> cases b <;> cases c <;> cases d <;> cases e <;> cases r <;> cases g <;> rfl

set_option maxRecDepth 100000 in
set_option maxHeartbeats 2000000 in
theorem function_ref (f : PFunc) (vp vl vc : Value) (n : Int) (w : World) (hp : RInts w vp f.params) (hl : RInts w vl f.locals) (hc : RCode w vc f.code) (hT : Tab w) :
    Calls Tryd.prog 70 #[.agg #[vp, .int .i64 f.result, vl, vc], .int .i64 n] w fun x w' => x = .returned (.bool (funcOk n f)) ∧ Gr w w' := by
  obtain ⟨a1, c1, rfl⟩ := hp.shape
  obtain ⟨a2, c2, rfl⟩ := hl.shape
  obtain ⟨a3, c3, rfl⟩ := hc.shape
  have hm : f.code.length ≤ 9223372036854775807 := by obtain ⟨_, _, _, h, _⟩ := hc; unfold maxLen at h; omega
  have hga := Gr.alloc (Gr.refl w) (.cells #[.slice a1 f.params.length c1, .int .i64 f.result, .slice a2 f.locals.length c2, .slice a3 f.code.length c3] 76)
  have HB := hide (Box4.new w 76 (.slice a1 f.params.length c1) (.int .i64 f.result) (.slice a2 f.locals.length c2) (.slice a3 f.code.length c3))
  have HP := hide (kinds_ref _ f.params n 6 _ (hp.gr hga))
  have HL := hide (kinds_ref _ f.locals n 10 _ (hl.gr hga))
  have HC := hide hc
  have HTb := hide hT
  have HG := hide hga
  have HF := hide (funcOk_eq n f)
  clear hp hl hc hT hga
  generalize (f.params.all (inB n) && decide ((f.params.length : Int) ≤ 6)) = P at HP HF
  generalize (f.locals.all (inB n) && decide ((f.locals.length : Int) ≤ 10)) = L at HL HF
  go_enter Tryd.func70, Tryd.ntmps70
  go_wp2_with fail
  refine HP.out.mono ?_
  rintro x w1 ⟨rfl, e1⟩
  subst e1
  obtain ⟨b0, b1, b2, b3, _⟩ := HB.out
  go_wp2_with fail
  refine HL.out.mono ?_
  rintro x w1 ⟨rfl, e1⟩
  subst e1
  clear HP HL
  cases P
  · go_wp2_with fail
    go_ret
    exact ⟨by rw [HF.out]; rfl, (Gr.refl w).alloc _⟩
  cases L
  · go_wp2_with fail
    go_ret
    exact ⟨by rw [HF.out]; rfl, (Gr.refl w).alloc _⟩
  by_cases r0 : f.result < 0
  · have hr : inB n f.result = false := by simp [inB, wB]; omega
    go_wp2_with fail
    go_ret
    exact ⟨by rw [HF.out, hr]; rfl, (Gr.refl w).alloc _⟩
  by_cases r1 : n < f.result
  · have hr : inB n f.result = false := by simp [inB, wB]; omega
    go_wp2_with fail
    go_ret
    exact ⟨by rw [HF.out, hr]; rfl, (Gr.refl w).alloc _⟩
  have HR : Hid (inB n f.result = true) := hide (by simp [inB, wB]; omega)
  by_cases g0 : f.code.length < 1
  · have hr : wB f.code.length 1 200 = false := by simp [wB]; omega
    have g0' : f.code.length = 0 := by omega
    go_wp2_with fail
    go_ret
    exact ⟨by rw [HF.out, HR.out, hr]; rfl, (Gr.refl w).alloc _⟩
  by_cases g1 : 200 < f.code.length
  · have hr : wB f.code.length 1 200 = false := by simp [wB]; omega
    have g0' : ¬ f.code.length = 0 := by omega
    go_wp2_with fail
    go_ret
    exact ⟨by rw [HF.out, HR.out, hr]; rfl, (Gr.refl w).alloc _⟩
  have HOK : Hid (funcOk n f = f.code.all insOk) := hide (by rw [HF.out, HR.out, show wB f.code.length 1 200 = true by simp [wB]; omega]; rfl)
  have g0' : ¬ f.code.length = 0 := by omega
  clear HF HR
  go_wp2_with fail
  clear b0 b1 b2 b3
  generalize w.alloc (.cells #[.slice a1 f.params.length c1, .int .i64 f.result, .slice a2 f.locals.length c2, .slice a3 f.code.length c3] 76) = W at HB HG ⊢
  go_loopw [7] (fun i wr => ∃ k : Nat, i = .int .i64 k ∧ k ≤ f.code.length ∧ (f.code.take k).all insOk = true ∧ Gr W wr) (fun i _ => f.code.length - (intOf i).toNat)
  case atStart => exact ⟨0, rfl, Nat.zero_le _, by simp, Gr.refl _⟩
  case round =>
    obtain ⟨k, rfl, hk, hall, hg⟩ := hrel
    have HA := hide hall
    have HGr := hide hg
    obtain ⟨_, _, _, b3, _⟩ := HB.out.gr hg
    clear hall
    by_cases hlt : k < f.code.length
    · obtain ⟨a9, c9, h9e, _, hc9⟩ := HC.out
      simp only [Value.slice.injEq, true_and] at h9e
      have hxk : f.code[k]? = some f.code[k] := List.getElem?_eq_getElem hlt
      obtain ⟨b1', o1', rfl, hx1, hx2, hx3⟩ := hc9 k _ hxk
      obtain ⟨rfl, rfl⟩ := h9e
      have hgw := HG.out.trans hg
      have hx1' := hgw.cell hx1 (by simp)
      have hx2' := hgw.cell hx2 (by simp)
      have hx3' := hgw.cell hx3 (by simp)
      have HXk := hide hxk
      have HI := hide (ins_ref f.code[k] wr (HTb.out.gr hgw))
      generalize f.code[k] = c at hx1' hx2' hx3' HXk HI
      clear hc9 hx1 hx2 hx3 hgw hg hxk
      go_wp2_with fail
      refine HI.out.mono ?_
      rintro x w2 ⟨rfl, hg2⟩
      have HG2 := hide (HGr.out.trans hg2)
      clear hg2 hx1' hx2' hx3' b3 HI
      cases hi : insOk c
      · have HFa : Hid (f.code.all insOk = false) := hide (all_false_at HXk.out hi)
        go_wp2_with fail
        go_ret
        exact ⟨by rw [HOK.out, HFa.out]; rfl, HG.out.trans HG2.out⟩
      · have HTk : Hid ((f.code.take (k + 1)).all insOk = true) := hide (by rw [all_take_succ HXk.out, HA.out, hi]; rfl)
        go_wp2_with fail
        exact ⟨⟨k + 1, by simp, hlt, HTk.out, HG2.out⟩, by simp [intOf]; omega⟩
    · have hkk : k = f.code.length := by omega
      subst hkk
      have HE : Hid (f.code.all insOk = true) := hide (by have h := HA.out; rwa [List.take_length] at h)
      clear hg
      go_wp2_with fail
      go_ret
      exact ⟨by rw [HOK.out, HE.out]; rfl, HG.out.trans HGr.out⟩
end Go.Proofs.YtkgncijcnlfhiaaDoor

