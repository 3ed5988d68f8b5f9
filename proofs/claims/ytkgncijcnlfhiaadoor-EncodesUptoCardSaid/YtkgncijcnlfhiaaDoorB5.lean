import Derived.Test.YtkgncijcnlfhiaaDoorB4
namespace Go.Proofs.YtkgncijcnlfhiaaDoor
set_option linter.unusedVariables false
set_option linter.unusedSimpArgs false
open Go.RowKit

def FuncFit (f : PFunc) : Prop := (∀ x ∈ f.params, 0 ≤ x ∧ x ≤ 9223372036854775807) ∧ (0 ≤ f.result ∧ f.result ≤ 9223372036854775807) ∧ (∀ x ∈ f.locals, 0 ≤ x ∧ x ≤ 9223372036854775807) ∧ ∀ i ∈ f.code, insOk i = true
def ImpFit (f : PImp) : Prop := f.name.length ≤ 1000000 ∧ (∀ x ∈ f.params, 0 ≤ x ∧ x ≤ 9223372036854775807) ∧ (0 ≤ f.result ∧ f.result ≤ 9223372036854775807)
def ExpFit (f : PExp) : Prop := f.name.length ≤ 1000000 ∧ (0 ≤ f.func ∧ f.func ≤ 9223372036854775807)

set_option maxHeartbeats 1000000 in
theorem list_ins (W : World) (v : Value) (l : List UInt8) (xs : List PIns) (vx : Value) (w : World) (hR : RCode W vx xs) (hneed : ∀ x ∈ xs, insOk x = true) (hw : Wr W w v l) (hlen : (l ++ encs encIns xs).length ≤ 10000000) :
    Calls Tryd.prog 117 #[v, vx, .func (.func 118) #[] #[]] w fun x w' => ∃ v', x = .returned v' ∧ App W.heap.size w v w' v' (l ++ encs encIns xs) := by
  obtain ⟨ao, cap, rfl, hm, hc⟩ := hR
  unfold maxLen at hm
  have HC := hide hc
  clear hc
  have hl1 : l.length ≤ 10000000 := by simp only [List.length_append] at hlen; omega
  have HLen := hide hlen
  clear hlen
  go_enter Tryd.func117, Tryd.ntmps117
  go_wp2_with (go_at_call 116; refine (whole_any W _ l xs.length _ (by omega) (by omega) (by exact hw) hl1).mono ?_; rintro e w1 ⟨v1, rfl, happ⟩; rw [Int.toNat_natCast] at happ; have hw1 := hw.app happ)
  have H1 := hide happ
  clear happ
  go_loopw [0, 15] (fun vo i wr => ∃ k : Nat, k ≤ xs.length ∧ i = .int .i64 k ∧ App W.heap.size w v wr vo (l ++ encTo encIns xs k)) (fun _ i _ => xs.length - (intOf i).toNat)
  case atStart => exact ⟨0, Nat.zero_le _, rfl, by rw [encTo_zero]; exact H1.out⟩
  case round =>
    obtain ⟨k, hk, rfl, happ⟩ := hrel
    have hwr := hw.app happ
    have H2 := hide happ
    clear happ hw1
    by_cases hlt : k < xs.length
    · obtain ⟨x, hx⟩ := getElem?_lt hlt
      obtain ⟨b, off, hao, hc0, hc1, hc2⟩ := HC.out k x hx
      subst hao
      have hc0' := below_cell hwr.low hc0
      have hc1' := below_cell hwr.low hc1
      have hc2' := below_cell hwr.low hc2
      have HNX := hide (hneed x (List.mem_of_getElem? hx))
      clear hc0 hc1 hc2
      have HX := hide hx
      clear hx
      go_wp2_with (go_at_call 118; refine (ins_write W _ _ x _ HNX.out (by exact hwr.gr (World.grownBy_alloc _ _ none)) (encTo_bd2 HX.out HLen.out)).mono ?_; rintro e w2 ⟨v2, rfl, happ2⟩)
      have H3 := hide happ2
      clear happ2
      go_roundw
      case rel => exact ⟨k + 1, by omega, by go_num, by rw [encTo_succ HX.out, ← List.append_assoc]; exact H2.out.trans (App.gr (World.grownBy_alloc _ _ none) H3.out)⟩
      case measure => simp [intOf]; omega
    · go_wp2
      go_ret
      refine ⟨_, rfl, ?_⟩
      rw [encs_end hlt]
      exact H2.out

theorem func_boxed (w : World) (v0 v1 v2 v3 : Value) : (w.alloc (.cells #[v0, v1, v2, v3] 76)).cell? ⟨w.heap.size, 0, none⟩ = some v0 ∧ (w.alloc (.cells #[v0, v1, v2, v3] 76)).cell? ⟨w.heap.size, 1, none⟩ = some v1 ∧ (w.alloc (.cells #[v0, v1, v2, v3] 76)).cell? ⟨w.heap.size, 2, none⟩ = some v2 ∧ (w.alloc (.cells #[v0, v1, v2, v3] 76)).cell? ⟨w.heap.size, 3, none⟩ = some v3 := by
  refine ⟨?_, ?_, ?_, ?_⟩ <;> simp [go_sem]
theorem imp_boxed (w : World) (v0 v1 v2 : Value) : (w.alloc (.cells #[v0, v1, v2] 79)).cell? ⟨w.heap.size, 0, none⟩ = some v0 ∧ (w.alloc (.cells #[v0, v1, v2] 79)).cell? ⟨w.heap.size, 1, none⟩ = some v1 ∧ (w.alloc (.cells #[v0, v1, v2] 79)).cell? ⟨w.heap.size, 2, none⟩ = some v2 := by
  refine ⟨?_, ?_, ?_⟩ <;> simp [go_sem]
theorem exp_boxed (w : World) (v0 v1 : Value) : (w.alloc (.cells #[v0, v1] 81)).cell? ⟨w.heap.size, 0, none⟩ = some v0 ∧ (w.alloc (.cells #[v0, v1] 81)).cell? ⟨w.heap.size, 1, none⟩ = some v1 := by
  refine ⟨?_, ?_⟩ <;> simp [go_sem]

set_option maxHeartbeats 1000000 in
theorem func_write (W : World) (v : Value) (l : List UInt8) (x : PFunc) (vp vl vc : Value) (w : World) (hp : RInts W vp x.params) (hl : RInts W vl x.locals) (hc : RCode W vc x.code) (hfit : FuncFit x) (hw : Wr W w v l) (hlen : (l ++ encFunc x).length ≤ 10000000) :
    Calls Tryd.prog 64 #[v, .agg #[vp, .int .i64 x.result, vl, vc]] w fun y w' => ∃ v', y = .returned v' ∧ App W.heap.size w v w' v' (l ++ encFunc x) := by
  obtain ⟨ap, cp, rfl⟩ := hp.shape
  obtain ⟨al, cl, rfl⟩ := hl.shape
  obtain ⟨ac, cc, rfl⟩ := hc.shape
  obtain ⟨f1, f2, f3, f4⟩ := hfit
  obtain ⟨hi0, hi1, hi2, hi3⟩ := func_boxed w (.slice ap x.params.length cp) (.int .i64 x.result) (.slice al x.locals.length cl) (.slice ac x.code.length cc)
  have hwb := hw.gr (World.grownBy_alloc w (.cells #[.slice ap x.params.length cp, .int .i64 x.result, .slice al x.locals.length cl, .slice ac x.code.length cc] 76) none)
  have HV := hide (fun i hi => (hw.own.lt i hi).2 : ∀ i, v.ownBlock = some i → i < w.heap.size)
  have HP := hide hp
  have HL := hide hl
  have HC := hide hc
  have F1 := hide f1
  have F3 := hide f3
  have F4 := hide f4
  have L1 : Hid ((l ++ encKinds x.params).length ≤ 10000000) := hide (by unfold encFunc at hlen; simp only [List.length_append] at hlen ⊢; omega)
  have L2 : Hid ((l ++ encKinds x.params ++ encKinds x.locals).length ≤ 10000000) := hide (by unfold encFunc at hlen; simp only [List.length_append] at hlen ⊢; omega)
  have L3 : Hid ((l ++ encKinds x.params ++ encKinds x.locals ++ num x.result.toNat ++ encs encIns x.code).length ≤ 10000000) := hide (by unfold encFunc at hlen; simp only [List.length_append] at hlen ⊢; omega)
  have HE : Hid (l ++ encFunc x = l ++ encKinds x.params ++ encKinds x.locals ++ num x.result.toNat ++ encs encIns x.code) := hide (by unfold encFunc; simp only [List.append_assoc])
  clear hp hl hc f1 f3 f4 hlen
  go_enter Tryd.func64, Tryd.ntmps64
  go_wp2_with fail
  refine (kinds_write W _ l x.params _ _ HP.out F1.out (by exact hwb) L1.out).mono ?_
  rintro e w1 ⟨v1, rfl, happ1⟩
  have hw1 := hwb.app happ1
  have hj2 := happ1.box hi2 HV.out
  go_wp2_with fail
  refine (kinds_write W _ _ x.locals _ _ HL.out F3.out (by exact hw1) L2.out).mono ?_
  rintro e w2 ⟨v2, rfl, happ2⟩
  have hw2 := hw1.app happ2
  have happ12 := happ1.trans happ2
  have hj1 := happ12.box hi1 HV.out
  go_wp2_with fail
  refine (whole_any W _ _ x.result _ f2.1 f2.2 (by exact hw2) L2.out).mono ?_
  rintro e w3 ⟨v3, rfl, happ3⟩
  have hw3 := hw2.app happ3
  have happ13 := happ12.trans happ3
  have hj3 := happ13.box hi3 HV.out
  go_wp2_with fail
  refine (list_ins W _ _ x.code _ _ HC.out F4.out (by exact hw3) L3.out).mono ?_
  rintro e w4 ⟨v4, rfl, happ4⟩
  go_wp2
  go_ret
  refine ⟨v4, rfl, ?_⟩
  rw [HE.out]
  exact App.gr (World.grownBy_alloc w _ none) (happ13.trans happ4)

set_option maxHeartbeats 1000000 in
theorem imp_write (W : World) (v : Value) (l : List UInt8) (x : PImp) (vs vp : Value) (w : World) (hs : RText vs x.name) (hp : RInts W vp x.params) (hfit : ImpFit x) (hw : Wr W w v l) (hlen : (l ++ encImp x).length ≤ 10000000) :
    Calls Tryd.prog 66 #[v, .agg #[vs, vp, .int .i64 x.result]] w fun y w' => ∃ v', y = .returned v' ∧ App W.heap.size w v w' v' (l ++ encImp x) := by
  obtain ⟨ap, cp, rfl⟩ := hp.shape
  obtain ⟨s, rfl, hsl, hsm⟩ := hs
  have hsz : s.size = x.name.length := by rw [← hsl, Array.length_toList]; rfl
  obtain ⟨f1, f2, f3⟩ := hfit
  obtain ⟨hi0, hi1, hi2⟩ := imp_boxed w (.string s) (.slice ap x.params.length cp) (.int .i64 x.result)
  have hwb := hw.gr (World.grownBy_alloc w (.cells #[.string s, .slice ap x.params.length cp, .int .i64 x.result] 79) none)
  have HV := hide (fun i hi => (hw.own.lt i hi).2 : ∀ i, v.ownBlock = some i → i < w.heap.size)
  have HP := hide hp
  have F2 := hide f2
  have ET : Hid (num s.size ++ s.data.toList = encText x.name) := hide (by unfold encText; rw [hsl, hsz])
  have L1 : Hid (l.length ≤ 10000000) := hide (by simp only [List.length_append] at hlen; omega)
  have L0 : Hid (s.size ≤ 1000000) := hide (by omega)
  have L2 : Hid ((l ++ encText x.name ++ encKinds x.params).length ≤ 10000000) := hide (by unfold encImp at hlen; simp only [List.length_append] at hlen ⊢; omega)
  have HE : Hid (l ++ encImp x = l ++ encText x.name ++ encKinds x.params ++ num x.result.toNat) := hide (by unfold encImp; simp only [List.append_assoc])
  clear hp f2 hlen hsz hsl hsm f1
  go_enter Tryd.func66, Tryd.ntmps66
  go_wp2_with fail
  refine (text_any W _ l s _ L0.out (by exact hwb) L1.out).mono ?_
  rintro e w1 ⟨v1, rfl, happ1⟩
  rw [ET.out] at happ1
  have hw1 := hwb.app happ1
  have hj1 := happ1.box hi1 HV.out
  go_wp2_with fail
  refine (kinds_write W _ _ x.params _ _ HP.out F2.out (by exact hw1) L2.out).mono ?_
  rintro e w2 ⟨v2, rfl, happ2⟩
  have hw2 := hw1.app happ2
  have happ12 := happ1.trans happ2
  have hj2 := happ12.box hi2 HV.out
  go_wp2_with fail
  refine (whole_any W _ _ x.result _ f3.1 f3.2 (by exact hw2) L2.out).mono ?_
  rintro e w3 ⟨v3, rfl, happ3⟩
  go_wp2
  go_ret
  refine ⟨v3, rfl, ?_⟩
  rw [HE.out]
  exact App.gr (World.grownBy_alloc w _ none) (happ12.trans happ3)

set_option maxHeartbeats 1000000 in
theorem exp_write (W : World) (v : Value) (l : List UInt8) (x : PExp) (vs : Value) (w : World) (hs : RText vs x.name) (hfit : ExpFit x) (hw : Wr W w v l) (hlen : (l ++ encExp x).length ≤ 10000000) :
    Calls Tryd.prog 68 #[v, .agg #[vs, .int .i64 x.func]] w fun y w' => ∃ v', y = .returned v' ∧ App W.heap.size w v w' v' (l ++ encExp x) := by
  obtain ⟨s, rfl, hsl, hsm⟩ := hs
  have hsz : s.size = x.name.length := by rw [← hsl, Array.length_toList]; rfl
  obtain ⟨f1, f3⟩ := hfit
  obtain ⟨hi0, hi1⟩ := exp_boxed w (.string s) (.int .i64 x.func)
  have hwb := hw.gr (World.grownBy_alloc w (.cells #[.string s, .int .i64 x.func] 81) none)
  have HV := hide (fun i hi => (hw.own.lt i hi).2 : ∀ i, v.ownBlock = some i → i < w.heap.size)
  have ET : Hid (num s.size ++ s.data.toList = encText x.name) := hide (by unfold encText; rw [hsl, hsz])
  have L1 : Hid (l.length ≤ 10000000) := hide (by simp only [List.length_append] at hlen; omega)
  have L0 : Hid (s.size ≤ 1000000) := hide (by omega)
  have L2 : Hid ((l ++ encText x.name).length ≤ 10000000) := hide (by unfold encExp at hlen; simp only [List.length_append] at hlen ⊢; omega)
  have HE : Hid (l ++ encExp x = l ++ encText x.name ++ num x.func.toNat) := hide (by unfold encExp; simp only [List.append_assoc])
  clear hlen hsz hsl hsm f1
  go_enter Tryd.func68, Tryd.ntmps68
  go_wp2_with fail
  refine (text_any W _ l s _ L0.out (by exact hwb) L1.out).mono ?_
  rintro e w1 ⟨v1, rfl, happ1⟩
  rw [ET.out] at happ1
  have hw1 := hwb.app happ1
  have hj1 := happ1.box hi1 HV.out
  go_wp2_with fail
  refine (whole_any W _ _ x.func _ f3.1 f3.2 (by exact hw1) L2.out).mono ?_
  rintro e w3 ⟨v3, rfl, happ3⟩
  go_wp2
  go_ret
  refine ⟨v3, rfl, ?_⟩
  rw [HE.out]
  exact App.gr (World.grownBy_alloc w _ none) (happ1.trans happ3)
end Go.Proofs.YtkgncijcnlfhiaaDoor
