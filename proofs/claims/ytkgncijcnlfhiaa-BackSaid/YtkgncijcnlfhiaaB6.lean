import Derived.Test.YtkgncijcnlfhiaaB5
namespace Go.Proofs.Ytkgncijcnlfhiaa
set_option linter.unusedVariables false
set_option linter.unusedSimpArgs false
open Go.RowKit

set_option maxHeartbeats 1000000 in
theorem list_func (W : World) (v : Value) (l : List UInt8) (xs : List PFunc) (vx : Value) (w : World) (hR : RFuncs W vx xs) (hneed : ∀ x ∈ xs, FuncFit x) (hw : Wr W w v l) (hlen : (l ++ encs encFunc xs).length ≤ 10000000) :
    Calls Try.prog 30 #[v, vx, .func (.func 31) #[] #[]] w fun x w' => ∃ v', x = .returned v' ∧ App W.heap.size w v w' v' (l ++ encs encFunc xs) := by
  obtain ⟨ao, cap, rfl, hm, hc⟩ := hR
  unfold maxLen at hm
  have HC := hide hc
  clear hc
  have hl1 : l.length ≤ 10000000 := by simp only [List.length_append] at hlen; omega
  have HLen := hide hlen
  clear hlen
  go_enter Try.func30, Try.ntmps30
  go_wp2_with (go_at_call 55; refine (whole_any W _ l xs.length _ (by omega) (by omega) (by exact hw) hl1).mono ?_; rintro e w1 ⟨v1, rfl, happ⟩; rw [Int.toNat_natCast] at happ; have hw1 := hw.app happ)
  have H1 := hide happ
  clear happ
  go_loopw [0, 15] (fun vo i wr => ∃ k : Nat, k ≤ xs.length ∧ i = .int .i64 k ∧ App W.heap.size w v wr vo (l ++ encTo encFunc xs k)) (fun _ i _ => xs.length - (intOf i).toNat)
  case atStart => exact ⟨0, Nat.zero_le _, rfl, by rw [encTo_zero]; exact H1.out⟩
  case round =>
    obtain ⟨k, hk, rfl, happ⟩ := hrel
    have hwr := hw.app happ
    have H2 := hide happ
    clear happ hw1
    by_cases hlt : k < xs.length
    · obtain ⟨x, hx⟩ := getElem?_lt hlt
      obtain ⟨b, off, vp, vl, vc, hao, hc0, hc1, hc2, hc3, hRp, hRl, hRc⟩ := HC.out k x hx
      subst hao
      have hc0' := below_cell hwr.low hc0
      have hc1' := below_cell hwr.low hc1
      have hc2' := below_cell hwr.low hc2
      have hc3' := below_cell hwr.low hc3
      have HNX := hide (hneed x (List.mem_of_getElem? hx))
      have HP := hide hRp
      have HL := hide hRl
      have HCC := hide hRc
      obtain ⟨ap, cp, rfl⟩ := hRp.shape
      obtain ⟨al, cl, rfl⟩ := hRl.shape
      obtain ⟨ac, cc, rfl⟩ := hRc.shape
      clear hc0 hc1 hc2 hc3 hRp hRl hRc
      have HX := hide hx
      clear hx
      go_wp2_with (go_at_call 31; refine (func_write W _ _ x _ _ _ _ HP.out HL.out HCC.out HNX.out (by exact hwr.gr (World.grownBy_alloc _ _ none)) (encTo_bd2 HX.out HLen.out)).mono ?_; rintro e w2 ⟨v2, rfl, happ2⟩)
      have H3 := hide happ2
      clear happ2
      go_roundw
      case rel => exact ⟨k + 1, by omega, by go_num, by rw [encTo_succ HX.out, ← List.append_assoc]; exact H2.out.trans (App.gr (World.grownBy_alloc _ _ none) H3.out)⟩
      case measure => simp [intOf]; omega
    · go_wp2
      go_ret
      refine ⟨_, rfl, ?_⟩
      rw [encs_end hlt]
      exact H2.out

set_option maxHeartbeats 1000000 in
theorem list_imp (W : World) (v : Value) (l : List UInt8) (xs : List PImp) (vx : Value) (w : World) (hR : RImports W vx xs) (hneed : ∀ x ∈ xs, ImpFit x) (hw : Wr W w v l) (hlen : (l ++ encs encImp xs).length ≤ 10000000) :
    Calls Try.prog 32 #[v, vx, .func (.func 33) #[] #[]] w fun x w' => ∃ v', x = .returned v' ∧ App W.heap.size w v w' v' (l ++ encs encImp xs) := by
  obtain ⟨ao, cap, rfl, hm, hc⟩ := hR
  unfold maxLen at hm
  have HC := hide hc
  clear hc
  have hl1 : l.length ≤ 10000000 := by simp only [List.length_append] at hlen; omega
  have HLen := hide hlen
  clear hlen
  go_enter Try.func32, Try.ntmps32
  go_wp2_with (go_at_call 55; refine (whole_any W _ l xs.length _ (by omega) (by omega) (by exact hw) hl1).mono ?_; rintro e w1 ⟨v1, rfl, happ⟩; rw [Int.toNat_natCast] at happ; have hw1 := hw.app happ)
  have H1 := hide happ
  clear happ
  go_loopw [0, 15] (fun vo i wr => ∃ k : Nat, k ≤ xs.length ∧ i = .int .i64 k ∧ App W.heap.size w v wr vo (l ++ encTo encImp xs k)) (fun _ i _ => xs.length - (intOf i).toNat)
  case atStart => exact ⟨0, Nat.zero_le _, rfl, by rw [encTo_zero]; exact H1.out⟩
  case round =>
    obtain ⟨k, hk, rfl, happ⟩ := hrel
    have hwr := hw.app happ
    have H2 := hide happ
    clear happ hw1
    by_cases hlt : k < xs.length
    · obtain ⟨x, hx⟩ := getElem?_lt hlt
      obtain ⟨b, off, vs, vp, hao, hc0, hc1, hc2, hRs, hRp⟩ := HC.out k x hx
      subst hao
      have hc0' := below_cell hwr.low hc0
      have hc1' := below_cell hwr.low hc1
      have hc2' := below_cell hwr.low hc2
      have HNX := hide (hneed x (List.mem_of_getElem? hx))
      have HP := hide hRp
      have HS := hide hRs
      obtain ⟨ap, cp, rfl⟩ := hRp.shape
      obtain ⟨s, rfl, hsl, hsm⟩ := hRs
      clear hc0 hc1 hc2 hRp hsl hsm
      have HX := hide hx
      clear hx
      go_wp2_with (go_at_call 33; refine (imp_write W _ _ x _ _ _ HS.out HP.out HNX.out (by exact hwr.gr (World.grownBy_alloc _ _ none)) (encTo_bd2 HX.out HLen.out)).mono ?_; rintro e w2 ⟨v2, rfl, happ2⟩)
      have H3 := hide happ2
      clear happ2
      go_roundw
      case rel => exact ⟨k + 1, by omega, by go_num, by rw [encTo_succ HX.out, ← List.append_assoc]; exact H2.out.trans (App.gr (World.grownBy_alloc _ _ none) H3.out)⟩
      case measure => simp [intOf]; omega
    · go_wp2
      go_ret
      refine ⟨_, rfl, ?_⟩
      rw [encs_end hlt]
      exact H2.out

set_option maxHeartbeats 1000000 in
theorem list_exp (W : World) (v : Value) (l : List UInt8) (xs : List PExp) (vx : Value) (w : World) (hR : RExports W vx xs) (hneed : ∀ x ∈ xs, ExpFit x) (hw : Wr W w v l) (hlen : (l ++ encs encExp xs).length ≤ 10000000) :
    Calls Try.prog 34 #[v, vx, .func (.func 35) #[] #[]] w fun x w' => ∃ v', x = .returned v' ∧ App W.heap.size w v w' v' (l ++ encs encExp xs) := by
  obtain ⟨ao, cap, rfl, hm, hc⟩ := hR
  unfold maxLen at hm
  have HC := hide hc
  clear hc
  have hl1 : l.length ≤ 10000000 := by simp only [List.length_append] at hlen; omega
  have HLen := hide hlen
  clear hlen
  go_enter Try.func34, Try.ntmps34
  go_wp2_with (go_at_call 55; refine (whole_any W _ l xs.length _ (by omega) (by omega) (by exact hw) hl1).mono ?_; rintro e w1 ⟨v1, rfl, happ⟩; rw [Int.toNat_natCast] at happ; have hw1 := hw.app happ)
  have H1 := hide happ
  clear happ
  go_loopw [0, 15] (fun vo i wr => ∃ k : Nat, k ≤ xs.length ∧ i = .int .i64 k ∧ App W.heap.size w v wr vo (l ++ encTo encExp xs k)) (fun _ i _ => xs.length - (intOf i).toNat)
  case atStart => exact ⟨0, Nat.zero_le _, rfl, by rw [encTo_zero]; exact H1.out⟩
  case round =>
    obtain ⟨k, hk, rfl, happ⟩ := hrel
    have hwr := hw.app happ
    have H2 := hide happ
    clear happ hw1
    by_cases hlt : k < xs.length
    · obtain ⟨x, hx⟩ := getElem?_lt hlt
      obtain ⟨b, off, vs, hao, hc0, hc1, hRs⟩ := HC.out k x hx
      subst hao
      have hc0' := below_cell hwr.low hc0
      have hc1' := below_cell hwr.low hc1
      have HNX := hide (hneed x (List.mem_of_getElem? hx))
      have HS := hide hRs
      obtain ⟨s, rfl, hsl, hsm⟩ := hRs
      clear hc0 hc1 hsl hsm
      have HX := hide hx
      clear hx
      go_wp2_with (go_at_call 35; refine (exp_write W _ _ x _ _ HS.out HNX.out (by exact hwr.gr (World.grownBy_alloc _ _ none)) (encTo_bd2 HX.out HLen.out)).mono ?_; rintro e w2 ⟨v2, rfl, happ2⟩)
      have H3 := hide happ2
      clear happ2
      go_roundw
      case rel => exact ⟨k + 1, by omega, by go_num, by rw [encTo_succ HX.out, ← List.append_assoc]; exact H2.out.trans (App.gr (World.grownBy_alloc _ _ none) H3.out)⟩
      case measure => simp [intOf]; omega
    · go_wp2
      go_ret
      refine ⟨_, rfl, ?_⟩
      rw [encs_end hlt]
      exact H2.out

set_option maxHeartbeats 1000000 in
theorem list_shape (W : World) (v : Value) (l : List UInt8) (xs : List (List Int)) (vx : Value) (w : World) (hR : RShapes W vx xs) (hneed : ∀ x ∈ xs, ∀ y ∈ x, 0 ≤ y ∧ y ≤ 9223372036854775807) (hw : Wr W w v l) (hlen : (l ++ encs encKinds xs).length ≤ 10000000) :
    Calls Try.prog 26 #[v, vx, .func (.func 27) #[] #[]] w fun x w' => ∃ v', x = .returned v' ∧ App W.heap.size w v w' v' (l ++ encs encKinds xs) := by
  obtain ⟨ao, cap, rfl, hm, hc⟩ := hR
  unfold maxLen at hm
  have HC := hide hc
  clear hc
  have hl1 : l.length ≤ 10000000 := by simp only [List.length_append] at hlen; omega
  have HLen := hide hlen
  clear hlen
  go_enter Try.func26, Try.ntmps26
  go_wp2_with (go_at_call 55; refine (whole_any W _ l xs.length _ (by omega) (by omega) (by exact hw) hl1).mono ?_; rintro e w1 ⟨v1, rfl, happ⟩; rw [Int.toNat_natCast] at happ; have hw1 := hw.app happ)
  have H1 := hide happ
  clear happ
  go_loopw [0, 15] (fun vo i wr => ∃ k : Nat, k ≤ xs.length ∧ i = .int .i64 k ∧ App W.heap.size w v wr vo (l ++ encTo encKinds xs k)) (fun _ i _ => xs.length - (intOf i).toNat)
  case atStart => exact ⟨0, Nat.zero_le _, rfl, by rw [encTo_zero]; exact H1.out⟩
  case round =>
    obtain ⟨k, hk, rfl, happ⟩ := hrel
    have hwr := hw.app happ
    have H2 := hide happ
    clear happ hw1
    by_cases hlt : k < xs.length
    · obtain ⟨x, hx⟩ := getElem?_lt hlt
      obtain ⟨b, off, vk, hao, hc0, hRp⟩ := HC.out k x hx
      subst hao
      have hc0' := below_cell hwr.low hc0
      have HNX := hide (hneed x (List.mem_of_getElem? hx))
      have HP := hide hRp
      clear hc0 hRp
      have HX := hide hx
      clear hx
      go_wp2_with (go_at_call 27; refine (kinds_write W _ _ x _ _ HP.out HNX.out (by exact hwr) (encTo_bd2 HX.out HLen.out)).mono ?_; rintro e w2 ⟨v2, rfl, happ2⟩)
      have H3 := hide happ2
      clear happ2
      go_roundw
      case rel => exact ⟨k + 1, by omega, by go_num, by rw [encTo_succ HX.out, ← List.append_assoc]; exact H2.out.trans H3.out⟩
      case measure => simp [intOf]; omega
    · go_wp2
      go_ret
      refine ⟨_, rfl, ?_⟩
      rw [encs_end hlt]
      exact H2.out
end Go.Proofs.Ytkgncijcnlfhiaa
