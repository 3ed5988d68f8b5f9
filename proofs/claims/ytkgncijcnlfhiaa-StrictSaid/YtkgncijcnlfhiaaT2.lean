import Derived.Test.YtkgncijcnlfhiaaT1
namespace Go.Proofs.Ytkgncijcnlfhiaa
set_option linter.unusedVariables false
set_option linter.unusedSimpArgs false
open Go.RowKit
attribute [local go_sem ↓] Go.wp_at_zero Go.wp_at_succ

def rdByte : List UInt8 → Option (UInt8 × List UInt8)
  | [] => none
  | b :: r => some (b, r)

theorem Rds.some_ {α : Type} {cb : Nat} {e a : Int} {w : World} {R : World → Value → α → Prop} {o : Option (α × List UInt8)} {y : α} {r' : List UInt8} (ho : o = some (y, r')) {x : Ending} {w' : World} (h : Rds cb e a w R o x w') : ∃ v, x = .returned v ∧ R w' v y ∧ Cur w' cb r' e a ∧ Gc cb w w' := by subst ho; exact h
theorem Rds.none_ {α : Type} {cb : Nat} {e a : Int} {w : World} {R : World → Value → α → Prop} {o : Option (α × List UInt8)} (ho : o = none) {x : Ending} {w' : World} (h : Rds cb e a w R o x w') : x = .panicked (thrown e a) ∧ Gc cb w w' := by subst ho; exact h

set_option maxRecDepth 100000 in
set_option maxHeartbeats 1000000 in
theorem byte_any (cb : Nat) (r : List UInt8) (e a : Int) (w : World) (hc : Cur w cb r e a) :
    Calls Try.prog 77 #[.pointer (some ⟨cb, 0, none⟩)] w (Rds cb e a w (fun _ v y => v = .int .u8 (y.toNat : Int)) (rdByte r)) := by
  cases r with
  | nil =>
    have HC := hide hc
    clear hc
    go_enter Try.func77, Try.ntmps77
    go_wp2_with fail
    refine (take_any cb [] e a 1 (by decide) _ HC.out).mono ?_
    intro x w1 h
    obtain ⟨rfl, hg⟩ := h.none_ (by simp [rdTake])
    exact ⟨rfl, rfl, hg⟩
  | cons b r =>
    have HC := hide hc
    clear hc
    go_enter Try.func77, Try.ntmps77
    go_wp2_with fail
    refine (take_any cb (b :: r) e a 1 (by decide) _ HC.out).mono ?_
    intro x w1 h
    obtain ⟨v, rfl, rfl, hcur, hg⟩ := h.some_ (y := [b]) (r' := r) (by simp [rdTake])
    have H1 := hide hcur
    have H2 := hide hg
    clear h hcur hg
    go_wp2
    go_ret
    exact ⟨_, rfl, rfl, H1.out, H2.out⟩

theorem and127f : ∀ a : Fin 256, a.val &&& 127 = a.val % 128 := by decide +kernel
theorem and127 (b : UInt8) : bits BinOp.and IntKind.u8 (b.toNat : Int) 127 = ((b.toNat % 128 : Nat) : Int) := by
  have h := u8_and_nat b.toNat 127 b.toNat_lt (by decide)
  rw [and127f ⟨b.toNat, b.toNat_lt⟩] at h; exact h

/-- a number, in as few bytes as can be -/
def rdNum : Nat → Nat → List UInt8 → Option (Nat × List UInt8)
  | _, _, [] => none
  | k, v, b :: r =>
    if b.toNat % 128 * 2 ^ (7 * k) < 18446744073709551616 then
      if b.toNat < 128 then (if b.toNat ≠ 0 ∨ k = 0 then some (v + b.toNat % 128 * 2 ^ (7 * k), r) else none)
      else rdNum (k + 1) (v + b.toNat % 128 * 2 ^ (7 * k)) r
    else none

theorem sh_toNat (k : Nat) : (7 * (k : Int)).toNat = 7 * k := by omega
theorem pow_le64 {s : Nat} (h : s ≤ 64) : (2 : Nat) ^ s * 2 ^ (64 - s) = 18446744073709551616 := by rw [← Nat.pow_add, show s + (64 - s) = 64 by omega]
theorem shl_fit {low k : Nat} (h : low * 2 ^ (7 * k) < 18446744073709551616) : IntKind.u64.wrap ((low : Int) * 2 ^ min (7 * (k : Int)).toNat 64) = ((low * 2 ^ (7 * k) : Nat) : Int) := by
  rw [sh_toNat]
  by_cases hs : 7 * k ≤ 64
  · rw [Nat.min_eq_left hs]
    have e : (low : Int) * 2 ^ (7 * k) = ((low * 2 ^ (7 * k) : Nat) : Int) := by simp
    rw [e, Go.IntWalk.u64_in _ (by omega)]
  · have hz : low = 0 := by
      rcases Nat.eq_zero_or_pos low with h0 | h0
      · exact h0
      · have : 2 ^ 64 ≤ 2 ^ (7 * k) := Nat.pow_le_pow_right (by decide) (by omega)
        have h2 : 1 * 2 ^ (7 * k) ≤ low * 2 ^ (7 * k) := Nat.mul_le_mul_right _ h0
        omega
    subst hz
    simp [IntKind.wrap_u64]
theorem shr_fit {low k : Nat} (h : low * 2 ^ (7 * k) < 18446744073709551616) : (((low * 2 ^ (7 * k) : Nat) : Int) / 2 ^ min (7 * (k : Int)).toNat 64 == (low : Int)) = true := by
  rw [sh_toNat, beq_iff_eq]
  by_cases hs : 7 * k ≤ 64
  · rw [Nat.min_eq_left hs]
    have e : (((low * 2 ^ (7 * k) : Nat) : Int) / 2 ^ (7 * k)) = ((low * 2 ^ (7 * k) / 2 ^ (7 * k) : Nat) : Int) := by simp
    rw [e, Nat.mul_div_cancel _ (Nat.two_pow_pos _)]
  · have hz : low = 0 := by
      rcases Nat.eq_zero_or_pos low with h0 | h0
      · exact h0
      · have : 2 ^ 64 ≤ 2 ^ (7 * k) := Nat.pow_le_pow_right (by decide) (by omega)
        have h2 : 1 * 2 ^ (7 * k) ≤ low * 2 ^ (7 * k) := Nat.mul_le_mul_right _ h0
        omega
    subst hz; simp
theorem sh_no {low k : Nat} (h : ¬ low * 2 ^ (7 * k) < 18446744073709551616) : (IntKind.u64.wrap ((low : Int) * 2 ^ min (7 * (k : Int)).toNat 64) / 2 ^ min (7 * (k : Int)).toNat 64 == (low : Int)) = false := by
  rw [sh_toNat, beq_eq_false_iff_ne, IntKind.wrap_u64]
  by_cases hs : 7 * k ≤ 64
  · rw [Nat.min_eq_left hs]
    have e : ((low : Int) * 2 ^ (7 * k) % 18446744073709551616) / 2 ^ (7 * k) = ((low * 2 ^ (7 * k) % 18446744073709551616 / 2 ^ (7 * k) : Nat) : Int) := by simp
    rw [e]
    intro hc
    have hc' : low * 2 ^ (7 * k) % 18446744073709551616 / 2 ^ (7 * k) = low := by exact_mod_cast hc
    have h1 : low * 2 ^ (7 * k) % 18446744073709551616 < 18446744073709551616 := Nat.mod_lt _ (by decide)
    have h2 : low * 2 ^ (7 * k) % 18446744073709551616 < low * 2 ^ (7 * k) := by omega
    have h3 := (Nat.div_lt_iff_lt_mul (Nat.two_pow_pos (7 * k))).2 h2
    omega
  · rw [Nat.min_eq_right (by omega)]
    intro hc
    have e : ((low : Int) * 2 ^ 64 % 18446744073709551616) = 0 := by omega
    rw [e] at hc
    have : low = 0 := by simp at hc; omega
    subst this; simp at h
theorem or_join {v q k low : Nat} (hq : q = low * 2 ^ (7 * k)) (hv : v < 2 ^ (7 * k)) (hv64 : v < 18446744073709551616) (hq64 : q < 18446744073709551616) : bits BinOp.or IntKind.u64 (v : Int) (q : Int) = ((v + q : Nat) : Int) := by
  rw [u64_or_nat v q hv64 hq64, Nat.or_comm, nat_join (7 * k) q v (by rw [hq]; simp) hv, Nat.add_comm]
theorem sum_lt {v q k low : Nat} (hq : q = low * 2 ^ (7 * k)) (hv : v < 2 ^ (7 * k)) (hv64 : v < 18446744073709551616) (hq64 : q < 18446744073709551616) (hl : low < 128) : v + q < 18446744073709551616 ∧ v + q < 2 ^ (7 * (k + 1)) := by
  have hp : 2 ^ (7 * (k + 1)) = 2 ^ (7 * k) * 128 := by rw [show 7 * (k + 1) = 7 * k + 7 by omega, Nat.pow_add]
  have h2 : low * 2 ^ (7 * k) ≤ 127 * 2 ^ (7 * k) := Nat.mul_le_mul_right _ (by omega)
  refine ⟨?_, by rw [hp]; omega⟩
  by_cases hs : 7 * k ≤ 64
  · have h3 := pow_le64 hs
    have h4 : low < 2 ^ (64 - 7 * k) := by
      rw [← h3, hq, Nat.mul_comm] at hq64
      exact Nat.lt_of_mul_lt_mul_left hq64
    have h5 : (low + 1) * 2 ^ (7 * k) ≤ 2 ^ (64 - 7 * k) * 2 ^ (7 * k) := Nat.mul_le_mul_right _ h4
    rw [Nat.mul_comm] at h3
    rw [h3] at h5
    have h6 : (low + 1) * 2 ^ (7 * k) = low * 2 ^ (7 * k) + 2 ^ (7 * k) := by rw [Nat.add_mul, Nat.one_mul]
    omega
  · have hz : low = 0 := by
      rcases Nat.eq_zero_or_pos low with h0 | h0
      · exact h0
      · have : 2 ^ 64 ≤ 2 ^ (7 * k) := Nat.pow_le_pow_right (by decide) (by omega)
        have h2 : 1 * 2 ^ (7 * k) ≤ low * 2 ^ (7 * k) := Nat.mul_le_mul_right _ h0
        omega
    subst hz; simp at hq; omega

set_option maxRecDepth 100000 in
set_option maxHeartbeats 2000000 in
theorem number_any (cb : Nat) (r : List UInt8) (e a : Int) (w : World) (hc : Cur w cb r e a) :
    Calls Try.prog 66 #[.pointer (some ⟨cb, 0, none⟩)] w (Rds cb e a w (fun _ v (y : Nat) => v = .int .u64 (y : Int)) (rdNum 0 0 r)) := by
  go_enter Try.func66, Try.ntmps66
  go_wp2
  go_loopw [3, 4] (fun vv sh wr => ∃ (k v : Nat) (r' : List UInt8), k + r'.length = r.length ∧ v < 2 ^ (7 * k) ∧ v < 18446744073709551616 ∧ vv = .int .u64 (v : Int) ∧ sh = .int .i64 ((7 * k : Nat) : Int) ∧ rdNum k v r' = rdNum 0 0 r ∧ Cur wr cb r' e a ∧ Gc cb w wr) (fun _ sh _ => 8000000 - (intOf sh).toNat)
  case atStart => exact ⟨0, 0, r, by simp, by simp, by decide, rfl, rfl, rfl, hc, Gc.refl _ _⟩
  case round =>
    obtain ⟨k, v, r', hkr, hv, hv64, rfl, rfl, hrd, hcur, hgc⟩ := hrel
    have HV := hide hv
    have HR := hide hrd
    have HG := hide hgc
    have HCur := hide hcur
    have hrl : r.length ≤ 1000000 := hc.2.1
    have HC := hide hc
    clear hv hrd hgc hcur hc
    cases r' with
    | nil =>
      go_wp2_with fail
      refine (byte_any cb [] e a _ HCur.out).mono ?_
      intro x w1 h
      obtain ⟨rfl, hg⟩ := h.none_ rfl
      exact ⟨rfl, by rw [← HR.out]; exact ⟨rfl, HG.out.trans hg⟩⟩
    | cons b r2 =>
      go_wp2_with fail
      refine (byte_any cb (b :: r2) e a _ HCur.out).mono ?_
      intro x w1 h
      obtain ⟨v1, rfl, rfl, hcur1, hg1⟩ := h.some_ (y := b) (r' := r2) rfl
      have HG1 := hide (HG.out.trans hg1)
      have HC1 := hide hcur1
      obtain ⟨⟨s1, h10, h1s⟩, h1l, h11, h12, h1z, h1j⟩ := hcur1
      clear h hg1 h1s h10 h1z h1l
      have hbl : b.toNat < 256 := b.toNat_lt
      have hand := and127 b
      obtain ⟨low, hlow⟩ : ∃ low, low = b.toNat % 128 := ⟨_, rfl⟩
      rw [← hlow] at hand
      have hl128 : low < 128 := by omega
      have HLow := hide hlow
      clear hlow
      have hsh0 : (0 : Int) ≤ 7 * (k : Int) := by omega
      have hsh1 : 7 * (k : Int) ≤ 7000000 := by simp at hkr; omega
      have hwl : IntKind.u64.wrap (low : Int) = low := Go.IntWalk.u64_in _ (by omega)
      by_cases hfit : low * 2 ^ (7 * k) < 18446744073709551616
      · have hshl := shl_fit hfit
        have hshr := shr_fit hfit
        obtain ⟨q, hq⟩ : ∃ q, q = low * 2 ^ (7 * k) := ⟨_, rfl⟩
        rw [← hq] at hshl hshr hfit
        have hshl2 : IntKind.u64.wrap ((low : Int) * 2 ^ (7 * k)) = (q : Int) := by
          rw [show (low : Int) * 2 ^ (7 * k) = (q : Int) by rw [hq]; simp, Go.IntWalk.u64_in _ (by omega)]
        have hor := or_join hq HV.out hv64 hfit
        obtain ⟨hs64, hs7⟩ := sum_lt hq HV.out hv64 hfit hl128
        have HS7 := hide hs7
        have HQ := hide hq
        clear hs7 hq
        have HStep : Hid (rdNum 0 0 r = if b.toNat < 128 then (if b.toNat ≠ 0 ∨ k = 0 then some (v + q, r2) else none) else rdNum (k + 1) (v + q) r2) := hide (by rw [← HR.out, rdNum, ← HLow.out, ← HQ.out, if_pos hfit])
        clear HR HCur
        go_wp2
        go_region_held3 (fun w' => w'.cell? ⟨cb, 1, none⟩ = some (.int .i64 e) ∧ w'.cell? ⟨cb, 3, none⟩ = some (.int .i64 a) ∧ w'.cell? ⟨cb, 2, none⟩ = some (.int .i64 0)) (first | go_keep | (refine ⟨?_, ?_, ?_⟩ <;> exact hg'.cell (by assumption) (by simp))) (first | (go_at_call 36; refine (unless_yes _ _ _).mono ?_; rintro e w' ⟨rfl, hg'⟩))
        have h13 := hg'.cell h11 (by simp)
        have h14 := hg'.cell h12 (by simp)
        have h15 := hg'.cell h1j (by simp)
        have HG2 := hide (HG1.out.trans (Gr.trans (Gr.drew (Gr.refl w1)) hg').toGc)
        have HC2 := hide (HC1.out.gr (Gr.trans (Gr.drew (Gr.refl w1)) hg'))
        clear hg' h11 h12 h1j HG1 HC1 hshr
        by_cases hb : b.toNat < 128
        · have hb1 : ((b.toNat : Int) < 128) := by omega
          by_cases hz : b.toNat = 0
          · have hb0 : ((b.toNat : Int) != 0) = false := by simp [hz]
            by_cases hk0 : k = 0
            · have hk1 : (7 * (k : Int) == 0) = true := by simp [hk0]
              have HE : Hid (rdNum 0 0 r = some (v + q, r2)) := hide (by rw [HStep.out, if_pos hb, if_pos (.inr hk0)])
              clear HStep hz hb hk0
              go_wp2_with (go_at_call 36; refine (unless_yes _ _ _).mono ?_; rintro e3 w3 ⟨rfl, hg3⟩)
              go_ret
              rw [HE.out]
              exact ⟨_, rfl, rfl, HC2.out.gr hg3, HG2.out.trans hg3.toGc⟩
            · have hk1 : (7 * (k : Int) == 0) = false := by rw [beq_eq_false_iff_ne]; omega
              have HE : Hid (rdNum 0 0 r = none) := hide (by rw [HStep.out, if_pos hb, if_neg (by intro h; rcases h with h | h; exact h hz; exact hk0 h)])
              clear HStep hz hb hk0
              go_wp2_with (go_at_call 36; refine (unless_no _ _ _).mono ?_; rintro e3 w3 ⟨rfl, hg3⟩)
              exact ⟨rfl, by rw [HE.out]; exact ⟨rfl, HG2.out.trans hg3.toGc⟩⟩
          · have hb0 : ((b.toNat : Int) != 0) = true := by rw [bne_iff_ne]; omega
            have HE : Hid (rdNum 0 0 r = some (v + q, r2)) := hide (by rw [HStep.out, if_pos hb, if_pos (.inl hz)])
            clear HStep hz hb
            go_wp2_with (go_at_call 36; refine (unless_yes _ _ _).mono ?_; rintro e3 w3 ⟨rfl, hg3⟩)
            go_ret
            rw [HE.out]
            exact ⟨_, rfl, rfl, HC2.out.gr hg3, HG2.out.trans hg3.toGc⟩
        · have hb1 : ¬ ((b.toNat : Int) < 128) := by omega
          have HE : Hid (rdNum (k + 1) (v + q) r2 = rdNum 0 0 r) := hide (by rw [HStep.out, if_neg hb])
          clear HStep hb
          go_wp2
          go_roundw
          case rel => exact ⟨k + 1, v + q, r2, by simp at hkr; omega, HS7.out, hs64, by go_num, by go_num, HE.out, HC2.out, HG2.out⟩
          case measure => simp [intOf]; omega
      · have hno := sh_no hfit
        have HE : Hid (rdNum 0 0 r = none) := hide (by rw [← HR.out, rdNum, ← HLow.out, if_neg hfit])
        clear HR hfit
        go_wp2
        go_region_with (first | (go_at_call 36; refine (unless_no _ _ _).mono ?_; rintro e w' ⟨rfl, hg'⟩; refine left_region ?_))
        all_goals exact ⟨rfl, by rw [HE.out]; exact ⟨rfl, HG1.out.trans (Gr.trans (Gr.drew (Gr.refl w1)) hg').toGc⟩⟩
end Go.Proofs.Ytkgncijcnlfhiaa
