import Derived.Test.YtkgncijcnlfhiaaDoorT1
import Derived.Lib.BufferWrite
import Derived.Lib.UnsafeStr
import Derived.Lib.Strings
import Derived.Lib.Hide
namespace Go.Proofs.YtkgncijcnlfhiaaDoor
set_option linter.unusedVariables false
set_option linter.unusedSimpArgs false
open Go.RowKit
attribute [local go_sem ↓] Go.wp_at_zero Go.wp_at_succ

def rdByte : List UInt8 → Option (UInt8 × List UInt8)
  | [] => none
  | b :: r => some (b, r)

theorem Rds.some_ {α : Type} {cb : Nat} {e a : Int} {w : World} {R : World → Value → α → Prop} {o : Option (α × List UInt8)} {y : α} {r' : List UInt8} (ho : o = some (y, r')) {x : Ending} {w' : World} (h : Rds cb e a w R o x w') : ∃ v, x = .returned v ∧ R w' v y ∧ Cur w' cb r' e a ∧ Gc cb w w' := by subst ho; exact h
theorem Rds.none_ {α : Type} {cb : Nat} {e a : Int} {w : World} {R : World → Value → α → Prop} {o : Option (α × List UInt8)} (ho : o = none) {x : Ending} {w' : World} (h : Rds cb e a w R o x w') : x = .panicked (thrown e a) ∧ Gc cb w w' := by subst ho; exact h

set_option maxRecDepth 100000 in
set_option maxHeartbeats 1000000 in
theorem byte_any (cb : Nat) (r : List UInt8) (e a : Int) (w : World) (hc : Cur w cb r e a) :
    Calls Tryd.prog 154 #[.pointer (some ⟨cb, 0, none⟩)] w (Rds cb e a w (fun _ v y => v = .int .u8 (y.toNat : Int)) (rdByte r)) := by
  cases r with
  | nil =>
    have HC := hide hc
    clear hc
    go_enter Tryd.func154, Tryd.ntmps154
    go_wp2_with fail
    refine (take_any cb [] e a 1 (by decide) _ HC.out).mono ?_
    intro x w1 h
    obtain ⟨rfl, hg⟩ := h.none_ (by simp [rdTake])
    exact ⟨rfl, rfl, hg⟩
  | cons b r =>
    have HC := hide hc
    clear hc
    go_enter Tryd.func154, Tryd.ntmps154
    go_wp2_with fail
    refine (take_any cb (b :: r) e a 1 (by decide) _ HC.out).mono ?_
    intro x w1 h
    obtain ⟨v, rfl, rfl, hcur, hg⟩ := h.some_ (y := [b]) (r' := r) (by simp [rdTake])
    have H1 := hide hcur
    have H2 := hide hg
    clear h hcur hg
    go_wp2
    go_ret
    exact ⟨_, rfl, rfl, H1.out, H2.out⟩

theorem and127f : ∀ a : Fin 256, a.val &&& 127 = a.val % 128 := by decide +kernel
theorem and127 (b : UInt8) : bits BinOp.and IntKind.u8 (b.toNat : Int) 127 = ((b.toNat % 128 : Nat) : Int) := by
  have h := u8_and_nat b.toNat 127 b.toNat_lt (by decide)
  rw [and127f ⟨b.toNat, b.toNat_lt⟩] at h; exact h

/-- a number, in as few bytes as can be -/
def rdNum : Nat → Nat → List UInt8 → Option (Nat × List UInt8)
  | _, _, [] => none
  | k, v, b :: r =>
    if b.toNat % 128 * 2 ^ (7 * k) < 18446744073709551616 then
      if b.toNat < 128 then (if b.toNat ≠ 0 ∨ k = 0 then some (v + b.toNat % 128 * 2 ^ (7 * k), r) else none)
      else rdNum (k + 1) (v + b.toNat % 128 * 2 ^ (7 * k)) r
    else none

theorem sh_toNat (k : Nat) : (7 * (k : Int)).toNat = 7 * k := by omega
theorem pow_le64 {s : Nat} (h : s ≤ 64) : (2 : Nat) ^ s * 2 ^ (64 - s) = 18446744073709551616 := by rw [← Nat.pow_add, show s + (64 - s) = 64 by omega]
theorem shl_fit {low k : Nat} (h : low * 2 ^ (7 * k) < 18446744073709551616) : IntKind.u64.wrap ((low : Int) * 2 ^ min (7 * (k : Int)).toNat 64) = ((low * 2 ^ (7 * k) : Nat) : Int) := by
  rw [sh_toNat]
  by_cases hs : 7 * k ≤ 64
  · rw [Nat.min_eq_left hs]
    have e : (low : Int) * 2 ^ (7 * k) = ((low * 2 ^ (7 * k) : Nat) : Int) := by simp
    rw [e, Go.IntWalk.u64_in _ (by omega)]
  · have hz : low = 0 := by
      rcases Nat.eq_zero_or_pos low with h0 | h0
      · exact h0
      · have : 2 ^ 64 ≤ 2 ^ (7 * k) := Nat.pow_le_pow_right (by decide) (by omega)
        have h2 : 1 * 2 ^ (7 * k) ≤ low * 2 ^ (7 * k) := Nat.mul_le_mul_right _ h0
        omega
    subst hz
    simp [IntKind.wrap_u64]
theorem shr_fit {low k : Nat} (h : low * 2 ^ (7 * k) < 18446744073709551616) : (((low * 2 ^ (7 * k) : Nat) : Int) / 2 ^ min (7 * (k : Int)).toNat 64 == (low : Int)) = true := by
  rw [sh_toNat, beq_iff_eq]
  by_cases hs : 7 * k ≤ 64
  · rw [Nat.min_eq_left hs]
    have e : (((low * 2 ^ (7 * k) : Nat) : Int) / 2 ^ (7 * k)) = ((low * 2 ^ (7 * k) / 2 ^ (7 * k) : Nat) : Int) := by simp
    rw [e, Nat.mul_div_cancel _ (Nat.two_pow_pos _)]
  · have hz : low = 0 := by
      rcases Nat.eq_zero_or_pos low with h0 | h0
      · exact h0
      · have : 2 ^ 64 ≤ 2 ^ (7 * k) := Nat.pow_le_pow_right (by decide) (by omega)
        have h2 : 1 * 2 ^ (7 * k) ≤ low * 2 ^ (7 * k) := Nat.mul_le_mul_right _ h0
        omega
    subst hz; simp
theorem sh_no {low k : Nat} (h : ¬ low * 2 ^ (7 * k) < 18446744073709551616) : (IntKind.u64.wrap ((low : Int) * 2 ^ min (7 * (k : Int)).toNat 64) / 2 ^ min (7 * (k : Int)).toNat 64 == (low : Int)) = false := by
  rw [sh_toNat, beq_eq_false_iff_ne, IntKind.wrap_u64]
  by_cases hs : 7 * k ≤ 64
  · rw [Nat.min_eq_left hs]
    have e : ((low : Int) * 2 ^ (7 * k) % 18446744073709551616) / 2 ^ (7 * k) = ((low * 2 ^ (7 * k) % 18446744073709551616 / 2 ^ (7 * k) : Nat) : Int) := by simp
    rw [e]
    intro hc
    have hc' : low * 2 ^ (7 * k) % 18446744073709551616 / 2 ^ (7 * k) = low := by exact_mod_cast hc
    have h1 : low * 2 ^ (7 * k) % 18446744073709551616 < 18446744073709551616 := Nat.mod_lt _ (by decide)
    have h2 : low * 2 ^ (7 * k) % 18446744073709551616 < low * 2 ^ (7 * k) := by omega
    have h3 := (Nat.div_lt_iff_lt_mul (Nat.two_pow_pos (7 * k))).2 h2
    omega
  · rw [Nat.min_eq_right (by omega)]
    intro hc
    have e : ((low : Int) * 2 ^ 64 % 18446744073709551616) = 0 := by omega
    rw [e] at hc
    have : low = 0 := by simp at hc; omega
    subst this; simp at h
theorem or_join {v q k low : Nat} (hq : q = low * 2 ^ (7 * k)) (hv : v < 2 ^ (7 * k)) (hv64 : v < 18446744073709551616) (hq64 : q < 18446744073709551616) : bits BinOp.or IntKind.u64 (v : Int) (q : Int) = ((v + q : Nat) : Int) := by
  rw [u64_or_nat v q hv64 hq64, Nat.or_comm, nat_join (7 * k) q v (by rw [hq]; simp) hv, Nat.add_comm]
theorem sum_lt {v q k low : Nat} (hq : q = low * 2 ^ (7 * k)) (hv : v < 2 ^ (7 * k)) (hv64 : v < 18446744073709551616) (hq64 : q < 18446744073709551616) (hl : low < 128) : v + q < 18446744073709551616 ∧ v + q < 2 ^ (7 * (k + 1)) := by
  have hp : 2 ^ (7 * (k + 1)) = 2 ^ (7 * k) * 128 := by rw [show 7 * (k + 1) = 7 * k + 7 by omega, Nat.pow_add]
  have h2 : low * 2 ^ (7 * k) ≤ 127 * 2 ^ (7 * k) := Nat.mul_le_mul_right _ (by omega)
  refine ⟨?_, by rw [hp]; omega⟩
  by_cases hs : 7 * k ≤ 64
  · have h3 := pow_le64 hs
    have h4 : low < 2 ^ (64 - 7 * k) := by
      rw [← h3, hq, Nat.mul_comm] at hq64
      exact Nat.lt_of_mul_lt_mul_left hq64
    have h5 : (low + 1) * 2 ^ (7 * k) ≤ 2 ^ (64 - 7 * k) * 2 ^ (7 * k) := Nat.mul_le_mul_right _ h4
    rw [Nat.mul_comm] at h3
    rw [h3] at h5
    have h6 : (low + 1) * 2 ^ (7 * k) = low * 2 ^ (7 * k) + 2 ^ (7 * k) := by rw [Nat.add_mul, Nat.one_mul]
    omega
  · have hz : low = 0 := by
      rcases Nat.eq_zero_or_pos low with h0 | h0
      · exact h0
      · have : 2 ^ 64 ≤ 2 ^ (7 * k) := Nat.pow_le_pow_right (by decide) (by omega)
        have h2 : 1 * 2 ^ (7 * k) ≤ low * 2 ^ (7 * k) := Nat.mul_le_mul_right _ h0
        omega
    subst hz; simp at hq; omega

set_option maxRecDepth 100000 in
set_option maxHeartbeats 2000000 in
theorem number_any (cb : Nat) (r : List UInt8) (e a : Int) (w : World) (hc : Cur w cb r e a) :
    Calls Tryd.prog 133 #[.pointer (some ⟨cb, 0, none⟩)] w (Rds cb e a w (fun _ v (y : Nat) => v = .int .u64 (y : Int)) (rdNum 0 0 r)) := by
  go_enter Tryd.func133, Tryd.ntmps133
  go_wp2
  go_loopw [3, 4] (fun vv sh wr => ∃ (k v : Nat) (r' : List UInt8), k + r'.length = r.length ∧ v < 2 ^ (7 * k) ∧ v < 18446744073709551616 ∧ vv = .int .u64 (v : Int) ∧ sh = .int .i64 ((7 * k : Nat) : Int) ∧ rdNum k v r' = rdNum 0 0 r ∧ Cur wr cb r' e a ∧ Gc cb w wr) (fun _ sh _ => 8000000 - (intOf sh).toNat)
  case atStart => exact ⟨0, 0, r, by simp, by simp, by decide, rfl, rfl, rfl, hc, Gc.refl _ _⟩
  case round =>
    obtain ⟨k, v, r', hkr, hv, hv64, rfl, rfl, hrd, hcur, hgc⟩ := hrel
    have HV := hide hv
    have HR := hide hrd
    have HG := hide hgc
    have HCur := hide hcur
    have hrl : r.length ≤ 1000000 := hc.2.1
    have HC := hide hc
    clear hv hrd hgc hcur hc
    cases r' with
    | nil =>
      go_wp2_with fail
      refine (byte_any cb [] e a _ HCur.out).mono ?_
      intro x w1 h
      obtain ⟨rfl, hg⟩ := h.none_ rfl
      exact ⟨rfl, by rw [← HR.out]; exact ⟨rfl, HG.out.trans hg⟩⟩
    | cons b r2 =>
      go_wp2_with fail
      refine (byte_any cb (b :: r2) e a _ HCur.out).mono ?_
      intro x w1 h
      obtain ⟨v1, rfl, rfl, hcur1, hg1⟩ := h.some_ (y := b) (r' := r2) rfl
      have HG1 := hide (HG.out.trans hg1)
      have HC1 := hide hcur1
      obtain ⟨⟨s1, h10, h1s⟩, h1l, h11, h12, h1z, h1j⟩ := hcur1
      clear h hg1 h1s h10 h1z h1l
      have hbl : b.toNat < 256 := b.toNat_lt
      have hand := and127 b
      obtain ⟨low, hlow⟩ : ∃ low, low = b.toNat % 128 := ⟨_, rfl⟩
      rw [← hlow] at hand
      have hl128 : low < 128 := by omega
      have HLow := hide hlow
      clear hlow
      have hsh0 : (0 : Int) ≤ 7 * (k : Int) := by omega
      have hsh1 : 7 * (k : Int) ≤ 7000000 := by simp at hkr; omega
      have hwl : IntKind.u64.wrap (low : Int) = low := Go.IntWalk.u64_in _ (by omega)
      by_cases hfit : low * 2 ^ (7 * k) < 18446744073709551616
      · have hshl := shl_fit hfit
        have hshr := shr_fit hfit
        obtain ⟨q, hq⟩ : ∃ q, q = low * 2 ^ (7 * k) := ⟨_, rfl⟩
        rw [← hq] at hshl hshr hfit
        have hshl2 : IntKind.u64.wrap ((low : Int) * 2 ^ (7 * k)) = (q : Int) := by
          rw [show (low : Int) * 2 ^ (7 * k) = (q : Int) by rw [hq]; simp, Go.IntWalk.u64_in _ (by omega)]
        have hor := or_join hq HV.out hv64 hfit
        obtain ⟨hs64, hs7⟩ := sum_lt hq HV.out hv64 hfit hl128
        have HS7 := hide hs7
        have HQ := hide hq
        clear hs7 hq
        have HStep : Hid (rdNum 0 0 r = if b.toNat < 128 then (if b.toNat ≠ 0 ∨ k = 0 then some (v + q, r2) else none) else rdNum (k + 1) (v + q) r2) := hide (by rw [← HR.out, rdNum, ← HLow.out, ← HQ.out, if_pos hfit])
        clear HR HCur
        go_wp2
        go_region_held3 (fun w' => w'.cell? ⟨cb, 1, none⟩ = some (.int .i64 e) ∧ w'.cell? ⟨cb, 3, none⟩ = some (.int .i64 a) ∧ w'.cell? ⟨cb, 2, none⟩ = some (.int .i64 0)) (first | go_keep | (refine ⟨?_, ?_, ?_⟩ <;> exact hg'.cell (by assumption) (by simp))) (first | (go_at_call 76; refine (unless_yes _ _ _).mono ?_; rintro e w' ⟨rfl, hg'⟩))
        have h13 := hg'.cell h11 (by simp)
        have h14 := hg'.cell h12 (by simp)
        have h15 := hg'.cell h1j (by simp)
        have HG2 := hide (HG1.out.trans (Gr.trans (Gr.drew (Gr.refl w1)) hg').toGc)
        have HC2 := hide (HC1.out.gr (Gr.trans (Gr.drew (Gr.refl w1)) hg'))
        clear hg' h11 h12 h1j HG1 HC1 hshr
        by_cases hb : b.toNat < 128
        · have hb1 : ((b.toNat : Int) < 128) := by omega
          by_cases hz : b.toNat = 0
          · have hb0 : ((b.toNat : Int) != 0) = false := by simp [hz]
            by_cases hk0 : k = 0
            · have hk1 : (7 * (k : Int) == 0) = true := by simp [hk0]
              have HE : Hid (rdNum 0 0 r = some (v + q, r2)) := hide (by rw [HStep.out, if_pos hb, if_pos (.inr hk0)])
              clear HStep hz hb hk0
              go_wp2_with (go_at_call 76; refine (unless_yes _ _ _).mono ?_; rintro e3 w3 ⟨rfl, hg3⟩)
              go_ret
              rw [HE.out]
              exact ⟨_, rfl, rfl, HC2.out.gr hg3, HG2.out.trans hg3.toGc⟩
            · have hk1 : (7 * (k : Int) == 0) = false := by rw [beq_eq_false_iff_ne]; omega
              have HE : Hid (rdNum 0 0 r = none) := hide (by rw [HStep.out, if_pos hb, if_neg (by intro h; rcases h with h | h; exact h hz; exact hk0 h)])
              clear HStep hz hb hk0
              go_wp2_with (go_at_call 76; refine (unless_no _ _ _).mono ?_; rintro e3 w3 ⟨rfl, hg3⟩)
              exact ⟨rfl, by rw [HE.out]; exact ⟨rfl, HG2.out.trans hg3.toGc⟩⟩
          · have hb0 : ((b.toNat : Int) != 0) = true := by rw [bne_iff_ne]; omega
            have HE : Hid (rdNum 0 0 r = some (v + q, r2)) := hide (by rw [HStep.out, if_pos hb, if_pos (.inl hz)])
            clear HStep hz hb
            go_wp2_with (go_at_call 76; refine (unless_yes _ _ _).mono ?_; rintro e3 w3 ⟨rfl, hg3⟩)
            go_ret
            rw [HE.out]
            exact ⟨_, rfl, rfl, HC2.out.gr hg3, HG2.out.trans hg3.toGc⟩
        · have hb1 : ¬ ((b.toNat : Int) < 128) := by omega
          have HE : Hid (rdNum (k + 1) (v + q) r2 = rdNum 0 0 r) := hide (by rw [HStep.out, if_neg hb])
          clear HStep hb
          go_wp2
          go_roundw
          case rel => exact ⟨k + 1, v + q, r2, by simp at hkr; omega, HS7.out, hs64, by go_num, by go_num, HE.out, HC2.out, HG2.out⟩
          case measure => simp [intOf]; omega
      · have hno := sh_no hfit
        have HE : Hid (rdNum 0 0 r = none) := hide (by rw [← HR.out, rdNum, ← HLow.out, if_neg hfit])
        clear HR hfit
        go_wp2
        go_region_with (first | (go_at_call 76; refine (unless_no _ _ _).mono ?_; rintro e w' ⟨rfl, hg'⟩; refine left_region ?_))
        all_goals exact ⟨rfl, by rw [HE.out]; exact ⟨rfl, HG1.out.trans (Gr.trans (Gr.drew (Gr.refl w1)) hg').toGc⟩⟩
end Go.Proofs.YtkgncijcnlfhiaaDoor

namespace Go.Proofs.YtkgncijcnlfhiaaDoor
set_option linter.unusedVariables false
set_option linter.unusedSimpArgs false
open Go.RowKit
attribute [local go_sem ↓] Go.wp_at_zero Go.wp_at_succ

theorem rdNum_lt : ∀ (r : List UInt8) (k v : Nat), v < 2 ^ (7 * k) → v < 18446744073709551616 → ∀ n r', rdNum k v r = some (n, r') → n < 18446744073709551616
  | [], _, _, _, _, _, _, h => by simp [rdNum] at h
  | b :: r, k, v, h1, h2, n, r', h => by
    unfold rdNum at h
    by_cases hf : b.toNat % 128 * 2 ^ (7 * k) < 18446744073709551616
    · rw [if_pos hf] at h
      obtain ⟨s1, s2⟩ := sum_lt (low := b.toNat % 128) (k := k) rfl h1 h2 hf (by omega)
      by_cases hb : b.toNat < 128
      · rw [if_pos hb] at h
        split at h
        · simp only [Option.some.injEq, Prod.mk.injEq] at h; omega
        · cases h
      · rw [if_neg hb] at h
        exact rdNum_lt r _ _ s2 s1 n r' h
    · rw [if_neg hf] at h; cases h

def unzig (v : Nat) : Int := if v % 2 = 1 then -((v / 2 : Nat) : Int) - 1 else ((v / 2 : Nat) : Int)
def rdSigned (r : List UInt8) : Option (Int × List UInt8) := (rdNum 0 0 r).map fun p => (unzig p.1, p.2)
def rdWhole (r : List UInt8) : Option (Int × List UInt8) := match rdNum 0 0 r with
  | some (n, r') => if n ≤ 9223372036854775807 then some ((n : Int), r') else none
  | none => none
def rdText (r : List UInt8) : Option (List UInt8 × List UInt8) := match rdNum 0 0 r with
  | some (n, r') => rdTake n r'
  | none => none

theorem v_and {v : Nat} (h : v < 18446744073709551616) : bits BinOp.and IntKind.u64 (v : Int) 1 = ((v % 2 : Nat) : Int) := by
  have := u64_and_nat v 1 h (by decide)
  rw [Nat.and_one_is_mod] at this; exact this
theorem v_not {v : Nat} (h : v < 18446744073709551616) : bits BinOp.xor IntKind.u64 IntKind.u64.max ((v : Int) / 2) = ((18446744073709551615 - v / 2 : Nat) : Int) := by
  have := u64_xor_nat 18446744073709551615 (v / 2) (by decide) (by omega)
  rw [xor_max64 (by omega)] at this
  rw [← this]; congr 1
theorem v_wrap64 {v : Nat} (h : v < 18446744073709551616) : wrap64 ((18446744073709551615 - v / 2 : Nat) : Int) = -((v / 2 : Nat) : Int) - 1 := by
  unfold wrap64; omega

set_option maxRecDepth 100000 in
set_option maxHeartbeats 1000000 in
theorem signed_read (cb : Nat) (r : List UInt8) (e a : Int) (w : World) (hc : Cur w cb r e a) :
    Calls Tryd.prog 82 #[.pointer (some ⟨cb, 0, none⟩)] w (Rds cb e a w (fun _ v (y : Int) => v = .int .i64 y) (rdSigned r)) := by
  have HC := hide hc
  clear hc
  go_enter Tryd.func82, Tryd.ntmps82
  go_wp2_with fail
  refine (number_any cb r e a _ HC.out).mono ?_
  intro x w1 h
  cases hn : rdNum 0 0 r with
  | none =>
    obtain ⟨rfl, hg⟩ := h.none_ hn
    exact ⟨rfl, by unfold rdSigned; rw [hn]; exact ⟨rfl, hg⟩⟩
  | some p =>
    obtain ⟨n, r'⟩ := p
    obtain ⟨v, rfl, rfl, hcur, hg⟩ := h.some_ hn
    have hlt := rdNum_lt r 0 0 (by simp) (by decide) n r' hn
    have hand := v_and hlt
    have hnot := v_not hlt
    have HE : Hid (rdSigned r = some (unzig n, r')) := hide (by unfold rdSigned; rw [hn]; rfl)
    have H1 := hide hcur
    have H2 := hide hg
    clear h hcur hg hn
    by_cases hodd : n % 2 = 1
    · have HU : Hid (unzig n = -((n / 2 : Nat) : Int) - 1) := hide (by unfold unzig; rw [if_pos hodd])
      have hb1 : (((n % 2 : Nat) : Int) == 1) = true := by rw [hodd]; rfl
      clear hodd
      go_wp2
      go_ret
      rw [HE.out]
      refine ⟨_, rfl, ?_, H1.out, H2.out⟩
      rw [HU.out, ← v_wrap64 hlt]; rfl
    · have HU : Hid (unzig n = ((n / 2 : Nat) : Int)) := hide (by unfold unzig; rw [if_neg hodd])
      have hb1 : (((n % 2 : Nat) : Int) == 1) = false := by rw [beq_eq_false_iff_ne]; omega
      clear hodd
      go_wp2
      go_ret
      rw [HE.out]
      refine ⟨_, rfl, ?_, H1.out, H2.out⟩
      rw [HU.out]; rfl

set_option maxRecDepth 100000 in
set_option maxHeartbeats 1000000 in
theorem whole_read (cb : Nat) (r : List UInt8) (e a : Int) (w : World) (hc : Cur w cb r e a) :
    Calls Tryd.prog 130 #[.pointer (some ⟨cb, 0, none⟩)] w (Rds cb e a w (fun _ v (y : Int) => v = .int .i64 y) (rdWhole r)) := by
  have HC := hide hc
  clear hc
  go_enter Tryd.func130, Tryd.ntmps130
  go_wp2_with fail
  refine (number_any cb r e a _ HC.out).mono ?_
  intro x w1 h
  cases hn : rdNum 0 0 r with
  | none =>
    obtain ⟨rfl, hg⟩ := h.none_ hn
    exact ⟨rfl, by unfold rdWhole; rw [hn]; exact ⟨rfl, hg⟩⟩
  | some p =>
    obtain ⟨n, r'⟩ := p
    obtain ⟨v, rfl, rfl, hcur, hg⟩ := h.some_ hn
    have H1 := hide hcur
    have H2 := hide hg
    obtain ⟨⟨s1, h10, h1s⟩, h1l, h11, h12, h1z, h1j⟩ := hcur
    by_cases hle : n ≤ 9223372036854775807
    · have HE : Hid (rdWhole r = some ((n : Int), r')) := hide (by unfold rdWhole; rw [hn]; simp only [if_pos hle])
      have hd : (n : Int) ≤ 9223372036854775807 := by omega
      have hwr : IntKind.i64.wrap (n : Int) = n := Go.IntWalk.i64_in _ (by omega)
      clear h hg hn hle h10 h1s h1l h1z
      go_wp2_with (go_at_call 76; refine (unless_yes _ _ _).mono ?_; rintro e3 w3 ⟨rfl, hg3⟩)
      go_ret
      rw [HE.out]
      exact ⟨_, rfl, rfl, H1.out.gr hg3, H2.out.trans hg3.toGc⟩
    · have HE : Hid (rdWhole r = none) := hide (by unfold rdWhole; rw [hn]; simp only [if_neg hle])
      have hd : decide (n ≤ 9223372036854775807) = false := by rw [decide_eq_false_iff_not]; omega
      have hd2 : decide ((n : Int) ≤ 9223372036854775807) = false := by rw [decide_eq_false_iff_not]; omega
      clear h hg hn hle h10 h1s h1l h1z
      go_wp2_with (go_at_call 76; refine (unless_no _ _ _).mono ?_; rintro e3 w3 ⟨rfl, hg3⟩)
      exact ⟨rfl, by rw [HE.out]; exact ⟨rfl, H2.out.trans hg3.toGc⟩⟩
end Go.Proofs.YtkgncijcnlfhiaaDoor

namespace Go.Proofs.YtkgncijcnlfhiaaDoor
set_option linter.unusedVariables false
set_option linter.unusedSimpArgs false
open Go.RowKit

theorem below_Gr {w w' : World} (h : Below w.heap.size w w') : Gr w w' := ⟨h.os, h.tape, h.output, h.size, fun k hk _ => h.block k hk⟩
theorem Tryd.cells5 : Tryd.prog.cellsOf 5 = 1 := by kernel_rfl

set_option maxRecDepth 100000 in
set_option maxHeartbeats 2000000 in
theorem clone_any (s : ByteArray) (w : World) (hs : s.size ≤ 1000000) :
    Calls Tryd.prog 166 #[.string s] w fun x w' => x = .returned (.string s) ∧ Gr w w' := by
  by_cases h0 : s.size = 0
  · have h00 : ((s.size : Int) == 0) = true := by rw [h0]; rfl
    have HE : Hid (s = ⟨#[]⟩) := hide (ByteArray.ext (Array.eq_empty_of_size_eq_zero h0))
    clear h0
    go_enter Tryd.func166, Tryd.ntmps166
    go_wp2
    go_ret
    exact ⟨by rw [HE.out]; rfl, Gr.refl _⟩
  · obtain ⟨i0, hi, hz0, hz1, hz2⟩ := info_parts Tryd.info5
    -- the new row, under a name
    obtain ⟨M, hM⟩ : ∃ M, M = madeCells (Value.int .u8 0).cells (((s.size : Nat) : Int).toNat * i0.size) := ⟨_, rfl⟩
    have hMs : M.size = s.size := by rw [hM, size_madeCells, hz1]; simp
    have hmk : ∀ V : World, (Instr.makeSlice 113 (.int .i64 (s.size : Int)) (.int .i64 (s.size : Int))).run Tryd.prog V = .ok (.slice (some ⟨V.heap.size, 0, none⟩) s.size s.size) (V.alloc (.cells M 5)) := by
      intro V
      have h := run_make (P := Tryd.prog) V 113 5 i0 (.int .u8 0) Tryd.underlying113 hi hz0 .i64 .i64 (s.size : Int) (s.size : Int) (by omega) (by omega) (by rw [hz2]; omega) (by omega)
      rw [← hM] at h
      simpa using h
    clear hM
    have hcopy := Go.Lib.run_copy_row_string (P := Tryd.prog) (w.alloc (.cells M 5)) 113 9 3 5 w.heap.size 0 s.size s.size s M 5 Tryd.underlying113 (by rw [hi]; simp [hz1]) (heap_alloc_new w _) (Nat.le_refl _) (by omega)
    obtain ⟨Y, hY⟩ : ∃ Y, Y = (M.toList.take 0 ++ Go.Lib.byteCells s.data.toList ++ M.toList.drop (0 + s.size)).toArray := ⟨_, rfl⟩
    rw [← hY] at hcopy
    have hYl : Y.toList = Go.Lib.byteCells s.data.toList := by
      rw [hY, List.toList_toArray, List.take_zero, List.nil_append, List.drop_of_length_le (by rw [Array.length_toList]; omega), List.append_nil]
    have hYs : Y.size = s.size := by rw [← Array.length_toList, hYl, Go.Lib.byteCells_length, ← Go.Lib.size_eq]
    have hrow : ((w.alloc (.cells M 5)).setRow w.heap.size Y).heap[w.heap.size]? = some (.cells Y 5 (0, 0)) := setRow_heap _ _ M _ 5 (0, 0) (heap_alloc_new w _)
    have hne : s.data.toList ≠ [] := fun e => h0 (by rw [Go.Lib.size_eq, e]; rfl)
    have hstr := Go.Lib.run_unsafeString_row (P := Tryd.prog) ((w.alloc (.cells M 5)).setRow w.heap.size Y) 251 3 9 5 Tryd.underlying251 Tryd.cells5 w.heap.size Y.size (by unfold World.shape?; rw [hrow]) s.data.toList hne (by rw [← Go.Lib.size_eq]; omega) (by rw [← Go.Lib.size_eq]; omega)
      (fun j x hx => Go.Lib.cells_of_row hrow Y.size j _ (by rw [List.take_of_length_le (by rw [Array.length_toList]; exact Nat.le_refl _), hYl]; simp [Go.Lib.byteCells, hx]))
    rw [← Go.Lib.size_eq] at hstr
    clear hY
    have h00 : ((s.size : Int) == 0) = false := by rw [beq_eq_false_iff_ne]; omega
    have hpos : 0 < s.size := by omega
    go_enter Tryd.func166, Tryd.ntmps166
    go_wp2
    go_ret
    have b1 : Below w.heap.size w (w.alloc (.cells M 5)) := (Below.refl _ w).alloc (Nat.le_refl _) _
    have b2 : Below w.heap.size (w.alloc (.cells M 5)) ((w.alloc (.cells M 5)).setRow w.heap.size Y) := ⟨rfl, rfl, rfl, by simp, fun k hk => setRow_other _ _ _ _ (by omega)⟩
    exact ⟨rfl, below_Gr (Go.Lib.below_freeze (b1.trans b2) (p := ⟨w.heap.size, 0, none⟩) (Nat.le_refl _) _)⟩

set_option maxRecDepth 100000 in
set_option maxHeartbeats 1000000 in
theorem text_read (cb : Nat) (r : List UInt8) (e a : Int) (w : World) (hc : Cur w cb r e a) :
    Calls Tryd.prog 140 #[.pointer (some ⟨cb, 0, none⟩)] w (Rds cb e a w (fun _ v (y : List UInt8) => v = .string ⟨y.toArray⟩) (rdText r)) := by
  have HC := hide hc
  clear hc
  go_enter Tryd.func140, Tryd.ntmps140
  go_wp2_with fail
  refine (number_any cb r e a _ HC.out).mono ?_
  intro x w1 h
  cases hn : rdNum 0 0 r with
  | none =>
    obtain ⟨rfl, hg⟩ := h.none_ hn
    exact ⟨rfl, by unfold rdText; rw [hn]; exact ⟨rfl, hg⟩⟩
  | some p =>
    obtain ⟨n, r'⟩ := p
    obtain ⟨v, rfl, rfl, hcur, hg⟩ := h.some_ hn
    have hlt := rdNum_lt r 0 0 (by simp) (by decide) n r' hn
    have HE : Hid (rdText r = rdTake n r') := hide (by unfold rdText; rw [hn])
    have H1 := hide hcur
    have H2 := hide hg
    clear h hcur hg hn
    go_wp2_with fail
    refine (take_any cb r' e a n hlt _ H1.out).mono ?_
    intro x w2 h
    cases ht : rdTake n r' with
    | none =>
      obtain ⟨rfl, hg⟩ := h.none_ ht
      exact ⟨rfl, by rw [HE.out, ht]; exact ⟨rfl, H2.out.trans hg⟩⟩
    | some q =>
      obtain ⟨y, r2⟩ := q
      obtain ⟨v, rfl, rfl, hcur, hg⟩ := h.some_ ht
      have HE2 : Hid (rdText r = some (y, r2)) := hide (by rw [HE.out, ht])
      have hyl : (⟨y.toArray⟩ : ByteArray).size ≤ 1000000 := by
        have h6 := H1.out.2.1
        unfold rdTake at ht
        split at ht
        · simp only [Option.some.injEq, Prod.mk.injEq] at ht
          obtain ⟨rfl, _⟩ := ht
          show (List.toArray _).size ≤ _
          simp; omega
        · cases ht
      have H3 := hide hcur
      have H4 := hide (H2.out.trans hg)
      clear h hcur hg ht
      go_wp2_with fail
      have hCl : Calls Tryd.prog 158 #[.string ⟨y.toArray⟩] w2 fun x w' => x = .returned (.string ⟨y.toArray⟩) ∧ Gr w2 w' := by
        go_enter Tryd.func158, Tryd.ntmps158
        go_wp2_with (go_at_call 166; refine (clone_any _ _ hyl).mono ?_; rintro x w3 ⟨rfl, hg3⟩)
        go_ret
        exact ⟨rfl, hg3⟩
      refine hCl.mono ?_
      rintro x w3 ⟨rfl, hg3⟩
      go_wp2
      go_ret
      rw [HE2.out]
      exact ⟨_, rfl, rfl, H3.out.gr hg3, H4.out.trans hg3.toGc⟩
end Go.Proofs.YtkgncijcnlfhiaaDoor

