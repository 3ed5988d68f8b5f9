import Derived.Test.YtkgncijcnlfhiaaT2
namespace Go.Proofs.Ytkgncijcnlfhiaa
set_option linter.unusedVariables false
set_option linter.unusedSimpArgs false
open Go.RowKit
attribute [local go_sem ↓] Go.wp_at_zero Go.wp_at_succ

theorem rdNum_lt : ∀ (r : List UInt8) (k v : Nat), v < 2 ^ (7 * k) → v < 18446744073709551616 → ∀ n r', rdNum k v r = some (n, r') → n < 18446744073709551616
  | [], _, _, _, _, _, _, h => by simp [rdNum] at h
  | b :: r, k, v, h1, h2, n, r', h => by
    unfold rdNum at h
    by_cases hf : b.toNat % 128 * 2 ^ (7 * k) < 18446744073709551616
    · rw [if_pos hf] at h
      obtain ⟨s1, s2⟩ := sum_lt (low := b.toNat % 128) (k := k) rfl h1 h2 hf (by omega)
      by_cases hb : b.toNat < 128
      · rw [if_pos hb] at h
        split at h
        · simp only [Option.some.injEq, Prod.mk.injEq] at h; omega
        · cases h
      · rw [if_neg hb] at h
        exact rdNum_lt r _ _ s2 s1 n r' h
    · rw [if_neg hf] at h; cases h

def unzig (v : Nat) : Int := if v % 2 = 1 then -((v / 2 : Nat) : Int) - 1 else ((v / 2 : Nat) : Int)
def rdSigned (r : List UInt8) : Option (Int × List UInt8) := (rdNum 0 0 r).map fun p => (unzig p.1, p.2)
def rdWhole (r : List UInt8) : Option (Int × List UInt8) := match rdNum 0 0 r with
  | some (n, r') => if n ≤ 9223372036854775807 then some ((n : Int), r') else none
  | none => none
def rdText (r : List UInt8) : Option (List UInt8 × List UInt8) := match rdNum 0 0 r with
  | some (n, r') => rdTake n r'
  | none => none

theorem v_and {v : Nat} (h : v < 18446744073709551616) : bits BinOp.and IntKind.u64 (v : Int) 1 = ((v % 2 : Nat) : Int) := by
  have := u64_and_nat v 1 h (by decide)
  rw [Nat.and_one_is_mod] at this; exact this
theorem v_not {v : Nat} (h : v < 18446744073709551616) : bits BinOp.xor IntKind.u64 IntKind.u64.max ((v : Int) / 2) = ((18446744073709551615 - v / 2 : Nat) : Int) := by
  have := u64_xor_nat 18446744073709551615 (v / 2) (by decide) (by omega)
  rw [xor_max64 (by omega)] at this
  rw [← this]; congr 1
theorem v_wrap64 {v : Nat} (h : v < 18446744073709551616) : wrap64 ((18446744073709551615 - v / 2 : Nat) : Int) = -((v / 2 : Nat) : Int) - 1 := by
  unfold wrap64; omega

set_option maxRecDepth 100000 in
set_option maxHeartbeats 1000000 in
theorem signed_read (cb : Nat) (r : List UInt8) (e a : Int) (w : World) (hc : Cur w cb r e a) :
    Calls Try.prog 42 #[.pointer (some ⟨cb, 0, none⟩)] w (Rds cb e a w (fun _ v (y : Int) => v = .int .i64 y) (rdSigned r)) := by
  have HC := hide hc
  clear hc
  go_enter Try.func42, Try.ntmps42
  go_wp2_with fail
  refine (number_any cb r e a _ HC.out).mono ?_
  intro x w1 h
  cases hn : rdNum 0 0 r with
  | none =>
    obtain ⟨rfl, hg⟩ := h.none_ hn
    exact ⟨rfl, by unfold rdSigned; rw [hn]; exact ⟨rfl, hg⟩⟩
  | some p =>
    obtain ⟨n, r'⟩ := p
    obtain ⟨v, rfl, rfl, hcur, hg⟩ := h.some_ hn
    have hlt := rdNum_lt r 0 0 (by simp) (by decide) n r' hn
    have hand := v_and hlt
    have hnot := v_not hlt
    have HE : Hid (rdSigned r = some (unzig n, r')) := hide (by unfold rdSigned; rw [hn]; rfl)
    have H1 := hide hcur
    have H2 := hide hg
    clear h hcur hg hn
    by_cases hodd : n % 2 = 1
    · have HU : Hid (unzig n = -((n / 2 : Nat) : Int) - 1) := hide (by unfold unzig; rw [if_pos hodd])
      have hb1 : (((n % 2 : Nat) : Int) == 1) = true := by rw [hodd]; rfl
      clear hodd
      go_wp2
      go_ret
      rw [HE.out]
      refine ⟨_, rfl, ?_, H1.out, H2.out⟩
      rw [HU.out, ← v_wrap64 hlt]; rfl
    · have HU : Hid (unzig n = ((n / 2 : Nat) : Int)) := hide (by unfold unzig; rw [if_neg hodd])
      have hb1 : (((n % 2 : Nat) : Int) == 1) = false := by rw [beq_eq_false_iff_ne]; omega
      clear hodd
      go_wp2
      go_ret
      rw [HE.out]
      refine ⟨_, rfl, ?_, H1.out, H2.out⟩
      rw [HU.out]; rfl

set_option maxRecDepth 100000 in
set_option maxHeartbeats 1000000 in
theorem whole_read (cb : Nat) (r : List UInt8) (e a : Int) (w : World) (hc : Cur w cb r e a) :
    Calls Try.prog 63 #[.pointer (some ⟨cb, 0, none⟩)] w (Rds cb e a w (fun _ v (y : Int) => v = .int .i64 y) (rdWhole r)) := by
  have HC := hide hc
  clear hc
  go_enter Try.func63, Try.ntmps63
  go_wp2_with fail
  refine (number_any cb r e a _ HC.out).mono ?_
  intro x w1 h
  cases hn : rdNum 0 0 r with
  | none =>
    obtain ⟨rfl, hg⟩ := h.none_ hn
    exact ⟨rfl, by unfold rdWhole; rw [hn]; exact ⟨rfl, hg⟩⟩
  | some p =>
    obtain ⟨n, r'⟩ := p
    obtain ⟨v, rfl, rfl, hcur, hg⟩ := h.some_ hn
    have H1 := hide hcur
    have H2 := hide hg
    obtain ⟨⟨s1, h10, h1s⟩, h1l, h11, h12, h1z, h1j⟩ := hcur
    by_cases hle : n ≤ 9223372036854775807
    · have HE : Hid (rdWhole r = some ((n : Int), r')) := hide (by unfold rdWhole; rw [hn]; simp only [if_pos hle])
      have hd : (n : Int) ≤ 9223372036854775807 := by omega
      have hwr : IntKind.i64.wrap (n : Int) = n := Go.IntWalk.i64_in _ (by omega)
      clear h hg hn hle h10 h1s h1l h1z
      go_wp2_with (go_at_call 36; refine (unless_yes _ _ _).mono ?_; rintro e3 w3 ⟨rfl, hg3⟩)
      go_ret
      rw [HE.out]
      exact ⟨_, rfl, rfl, H1.out.gr hg3, H2.out.trans hg3.toGc⟩
    · have HE : Hid (rdWhole r = none) := hide (by unfold rdWhole; rw [hn]; simp only [if_neg hle])
      have hd : decide (n ≤ 9223372036854775807) = false := by rw [decide_eq_false_iff_not]; omega
      have hd2 : decide ((n : Int) ≤ 9223372036854775807) = false := by rw [decide_eq_false_iff_not]; omega
      clear h hg hn hle h10 h1s h1l h1z
      go_wp2_with (go_at_call 36; refine (unless_no _ _ _).mono ?_; rintro e3 w3 ⟨rfl, hg3⟩)
      exact ⟨rfl, by rw [HE.out]; exact ⟨rfl, H2.out.trans hg3.toGc⟩⟩
end Go.Proofs.Ytkgncijcnlfhiaa
