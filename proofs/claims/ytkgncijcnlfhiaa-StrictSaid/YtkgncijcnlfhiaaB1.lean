import Derived.Test.YtkgncijcnlfhiaaB0
namespace Go.Proofs.Ytkgncijcnlfhiaa
set_option linter.unusedVariables false
set_option linter.unusedSimpArgs false
open Go.RowKit

theorem byte_small {q : Nat} (h : q < 128) : (q : Int) = (UInt8.ofNat q).toNat := by simp [UInt8.toNat_ofNat']; omega

theorem or128 : ∀ a : Fin 256, a.val ||| 128 = a.val % 128 + 128 := by decide +kernel
theorem byte_big (q : Nat) : bits BinOp.or IntKind.u8 ((q : Int) % 256) 128 = (UInt8.ofNat (q % 128 + 128)).toNat := by
  have h := u8_or_nat (q % 256) 128 (by omega) (by omega)
  have h2 := or128 ⟨q % 256, by omega⟩
  simp only at h2
  rw [h2] at h
  rw [show ((q : Int) % 256) = ((q % 256 : Nat) : Int) by omega, show ((128 : Int)) = ((128 : Nat) : Int) by rfl, h]
  simp [UInt8.toNat_ofNat']; omega
theorem numF_len : ∀ k q : Nat, (numF k q).length ≤ k + 1 ∧ 1 ≤ (numF k q).length
  | 0, q => by simp [numF]
  | k + 1, q => by
    have := numF_len k (q / 128)
    unfold numF; split
    · simp
    · simp; omega
theorem num_len (q : Nat) : (num q).length ≤ 11 := (numF_len 10 q).1
theorem numF_small {k q : Nat} (h : q < 128) : numF k q = [UInt8.ofNat q] := by cases k <;> simp [numF, h]
theorem numF_big {k q : Nat} (h : ¬ q < 128) : numF (k + 1) q = UInt8.ofNat (q % 128 + 128) :: numF k (q / 128) := by simp [numF, h]

set_option maxRecDepth 100000 in
set_option maxHeartbeats 1000000 in
theorem appendNumber_any (base : Nat) (v : Value) (l : List UInt8) (n : Nat) (w : World) (hn : n < 18446744073709551616) (hown : w.ownsRow base 5 1 v l.length (bc l)) (hlen : l.length ≤ 10000000) (hb : base ≤ w.heap.size) :
    Calls Try.prog 53 #[v, .int .u64 n] w fun x w' => ∃ v', x = .returned v' ∧ App base w v w' v' (l ++ num n) := by
  go_enter Try.func53, Try.ntmps53
  go_wp2
  go_loopw [0, 1] (fun vo m wr => ∃ (k q : Nat) (l' : List UInt8), k ≤ 10 ∧ q < 2 ^ (7 * k + 1) ∧ q < 18446744073709551616 ∧ m = .int .u64 q ∧ l' ++ numF k q = l ++ num n ∧ l'.length + k = l.length + 10 ∧ App base w v wr vo l') (fun _ m _ => (intOf m).toNat)
  case atStart => exact ⟨10, n, l, Nat.le_refl _, by omega, hn, rfl, rfl, rfl, App.refl hown⟩
  case round =>
    obtain ⟨k, q, l', hk, hq, hq64, rfl, hl', hll, happ⟩ := hrel
    have HL := hide hl'
    have HLL := hide hll
    have HQ := hide hq
    clear hl' hll hq
    by_cases hlt : q < 128
    · go_wp2_with (at_builtin; refine wpList_append_byte _ rfl _ _ rfl base _ l' rfl happ.own (UInt8.ofNat q) _ (by exact byte_small hlt) _ rfl rfl (by have := HLL.out; omega) (Nat.le_trans hb happ.frm.size) ?_; intro v1 w1 happ1)
      go_ret
      refine ⟨v1, rfl, happ.trans ?_⟩
      rw [← HL.out, numF_small hlt]
      exact happ1
    · go_wp2_with (at_builtin; refine wpList_append_byte _ rfl _ _ rfl base _ l' rfl happ.own (UInt8.ofNat (q % 128 + 128)) _ (by exact byte_big q) _ rfl rfl (by have := HLL.out; omega) (Nat.le_trans hb happ.frm.size) ?_; intro v1 w1 happ1)
      have hq := HQ.out
      obtain ⟨k', rfl⟩ : ∃ k', k = k' + 1 := ⟨k - 1, by cases k with | zero => simp at hq; omega | succ k => rfl⟩
      refine ⟨⟨k', q / 128, l' ++ [UInt8.ofNat (q % 128 + 128)], by omega, ?_, by omega, by go_num, ?_, ?_, happ.trans happ1⟩, by simp [intOf]; omega⟩
      · rw [Nat.div_lt_iff_lt_mul (by decide)]
        rw [show 2 ^ (7 * k' + 1) * 128 = 2 ^ (7 * (k' + 1) + 1) by rw [show 7 * (k' + 1) + 1 = (7 * k' + 1) + 7 by omega, Nat.pow_add _ _ 7]]; exact hq
      · rw [← HL.out, numF_big hlt, List.append_assoc]; rfl
      · have := HLL.out; simp; omega

theorem appendWhole_any (base : Nat) (v : Value) (l : List UInt8) (n : Nat) (w : World) (hn : n < 9223372036854775808) (hown : w.ownsRow base 5 1 v l.length (bc l)) (hlen : l.length ≤ 10000000) (hb : base ≤ w.heap.size) :
    Calls Try.prog 55 #[v, .int .i64 n] w fun x w' => ∃ v', x = .returned v' ∧ App base w v w' v' (l ++ num n) := by
  go_enter Try.func55, Try.ntmps55
  go_wp2_with (go_at_call 53; refine (appendNumber_any base _ l n _ (by omega) hown hlen hb).mono ?_; rintro e w1 ⟨v1, rfl, happ⟩)
  go_ret
  exact ⟨v1, rfl, happ⟩

def zig (v : Int) : Nat := if v < 0 then (-2 * v - 1).toNat else (2 * v).toNat
theorem zig_lt {n : Int} (h0 : -9223372036854775808 ≤ n) (h1 : n ≤ 9223372036854775807) : zig n < 18446744073709551616 := by unfold zig; split <;> omega
theorem xor_max64 {x : Nat} (hx : x < 18446744073709551616) : 18446744073709551615 ^^^ x = 18446744073709551615 - x := by
  have h := congrArg BitVec.toNat (BitVec.allOnes_xor (x := BitVec.ofNat 64 x))
  rw [BitVec.toNat_xor, BitVec.toNat_allOnes, BitVec.toNat_ofNat, BitVec.toNat_not, BitVec.toNat_ofNat, Nat.mod_eq_of_lt hx] at h
  exact h
theorem zig_neg {n : Int} (h0 : -9223372036854775808 ≤ n) (h : n < 0) :
    bits BinOp.xor IntKind.u64 IntKind.u64.max (IntKind.u64.wrap (IntKind.u64.wrap n * 2)) = (zig n : Int) := by
  have e1 : IntKind.u64.wrap (IntKind.u64.wrap n * 2) = ((2 * n + 18446744073709551616).toNat : Int) := by
    rw [IntKind.wrap_u64, IntKind.wrap_u64]; omega
  rw [e1, show IntKind.u64.max = ((18446744073709551615 : Nat) : Int) by rfl, u64_xor_nat _ _ (by omega) (by omega), xor_max64 (by omega)]
  unfold zig; rw [if_pos h]; omega
theorem zig_pos {n : Int} (h : ¬ n < 0) : n * 2 = (zig n : Int) := by unfold zig; rw [if_neg h]; omega

theorem appendSigned_any (base : Nat) (v : Value) (l : List UInt8) (n : Int) (w : World) (h0 : -9223372036854775808 ≤ n) (h1 : n ≤ 9223372036854775807) (hown : w.ownsRow base 5 1 v l.length (bc l)) (hlen : l.length ≤ 10000000) (hb : base ≤ w.heap.size) :
    Calls Try.prog 29 #[v, .int .i64 n] w fun x w' => ∃ v', x = .returned v' ∧ App base w v w' v' (l ++ num (zig n)) := by
  by_cases hneg : n < 0
  · go_enter Try.func29, Try.ntmps29
    go_wp2_with fail
    rw [zig_neg h0 hneg]
    refine (appendNumber_any base _ l (zig n) _ (zig_lt h0 h1) hown hlen hb).mono ?_
    rintro e w1 ⟨v1, rfl, happ⟩
    go_wp2
    go_ret
    exact ⟨v1, rfl, happ⟩
  · go_enter Try.func29, Try.ntmps29
    go_wp2_with fail
    rw [zig_pos (by omega)]
    refine (appendNumber_any base _ l (zig n) _ (zig_lt h0 h1) hown hlen hb).mono ?_
    rintro e w1 ⟨v1, rfl, happ⟩
    go_wp2
    go_ret
    exact ⟨v1, rfl, happ⟩
end Go.Proofs.Ytkgncijcnlfhiaa
