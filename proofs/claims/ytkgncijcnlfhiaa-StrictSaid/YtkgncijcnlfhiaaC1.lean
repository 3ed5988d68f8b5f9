import Derived.Test.YtkgncijcnlfhiaaB2
namespace Go.Proofs.Ytkgncijcnlfhiaa
set_option linter.unusedVariables false
set_option linter.unusedSimpArgs false
open Go.RowKit

def crcBit (c : Nat) : Nat := if c % 2 = 1 then (c / 2) ^^^ 3988292384 else c / 2
def crcBits : Nat → Nat → Nat
  | 0, c => c
  | k + 1, c => crcBit (crcBits k c)
def crcByte (c : Nat) (b : UInt8) : Nat := crcBits 8 (c ^^^ b.toNat)
def crcF (l : List UInt8) : Nat := l.foldl crcByte 4294967295
def crc (l : List UInt8) : Nat := 4294967295 - crcF l

theorem crcBit_lt {c : Nat} (h : c < 4294967296) : crcBit c < 4294967296 := by
  unfold crcBit; split
  · exact Nat.xor_lt_two_pow (n := 32) (by omega) (by decide)
  · omega
theorem crcBits_lt {c : Nat} (h : c < 4294967296) : ∀ k, crcBits k c < 4294967296
  | 0 => h
  | k + 1 => crcBit_lt (crcBits_lt h k)
theorem xor_byte_lt {c : Nat} (h : c < 4294967296) (b : UInt8) : c ^^^ b.toNat < 4294967296 :=
  Nat.xor_lt_two_pow (n := 32) h (by have := b.toNat_lt; omega)
theorem crcByte_lt {c : Nat} (h : c < 4294967296) (b : UInt8) : crcByte c b < 4294967296 := crcBits_lt (xor_byte_lt h b) 8
theorem foldl_lt : ∀ (l : List UInt8) (c : Nat), c < 4294967296 → l.foldl crcByte c < 4294967296
  | [], _, h => h
  | b :: l, _, h => foldl_lt l _ (crcByte_lt h b)
theorem crcF_lt (l : List UInt8) : crcF l < 4294967296 := foldl_lt l _ (by decide)
theorem crc_lt (l : List UInt8) : crc l < 4294967296 := by unfold crc; omega
theorem crcF_snoc (l : List UInt8) (b : UInt8) : crcF (l ++ [b]) = crcByte (crcF l) b := by unfold crcF; rw [List.foldl_append]; rfl
theorem xor_max32 {x : Nat} (hx : x < 4294967296) : 4294967295 ^^^ x = 4294967295 - x := by
  have h := congrArg BitVec.toNat (BitVec.allOnes_xor (x := BitVec.ofNat 32 x))
  rw [BitVec.toNat_xor, BitVec.toNat_allOnes, BitVec.toNat_ofNat, BitVec.toNat_not, BitVec.toNat_ofNat, Nat.mod_eq_of_lt hx] at h
  exact h

theorem take_snoc (s : ByteArray) (k : Nat) (h : k < s.size) : s.data.toList.take (k + 1) = s.data.toList.take k ++ [s[k]] := by
  rw [List.take_succ_eq_append_getElem (by simpa using h)]; rfl

theorem c_and {c : Nat} (h : c < 4294967296) : bits BinOp.and IntKind.u32 (c : Int) 1 = ((c % 2 : Nat) : Int) := by
  have := u32_and_nat c 1 h (by decide)
  rw [Nat.and_one_is_mod] at this; exact this
theorem c_xor {c : Nat} (h : c < 4294967296) : bits BinOp.xor IntKind.u32 ((c : Int) / 2) 3988292384 = ((c / 2 ^^^ 3988292384 : Nat) : Int) := by
  have := u32_xor_nat (c / 2) 3988292384 (by omega) (by decide)
  rw [← this]; congr 1
theorem c_xorb {c : Nat} (h : c < 4294967296) (b : UInt8) : bits BinOp.xor IntKind.u32 (c : Int) (b.toNat : Int) = ((c ^^^ b.toNat : Nat) : Int) :=
  u32_xor_nat c b.toNat h (by have := b.toNat_lt; omega)
theorem c_not {c : Nat} (h : c < 4294967296) : bits BinOp.xor IntKind.u32 IntKind.u32.max (c : Int) = ((4294967295 - c : Nat) : Int) := by
  have := u32_xor_nat 4294967295 c (by decide) h
  rw [xor_max32 h] at this; exact this

set_option maxRecDepth 100000 in
set_option maxHeartbeats 1000000 in
theorem check_any (s : ByteArray) (w : World) (hs : s.size ≤ maxLen) :
    Calls Try.prog 54 #[.string s] w fun x w' => x = .returned (.int .u32 (crc s.data.toList)) ∧ w' = w := by
  unfold maxLen at hs
  go_enter Try.func54, Try.ntmps54
  go_wp2
  go_loop [3, 7] (fun c i => ∃ k : Nat, k ≤ s.size ∧ i = .int .i64 k ∧ c = .int .u32 (crcF (s.data.toList.take k))) (fun _ i => s.size - (intOf i).toNat)
  case atStart => exact ⟨0, Nat.zero_le _, rfl, rfl⟩
  case round =>
    obtain ⟨k, hk, rfl, rfl⟩ := hrel
    have hlt0 := crcF_lt (s.data.toList.take k)
    by_cases hlt : k < s.size
    · have HS := hide (crcF_snoc (s.data.toList.take k) s[k])
      have HT := hide (take_snoc s k hlt)
      generalize hb : s[k] = b at HS HT
      have hxb := c_xorb hlt0 b
      generalize crcF (s.data.toList.take k) = c at hlt0 HS hxb
      have hx1 := xor_byte_lt hlt0 b
      have HB := hide hb
      go_wp2
      go_loop [3, 16] (fun d j => ∃ m : Nat, m ≤ 8 ∧ j = .int .i64 m ∧ d = .int .u32 (crcBits m (c ^^^ b.toNat))) (fun _ j => 8 - (intOf j).toNat)
      case atStart =>
        have hbl := b.toNat_lt
        exact ⟨0, Nat.zero_le _, rfl, by rw [show ((b.toNat : Int) % 4294967296) = b.toNat from by omega, hxb]; rfl⟩
      case round =>
        obtain ⟨m, hm, rfl, rfl⟩ := hrel
        have hlt2 := crcBits_lt hx1 m
        by_cases hm8 : m < 8
        · have HN : Hid (crcBits (m + 1) (c ^^^ b.toNat) = crcBit (crcBits m (c ^^^ b.toNat))) := hide rfl
          generalize crcBits m (c ^^^ b.toNat) = d at hlt2 HN
          have hand := c_and hlt2
          have hxor := c_xor hlt2
          by_cases hodd : d % 2 = 1
          · have HC : Hid (crcBit d = d / 2 ^^^ 3988292384) := hide (by unfold crcBit; rw [if_pos hodd])
            have hb1 : (((d % 2 : Nat) : Int) == 1) = true := by rw [hodd]; rfl
            clear hodd
            go_wp2
            go_round
            case rel => exact ⟨m + 1, by omega, by go_num, by rw [HN.out, HC.out]⟩
            case measure => simp [intOf]; omega
          · have HC : Hid (crcBit d = d / 2) := hide (by unfold crcBit; rw [if_neg hodd])
            have hb1 : (((d % 2 : Nat) : Int) == 1) = false := by rw [beq_eq_false_iff_ne]; omega
            clear hodd
            go_wp2
            go_round
            case rel => exact ⟨m + 1, by omega, by go_num, by rw [HN.out, HC.out]; go_num⟩
            case measure => simp [intOf]; omega
        · have h8 : m = 8 := by omega
          subst h8
          go_wp2
          go_round
          case rel => exact ⟨k + 1, by omega, by go_num, by rw [HT.out, HS.out]; rfl⟩
          case measure => simp [intOf]; omega
    · have hnot := c_not hlt0
      have HE : Hid (crc s.data.toList = 4294967295 - crcF (s.data.toList.take k)) := hide (by unfold crc; rw [List.take_of_length_le (by simp; omega)])
      generalize crcF (s.data.toList.take k) = c at hlt0 hnot HE
      go_wp2
      go_ret
      exact ⟨by rw [HE.out]; rfl, rfl⟩
end Go.Proofs.Ytkgncijcnlfhiaa
