import Derived.Test.YtkgncijcnlfhiabGreatB2
import Derived.Test.YtkgncijcnlfhiabGreatW3
namespace Go.Proofs.YtkgncijcnlfhiabGreat
set_option linter.unusedVariables false
set_option linter.unusedSimpArgs false
open Go.RowKit

def crcBit (c : Nat) : Nat := if c % 2 = 1 then (c / 2) ^^^ 3988292384 else c / 2
def crcBits : Nat → Nat → Nat
  | 0, c => c
  | k + 1, c => crcBit (crcBits k c)
def crcByte (c : Nat) (b : UInt8) : Nat := crcBits 8 (c ^^^ b.toNat)
def crcF (l : List UInt8) : Nat := l.foldl crcByte 4294967295
def crc (l : List UInt8) : Nat := 4294967295 - crcF l

theorem crcBit_lt {c : Nat} (h : c < 4294967296) : crcBit c < 4294967296 := by
  unfold crcBit; split
  · exact Nat.xor_lt_two_pow (n := 32) (by omega) (by decide)
  · omega
theorem crcBits_lt {c : Nat} (h : c < 4294967296) : ∀ k, crcBits k c < 4294967296
  | 0 => h
  | k + 1 => crcBit_lt (crcBits_lt h k)
theorem xor_byte_lt {c : Nat} (h : c < 4294967296) (b : UInt8) : c ^^^ b.toNat < 4294967296 :=
  Nat.xor_lt_two_pow (n := 32) h (by have := b.toNat_lt; omega)
theorem crcByte_lt {c : Nat} (h : c < 4294967296) (b : UInt8) : crcByte c b < 4294967296 := crcBits_lt (xor_byte_lt h b) 8
theorem foldl_lt : ∀ (l : List UInt8) (c : Nat), c < 4294967296 → l.foldl crcByte c < 4294967296
  | [], _, h => h
  | b :: l, _, h => foldl_lt l _ (crcByte_lt h b)
theorem crcF_lt (l : List UInt8) : crcF l < 4294967296 := foldl_lt l _ (by decide)
theorem crc_lt (l : List UInt8) : crc l < 4294967296 := by unfold crc; omega
theorem crcF_snoc (l : List UInt8) (b : UInt8) : crcF (l ++ [b]) = crcByte (crcF l) b := by unfold crcF; rw [List.foldl_append]; rfl
theorem xor_max32 {x : Nat} (hx : x < 4294967296) : 4294967295 ^^^ x = 4294967295 - x := by
  have h := congrArg BitVec.toNat (BitVec.allOnes_xor (x := BitVec.ofNat 32 x))
  rw [BitVec.toNat_xor, BitVec.toNat_allOnes, BitVec.toNat_ofNat, BitVec.toNat_not, BitVec.toNat_ofNat, Nat.mod_eq_of_lt hx] at h
  exact h

theorem take_snoc (s : ByteArray) (k : Nat) (h : k < s.size) : s.data.toList.take (k + 1) = s.data.toList.take k ++ [s[k]] := by
  rw [List.take_succ_eq_append_getElem (by simpa using h)]; rfl

theorem c_and {c : Nat} (h : c < 4294967296) : bits BinOp.and IntKind.u32 (c : Int) 1 = ((c % 2 : Nat) : Int) := by
  have := u32_and_nat c 1 h (by decide)
  rw [Nat.and_one_is_mod] at this; exact this
theorem c_xor {c : Nat} (h : c < 4294967296) : bits BinOp.xor IntKind.u32 ((c : Int) / 2) 3988292384 = ((c / 2 ^^^ 3988292384 : Nat) : Int) := by
  have := u32_xor_nat (c / 2) 3988292384 (by omega) (by decide)
  rw [← this]; congr 1
theorem c_xorb {c : Nat} (h : c < 4294967296) (b : UInt8) : bits BinOp.xor IntKind.u32 (c : Int) (b.toNat : Int) = ((c ^^^ b.toNat : Nat) : Int) :=
  u32_xor_nat c b.toNat h (by have := b.toNat_lt; omega)
theorem c_not {c : Nat} (h : c < 4294967296) : bits BinOp.xor IntKind.u32 IntKind.u32.max (c : Int) = ((4294967295 - c : Nat) : Int) := by
  have := u32_xor_nat 4294967295 c (by decide) h
  rw [xor_max32 h] at this; exact this

set_option maxRecDepth 100000 in
set_option maxHeartbeats 1000000 in
theorem check_any (s : ByteArray) (w : World) (hs : s.size ≤ maxLen) :
    Calls Tryz.prog 63 #[.string s] w fun x w' => x = .returned (.int .u32 (crc s.data.toList)) ∧ w' = w := by
  unfold maxLen at hs
  go_enter Tryz.func63, Tryz.ntmps63
  go_wp2
  go_loop [3, 7] (fun c i => ∃ k : Nat, k ≤ s.size ∧ i = .int .i64 k ∧ c = .int .u32 (crcF (s.data.toList.take k))) (fun _ i => s.size - (intOf i).toNat)
  case atStart => exact ⟨0, Nat.zero_le _, rfl, rfl⟩
  case round =>
    obtain ⟨k, hk, rfl, rfl⟩ := hrel
    have hlt0 := crcF_lt (s.data.toList.take k)
    by_cases hlt : k < s.size
    · have HS := hide (crcF_snoc (s.data.toList.take k) s[k])
      have HT := hide (take_snoc s k hlt)
      generalize hb : s[k] = b at HS HT
      have hxb := c_xorb hlt0 b
      generalize crcF (s.data.toList.take k) = c at hlt0 HS hxb
      have hx1 := xor_byte_lt hlt0 b
      have HB := hide hb
      go_wp2
      go_loop [3, 16] (fun d j => ∃ m : Nat, m ≤ 8 ∧ j = .int .i64 m ∧ d = .int .u32 (crcBits m (c ^^^ b.toNat))) (fun _ j => 8 - (intOf j).toNat)
      case atStart =>
        have hbl := b.toNat_lt
        exact ⟨0, Nat.zero_le _, rfl, by rw [show ((b.toNat : Int) % 4294967296) = b.toNat from by omega, hxb]; rfl⟩
      case round =>
        obtain ⟨m, hm, rfl, rfl⟩ := hrel
        have hlt2 := crcBits_lt hx1 m
        by_cases hm8 : m < 8
        · have HN : Hid (crcBits (m + 1) (c ^^^ b.toNat) = crcBit (crcBits m (c ^^^ b.toNat))) := hide rfl
          generalize crcBits m (c ^^^ b.toNat) = d at hlt2 HN
          have hand := c_and hlt2
          have hxor := c_xor hlt2
          by_cases hodd : d % 2 = 1
          · have HC : Hid (crcBit d = d / 2 ^^^ 3988292384) := hide (by unfold crcBit; rw [if_pos hodd])
            have hb1 : (((d % 2 : Nat) : Int) == 1) = true := by rw [hodd]; rfl
            clear hodd
            go_wp2
            go_round
            case rel => exact ⟨m + 1, by omega, by go_num, by rw [HN.out, HC.out]⟩
            case measure => simp [intOf]; omega
          · have HC : Hid (crcBit d = d / 2) := hide (by unfold crcBit; rw [if_neg hodd])
            have hb1 : (((d % 2 : Nat) : Int) == 1) = false := by rw [beq_eq_false_iff_ne]; omega
            clear hodd
            go_wp2
            go_round
            case rel => exact ⟨m + 1, by omega, by go_num, by rw [HN.out, HC.out]; go_num⟩
            case measure => simp [intOf]; omega
        · have h8 : m = 8 := by omega
          subst h8
          go_wp2
          go_round
          case rel => exact ⟨k + 1, by omega, by go_num, by rw [HT.out, HS.out]; rfl⟩
          case measure => simp [intOf]; omega
    · have hnot := c_not hlt0
      have HE : Hid (crc s.data.toList = 4294967295 - crcF (s.data.toList.take k)) := hide (by unfold crc; rw [List.take_of_length_le (by simp; omega)])
      generalize crcF (s.data.toList.take k) = c at hlt0 hnot HE
      go_wp2
      go_ret
      exact ⟨by rw [HE.out]; rfl, rfl⟩
end Go.Proofs.YtkgncijcnlfhiabGreat

namespace Go.Proofs.YtkgncijcnlfhiabGreat
set_option linter.unusedVariables false
set_option linter.unusedSimpArgs false
open Go.RowKit
attribute [local go_sem ↓] Go.wp_at_zero Go.wp_at_succ

/-- a cursor: what is left, and what it is refused by -/
def Cur (w : World) (cb : Nat) (r : List UInt8) (e a : Int) : Prop :=
  (∃ s : ByteArray, w.cell? ⟨cb, 0, none⟩ = some (.string s) ∧ s.data.toList = r) ∧ r.length ≤ 1000000 ∧ w.cell? ⟨cb, 1, none⟩ = some (.int .i64 e) ∧ w.cell? ⟨cb, 3, none⟩ = some (.int .i64 a) ∧ w.frozen? ⟨cb, 0, none⟩ = false ∧ w.cell? ⟨cb, 2, none⟩ = some (.int .i64 0)
/-- new blocks, and writes into the cursor alone -/
abbrev Gc (cb : Nat) (w w' : World) : Prop := w.grownBy w' (some cb)
theorem Gc.refl (cb : Nat) (w : World) : Gc cb w w := World.grownBy.refl w _
theorem Gr.toGc {cb : Nat} {w w' : World} (h : Gr w w') : Gc cb w w' := ⟨h.os, h.tape, h.output, h.size, fun i hi _ => h.block i hi (by simp)⟩
theorem Gc.set {cb : Nat} {w w' : World} (h : Gc cb w w') (o : Nat) (v : Value) : Gc cb w (w'.setCell ⟨cb, o, none⟩ v) :=
  ⟨h.os, h.tape, h.output, by simpa using h.size, fun i hi hne => by rw [Below.heap_setCell _ _ _ _ (fun e => hne (by rw [e]))]; exact h.block i hi hne⟩
theorem Gc.drew {cb : Nat} {a b : World} (h : Gc cb a b) : Gc cb a b.drew := ⟨h.os, h.tape, h.output, h.size, h.block⟩
theorem Cur.gr {w w' : World} {cb : Nat} {r : List UInt8} {e a : Int} (h : Cur w cb r e a) (g : Gr w w') : Cur w' cb r e a := by
  obtain ⟨⟨s, h0, h1⟩, h2, h3, h4, h5, h6⟩ := h
  exact ⟨⟨s, g.cell h0 (by simp), h1⟩, h2, g.cell h3 (by simp), g.cell h4 (by simp), (World.frozen?_of_block (g.block cb (World.block_lt_of_cell? w _ h3) (by simp))).trans h5, g.cell h6 (by simp)⟩

/-- how a reader ends -/
def Rds {α : Type} (cb : Nat) (e a : Int) (w : World) (R : World → Value → α → Prop) : Option (α × List UInt8) → Ending → World → Prop
  | some (y, r'), x, w' => ∃ v, x = .returned v ∧ R w' v y ∧ Cur w' cb r' e a ∧ Gc cb w w'
  | none, x, w' => x = .panicked (thrown e a) ∧ Gc cb w w'

def rdTake (n : Nat) (r : List UInt8) : Option (List UInt8 × List UInt8) := if n ≤ r.length then some (r.take n, r.drop n) else none

theorem cur_put {w : World} {cb : Nat} {e a : Int} {s' : ByteArray} {l : List UInt8} (h0 : ∃ x, w.cell? ⟨cb, 0, none⟩ = some x) (hs : s'.data.toList = l) (hl : l.length ≤ 1000000) (h1 : w.cell? ⟨cb, 1, none⟩ = some (.int .i64 e)) (h2 : w.cell? ⟨cb, 3, none⟩ = some (.int .i64 a)) (hz : w.frozen? ⟨cb, 0, none⟩ = false) (hj : w.cell? ⟨cb, 2, none⟩ = some (.int .i64 0)) :
    Cur (w.setCell ⟨cb, 0, none⟩ (.string s')) cb l e a := by
  obtain ⟨x, hx⟩ := h0
  refine ⟨⟨s', World.cell?_setCell_same w ⟨cb, 0, none⟩ _ hx, hs⟩, hl, ?_, ?_, ?_, ?_⟩
  · exact (World.cell?_setCell_other w ⟨cb, 0, none⟩ ⟨cb, 1, none⟩ _ (by intro h; cases h)).trans h1
  · exact (World.cell?_setCell_other w ⟨cb, 0, none⟩ ⟨cb, 3, none⟩ _ (by intro h; cases h)).trans h2
  · rw [World.frozen?_setCell]; exact hz
  · exact (World.cell?_setCell_other w ⟨cb, 0, none⟩ ⟨cb, 2, none⟩ _ (by intro h; cases h)).trans hj
theorem take_bytes (s : ByteArray) (n : Nat) : s.extract 0 n = ⟨(s.data.toList.take n).toArray⟩ := by
  have h : (s.extract 0 n).data.toList = s.data.toList.take n := by simp [ByteArray.data_extract]
  rw [← h]
theorem drop_bytes (s : ByteArray) (n : Nat) : (s.extract n s.size).data.toList = s.data.toList.drop n := by
  have e : s.size = s.data.toList.length := by rw [Array.length_toList]; rfl
  simp [ByteArray.data_extract]
  rw [List.take_of_length_le (by simp)]

set_option maxRecDepth 100000 in
set_option maxHeartbeats 1000000 in
theorem take_any (cb : Nat) (r : List UInt8) (e a : Int) (n : Nat) (hn : n < 18446744073709551616) (w : World) (hc : Cur w cb r e a) :
    Calls Tryz.prog 141 #[.pointer (some ⟨cb, 0, none⟩), .int .u64 n] w (Rds cb e a w (fun _ v y => v = .string ⟨y.toArray⟩) (rdTake n r)) := by
  obtain ⟨⟨s, h0, hs⟩, hl, h1, h2, hz, hj⟩ := hc
  have hsz : s.size = r.length := by rw [← hs, Array.length_toList]; rfl
  by_cases hle : n ≤ r.length
  · have HT : Hid (rdTake n r = some (r.take n, r.drop n)) := hide (by simp [rdTake, hle])
    have hd : (n : Int) ≤ (s.size : Int) := by omega
    have hd0 : (0 : Int) ≤ (n : Int) := by omega
    have hss : s.size ≤ 1000000 := by omega
    have hwr : IntKind.u64.wrap (s.size : Int) = s.size := Go.IntWalk.u64_in _ (by omega)
    have HS := hide hs
    clear hs hsz hle
    go_enter Tryz.func141, Tryz.ntmps141
    go_wp2
    go_region_held3 (fun w' => w'.cell? ⟨cb, 0, none⟩ = some (.string s) ∧ w'.cell? ⟨cb, 1, none⟩ = some (.int .i64 e) ∧ w'.cell? ⟨cb, 3, none⟩ = some (.int .i64 a) ∧ w'.cell? ⟨cb, 2, none⟩ = some (.int .i64 0)) (first | go_keep | (refine ⟨?_, ?_, ?_, ?_⟩ <;> exact hg'.cell (by assumption) (by simp))) (first | (go_at_call 64; refine (unless_yes _ _ _).mono ?_; rintro e w' ⟨rfl, hg'⟩))
    have h01 := hg'.cell h0 (by simp)
    have h11 := hg'.cell h1 (by simp)
    have h21 := hg'.cell h2 (by simp)
    have hj1 := hg'.cell hj (by simp)
    have hz1 : w'.frozen? ⟨cb, 0, none⟩ = false := (World.frozen?_of_block (hg'.block cb (World.block_lt_of_cell? w _ h1) (by simp))).trans hz
    have hgc : Gc cb w w' := (Gr.trans (Gr.drew (Gr.refl w)) hg').toGc
    clear hg' h0 h1 h2 hz hj
    go_wp2_with fail
    go_ret
    rw [HT.out]
    have hcur := cur_put (s' := s.extract n s.size) (l := r.drop n) ⟨_, h01⟩ (by rw [← HS.out]; exact drop_bytes s n) (by rw [List.length_drop]; omega) h11 h21 hz1 hj1
    refine ⟨_, rfl, ?_, hcur, hgc.set 0 _⟩
    show Value.string _ = _
    rw [take_bytes s n, HS.out]
  · have HT : Hid (rdTake n r = none) := hide (by simp [rdTake, hle])
    have hd : decide (n ≤ s.size) = false := by rw [decide_eq_false_iff_not]; omega
    have hss : s.size ≤ 1000000 := by omega
    have hwr : IntKind.u64.wrap (s.size : Int) = s.size := Go.IntWalk.u64_in _ (by omega)
    clear hs hsz hle
    go_enter Tryz.func141, Tryz.ntmps141
    go_wp2
    go_region_with (first | (go_at_call 64; refine (unless_no _ _ _).mono ?_; rintro e w' ⟨rfl, hg'⟩; refine left_region ?_))
    all_goals exact ⟨rfl, by rw [HT.out]; exact ⟨rfl, (Gr.trans (Gr.drew (Gr.refl w)) hg').toGc⟩⟩
end Go.Proofs.YtkgncijcnlfhiabGreat

namespace Go.Proofs.YtkgncijcnlfhiabGreat
set_option linter.unusedVariables false
set_option linter.unusedSimpArgs false
open Go.RowKit
attribute [local go_sem ↓] Go.wp_at_zero Go.wp_at_succ

def rdByte : List UInt8 → Option (UInt8 × List UInt8)
  | [] => none
  | b :: r => some (b, r)

theorem Rds.some_ {α : Type} {cb : Nat} {e a : Int} {w : World} {R : World → Value → α → Prop} {o : Option (α × List UInt8)} {y : α} {r' : List UInt8} (ho : o = some (y, r')) {x : Ending} {w' : World} (h : Rds cb e a w R o x w') : ∃ v, x = .returned v ∧ R w' v y ∧ Cur w' cb r' e a ∧ Gc cb w w' := by subst ho; exact h
theorem Rds.none_ {α : Type} {cb : Nat} {e a : Int} {w : World} {R : World → Value → α → Prop} {o : Option (α × List UInt8)} (ho : o = none) {x : Ending} {w' : World} (h : Rds cb e a w R o x w') : x = .panicked (thrown e a) ∧ Gc cb w w' := by subst ho; exact h

set_option maxRecDepth 100000 in
set_option maxHeartbeats 1000000 in
theorem byte_any (cb : Nat) (r : List UInt8) (e a : Int) (w : World) (hc : Cur w cb r e a) :
    Calls Tryz.prog 140 #[.pointer (some ⟨cb, 0, none⟩)] w (Rds cb e a w (fun _ v y => v = .int .u8 (y.toNat : Int)) (rdByte r)) := by
  cases r with
  | nil =>
    have HC := hide hc
    clear hc
    go_enter Tryz.func140, Tryz.ntmps140
    go_wp2_with fail
    refine (take_any cb [] e a 1 (by decide) _ HC.out).mono ?_
    intro x w1 h
    obtain ⟨rfl, hg⟩ := h.none_ (by simp [rdTake])
    exact ⟨rfl, rfl, hg⟩
  | cons b r =>
    have HC := hide hc
    clear hc
    go_enter Tryz.func140, Tryz.ntmps140
    go_wp2_with fail
    refine (take_any cb (b :: r) e a 1 (by decide) _ HC.out).mono ?_
    intro x w1 h
    obtain ⟨v, rfl, rfl, hcur, hg⟩ := h.some_ (y := [b]) (r' := r) (by simp [rdTake])
    have H1 := hide hcur
    have H2 := hide hg
    clear h hcur hg
    go_wp2
    go_ret
    exact ⟨_, rfl, rfl, H1.out, H2.out⟩

theorem and127f : ∀ a : Fin 256, a.val &&& 127 = a.val % 128 := by decide +kernel
theorem and127 (b : UInt8) : bits BinOp.and IntKind.u8 (b.toNat : Int) 127 = ((b.toNat % 128 : Nat) : Int) := by
  have h := u8_and_nat b.toNat 127 b.toNat_lt (by decide)
  rw [and127f ⟨b.toNat, b.toNat_lt⟩] at h; exact h

/-- a number, in as few bytes as can be -/
def rdNum : Nat → Nat → List UInt8 → Option (Nat × List UInt8)
  | _, _, [] => none
  | k, v, b :: r =>
    if b.toNat % 128 * 2 ^ (7 * k) < 18446744073709551616 then
      if b.toNat < 128 then (if b.toNat ≠ 0 ∨ k = 0 then some (v + b.toNat % 128 * 2 ^ (7 * k), r) else none)
      else rdNum (k + 1) (v + b.toNat % 128 * 2 ^ (7 * k)) r
    else none

theorem sh_toNat (k : Nat) : (7 * (k : Int)).toNat = 7 * k := by omega
theorem pow_le64 {s : Nat} (h : s ≤ 64) : (2 : Nat) ^ s * 2 ^ (64 - s) = 18446744073709551616 := by rw [← Nat.pow_add, show s + (64 - s) = 64 by omega]
theorem shl_fit {low k : Nat} (h : low * 2 ^ (7 * k) < 18446744073709551616) : IntKind.u64.wrap ((low : Int) * 2 ^ min (7 * (k : Int)).toNat 64) = ((low * 2 ^ (7 * k) : Nat) : Int) := by
  rw [sh_toNat]
  by_cases hs : 7 * k ≤ 64
  · rw [Nat.min_eq_left hs]
    have e : (low : Int) * 2 ^ (7 * k) = ((low * 2 ^ (7 * k) : Nat) : Int) := by simp
    rw [e, Go.IntWalk.u64_in _ (by omega)]
  · have hz : low = 0 := by
      rcases Nat.eq_zero_or_pos low with h0 | h0
      · exact h0
      · have : 2 ^ 64 ≤ 2 ^ (7 * k) := Nat.pow_le_pow_right (by decide) (by omega)
        have h2 : 1 * 2 ^ (7 * k) ≤ low * 2 ^ (7 * k) := Nat.mul_le_mul_right _ h0
        omega
    subst hz
    simp [IntKind.wrap_u64]
theorem shr_fit {low k : Nat} (h : low * 2 ^ (7 * k) < 18446744073709551616) : (((low * 2 ^ (7 * k) : Nat) : Int) / 2 ^ min (7 * (k : Int)).toNat 64 == (low : Int)) = true := by
  rw [sh_toNat, beq_iff_eq]
  by_cases hs : 7 * k ≤ 64
  · rw [Nat.min_eq_left hs]
    have e : (((low * 2 ^ (7 * k) : Nat) : Int) / 2 ^ (7 * k)) = ((low * 2 ^ (7 * k) / 2 ^ (7 * k) : Nat) : Int) := by simp
    rw [e, Nat.mul_div_cancel _ (Nat.two_pow_pos _)]
  · have hz : low = 0 := by
      rcases Nat.eq_zero_or_pos low with h0 | h0
      · exact h0
      · have : 2 ^ 64 ≤ 2 ^ (7 * k) := Nat.pow_le_pow_right (by decide) (by omega)
        have h2 : 1 * 2 ^ (7 * k) ≤ low * 2 ^ (7 * k) := Nat.mul_le_mul_right _ h0
        omega
    subst hz; simp
theorem sh_no {low k : Nat} (h : ¬ low * 2 ^ (7 * k) < 18446744073709551616) : (IntKind.u64.wrap ((low : Int) * 2 ^ min (7 * (k : Int)).toNat 64) / 2 ^ min (7 * (k : Int)).toNat 64 == (low : Int)) = false := by
  rw [sh_toNat, beq_eq_false_iff_ne, IntKind.wrap_u64]
  by_cases hs : 7 * k ≤ 64
  · rw [Nat.min_eq_left hs]
    have e : ((low : Int) * 2 ^ (7 * k) % 18446744073709551616) / 2 ^ (7 * k) = ((low * 2 ^ (7 * k) % 18446744073709551616 / 2 ^ (7 * k) : Nat) : Int) := by simp
    rw [e]
    intro hc
    have hc' : low * 2 ^ (7 * k) % 18446744073709551616 / 2 ^ (7 * k) = low := by exact_mod_cast hc
    have h1 : low * 2 ^ (7 * k) % 18446744073709551616 < 18446744073709551616 := Nat.mod_lt _ (by decide)
    have h2 : low * 2 ^ (7 * k) % 18446744073709551616 < low * 2 ^ (7 * k) := by omega
    have h3 := (Nat.div_lt_iff_lt_mul (Nat.two_pow_pos (7 * k))).2 h2
    omega
  · rw [Nat.min_eq_right (by omega)]
    intro hc
    have e : ((low : Int) * 2 ^ 64 % 18446744073709551616) = 0 := by omega
    rw [e] at hc
    have : low = 0 := by simp at hc; omega
    subst this; simp at h
theorem or_join {v q k low : Nat} (hq : q = low * 2 ^ (7 * k)) (hv : v < 2 ^ (7 * k)) (hv64 : v < 18446744073709551616) (hq64 : q < 18446744073709551616) : bits BinOp.or IntKind.u64 (v : Int) (q : Int) = ((v + q : Nat) : Int) := by
  rw [u64_or_nat v q hv64 hq64, Nat.or_comm, nat_join (7 * k) q v (by rw [hq]; simp) hv, Nat.add_comm]
theorem sum_lt {v q k low : Nat} (hq : q = low * 2 ^ (7 * k)) (hv : v < 2 ^ (7 * k)) (hv64 : v < 18446744073709551616) (hq64 : q < 18446744073709551616) (hl : low < 128) : v + q < 18446744073709551616 ∧ v + q < 2 ^ (7 * (k + 1)) := by
  have hp : 2 ^ (7 * (k + 1)) = 2 ^ (7 * k) * 128 := by rw [show 7 * (k + 1) = 7 * k + 7 by omega, Nat.pow_add]
  have h2 : low * 2 ^ (7 * k) ≤ 127 * 2 ^ (7 * k) := Nat.mul_le_mul_right _ (by omega)
  refine ⟨?_, by rw [hp]; omega⟩
  by_cases hs : 7 * k ≤ 64
  · have h3 := pow_le64 hs
    have h4 : low < 2 ^ (64 - 7 * k) := by
      rw [← h3, hq, Nat.mul_comm] at hq64
      exact Nat.lt_of_mul_lt_mul_left hq64
    have h5 : (low + 1) * 2 ^ (7 * k) ≤ 2 ^ (64 - 7 * k) * 2 ^ (7 * k) := Nat.mul_le_mul_right _ h4
    rw [Nat.mul_comm] at h3
    rw [h3] at h5
    have h6 : (low + 1) * 2 ^ (7 * k) = low * 2 ^ (7 * k) + 2 ^ (7 * k) := by rw [Nat.add_mul, Nat.one_mul]
    omega
  · have hz : low = 0 := by
      rcases Nat.eq_zero_or_pos low with h0 | h0
      · exact h0
      · have : 2 ^ 64 ≤ 2 ^ (7 * k) := Nat.pow_le_pow_right (by decide) (by omega)
        have h2 : 1 * 2 ^ (7 * k) ≤ low * 2 ^ (7 * k) := Nat.mul_le_mul_right _ h0
        omega
    subst hz; simp at hq; omega

set_option maxRecDepth 100000 in
set_option maxHeartbeats 2000000 in
theorem number_any (cb : Nat) (r : List UInt8) (e a : Int) (w : World) (hc : Cur w cb r e a) :
    Calls Tryz.prog 115 #[.pointer (some ⟨cb, 0, none⟩)] w (Rds cb e a w (fun _ v (y : Nat) => v = .int .u64 (y : Int)) (rdNum 0 0 r)) := by
  go_enter Tryz.func115, Tryz.ntmps115
  go_wp2
  go_loopw [3, 4] (fun vv sh wr => ∃ (k v : Nat) (r' : List UInt8), k + r'.length = r.length ∧ v < 2 ^ (7 * k) ∧ v < 18446744073709551616 ∧ vv = .int .u64 (v : Int) ∧ sh = .int .i64 ((7 * k : Nat) : Int) ∧ rdNum k v r' = rdNum 0 0 r ∧ Cur wr cb r' e a ∧ Gc cb w wr) (fun _ sh _ => 8000000 - (intOf sh).toNat)
  case atStart => exact ⟨0, 0, r, by simp, by simp, by decide, rfl, rfl, rfl, hc, Gc.refl _ _⟩
  case round =>
    obtain ⟨k, v, r', hkr, hv, hv64, rfl, rfl, hrd, hcur, hgc⟩ := hrel
    have HV := hide hv
    have HR := hide hrd
    have HG := hide hgc
    have HCur := hide hcur
    have hrl : r.length ≤ 1000000 := hc.2.1
    have HC := hide hc
    clear hv hrd hgc hcur hc
    cases r' with
    | nil =>
      go_wp2_with fail
      refine (byte_any cb [] e a _ HCur.out).mono ?_
      intro x w1 h
      obtain ⟨rfl, hg⟩ := h.none_ rfl
      exact ⟨rfl, by rw [← HR.out]; exact ⟨rfl, HG.out.trans hg⟩⟩
    | cons b r2 =>
      go_wp2_with fail
      refine (byte_any cb (b :: r2) e a _ HCur.out).mono ?_
      intro x w1 h
      obtain ⟨v1, rfl, rfl, hcur1, hg1⟩ := h.some_ (y := b) (r' := r2) rfl
      have HG1 := hide (HG.out.trans hg1)
      have HC1 := hide hcur1
      obtain ⟨⟨s1, h10, h1s⟩, h1l, h11, h12, h1z, h1j⟩ := hcur1
      clear h hg1 h1s h10 h1z h1l
      have hbl : b.toNat < 256 := b.toNat_lt
      have hand := and127 b
      obtain ⟨low, hlow⟩ : ∃ low, low = b.toNat % 128 := ⟨_, rfl⟩
      rw [← hlow] at hand
      have hl128 : low < 128 := by omega
      have HLow := hide hlow
      clear hlow
      have hsh0 : (0 : Int) ≤ 7 * (k : Int) := by omega
      have hsh1 : 7 * (k : Int) ≤ 7000000 := by simp at hkr; omega
      have hwl : IntKind.u64.wrap (low : Int) = low := Go.IntWalk.u64_in _ (by omega)
      by_cases hfit : low * 2 ^ (7 * k) < 18446744073709551616
      · have hshl := shl_fit hfit
        have hshr := shr_fit hfit
        obtain ⟨q, hq⟩ : ∃ q, q = low * 2 ^ (7 * k) := ⟨_, rfl⟩
        rw [← hq] at hshl hshr hfit
        have hshl2 : IntKind.u64.wrap ((low : Int) * 2 ^ (7 * k)) = (q : Int) := by
          rw [show (low : Int) * 2 ^ (7 * k) = (q : Int) by rw [hq]; simp, Go.IntWalk.u64_in _ (by omega)]
        have hor := or_join hq HV.out hv64 hfit
        obtain ⟨hs64, hs7⟩ := sum_lt hq HV.out hv64 hfit hl128
        have HS7 := hide hs7
        have HQ := hide hq
        clear hs7 hq
        have HStep : Hid (rdNum 0 0 r = if b.toNat < 128 then (if b.toNat ≠ 0 ∨ k = 0 then some (v + q, r2) else none) else rdNum (k + 1) (v + q) r2) := hide (by rw [← HR.out, rdNum, ← HLow.out, ← HQ.out, if_pos hfit])
        clear HR HCur
        go_wp2
        go_region_held3 (fun w' => w'.cell? ⟨cb, 1, none⟩ = some (.int .i64 e) ∧ w'.cell? ⟨cb, 3, none⟩ = some (.int .i64 a) ∧ w'.cell? ⟨cb, 2, none⟩ = some (.int .i64 0)) (first | go_keep | (refine ⟨?_, ?_, ?_⟩ <;> exact hg'.cell (by assumption) (by simp))) (first | (go_at_call 64; refine (unless_yes _ _ _).mono ?_; rintro e w' ⟨rfl, hg'⟩))
        have h13 := hg'.cell h11 (by simp)
        have h14 := hg'.cell h12 (by simp)
        have h15 := hg'.cell h1j (by simp)
        have HG2 := hide (HG1.out.trans (Gr.trans (Gr.drew (Gr.refl w1)) hg').toGc)
        have HC2 := hide (HC1.out.gr (Gr.trans (Gr.drew (Gr.refl w1)) hg'))
        clear hg' h11 h12 h1j HG1 HC1 hshr
        by_cases hb : b.toNat < 128
        · have hb1 : ((b.toNat : Int) < 128) := by omega
          by_cases hz : b.toNat = 0
          · have hb0 : ((b.toNat : Int) != 0) = false := by simp [hz]
            by_cases hk0 : k = 0
            · have hk1 : (7 * (k : Int) == 0) = true := by simp [hk0]
              have HE : Hid (rdNum 0 0 r = some (v + q, r2)) := hide (by rw [HStep.out, if_pos hb, if_pos (.inr hk0)])
              clear HStep hz hb hk0
              go_wp2_with (go_at_call 64; refine (unless_yes _ _ _).mono ?_; rintro e3 w3 ⟨rfl, hg3⟩)
              go_ret
              rw [HE.out]
              exact ⟨_, rfl, rfl, HC2.out.gr hg3, HG2.out.trans hg3.toGc⟩
            · have hk1 : (7 * (k : Int) == 0) = false := by rw [beq_eq_false_iff_ne]; omega
              have HE : Hid (rdNum 0 0 r = none) := hide (by rw [HStep.out, if_pos hb, if_neg (by intro h; rcases h with h | h; exact h hz; exact hk0 h)])
              clear HStep hz hb hk0
              go_wp2_with (go_at_call 64; refine (unless_no _ _ _).mono ?_; rintro e3 w3 ⟨rfl, hg3⟩)
              exact ⟨rfl, by rw [HE.out]; exact ⟨rfl, HG2.out.trans hg3.toGc⟩⟩
          · have hb0 : ((b.toNat : Int) != 0) = true := by rw [bne_iff_ne]; omega
            have HE : Hid (rdNum 0 0 r = some (v + q, r2)) := hide (by rw [HStep.out, if_pos hb, if_pos (.inl hz)])
            clear HStep hz hb
            go_wp2_with (go_at_call 64; refine (unless_yes _ _ _).mono ?_; rintro e3 w3 ⟨rfl, hg3⟩)
            go_ret
            rw [HE.out]
            exact ⟨_, rfl, rfl, HC2.out.gr hg3, HG2.out.trans hg3.toGc⟩
        · have hb1 : ¬ ((b.toNat : Int) < 128) := by omega
          have HE : Hid (rdNum (k + 1) (v + q) r2 = rdNum 0 0 r) := hide (by rw [HStep.out, if_neg hb])
          clear HStep hb
          go_wp2
          go_roundw
          case rel => exact ⟨k + 1, v + q, r2, by simp at hkr; omega, HS7.out, hs64, by go_num, by go_num, HE.out, HC2.out, HG2.out⟩
          case measure => simp [intOf]; omega
      · have hno := sh_no hfit
        have HE : Hid (rdNum 0 0 r = none) := hide (by rw [← HR.out, rdNum, ← HLow.out, if_neg hfit])
        clear HR hfit
        go_wp2
        go_region_with (first | (go_at_call 64; refine (unless_no _ _ _).mono ?_; rintro e w' ⟨rfl, hg'⟩; refine left_region ?_))
        all_goals exact ⟨rfl, by rw [HE.out]; exact ⟨rfl, HG1.out.trans (Gr.trans (Gr.drew (Gr.refl w1)) hg').toGc⟩⟩
end Go.Proofs.YtkgncijcnlfhiabGreat

