import Derived.Test.YtkgncijcnlfhiaaDoorW3
import Derived.Maps.AppendAt
import Derived.Lib.AppendStr
namespace Go.Proofs.YtkgncijcnlfhiaaDoor
set_option linter.unusedVariables false
set_option linter.unusedSimpArgs false
open Go.RowKit
/-- lists of numbers, in a list -/
def RShapes (w : World) (v : Value) (l : List (List Int)) : Prop :=
  ∃ ao cap, v = .slice ao l.length cap ∧ l.length ≤ maxLen ∧ ∀ i x, l[i]? = some x → ∃ b off vx, ao = some ⟨b, off, none⟩ ∧ w.cell? ⟨b, off + i, none⟩ = some vx ∧ RInts w vx x
/-- instructions -/
def RCode (w : World) (v : Value) (l : List PIns) : Prop :=
  ∃ ao cap, v = .slice ao l.length cap ∧ l.length ≤ maxLen ∧ ∀ i x, l[i]? = some x → ∃ b off, ao = some ⟨b, off, none⟩ ∧
    w.cell? ⟨b, off + i * 3, none⟩ = some (.int .i64 x.op) ∧ w.cell? ⟨b, off + i * 3 + 1, none⟩ = some (.int .i64 x.a) ∧ w.cell? ⟨b, off + i * 3 + 2, none⟩ = some (.int .i64 x.b)
/-- a text -/
def RText (v : Value) (l : List UInt8) : Prop := ∃ s : ByteArray, v = .string s ∧ s.data.toList = l ∧ s.size ≤ maxLen
/-- functions -/
def RFuncs (w : World) (v : Value) (l : List PFunc) : Prop :=
  ∃ ao cap, v = .slice ao l.length cap ∧ l.length ≤ maxLen ∧ ∀ i x, l[i]? = some x → ∃ b off vp vl vc, ao = some ⟨b, off, none⟩ ∧
    w.cell? ⟨b, off + i * 4, none⟩ = some vp ∧ w.cell? ⟨b, off + i * 4 + 1, none⟩ = some (.int .i64 x.result) ∧ w.cell? ⟨b, off + i * 4 + 2, none⟩ = some vl ∧ w.cell? ⟨b, off + i * 4 + 3, none⟩ = some vc ∧
    RInts w vp x.params ∧ RInts w vl x.locals ∧ RCode w vc x.code
/-- imports -/
def RImports (w : World) (v : Value) (l : List PImp) : Prop :=
  ∃ ao cap, v = .slice ao l.length cap ∧ l.length ≤ maxLen ∧ ∀ i x, l[i]? = some x → ∃ b off vs vp, ao = some ⟨b, off, none⟩ ∧
    w.cell? ⟨b, off + i * 3, none⟩ = some vs ∧ w.cell? ⟨b, off + i * 3 + 1, none⟩ = some vp ∧ w.cell? ⟨b, off + i * 3 + 2, none⟩ = some (.int .i64 x.result) ∧
    RText vs x.name ∧ RInts w vp x.params
/-- exports -/
def RExports (w : World) (v : Value) (l : List PExp) : Prop :=
  ∃ ao cap, v = .slice ao l.length cap ∧ l.length ≤ maxLen ∧ ∀ i x, l[i]? = some x → ∃ b off vs, ao = some ⟨b, off, none⟩ ∧
    w.cell? ⟨b, off + i * 2, none⟩ = some vs ∧ w.cell? ⟨b, off + i * 2 + 1, none⟩ = some (.int .i64 x.func) ∧ RText vs x.name
/-- a unit -/
def RUnit (w : World) (v : Value) (u : PUnit) : Prop :=
  ∃ v1 v2 v3 v4 v5, v = .agg #[v1, v2, v3, v4, v5] ∧ RShapes w v1 u.shapes ∧ RInts w v2 u.consts ∧ RFuncs w v3 u.funcs ∧ RImports w v4 u.imports ∧ RExports w v5 u.exports

theorem RShapes.gr {w w' : World} {v : Value} {l : List (List Int)} (h : RShapes w v l) (g : Gr w w') : RShapes w' v l := by
  obtain ⟨ao, cap, hv, hm, hc⟩ := h
  refine ⟨ao, cap, hv, hm, fun i x hi => ?_⟩
  obtain ⟨b, off, vx, h1, h2, h3⟩ := hc i x hi
  exact ⟨b, off, vx, h1, g.cell h2 (by simp), h3.gr g⟩
theorem RCode.gr {w w' : World} {v : Value} {l : List PIns} (h : RCode w v l) (g : Gr w w') : RCode w' v l := by
  obtain ⟨ao, cap, hv, hm, hc⟩ := h
  refine ⟨ao, cap, hv, hm, fun i x hi => ?_⟩
  obtain ⟨b, off, h1, h2, h3, h4⟩ := hc i x hi
  exact ⟨b, off, h1, g.cell h2 (by simp), g.cell h3 (by simp), g.cell h4 (by simp)⟩
theorem RFuncs.gr {w w' : World} {v : Value} {l : List PFunc} (h : RFuncs w v l) (g : Gr w w') : RFuncs w' v l := by
  obtain ⟨ao, cap, hv, hm, hc⟩ := h
  refine ⟨ao, cap, hv, hm, fun i x hi => ?_⟩
  obtain ⟨b, off, vp, vl, vc, h1, h2, h3, h4, h5, h6, h7, h8⟩ := hc i x hi
  exact ⟨b, off, vp, vl, vc, h1, g.cell h2 (by simp), g.cell h3 (by simp), g.cell h4 (by simp), g.cell h5 (by simp), h6.gr g, h7.gr g, h8.gr g⟩
theorem RImports.gr {w w' : World} {v : Value} {l : List PImp} (h : RImports w v l) (g : Gr w w') : RImports w' v l := by
  obtain ⟨ao, cap, hv, hm, hc⟩ := h
  refine ⟨ao, cap, hv, hm, fun i x hi => ?_⟩
  obtain ⟨b, off, vs, vp, h1, h2, h3, h4, h5, h6⟩ := hc i x hi
  exact ⟨b, off, vs, vp, h1, g.cell h2 (by simp), g.cell h3 (by simp), g.cell h4 (by simp), h5, h6.gr g⟩
theorem RExports.gr {w w' : World} {v : Value} {l : List PExp} (h : RExports w v l) (g : Gr w w') : RExports w' v l := by
  obtain ⟨ao, cap, hv, hm, hc⟩ := h
  refine ⟨ao, cap, hv, hm, fun i x hi => ?_⟩
  obtain ⟨b, off, vs, h1, h2, h3, h4⟩ := hc i x hi
  exact ⟨b, off, vs, h1, g.cell h2 (by simp), g.cell h3 (by simp), h4⟩
theorem RUnit.gr {w w' : World} {v : Value} {u : PUnit} (h : RUnit w v u) (g : Gr w w') : RUnit w' v u := by
  obtain ⟨v1, v2, v3, v4, v5, h, h1, h2, h3, h4, h5⟩ := h
  exact ⟨v1, v2, v3, v4, v5, h, h1.gr g, h2.gr g, h3.gr g, h4.gr g, h5.gr g⟩
theorem RShapes.shape {w : World} {v : Value} {l : List (List Int)} (h : RShapes w v l) : ∃ ao cap, v = .slice ao l.length cap := by
  obtain ⟨ao, cap, hv, _⟩ := h; exact ⟨ao, cap, hv⟩
theorem RCode.shape {w : World} {v : Value} {l : List PIns} (h : RCode w v l) : ∃ ao cap, v = .slice ao l.length cap := by
  obtain ⟨ao, cap, hv, _⟩ := h; exact ⟨ao, cap, hv⟩
theorem RFuncs.shape {w : World} {v : Value} {l : List PFunc} (h : RFuncs w v l) : ∃ ao cap, v = .slice ao l.length cap := by
  obtain ⟨ao, cap, hv, _⟩ := h; exact ⟨ao, cap, hv⟩
theorem getElem?_lt {α : Type} {l : List α} {k : Nat} (h : k < l.length) : ∃ x, l[k]? = some x := ⟨l[k], List.getElem?_eq_getElem h⟩
end Go.Proofs.YtkgncijcnlfhiaaDoor

namespace Go.Proofs.YtkgncijcnlfhiaaDoor
set_option linter.unusedVariables false
set_option linter.unusedSimpArgs false
open Go.RowKit
/-- bytes, as cells -/
def bc (l : List UInt8) : List Value := l.map fun b => Value.int .u8 b.toNat
theorem Tryd.info5 : (Tryd.prog.info? 5).map (fun i => (i.zero, i.size, i.bytes)) = some (some (.int .u8 0), 1, 1) := by kernel_rfl

/-- v, which owned its bytes, has become v', which owns l'; nothing else that was there has turned -/
structure App (base : Nat) (w : World) (v : Value) (w' : World) (v' : Value) (l' : List UInt8) : Prop where
  own : w'.ownsRow base 5 1 v' l'.length (bc l')
  frm : w.grownBy w' v.ownBlock
  lies : ∀ k, v'.ownBlock = some k → v.ownBlock = some k ∨ w.heap.size ≤ k

theorem App.refl {base : Nat} {w : World} {v : Value} {l : List UInt8} (h : w.ownsRow base 5 1 v l.length (bc l)) : App base w v w v l :=
  ⟨h, World.grownBy.refl _ _, fun _ hk => .inl hk⟩
theorem App.trans {base : Nat} {w w1 w2 : World} {v v1 v2 : Value} {l1 l2 : List UInt8} (h : App base w v w1 v1 l1) (k : App base w1 v1 w2 v2 l2) : App base w v w2 v2 l2 := by
  refine ⟨k.own, ⟨k.frm.os.trans h.frm.os, k.frm.tape.trans h.frm.tape, k.frm.output.trans h.frm.output, Nat.le_trans h.frm.size k.frm.size, fun i hi hne => ?_⟩, fun i hi => ?_⟩
  · refine (k.frm.block i (Nat.lt_of_lt_of_le hi h.frm.size) fun e => ?_).trans (h.frm.block i hi hne)
    rcases h.lies i e.symm with e1 | e1
    · exact hne e1.symm
    · omega
  · rcases k.lies i hi with e | e
    · exact h.lies i e
    · exact .inr (Nat.le_trans h.frm.size e)
theorem App.gr {base : Nat} {w w1 w2 : World} {v v2 : Value} {l2 : List UInt8} (g : Gr w w1) (k : App base w1 v w2 v2 l2) : App base w v w2 v2 l2 := by
  refine ⟨k.own, ⟨k.frm.os.trans g.os, k.frm.tape.trans g.tape, k.frm.output.trans g.output, Nat.le_trans g.size k.frm.size, fun i hi hne => (k.frm.block i (Nat.lt_of_lt_of_le hi g.size) hne).trans (g.block i hi (by simp))⟩, fun i hi => ?_⟩
  rcases k.lies i hi with e | e
  · exact .inl e
  · exact .inr (Nat.le_trans g.size e)
theorem App.cell {base : Nat} {w w' : World} {v v' : Value} {l' : List UInt8} (k : App base w v w' v' l') {b o : Nat} {x : Value} (hx : w.cell? ⟨b, o, none⟩ = some x) (hb : b < base) (hv : ∀ i, v.ownBlock = some i → base ≤ i) : w'.cell? ⟨b, o, none⟩ = some x :=
  k.frm.cell hx (fun e => by have := hv b e.symm; omega)

section
variable {ops : Array Oper} {rest : List Oper} {o : Oper} {a : Act} {Q : Exit → Act → World → Prop}
end

/-- numbers, in bytes of seven bits -/
def numF : Nat → Nat → List UInt8
  | 0, v => [UInt8.ofNat v]
  | k + 1, v => if v < 128 then [UInt8.ofNat v] else UInt8.ofNat (v % 128 + 128) :: numF k (v / 128)
def num (v : Nat) : List UInt8 := numF 10 v
end Go.Proofs.YtkgncijcnlfhiaaDoor

namespace Go.Proofs.YtkgncijcnlfhiaaDoor
set_option linter.unusedVariables false
set_option linter.unusedSimpArgs false
open Go.RowKit

theorem numF_len : ∀ k q : Nat, (numF k q).length ≤ k + 1 ∧ 1 ≤ (numF k q).length
  | 0, q => by simp [numF]
  | k + 1, q => by
    have := numF_len k (q / 128)
    unfold numF; split
    · simp
    · simp; omega
theorem num_len (q : Nat) : (num q).length ≤ 11 := (numF_len 10 q).1
theorem numF_small {k q : Nat} (h : q < 128) : numF k q = [UInt8.ofNat q] := by cases k <;> simp [numF, h]
theorem numF_big {k q : Nat} (h : ¬ q < 128) : numF (k + 1) q = UInt8.ofNat (q % 128 + 128) :: numF k (q / 128) := by simp [numF, h]

def zig (v : Int) : Nat := if v < 0 then (-2 * v - 1).toNat else (2 * v).toNat
theorem zig_lt {n : Int} (h0 : -9223372036854775808 ≤ n) (h1 : n ≤ 9223372036854775807) : zig n < 18446744073709551616 := by unfold zig; split <;> omega
theorem xor_max64 {x : Nat} (hx : x < 18446744073709551616) : 18446744073709551615 ^^^ x = 18446744073709551615 - x := by
  have h := congrArg BitVec.toNat (BitVec.allOnes_xor (x := BitVec.ofNat 64 x))
  rw [BitVec.toNat_xor, BitVec.toNat_allOnes, BitVec.toNat_ofNat, BitVec.toNat_not, BitVec.toNat_ofNat, Nat.mod_eq_of_lt hx] at h
  exact h
end Go.Proofs.YtkgncijcnlfhiaaDoor

namespace Go.Proofs.YtkgncijcnlfhiaaDoor
set_option linter.unusedVariables false
set_option linter.unusedSimpArgs false
open Go.RowKit

theorem below_cell {W w : World} (h : Below W.heap.size W w) {a : Addr} {x : Value} (hx : W.cell? a = some x) : w.cell? a = some x :=
  (h.cell (World.block_lt_of_cell? W a hx)).trans hx
theorem RInts.below {W w : World} {v : Value} {l : List Int} (h : RInts W v l) (g : Below W.heap.size W w) : RInts w v l := by
  obtain ⟨ao, cap, hv, hm, hc⟩ := h
  refine ⟨ao, cap, hv, hm, fun i hi => ?_⟩
  obtain ⟨b, off, h1, h2⟩ := hc i hi
  exact ⟨b, off, h1, below_cell g h2⟩
theorem App.below {base : Nat} {w w' : World} {v v' : Value} {l l' : List UInt8} (k : App base w v w' v' l') (hown : w.ownsRow base 5 1 v l.length (bc l)) (hb : base ≤ w.heap.size) : Below base w w' :=
  (Below.refl _ _).grown k.frm hb fun i hi => (hown.lt i hi).1
/-- what a call of the writers is made in: the unit lies in W, below all that was made since -/
structure Wr (W w : World) (v : Value) (l : List UInt8) : Prop where
  low : Below W.heap.size W w
  own : w.ownsRow W.heap.size 5 1 v l.length (bc l)
theorem Wr.base {W w : World} {v : Value} {l : List UInt8} (h : Wr W w v l) : W.heap.size ≤ w.heap.size := h.low.size
theorem Wr.app {W w w' : World} {v v' : Value} {l l' : List UInt8} (h : Wr W w v l) (k : App W.heap.size w v w' v' l') : Wr W w' v' l' :=
  ⟨h.low.trans (k.below h.own h.base), k.own⟩
theorem Wr.gr {W w w' : World} {v : Value} {l : List UInt8} (h : Wr W w v l) (g : Gr w w') : Wr W w' v l :=
  ⟨h.low.grown g h.base (by simp), h.own.kept g (by cases v.ownBlock <;> simp)⟩
theorem Wr.refl {W w : World} {v : Value} {l : List UInt8} (h : Wr W w v l) : App W.heap.size w v w v l := App.refl h.own

section
variable {ops : Array Oper} {rest : List Oper} {o : Oper} {a : Act} {Q : Exit → Act → World → Prop}
end

end Go.Proofs.YtkgncijcnlfhiaaDoor

namespace Go.Proofs.YtkgncijcnlfhiaaDoor
set_option linter.unusedVariables false
set_option linter.unusedSimpArgs false
open Go.RowKit

def crcBit (c : Nat) : Nat := if c % 2 = 1 then (c / 2) ^^^ 3988292384 else c / 2
def crcBits : Nat → Nat → Nat
  | 0, c => c
  | k + 1, c => crcBit (crcBits k c)
def crcByte (c : Nat) (b : UInt8) : Nat := crcBits 8 (c ^^^ b.toNat)
def crcF (l : List UInt8) : Nat := l.foldl crcByte 4294967295
def crc (l : List UInt8) : Nat := 4294967295 - crcF l

theorem crcBit_lt {c : Nat} (h : c < 4294967296) : crcBit c < 4294967296 := by
  unfold crcBit; split
  · exact Nat.xor_lt_two_pow (n := 32) (by omega) (by decide)
  · omega
theorem crcBits_lt {c : Nat} (h : c < 4294967296) : ∀ k, crcBits k c < 4294967296
  | 0 => h
  | k + 1 => crcBit_lt (crcBits_lt h k)
theorem xor_byte_lt {c : Nat} (h : c < 4294967296) (b : UInt8) : c ^^^ b.toNat < 4294967296 :=
  Nat.xor_lt_two_pow (n := 32) h (by have := b.toNat_lt; omega)
theorem crcByte_lt {c : Nat} (h : c < 4294967296) (b : UInt8) : crcByte c b < 4294967296 := crcBits_lt (xor_byte_lt h b) 8
theorem foldl_lt : ∀ (l : List UInt8) (c : Nat), c < 4294967296 → l.foldl crcByte c < 4294967296
  | [], _, h => h
  | b :: l, _, h => foldl_lt l _ (crcByte_lt h b)
theorem crcF_lt (l : List UInt8) : crcF l < 4294967296 := foldl_lt l _ (by decide)
theorem crc_lt (l : List UInt8) : crc l < 4294967296 := by unfold crc; omega
theorem crcF_snoc (l : List UInt8) (b : UInt8) : crcF (l ++ [b]) = crcByte (crcF l) b := by unfold crcF; rw [List.foldl_append]; rfl
theorem xor_max32 {x : Nat} (hx : x < 4294967296) : 4294967295 ^^^ x = 4294967295 - x := by
  have h := congrArg BitVec.toNat (BitVec.allOnes_xor (x := BitVec.ofNat 32 x))
  rw [BitVec.toNat_xor, BitVec.toNat_allOnes, BitVec.toNat_ofNat, BitVec.toNat_not, BitVec.toNat_ofNat, Nat.mod_eq_of_lt hx] at h
  exact h

theorem take_snoc (s : ByteArray) (k : Nat) (h : k < s.size) : s.data.toList.take (k + 1) = s.data.toList.take k ++ [s[k]] := by
  rw [List.take_succ_eq_append_getElem (by simpa using h)]; rfl

theorem c_and {c : Nat} (h : c < 4294967296) : bits BinOp.and IntKind.u32 (c : Int) 1 = ((c % 2 : Nat) : Int) := by
  have := u32_and_nat c 1 h (by decide)
  rw [Nat.and_one_is_mod] at this; exact this
theorem c_xor {c : Nat} (h : c < 4294967296) : bits BinOp.xor IntKind.u32 ((c : Int) / 2) 3988292384 = ((c / 2 ^^^ 3988292384 : Nat) : Int) := by
  have := u32_xor_nat (c / 2) 3988292384 (by omega) (by decide)
  rw [← this]; congr 1
theorem c_xorb {c : Nat} (h : c < 4294967296) (b : UInt8) : bits BinOp.xor IntKind.u32 (c : Int) (b.toNat : Int) = ((c ^^^ b.toNat : Nat) : Int) :=
  u32_xor_nat c b.toNat h (by have := b.toNat_lt; omega)
theorem c_not {c : Nat} (h : c < 4294967296) : bits BinOp.xor IntKind.u32 IntKind.u32.max (c : Int) = ((4294967295 - c : Nat) : Int) := by
  have := u32_xor_nat 4294967295 c (by decide) h
  rw [xor_max32 h] at this; exact this

set_option maxRecDepth 100000 in
set_option maxHeartbeats 1000000 in
theorem check_any (s : ByteArray) (w : World) (hs : s.size ≤ maxLen) :
    Calls Tryd.prog 115 #[.string s] w fun x w' => x = .returned (.int .u32 (crc s.data.toList)) ∧ w' = w := by
  unfold maxLen at hs
  go_enter Tryd.func115, Tryd.ntmps115
  go_wp2
  go_loop [3, 7] (fun c i => ∃ k : Nat, k ≤ s.size ∧ i = .int .i64 k ∧ c = .int .u32 (crcF (s.data.toList.take k))) (fun _ i => s.size - (intOf i).toNat)
  case atStart => exact ⟨0, Nat.zero_le _, rfl, rfl⟩
  case round =>
    obtain ⟨k, hk, rfl, rfl⟩ := hrel
    have hlt0 := crcF_lt (s.data.toList.take k)
    by_cases hlt : k < s.size
    · have HS := hide (crcF_snoc (s.data.toList.take k) s[k])
      have HT := hide (take_snoc s k hlt)
      generalize hb : s[k] = b at HS HT
      have hxb := c_xorb hlt0 b
      generalize crcF (s.data.toList.take k) = c at hlt0 HS hxb
      have hx1 := xor_byte_lt hlt0 b
      have HB := hide hb
      go_wp2
      go_loop [3, 16] (fun d j => ∃ m : Nat, m ≤ 8 ∧ j = .int .i64 m ∧ d = .int .u32 (crcBits m (c ^^^ b.toNat))) (fun _ j => 8 - (intOf j).toNat)
      case atStart =>
        have hbl := b.toNat_lt
        exact ⟨0, Nat.zero_le _, rfl, by rw [show ((b.toNat : Int) % 4294967296) = b.toNat from by omega, hxb]; rfl⟩
      case round =>
        obtain ⟨m, hm, rfl, rfl⟩ := hrel
        have hlt2 := crcBits_lt hx1 m
        by_cases hm8 : m < 8
        · have HN : Hid (crcBits (m + 1) (c ^^^ b.toNat) = crcBit (crcBits m (c ^^^ b.toNat))) := hide rfl
          generalize crcBits m (c ^^^ b.toNat) = d at hlt2 HN
          have hand := c_and hlt2
          have hxor := c_xor hlt2
          by_cases hodd : d % 2 = 1
          · have HC : Hid (crcBit d = d / 2 ^^^ 3988292384) := hide (by unfold crcBit; rw [if_pos hodd])
            have hb1 : (((d % 2 : Nat) : Int) == 1) = true := by rw [hodd]; rfl
            clear hodd
            go_wp2
            go_round
            case rel => exact ⟨m + 1, by omega, by go_num, by rw [HN.out, HC.out]⟩
            case measure => simp [intOf]; omega
          · have HC : Hid (crcBit d = d / 2) := hide (by unfold crcBit; rw [if_neg hodd])
            have hb1 : (((d % 2 : Nat) : Int) == 1) = false := by rw [beq_eq_false_iff_ne]; omega
            clear hodd
            go_wp2
            go_round
            case rel => exact ⟨m + 1, by omega, by go_num, by rw [HN.out, HC.out]; go_num⟩
            case measure => simp [intOf]; omega
        · have h8 : m = 8 := by omega
          subst h8
          go_wp2
          go_round
          case rel => exact ⟨k + 1, by omega, by go_num, by rw [HT.out, HS.out]; rfl⟩
          case measure => simp [intOf]; omega
    · have hnot := c_not hlt0
      have HE : Hid (crc s.data.toList = 4294967295 - crcF (s.data.toList.take k)) := hide (by unfold crc; rw [List.take_of_length_le (by simp; omega)])
      generalize crcF (s.data.toList.take k) = c at hlt0 hnot HE
      go_wp2
      go_ret
      exact ⟨by rw [HE.out]; rfl, rfl⟩
end Go.Proofs.YtkgncijcnlfhiaaDoor

namespace Go.Proofs.YtkgncijcnlfhiaaDoor
set_option linter.unusedVariables false
set_option linter.unusedSimpArgs false
open Go.RowKit
attribute [local go_sem ↓] Go.wp_at_zero Go.wp_at_succ

/-- a cursor: what is left, and what it is refused by -/
def Cur (w : World) (cb : Nat) (r : List UInt8) (e a : Int) : Prop :=
  (∃ s : ByteArray, w.cell? ⟨cb, 0, none⟩ = some (.string s) ∧ s.data.toList = r) ∧ r.length ≤ 1000000 ∧ w.cell? ⟨cb, 1, none⟩ = some (.int .i64 e) ∧ w.cell? ⟨cb, 3, none⟩ = some (.int .i64 a) ∧ w.frozen? ⟨cb, 0, none⟩ = false ∧ w.cell? ⟨cb, 2, none⟩ = some (.int .i64 0)
/-- new blocks, and writes into the cursor alone -/
abbrev Gc (cb : Nat) (w w' : World) : Prop := w.grownBy w' (some cb)
theorem Gc.refl (cb : Nat) (w : World) : Gc cb w w := World.grownBy.refl w _
theorem Gr.toGc {cb : Nat} {w w' : World} (h : Gr w w') : Gc cb w w' := ⟨h.os, h.tape, h.output, h.size, fun i hi _ => h.block i hi (by simp)⟩
theorem Gc.set {cb : Nat} {w w' : World} (h : Gc cb w w') (o : Nat) (v : Value) : Gc cb w (w'.setCell ⟨cb, o, none⟩ v) :=
  ⟨h.os, h.tape, h.output, by simpa using h.size, fun i hi hne => by rw [Below.heap_setCell _ _ _ _ (fun e => hne (by rw [e]))]; exact h.block i hi hne⟩
theorem Gc.drew {cb : Nat} {a b : World} (h : Gc cb a b) : Gc cb a b.drew := ⟨h.os, h.tape, h.output, h.size, h.block⟩
theorem Cur.gr {w w' : World} {cb : Nat} {r : List UInt8} {e a : Int} (h : Cur w cb r e a) (g : Gr w w') : Cur w' cb r e a := by
  obtain ⟨⟨s, h0, h1⟩, h2, h3, h4, h5, h6⟩ := h
  exact ⟨⟨s, g.cell h0 (by simp), h1⟩, h2, g.cell h3 (by simp), g.cell h4 (by simp), (World.frozen?_of_block (g.block cb (World.block_lt_of_cell? w _ h3) (by simp))).trans h5, g.cell h6 (by simp)⟩

/-- how a reader ends -/
def Rds {α : Type} (cb : Nat) (e a : Int) (w : World) (R : World → Value → α → Prop) : Option (α × List UInt8) → Ending → World → Prop
  | some (y, r'), x, w' => ∃ v, x = .returned v ∧ R w' v y ∧ Cur w' cb r' e a ∧ Gc cb w w'
  | none, x, w' => x = .panicked (thrown e a) ∧ Gc cb w w'

def rdTake (n : Nat) (r : List UInt8) : Option (List UInt8 × List UInt8) := if n ≤ r.length then some (r.take n, r.drop n) else none

theorem cur_put {w : World} {cb : Nat} {e a : Int} {s' : ByteArray} {l : List UInt8} (h0 : ∃ x, w.cell? ⟨cb, 0, none⟩ = some x) (hs : s'.data.toList = l) (hl : l.length ≤ 1000000) (h1 : w.cell? ⟨cb, 1, none⟩ = some (.int .i64 e)) (h2 : w.cell? ⟨cb, 3, none⟩ = some (.int .i64 a)) (hz : w.frozen? ⟨cb, 0, none⟩ = false) (hj : w.cell? ⟨cb, 2, none⟩ = some (.int .i64 0)) :
    Cur (w.setCell ⟨cb, 0, none⟩ (.string s')) cb l e a := by
  obtain ⟨x, hx⟩ := h0
  refine ⟨⟨s', World.cell?_setCell_same w ⟨cb, 0, none⟩ _ hx, hs⟩, hl, ?_, ?_, ?_, ?_⟩
  · exact (World.cell?_setCell_other w ⟨cb, 0, none⟩ ⟨cb, 1, none⟩ _ (by intro h; cases h)).trans h1
  · exact (World.cell?_setCell_other w ⟨cb, 0, none⟩ ⟨cb, 3, none⟩ _ (by intro h; cases h)).trans h2
  · rw [World.frozen?_setCell]; exact hz
  · exact (World.cell?_setCell_other w ⟨cb, 0, none⟩ ⟨cb, 2, none⟩ _ (by intro h; cases h)).trans hj
theorem take_bytes (s : ByteArray) (n : Nat) : s.extract 0 n = ⟨(s.data.toList.take n).toArray⟩ := by
  have h : (s.extract 0 n).data.toList = s.data.toList.take n := by simp [ByteArray.data_extract]
  rw [← h]
theorem drop_bytes (s : ByteArray) (n : Nat) : (s.extract n s.size).data.toList = s.data.toList.drop n := by
  have e : s.size = s.data.toList.length := by rw [Array.length_toList]; rfl
  simp [ByteArray.data_extract]
  rw [List.take_of_length_le (by simp)]

set_option maxRecDepth 100000 in
set_option maxHeartbeats 1000000 in
theorem take_any (cb : Nat) (r : List UInt8) (e a : Int) (n : Nat) (hn : n < 18446744073709551616) (w : World) (hc : Cur w cb r e a) :
    Calls Tryd.prog 155 #[.pointer (some ⟨cb, 0, none⟩), .int .u64 n] w (Rds cb e a w (fun _ v y => v = .string ⟨y.toArray⟩) (rdTake n r)) := by
  obtain ⟨⟨s, h0, hs⟩, hl, h1, h2, hz, hj⟩ := hc
  have hsz : s.size = r.length := by rw [← hs, Array.length_toList]; rfl
  by_cases hle : n ≤ r.length
  · have HT : Hid (rdTake n r = some (r.take n, r.drop n)) := hide (by simp [rdTake, hle])
    have hd : (n : Int) ≤ (s.size : Int) := by omega
    have hd0 : (0 : Int) ≤ (n : Int) := by omega
    have hss : s.size ≤ 1000000 := by omega
    have hwr : IntKind.u64.wrap (s.size : Int) = s.size := Go.IntWalk.u64_in _ (by omega)
    have HS := hide hs
    clear hs hsz hle
    go_enter Tryd.func155, Tryd.ntmps155
    go_wp2
    go_region_held3 (fun w' => w'.cell? ⟨cb, 0, none⟩ = some (.string s) ∧ w'.cell? ⟨cb, 1, none⟩ = some (.int .i64 e) ∧ w'.cell? ⟨cb, 3, none⟩ = some (.int .i64 a) ∧ w'.cell? ⟨cb, 2, none⟩ = some (.int .i64 0)) (first | go_keep | (refine ⟨?_, ?_, ?_, ?_⟩ <;> exact hg'.cell (by assumption) (by simp))) (first | (go_at_call 76; refine (unless_yes _ _ _).mono ?_; rintro e w' ⟨rfl, hg'⟩))
    have h01 := hg'.cell h0 (by simp)
    have h11 := hg'.cell h1 (by simp)
    have h21 := hg'.cell h2 (by simp)
    have hj1 := hg'.cell hj (by simp)
    have hz1 : w'.frozen? ⟨cb, 0, none⟩ = false := (World.frozen?_of_block (hg'.block cb (World.block_lt_of_cell? w _ h1) (by simp))).trans hz
    have hgc : Gc cb w w' := (Gr.trans (Gr.drew (Gr.refl w)) hg').toGc
    clear hg' h0 h1 h2 hz hj
    go_wp2_with fail
    go_ret
    rw [HT.out]
    have hcur := cur_put (s' := s.extract n s.size) (l := r.drop n) ⟨_, h01⟩ (by rw [← HS.out]; exact drop_bytes s n) (by rw [List.length_drop]; omega) h11 h21 hz1 hj1
    refine ⟨_, rfl, ?_, hcur, hgc.set 0 _⟩
    show Value.string _ = _
    rw [take_bytes s n, HS.out]
  · have HT : Hid (rdTake n r = none) := hide (by simp [rdTake, hle])
    have hd : decide (n ≤ s.size) = false := by rw [decide_eq_false_iff_not]; omega
    have hss : s.size ≤ 1000000 := by omega
    have hwr : IntKind.u64.wrap (s.size : Int) = s.size := Go.IntWalk.u64_in _ (by omega)
    clear hs hsz hle
    go_enter Tryd.func155, Tryd.ntmps155
    go_wp2
    go_region_with (first | (go_at_call 76; refine (unless_no _ _ _).mono ?_; rintro e w' ⟨rfl, hg'⟩; refine left_region ?_))
    all_goals exact ⟨rfl, by rw [HT.out]; exact ⟨rfl, (Gr.trans (Gr.drew (Gr.refl w)) hg').toGc⟩⟩
end Go.Proofs.YtkgncijcnlfhiaaDoor

