import Derived.Test.YtkgncijcnlfhiabGreatW3
import Derived.Maps.AppendAt
import Derived.Lib.AppendStr
namespace Go.Proofs.YtkgncijcnlfhiabGreat
set_option linter.unusedVariables false
set_option linter.unusedSimpArgs false
open Go.RowKit
/-- lists of numbers, in a list -/
def RShapes (w : World) (v : Value) (l : List (List Int)) : Prop :=
  ∃ ao cap, v = .slice ao l.length cap ∧ l.length ≤ maxLen ∧ ∀ i x, l[i]? = some x → ∃ b off vx, ao = some ⟨b, off, none⟩ ∧ w.cell? ⟨b, off + i, none⟩ = some vx ∧ RInts w vx x
/-- instructions -/
def RCode (w : World) (v : Value) (l : List PIns) : Prop :=
  ∃ ao cap, v = .slice ao l.length cap ∧ l.length ≤ maxLen ∧ ∀ i x, l[i]? = some x → ∃ b off, ao = some ⟨b, off, none⟩ ∧
    w.cell? ⟨b, off + i * 3, none⟩ = some (.int .i64 x.op) ∧ w.cell? ⟨b, off + i * 3 + 1, none⟩ = some (.int .i64 x.a) ∧ w.cell? ⟨b, off + i * 3 + 2, none⟩ = some (.int .i64 x.b)
/-- a text -/
def RText (v : Value) (l : List UInt8) : Prop := ∃ s : ByteArray, v = .string s ∧ s.data.toList = l ∧ s.size ≤ maxLen
/-- functions -/
def RFuncs (w : World) (v : Value) (l : List PFunc) : Prop :=
  ∃ ao cap, v = .slice ao l.length cap ∧ l.length ≤ maxLen ∧ ∀ i x, l[i]? = some x → ∃ b off vp vl vc, ao = some ⟨b, off, none⟩ ∧
    w.cell? ⟨b, off + i * 4, none⟩ = some vp ∧ w.cell? ⟨b, off + i * 4 + 1, none⟩ = some (.int .i64 x.result) ∧ w.cell? ⟨b, off + i * 4 + 2, none⟩ = some vl ∧ w.cell? ⟨b, off + i * 4 + 3, none⟩ = some vc ∧
    RInts w vp x.params ∧ RInts w vl x.locals ∧ RCode w vc x.code
/-- imports -/
def RImports (w : World) (v : Value) (l : List PImp) : Prop :=
  ∃ ao cap, v = .slice ao l.length cap ∧ l.length ≤ maxLen ∧ ∀ i x, l[i]? = some x → ∃ b off vs vp, ao = some ⟨b, off, none⟩ ∧
    w.cell? ⟨b, off + i * 3, none⟩ = some vs ∧ w.cell? ⟨b, off + i * 3 + 1, none⟩ = some vp ∧ w.cell? ⟨b, off + i * 3 + 2, none⟩ = some (.int .i64 x.result) ∧
    RText vs x.name ∧ RInts w vp x.params
/-- exports -/
def RExports (w : World) (v : Value) (l : List PExp) : Prop :=
  ∃ ao cap, v = .slice ao l.length cap ∧ l.length ≤ maxLen ∧ ∀ i x, l[i]? = some x → ∃ b off vs, ao = some ⟨b, off, none⟩ ∧
    w.cell? ⟨b, off + i * 2, none⟩ = some vs ∧ w.cell? ⟨b, off + i * 2 + 1, none⟩ = some (.int .i64 x.func) ∧ RText vs x.name
/-- a unit -/
def RUnit (w : World) (v : Value) (u : PUnit) : Prop :=
  ∃ v1 v2 v3 v4 v5, v = .agg #[v1, v2, v3, v4, v5] ∧ RShapes w v1 u.shapes ∧ RInts w v2 u.consts ∧ RFuncs w v3 u.funcs ∧ RImports w v4 u.imports ∧ RExports w v5 u.exports

theorem RShapes.gr {w w' : World} {v : Value} {l : List (List Int)} (h : RShapes w v l) (g : Gr w w') : RShapes w' v l := by
  obtain ⟨ao, cap, hv, hm, hc⟩ := h
  refine ⟨ao, cap, hv, hm, fun i x hi => ?_⟩
  obtain ⟨b, off, vx, h1, h2, h3⟩ := hc i x hi
  exact ⟨b, off, vx, h1, g.cell h2 (by simp), h3.gr g⟩
theorem RCode.gr {w w' : World} {v : Value} {l : List PIns} (h : RCode w v l) (g : Gr w w') : RCode w' v l := by
  obtain ⟨ao, cap, hv, hm, hc⟩ := h
  refine ⟨ao, cap, hv, hm, fun i x hi => ?_⟩
  obtain ⟨b, off, h1, h2, h3, h4⟩ := hc i x hi
  exact ⟨b, off, h1, g.cell h2 (by simp), g.cell h3 (by simp), g.cell h4 (by simp)⟩
theorem RFuncs.gr {w w' : World} {v : Value} {l : List PFunc} (h : RFuncs w v l) (g : Gr w w') : RFuncs w' v l := by
  obtain ⟨ao, cap, hv, hm, hc⟩ := h
  refine ⟨ao, cap, hv, hm, fun i x hi => ?_⟩
  obtain ⟨b, off, vp, vl, vc, h1, h2, h3, h4, h5, h6, h7, h8⟩ := hc i x hi
  exact ⟨b, off, vp, vl, vc, h1, g.cell h2 (by simp), g.cell h3 (by simp), g.cell h4 (by simp), g.cell h5 (by simp), h6.gr g, h7.gr g, h8.gr g⟩
theorem RImports.gr {w w' : World} {v : Value} {l : List PImp} (h : RImports w v l) (g : Gr w w') : RImports w' v l := by
  obtain ⟨ao, cap, hv, hm, hc⟩ := h
  refine ⟨ao, cap, hv, hm, fun i x hi => ?_⟩
  obtain ⟨b, off, vs, vp, h1, h2, h3, h4, h5, h6⟩ := hc i x hi
  exact ⟨b, off, vs, vp, h1, g.cell h2 (by simp), g.cell h3 (by simp), g.cell h4 (by simp), h5, h6.gr g⟩
theorem RExports.gr {w w' : World} {v : Value} {l : List PExp} (h : RExports w v l) (g : Gr w w') : RExports w' v l := by
  obtain ⟨ao, cap, hv, hm, hc⟩ := h
  refine ⟨ao, cap, hv, hm, fun i x hi => ?_⟩
  obtain ⟨b, off, vs, h1, h2, h3, h4⟩ := hc i x hi
  exact ⟨b, off, vs, h1, g.cell h2 (by simp), g.cell h3 (by simp), h4⟩
theorem RUnit.gr {w w' : World} {v : Value} {u : PUnit} (h : RUnit w v u) (g : Gr w w') : RUnit w' v u := by
  obtain ⟨v1, v2, v3, v4, v5, h, h1, h2, h3, h4, h5⟩ := h
  exact ⟨v1, v2, v3, v4, v5, h, h1.gr g, h2.gr g, h3.gr g, h4.gr g, h5.gr g⟩
theorem RShapes.shape {w : World} {v : Value} {l : List (List Int)} (h : RShapes w v l) : ∃ ao cap, v = .slice ao l.length cap := by
  obtain ⟨ao, cap, hv, _⟩ := h; exact ⟨ao, cap, hv⟩
theorem RCode.shape {w : World} {v : Value} {l : List PIns} (h : RCode w v l) : ∃ ao cap, v = .slice ao l.length cap := by
  obtain ⟨ao, cap, hv, _⟩ := h; exact ⟨ao, cap, hv⟩
theorem RFuncs.shape {w : World} {v : Value} {l : List PFunc} (h : RFuncs w v l) : ∃ ao cap, v = .slice ao l.length cap := by
  obtain ⟨ao, cap, hv, _⟩ := h; exact ⟨ao, cap, hv⟩
theorem getElem?_lt {α : Type} {l : List α} {k : Nat} (h : k < l.length) : ∃ x, l[k]? = some x := ⟨l[k], List.getElem?_eq_getElem h⟩
end Go.Proofs.YtkgncijcnlfhiabGreat

namespace Go.Proofs.YtkgncijcnlfhiabGreat
set_option linter.unusedVariables false
set_option linter.unusedSimpArgs false
open Go.RowKit
/-- bytes, as cells -/
def bc (l : List UInt8) : List Value := l.map fun b => Value.int .u8 b.toNat
theorem bc_len (l : List UInt8) : (bc l).length = l.length := by simp [bc]
theorem bc_app (l m : List UInt8) : bc (l ++ m) = bc l ++ bc m := by simp [bc]
theorem bc_one (l : List UInt8) : ∀ u ∈ bc l, u.oneCell' = true := by
  intro u hu; simp [bc] at hu; obtain ⟨x, _, rfl⟩ := hu; rfl

theorem Tryz.info5 : (Tryz.prog.info? 5).map (fun i => (i.zero, i.size, i.bytes)) = some (some (.int .u8 0), 1, 1) := by kernel_rfl

/-- v, which owned its bytes, has become v', which owns l'; nothing else that was there has turned -/
structure App (base : Nat) (w : World) (v : Value) (w' : World) (v' : Value) (l' : List UInt8) : Prop where
  own : w'.ownsRow base 5 1 v' l'.length (bc l')
  frm : w.grownBy w' v.ownBlock
  lies : ∀ k, v'.ownBlock = some k → v.ownBlock = some k ∨ w.heap.size ≤ k

theorem App.refl {base : Nat} {w : World} {v : Value} {l : List UInt8} (h : w.ownsRow base 5 1 v l.length (bc l)) : App base w v w v l :=
  ⟨h, World.grownBy.refl _ _, fun _ hk => .inl hk⟩
theorem App.trans {base : Nat} {w w1 w2 : World} {v v1 v2 : Value} {l1 l2 : List UInt8} (h : App base w v w1 v1 l1) (k : App base w1 v1 w2 v2 l2) : App base w v w2 v2 l2 := by
  refine ⟨k.own, ⟨k.frm.os.trans h.frm.os, k.frm.tape.trans h.frm.tape, k.frm.output.trans h.frm.output, Nat.le_trans h.frm.size k.frm.size, fun i hi hne => ?_⟩, fun i hi => ?_⟩
  · refine (k.frm.block i (Nat.lt_of_lt_of_le hi h.frm.size) fun e => ?_).trans (h.frm.block i hi hne)
    rcases h.lies i e.symm with e1 | e1
    · exact hne e1.symm
    · omega
  · rcases k.lies i hi with e | e
    · exact h.lies i e
    · exact .inr (Nat.le_trans h.frm.size e)
theorem App.gr {base : Nat} {w w1 w2 : World} {v v2 : Value} {l2 : List UInt8} (g : Gr w w1) (k : App base w1 v w2 v2 l2) : App base w v w2 v2 l2 := by
  refine ⟨k.own, ⟨k.frm.os.trans g.os, k.frm.tape.trans g.tape, k.frm.output.trans g.output, Nat.le_trans g.size k.frm.size, fun i hi hne => (k.frm.block i (Nat.lt_of_lt_of_le hi g.size) hne).trans (g.block i hi (by simp))⟩, fun i hi => ?_⟩
  rcases k.lies i hi with e | e
  · exact .inl e
  · exact .inr (Nat.le_trans g.size e)
theorem App.thenGr {base : Nat} {w w1 w2 : World} {v v1 : Value} {l1 : List UInt8} (k : App base w v w1 v1 l1) (g : Gr w1 w2) : App base w v w2 v1 l1 := by
  refine ⟨k.own.kept g ?_, ⟨g.os.trans k.frm.os, g.tape.trans k.frm.tape, g.output.trans k.frm.output, Nat.le_trans k.frm.size g.size, fun i hi hne => (g.block i (Nat.lt_of_lt_of_le hi k.frm.size) (by simp)).trans (k.frm.block i hi hne)⟩, k.lies⟩
  cases h : v1.ownBlock <;> simp
theorem App.cell {base : Nat} {w w' : World} {v v' : Value} {l' : List UInt8} (k : App base w v w' v' l') {b o : Nat} {x : Value} (hx : w.cell? ⟨b, o, none⟩ = some x) (hb : b < base) (hv : ∀ i, v.ownBlock = some i → base ≤ i) : w'.cell? ⟨b, o, none⟩ = some x :=
  k.frm.cell hx (fun e => by have := hv b e.symm; omega)

section
variable {ops : Array Oper} {rest : List Oper} {o : Oper} {a : Act} {Q : Exit → Act → World → Prop}
/-- append of one byte, which lies in a block of its own -/
theorem wpList_append_byte (w : World) (hgd : o.guard = none) (s x : Operand) (ho : o.op = .call { callee := .builtin .append, args := #[s, x], argTypes := #[88, 88] })
    (base : Nat) (v : Value) (l : List UInt8) (hs : a.eval s = v) (hown : w.ownsRow base 5 1 v l.length (bc l)) (y : UInt8) (val : Int) (hy : val = y.toNat)
    (H : Nat) (hx : a.eval x = .slice (some ⟨H, 0, none⟩) 1 1) (hH : w.heap.size = H) (hlen : l.length ≤ 100000000) (hbase : base ≤ w.heap.size)
    (h : ∀ v' w', App base w v w' v' (l ++ [y]) → wpList Tryz.prog ops Q rest (a.put o.dst v') w') :
    wpList Tryz.prog ops Q (o :: rest) a (w.alloc (.cells #[.int .u8 val] 5)) := by
  subst hy
  subst hH
  obtain ⟨i0, hi, hz0, hz1, hz2⟩ := info_parts Tryz.info5
  refine wpList_append_own_at _ hgd s x 88 ho base 5 i0 (.int .u8 0) 1 1 Tryz.underlying88 hi hz0 hz1 hz2 rfl (by decide) v l.length (bc l) hs (hown.alloc _) ⟨w.heap.size, 0, none⟩ 1 1 [.int .u8 y.toNat] hx rfl (cell_one_new _ _ _) (by intro u hu; simp at hu; subst hu; rfl) (by unfold maxLen; omega) (by omega) (by simp; omega) ?_
  intro v' w' h1 h2 _ h4
  refine h v' w' ⟨?_, (World.grownBy_alloc w _ _).trans h2, fun k hk => ?_⟩
  · simpa [bc] using h1
  · rcases h4 with e | e
    · exact .inl (e ▸ hk)
    · rw [hk] at e; simp at e; right; omega
end

/-- numbers, in bytes of seven bits -/
def numF : Nat → Nat → List UInt8
  | 0, v => [UInt8.ofNat v]
  | k + 1, v => if v < 128 then [UInt8.ofNat v] else UInt8.ofNat (v % 128 + 128) :: numF k (v / 128)
def num (v : Nat) : List UInt8 := numF 10 v
end Go.Proofs.YtkgncijcnlfhiabGreat

namespace Go.Proofs.YtkgncijcnlfhiabGreat
set_option linter.unusedVariables false
set_option linter.unusedSimpArgs false
open Go.RowKit

theorem byte_small {q : Nat} (h : q < 128) : (q : Int) = (UInt8.ofNat q).toNat := by simp [UInt8.toNat_ofNat']; omega

theorem or128 : ∀ a : Fin 256, a.val ||| 128 = a.val % 128 + 128 := by decide +kernel
theorem byte_big (q : Nat) : bits BinOp.or IntKind.u8 ((q : Int) % 256) 128 = (UInt8.ofNat (q % 128 + 128)).toNat := by
  have h := u8_or_nat (q % 256) 128 (by omega) (by omega)
  have h2 := or128 ⟨q % 256, by omega⟩
  simp only at h2
  rw [h2] at h
  rw [show ((q : Int) % 256) = ((q % 256 : Nat) : Int) by omega, show ((128 : Int)) = ((128 : Nat) : Int) by rfl, h]
  simp [UInt8.toNat_ofNat']; omega
theorem numF_len : ∀ k q : Nat, (numF k q).length ≤ k + 1 ∧ 1 ≤ (numF k q).length
  | 0, q => by simp [numF]
  | k + 1, q => by
    have := numF_len k (q / 128)
    unfold numF; split
    · simp
    · simp; omega
theorem num_len (q : Nat) : (num q).length ≤ 11 := (numF_len 10 q).1
theorem numF_small {k q : Nat} (h : q < 128) : numF k q = [UInt8.ofNat q] := by cases k <;> simp [numF, h]
theorem numF_big {k q : Nat} (h : ¬ q < 128) : numF (k + 1) q = UInt8.ofNat (q % 128 + 128) :: numF k (q / 128) := by simp [numF, h]

set_option maxRecDepth 100000 in
set_option maxHeartbeats 1000000 in
theorem appendNumber_any (base : Nat) (v : Value) (l : List UInt8) (n : Nat) (w : World) (hn : n < 18446744073709551616) (hown : w.ownsRow base 5 1 v l.length (bc l)) (hlen : l.length ≤ 10000000) (hb : base ≤ w.heap.size) :
    Calls Tryz.prog 62 #[v, .int .u64 n] w fun x w' => ∃ v', x = .returned v' ∧ App base w v w' v' (l ++ num n) := by
  go_enter Tryz.func62, Tryz.ntmps62
  go_wp2
  go_loopw [0, 1] (fun vo m wr => ∃ (k q : Nat) (l' : List UInt8), k ≤ 10 ∧ q < 2 ^ (7 * k + 1) ∧ q < 18446744073709551616 ∧ m = .int .u64 q ∧ l' ++ numF k q = l ++ num n ∧ l'.length + k = l.length + 10 ∧ App base w v wr vo l') (fun _ m _ => (intOf m).toNat)
  case atStart => exact ⟨10, n, l, Nat.le_refl _, by omega, hn, rfl, rfl, rfl, App.refl hown⟩
  case round =>
    obtain ⟨k, q, l', hk, hq, hq64, rfl, hl', hll, happ⟩ := hrel
    have HL := hide hl'
    have HLL := hide hll
    have HQ := hide hq
    clear hl' hll hq
    by_cases hlt : q < 128
    · go_wp2_with (at_builtin; refine wpList_append_byte _ rfl _ _ rfl base _ l' rfl happ.own (UInt8.ofNat q) _ (by exact byte_small hlt) _ rfl rfl (by have := HLL.out; omega) (Nat.le_trans hb happ.frm.size) ?_; intro v1 w1 happ1)
      go_ret
      refine ⟨v1, rfl, happ.trans ?_⟩
      rw [← HL.out, numF_small hlt]
      exact happ1
    · go_wp2_with (at_builtin; refine wpList_append_byte _ rfl _ _ rfl base _ l' rfl happ.own (UInt8.ofNat (q % 128 + 128)) _ (by exact byte_big q) _ rfl rfl (by have := HLL.out; omega) (Nat.le_trans hb happ.frm.size) ?_; intro v1 w1 happ1)
      have hq := HQ.out
      obtain ⟨k', rfl⟩ : ∃ k', k = k' + 1 := ⟨k - 1, by cases k with | zero => simp at hq; omega | succ k => rfl⟩
      refine ⟨⟨k', q / 128, l' ++ [UInt8.ofNat (q % 128 + 128)], by omega, ?_, by omega, by go_num, ?_, ?_, happ.trans happ1⟩, by simp [intOf]; omega⟩
      · rw [Nat.div_lt_iff_lt_mul (by decide)]
        rw [show 2 ^ (7 * k' + 1) * 128 = 2 ^ (7 * (k' + 1) + 1) by rw [show 7 * (k' + 1) + 1 = (7 * k' + 1) + 7 by omega, Nat.pow_add _ _ 7]]; exact hq
      · rw [← HL.out, numF_big hlt, List.append_assoc]; rfl
      · have := HLL.out; simp; omega

theorem appendWhole_any (base : Nat) (v : Value) (l : List UInt8) (n : Nat) (w : World) (hn : n < 9223372036854775808) (hown : w.ownsRow base 5 1 v l.length (bc l)) (hlen : l.length ≤ 10000000) (hb : base ≤ w.heap.size) :
    Calls Tryz.prog 65 #[v, .int .i64 n] w fun x w' => ∃ v', x = .returned v' ∧ App base w v w' v' (l ++ num n) := by
  go_enter Tryz.func65, Tryz.ntmps65
  go_wp2_with (go_at_call 62; refine (appendNumber_any base _ l n _ (by omega) hown hlen hb).mono ?_; rintro e w1 ⟨v1, rfl, happ⟩)
  go_ret
  exact ⟨v1, rfl, happ⟩

def zig (v : Int) : Nat := if v < 0 then (-2 * v - 1).toNat else (2 * v).toNat
theorem zig_lt {n : Int} (h0 : -9223372036854775808 ≤ n) (h1 : n ≤ 9223372036854775807) : zig n < 18446744073709551616 := by unfold zig; split <;> omega
theorem xor_max64 {x : Nat} (hx : x < 18446744073709551616) : 18446744073709551615 ^^^ x = 18446744073709551615 - x := by
  have h := congrArg BitVec.toNat (BitVec.allOnes_xor (x := BitVec.ofNat 64 x))
  rw [BitVec.toNat_xor, BitVec.toNat_allOnes, BitVec.toNat_ofNat, BitVec.toNat_not, BitVec.toNat_ofNat, Nat.mod_eq_of_lt hx] at h
  exact h
theorem zig_neg {n : Int} (h0 : -9223372036854775808 ≤ n) (h : n < 0) :
    bits BinOp.xor IntKind.u64 IntKind.u64.max (IntKind.u64.wrap (IntKind.u64.wrap n * 2)) = (zig n : Int) := by
  have e1 : IntKind.u64.wrap (IntKind.u64.wrap n * 2) = ((2 * n + 18446744073709551616).toNat : Int) := by
    rw [IntKind.wrap_u64, IntKind.wrap_u64]; omega
  rw [e1, show IntKind.u64.max = ((18446744073709551615 : Nat) : Int) by rfl, u64_xor_nat _ _ (by omega) (by omega), xor_max64 (by omega)]
  unfold zig; rw [if_pos h]; omega
theorem zig_pos {n : Int} (h : ¬ n < 0) : n * 2 = (zig n : Int) := by unfold zig; rw [if_neg h]; omega

theorem appendSigned_any (base : Nat) (v : Value) (l : List UInt8) (n : Int) (w : World) (h0 : -9223372036854775808 ≤ n) (h1 : n ≤ 9223372036854775807) (hown : w.ownsRow base 5 1 v l.length (bc l)) (hlen : l.length ≤ 10000000) (hb : base ≤ w.heap.size) :
    Calls Tryz.prog 38 #[v, .int .i64 n] w fun x w' => ∃ v', x = .returned v' ∧ App base w v w' v' (l ++ num (zig n)) := by
  by_cases hneg : n < 0
  · go_enter Tryz.func38, Tryz.ntmps38
    go_wp2_with fail
    rw [zig_neg h0 hneg]
    refine (appendNumber_any base _ l (zig n) _ (zig_lt h0 h1) hown hlen hb).mono ?_
    rintro e w1 ⟨v1, rfl, happ⟩
    go_wp2
    go_ret
    exact ⟨v1, rfl, happ⟩
  · go_enter Tryz.func38, Tryz.ntmps38
    go_wp2_with fail
    rw [zig_pos (by omega)]
    refine (appendNumber_any base _ l (zig n) _ (zig_lt h0 h1) hown hlen hb).mono ?_
    rintro e w1 ⟨v1, rfl, happ⟩
    go_wp2
    go_ret
    exact ⟨v1, rfl, happ⟩
end Go.Proofs.YtkgncijcnlfhiabGreat

namespace Go.Proofs.YtkgncijcnlfhiabGreat
set_option linter.unusedVariables false
set_option linter.unusedSimpArgs false
open Go.RowKit

theorem below_cell {W w : World} (h : Below W.heap.size W w) {a : Addr} {x : Value} (hx : W.cell? a = some x) : w.cell? a = some x :=
  (h.cell (World.block_lt_of_cell? W a hx)).trans hx
theorem RInts.below {W w : World} {v : Value} {l : List Int} (h : RInts W v l) (g : Below W.heap.size W w) : RInts w v l := by
  obtain ⟨ao, cap, hv, hm, hc⟩ := h
  refine ⟨ao, cap, hv, hm, fun i hi => ?_⟩
  obtain ⟨b, off, h1, h2⟩ := hc i hi
  exact ⟨b, off, h1, below_cell g h2⟩
theorem App.below {base : Nat} {w w' : World} {v v' : Value} {l l' : List UInt8} (k : App base w v w' v' l') (hown : w.ownsRow base 5 1 v l.length (bc l)) (hb : base ≤ w.heap.size) : Below base w w' :=
  (Below.refl _ _).grown k.frm hb fun i hi => (hown.lt i hi).1
/-- what a call of the writers is made in: the unit lies in W, below all that was made since -/
structure Wr (W w : World) (v : Value) (l : List UInt8) : Prop where
  low : Below W.heap.size W w
  own : w.ownsRow W.heap.size 5 1 v l.length (bc l)
theorem Wr.base {W w : World} {v : Value} {l : List UInt8} (h : Wr W w v l) : W.heap.size ≤ w.heap.size := h.low.size
theorem Wr.app {W w w' : World} {v v' : Value} {l l' : List UInt8} (h : Wr W w v l) (k : App W.heap.size w v w' v' l') : Wr W w' v' l' :=
  ⟨h.low.trans (k.below h.own h.base), k.own⟩
theorem Wr.gr {W w w' : World} {v : Value} {l : List UInt8} (h : Wr W w v l) (g : Gr w w') : Wr W w' v l :=
  ⟨h.low.grown g h.base (by simp), h.own.kept g (by cases v.ownBlock <;> simp)⟩
theorem Wr.refl {W w : World} {v : Value} {l : List UInt8} (h : Wr W w v l) : App W.heap.size w v w v l := App.refl h.own

section
variable {ops : Array Oper} {rest : List Oper} {o : Oper} {a : Act} {Q : Exit → Act → World → Prop}
/-- append of a text -/
theorem wpList_append_text (w : World) (hgd : o.guard = none) (sl x : Operand) (ho : o.op = .call { callee := .builtin .append, args := #[sl, x], argTypes := #[88, 9] })
    (base : Nat) (v : Value) (l : List UInt8) (hs : a.eval sl = v) (hown : w.ownsRow base 5 1 v l.length (bc l)) (s : ByteArray)
    (hx : a.eval x = .string s) (hlen : l.length + s.size ≤ 100000000) (hbase : base ≤ w.heap.size)
    (h : ∀ v' w', App base w v w' v' (l ++ s.data.toList) → wpList Tryz.prog ops Q rest (a.put o.dst v') w') :
    wpList Tryz.prog ops Q (o :: rest) a w := by
  obtain ⟨i, hi, hz, hsize, hby⟩ := info_parts Tryz.info5
  refine wpList_plain hgd fun K hK => ?_
  obtain ⟨v', w', hr, h2, h3, _⟩ := Go.Lib.run_append_own_string (P := Tryz.prog) w base 88 9 o.type 5 i Tryz.underlying88 Tryz.underlying9 hi hz hsize hby v l.length (bc l) hown s (by unfold maxLen; omega) (by omega) hbase
  have hsz : s.data.toList.length = s.size := by rw [Array.length_toList]; rfl
  have hlies : ∀ k, v'.ownBlock = some k → v.ownBlock = some k ∨ w.heap.size ≤ k := by
    intro k hk
    rcases hown.2 with ⟨rfl, hn⟩ | ⟨g, cap, cur, rfl, hbg, hg, hnc, hcm, hcs, htake⟩
    · obtain ⟨v2, w2, hr2, h22, _⟩ := Go.Lib.run_append_own_string (P := Tryz.prog) w w.heap.size 88 9 o.type 5 i Tryz.underlying88 Tryz.underlying9 hi hz hsize hby _ l.length (bc l) (by rw [hn]; exact ⟨by simp [bc_len, hn], .inl ⟨rfl, rfl⟩⟩) s (by unfold maxLen; omega) (by omega) (Nat.le_refl _)
      rw [hr] at hr2
      simp only [Result.ok.injEq] at hr2
      obtain ⟨rfl, rfl⟩ := hr2
      exact .inr (h22.lt k hk).1
    · have hcs' : cur.size = cap := by simpa using hcs
      by_cases hroom : l.length + s.size ≤ cap
      · have hr2 := Go.Lib.run_append_room_string (P := Tryz.prog) w 88 9 o.type 5 i Tryz.underlying88 Tryz.underlying9 hi hsize g l.length cap cur hg s hroom (by omega)
        rw [hr] at hr2
        simp only [Result.ok.injEq] at hr2
        obtain ⟨rfl, rfl⟩ := hr2
        exact .inl hk
      · have hr2 := Go.Lib.run_append_grow_string (P := Tryz.prog) w 88 9 o.type 5 i (.int .u8 0) Tryz.underlying88 Tryz.underlying9 hi hz ⟨g, 0, none⟩ l.length cap (bc l) (by rw [hsize]; simp [bc_len]) (hown.cells (g := g) rfl) s (by omega) (by omega) (by rw [hby]; exact growslice_fits (by omega) (by omega))
        rw [hr] at hr2
        simp only [Result.ok.injEq] at hr2
        obtain ⟨rfl, rfl⟩ := hr2
        simp [Value.ownBlock] at hk
        right; omega
  unfold Oper.wp execOp
  simp only [ho, resolve, invoke, builtin, Sem.run_bind, Sem.run_pure, Result.andThen_ok, List.map_toArray, List.map_cons, List.map_nil, hs, hx, hr]
  refine hK _ _ (h v' w' ⟨?_, h3, hlies⟩)
  rw [bc_app, List.length_append, hsz]
  exact h2
end

theorem whole_any (W : World) (v : Value) (l : List UInt8) (n : Int) (w : World) (h0 : 0 ≤ n) (hn : n ≤ 9223372036854775807) (hw : Wr W w v l) (hlen : l.length ≤ 10000000) :
    Calls Tryz.prog 65 #[v, .int .i64 n] w fun x w' => ∃ v', x = .returned v' ∧ App W.heap.size w v w' v' (l ++ num n.toNat) := by
  obtain ⟨k, rfl⟩ := Int.eq_ofNat_of_zero_le h0
  exact appendWhole_any _ v l k w (by omega) hw.own hlen hw.base
theorem signed_any (W : World) (v : Value) (l : List UInt8) (n : Int) (w : World) (h0 : -9223372036854775808 ≤ n) (hn : n ≤ 9223372036854775807) (hw : Wr W w v l) (hlen : l.length ≤ 10000000) :
    Calls Tryz.prog 38 #[v, .int .i64 n] w fun x w' => ∃ v', x = .returned v' ∧ App W.heap.size w v w' v' (l ++ num (zig n)) :=
  appendSigned_any _ v l n w h0 hn hw.own hlen hw.base

set_option maxHeartbeats 400000 in
theorem text_any (W : World) (v : Value) (l : List UInt8) (s : ByteArray) (w : World) (hs : s.size ≤ 1000000) (hw : Wr W w v l) (hlen : l.length ≤ 10000000) :
    Calls Tryz.prog 68 #[v, .string s] w fun x w' => ∃ v', x = .returned v' ∧ App W.heap.size w v w' v' (l ++ (num s.size ++ s.data.toList)) := by
  have hl2 : (num s.size).length ≤ 11 := num_len _
  go_enter Tryz.func68, Tryz.ntmps68
  go_wp2_with (first | (go_at_call 65; refine (whole_any W _ l s.size _ (by omega) (by omega) (by exact hw) hlen).mono ?_; rintro e w1 ⟨v1, rfl, happ⟩; rw [Int.toNat_natCast] at happ; have hw1 := hw.app happ) | (at_builtin; refine wpList_append_text _ rfl _ _ rfl W.heap.size _ (l ++ num s.size) rfl hw1.own s rfl (by simp only [List.length_append]; omega) hw1.base ?_; intro v2 w2 happ2))
  go_ret
  refine ⟨v2, rfl, ?_⟩
  rw [← List.append_assoc]
  exact happ.trans happ2
end Go.Proofs.YtkgncijcnlfhiabGreat

