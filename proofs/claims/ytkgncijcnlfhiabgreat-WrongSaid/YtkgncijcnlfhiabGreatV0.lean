import Derived.Test.YtkgncijcnlfhiabGreatT2
import Derived.Lib.BufferWrite
import Derived.Lib.UnsafeStr
import Derived.Lib.Strings
import Derived.Lib.Hide
import Derived.Test.YtkgncijcnlfhiabGreatB2
namespace Go.Proofs.YtkgncijcnlfhiabGreat
set_option linter.unusedVariables false
set_option linter.unusedSimpArgs false
open Go.RowKit
attribute [local go_sem ↓] Go.wp_at_zero Go.wp_at_succ

theorem rdNum_lt : ∀ (r : List UInt8) (k v : Nat), v < 2 ^ (7 * k) → v < 18446744073709551616 → ∀ n r', rdNum k v r = some (n, r') → n < 18446744073709551616
  | [], _, _, _, _, _, _, h => by simp [rdNum] at h
  | b :: r, k, v, h1, h2, n, r', h => by
    unfold rdNum at h
    by_cases hf : b.toNat % 128 * 2 ^ (7 * k) < 18446744073709551616
    · rw [if_pos hf] at h
      obtain ⟨s1, s2⟩ := sum_lt (low := b.toNat % 128) (k := k) rfl h1 h2 hf (by omega)
      by_cases hb : b.toNat < 128
      · rw [if_pos hb] at h
        split at h
        · simp only [Option.some.injEq, Prod.mk.injEq] at h; omega
        · cases h
      · rw [if_neg hb] at h
        exact rdNum_lt r _ _ s2 s1 n r' h
    · rw [if_neg hf] at h; cases h

def unzig (v : Nat) : Int := if v % 2 = 1 then -((v / 2 : Nat) : Int) - 1 else ((v / 2 : Nat) : Int)
def rdSigned (r : List UInt8) : Option (Int × List UInt8) := (rdNum 0 0 r).map fun p => (unzig p.1, p.2)
def rdWhole (r : List UInt8) : Option (Int × List UInt8) := match rdNum 0 0 r with
  | some (n, r') => if n ≤ 9223372036854775807 then some ((n : Int), r') else none
  | none => none
def rdText (r : List UInt8) : Option (List UInt8 × List UInt8) := match rdNum 0 0 r with
  | some (n, r') => rdTake n r'
  | none => none

theorem v_and {v : Nat} (h : v < 18446744073709551616) : bits BinOp.and IntKind.u64 (v : Int) 1 = ((v % 2 : Nat) : Int) := by
  have := u64_and_nat v 1 h (by decide)
  rw [Nat.and_one_is_mod] at this; exact this
theorem v_not {v : Nat} (h : v < 18446744073709551616) : bits BinOp.xor IntKind.u64 IntKind.u64.max ((v : Int) / 2) = ((18446744073709551615 - v / 2 : Nat) : Int) := by
  have := u64_xor_nat 18446744073709551615 (v / 2) (by decide) (by omega)
  rw [xor_max64 (by omega)] at this
  rw [← this]; congr 1
theorem v_wrap64 {v : Nat} (h : v < 18446744073709551616) : wrap64 ((18446744073709551615 - v / 2 : Nat) : Int) = -((v / 2 : Nat) : Int) - 1 := by
  unfold wrap64; omega

set_option maxRecDepth 100000 in
set_option maxHeartbeats 1000000 in
theorem signed_read (cb : Nat) (r : List UInt8) (e a : Int) (w : World) (hc : Cur w cb r e a) :
    Calls Tryz.prog 73 #[.pointer (some ⟨cb, 0, none⟩)] w (Rds cb e a w (fun _ v (y : Int) => v = .int .i64 y) (rdSigned r)) := by
  have HC := hide hc
  clear hc
  go_enter Tryz.func73, Tryz.ntmps73
  go_wp2_with fail
  refine (number_any cb r e a _ HC.out).mono ?_
  intro x w1 h
  cases hn : rdNum 0 0 r with
  | none =>
    obtain ⟨rfl, hg⟩ := h.none_ hn
    exact ⟨rfl, by unfold rdSigned; rw [hn]; exact ⟨rfl, hg⟩⟩
  | some p =>
    obtain ⟨n, r'⟩ := p
    obtain ⟨v, rfl, rfl, hcur, hg⟩ := h.some_ hn
    have hlt := rdNum_lt r 0 0 (by simp) (by decide) n r' hn
    have hand := v_and hlt
    have hnot := v_not hlt
    have HE : Hid (rdSigned r = some (unzig n, r')) := hide (by unfold rdSigned; rw [hn]; rfl)
    have H1 := hide hcur
    have H2 := hide hg
    clear h hcur hg hn
    by_cases hodd : n % 2 = 1
    · have HU : Hid (unzig n = -((n / 2 : Nat) : Int) - 1) := hide (by unfold unzig; rw [if_pos hodd])
      have hb1 : (((n % 2 : Nat) : Int) == 1) = true := by rw [hodd]; rfl
      clear hodd
      go_wp2
      go_ret
      rw [HE.out]
      refine ⟨_, rfl, ?_, H1.out, H2.out⟩
      rw [HU.out, ← v_wrap64 hlt]; rfl
    · have HU : Hid (unzig n = ((n / 2 : Nat) : Int)) := hide (by unfold unzig; rw [if_neg hodd])
      have hb1 : (((n % 2 : Nat) : Int) == 1) = false := by rw [beq_eq_false_iff_ne]; omega
      clear hodd
      go_wp2
      go_ret
      rw [HE.out]
      refine ⟨_, rfl, ?_, H1.out, H2.out⟩
      rw [HU.out]; rfl

set_option maxRecDepth 100000 in
set_option maxHeartbeats 1000000 in
theorem whole_read (cb : Nat) (r : List UInt8) (e a : Int) (w : World) (hc : Cur w cb r e a) :
    Calls Tryz.prog 114 #[.pointer (some ⟨cb, 0, none⟩)] w (Rds cb e a w (fun _ v (y : Int) => v = .int .i64 y) (rdWhole r)) := by
  have HC := hide hc
  clear hc
  go_enter Tryz.func114, Tryz.ntmps114
  go_wp2_with fail
  refine (number_any cb r e a _ HC.out).mono ?_
  intro x w1 h
  cases hn : rdNum 0 0 r with
  | none =>
    obtain ⟨rfl, hg⟩ := h.none_ hn
    exact ⟨rfl, by unfold rdWhole; rw [hn]; exact ⟨rfl, hg⟩⟩
  | some p =>
    obtain ⟨n, r'⟩ := p
    obtain ⟨v, rfl, rfl, hcur, hg⟩ := h.some_ hn
    have H1 := hide hcur
    have H2 := hide hg
    obtain ⟨⟨s1, h10, h1s⟩, h1l, h11, h12, h1z, h1j⟩ := hcur
    by_cases hle : n ≤ 9223372036854775807
    · have HE : Hid (rdWhole r = some ((n : Int), r')) := hide (by unfold rdWhole; rw [hn]; simp only [if_pos hle])
      have hd : (n : Int) ≤ 9223372036854775807 := by omega
      have hwr : IntKind.i64.wrap (n : Int) = n := Go.IntWalk.i64_in _ (by omega)
      clear h hg hn hle h10 h1s h1l h1z
      go_wp2_with (go_at_call 64; refine (unless_yes _ _ _).mono ?_; rintro e3 w3 ⟨rfl, hg3⟩)
      go_ret
      rw [HE.out]
      exact ⟨_, rfl, rfl, H1.out.gr hg3, H2.out.trans hg3.toGc⟩
    · have HE : Hid (rdWhole r = none) := hide (by unfold rdWhole; rw [hn]; simp only [if_neg hle])
      have hd : decide (n ≤ 9223372036854775807) = false := by rw [decide_eq_false_iff_not]; omega
      have hd2 : decide ((n : Int) ≤ 9223372036854775807) = false := by rw [decide_eq_false_iff_not]; omega
      clear h hg hn hle h10 h1s h1l h1z
      go_wp2_with (go_at_call 64; refine (unless_no _ _ _).mono ?_; rintro e3 w3 ⟨rfl, hg3⟩)
      exact ⟨rfl, by rw [HE.out]; exact ⟨rfl, H2.out.trans hg3.toGc⟩⟩
end Go.Proofs.YtkgncijcnlfhiabGreat

namespace Go.Proofs.YtkgncijcnlfhiabGreat
set_option linter.unusedVariables false
set_option linter.unusedSimpArgs false
open Go.RowKit

theorem below_Gr {w w' : World} (h : Below w.heap.size w w') : Gr w w' := ⟨h.os, h.tape, h.output, h.size, fun k hk _ => h.block k hk⟩
theorem Tryz.cells5 : Tryz.prog.cellsOf 5 = 1 := by kernel_rfl

set_option maxRecDepth 100000 in
set_option maxHeartbeats 2000000 in
theorem clone_any (s : ByteArray) (w : World) (hs : s.size ≤ 1000000) :
    Calls Tryz.prog 145 #[.string s] w fun x w' => x = .returned (.string s) ∧ Gr w w' := by
  by_cases h0 : s.size = 0
  · have h00 : ((s.size : Int) == 0) = true := by rw [h0]; rfl
    have HE : Hid (s = ⟨#[]⟩) := hide (ByteArray.ext (Array.eq_empty_of_size_eq_zero h0))
    clear h0
    go_enter Tryz.func145, Tryz.ntmps145
    go_wp2
    go_ret
    exact ⟨by rw [HE.out]; rfl, Gr.refl _⟩
  · obtain ⟨i0, hi, hz0, hz1, hz2⟩ := info_parts Tryz.info5
    -- the new row, under a name
    obtain ⟨M, hM⟩ : ∃ M, M = madeCells (Value.int .u8 0).cells (((s.size : Nat) : Int).toNat * i0.size) := ⟨_, rfl⟩
    have hMs : M.size = s.size := by rw [hM, size_madeCells, hz1]; simp
    have hmk : ∀ V : World, (Instr.makeSlice 88 (.int .i64 (s.size : Int)) (.int .i64 (s.size : Int))).run Tryz.prog V = .ok (.slice (some ⟨V.heap.size, 0, none⟩) s.size s.size) (V.alloc (.cells M 5)) := by
      intro V
      have h := run_make (P := Tryz.prog) V 88 5 i0 (.int .u8 0) Tryz.underlying88 hi hz0 .i64 .i64 (s.size : Int) (s.size : Int) (by omega) (by omega) (by rw [hz2]; omega) (by omega)
      rw [← hM] at h
      simpa using h
    clear hM
    have hcopy := Go.Lib.run_copy_row_string (P := Tryz.prog) (w.alloc (.cells M 5)) 88 9 3 5 w.heap.size 0 s.size s.size s M 5 Tryz.underlying88 (by rw [hi]; simp [hz1]) (heap_alloc_new w _) (Nat.le_refl _) (by omega)
    obtain ⟨Y, hY⟩ : ∃ Y, Y = (M.toList.take 0 ++ Go.Lib.byteCells s.data.toList ++ M.toList.drop (0 + s.size)).toArray := ⟨_, rfl⟩
    rw [← hY] at hcopy
    have hYl : Y.toList = Go.Lib.byteCells s.data.toList := by
      rw [hY, List.toList_toArray, List.take_zero, List.nil_append, List.drop_of_length_le (by rw [Array.length_toList]; omega), List.append_nil]
    have hYs : Y.size = s.size := by rw [← Array.length_toList, hYl, Go.Lib.byteCells_length, ← Go.Lib.size_eq]
    have hrow : ((w.alloc (.cells M 5)).setRow w.heap.size Y).heap[w.heap.size]? = some (.cells Y 5 (0, 0)) := setRow_heap _ _ M _ 5 (0, 0) (heap_alloc_new w _)
    have hne : s.data.toList ≠ [] := fun e => h0 (by rw [Go.Lib.size_eq, e]; rfl)
    have hstr := Go.Lib.run_unsafeString_row (P := Tryz.prog) ((w.alloc (.cells M 5)).setRow w.heap.size Y) 238 3 9 5 Tryz.underlying238 Tryz.cells5 w.heap.size Y.size (by unfold World.shape?; rw [hrow]) s.data.toList hne (by rw [← Go.Lib.size_eq]; omega) (by rw [← Go.Lib.size_eq]; omega)
      (fun j x hx => Go.Lib.cells_of_row hrow Y.size j _ (by rw [List.take_of_length_le (by rw [Array.length_toList]; exact Nat.le_refl _), hYl]; simp [Go.Lib.byteCells, hx]))
    rw [← Go.Lib.size_eq] at hstr
    clear hY
    have h00 : ((s.size : Int) == 0) = false := by rw [beq_eq_false_iff_ne]; omega
    have hpos : 0 < s.size := by omega
    go_enter Tryz.func145, Tryz.ntmps145
    go_wp2
    go_ret
    have b1 : Below w.heap.size w (w.alloc (.cells M 5)) := (Below.refl _ w).alloc (Nat.le_refl _) _
    have b2 : Below w.heap.size (w.alloc (.cells M 5)) ((w.alloc (.cells M 5)).setRow w.heap.size Y) := ⟨rfl, rfl, rfl, by simp, fun k hk => setRow_other _ _ _ _ (by omega)⟩
    exact ⟨rfl, below_Gr (Go.Lib.below_freeze (b1.trans b2) (p := ⟨w.heap.size, 0, none⟩) (Nat.le_refl _) _)⟩

set_option maxRecDepth 100000 in
set_option maxHeartbeats 1000000 in
theorem text_read (cb : Nat) (r : List UInt8) (e a : Int) (w : World) (hc : Cur w cb r e a) :
    Calls Tryz.prog 120 #[.pointer (some ⟨cb, 0, none⟩)] w (Rds cb e a w (fun _ v (y : List UInt8) => v = .string ⟨y.toArray⟩) (rdText r)) := by
  have HC := hide hc
  clear hc
  go_enter Tryz.func120, Tryz.ntmps120
  go_wp2_with fail
  refine (number_any cb r e a _ HC.out).mono ?_
  intro x w1 h
  cases hn : rdNum 0 0 r with
  | none =>
    obtain ⟨rfl, hg⟩ := h.none_ hn
    exact ⟨rfl, by unfold rdText; rw [hn]; exact ⟨rfl, hg⟩⟩
  | some p =>
    obtain ⟨n, r'⟩ := p
    obtain ⟨v, rfl, rfl, hcur, hg⟩ := h.some_ hn
    have hlt := rdNum_lt r 0 0 (by simp) (by decide) n r' hn
    have HE : Hid (rdText r = rdTake n r') := hide (by unfold rdText; rw [hn])
    have H1 := hide hcur
    have H2 := hide hg
    clear h hcur hg hn
    go_wp2_with fail
    refine (take_any cb r' e a n hlt _ H1.out).mono ?_
    intro x w2 h
    cases ht : rdTake n r' with
    | none =>
      obtain ⟨rfl, hg⟩ := h.none_ ht
      exact ⟨rfl, by rw [HE.out, ht]; exact ⟨rfl, H2.out.trans hg⟩⟩
    | some q =>
      obtain ⟨y, r2⟩ := q
      obtain ⟨v, rfl, rfl, hcur, hg⟩ := h.some_ ht
      have HE2 : Hid (rdText r = some (y, r2)) := hide (by rw [HE.out, ht])
      have hyl : (⟨y.toArray⟩ : ByteArray).size ≤ 1000000 := by
        have h6 := H1.out.2.1
        unfold rdTake at ht
        split at ht
        · simp only [Option.some.injEq, Prod.mk.injEq] at ht
          obtain ⟨rfl, _⟩ := ht
          show (List.toArray _).size ≤ _
          simp; omega
        · cases ht
      have H3 := hide hcur
      have H4 := hide (H2.out.trans hg)
      clear h hcur hg ht
      go_wp2_with fail
      have hCl : Calls Tryz.prog 142 #[.string ⟨y.toArray⟩] w2 fun x w' => x = .returned (.string ⟨y.toArray⟩) ∧ Gr w2 w' := by
        go_enter Tryz.func142, Tryz.ntmps142
        go_wp2_with (go_at_call 145; refine (clone_any _ _ hyl).mono ?_; rintro x w3 ⟨rfl, hg3⟩)
        go_ret
        exact ⟨rfl, hg3⟩
      refine hCl.mono ?_
      rintro x w3 ⟨rfl, hg3⟩
      go_wp2
      go_ret
      rw [HE2.out]
      exact ⟨_, rfl, rfl, H3.out.gr hg3, H4.out.trans hg3.toGc⟩
end Go.Proofs.YtkgncijcnlfhiabGreat

namespace Go.Proofs.YtkgncijcnlfhiabGreat
set_option linter.unusedVariables false
set_option linter.unusedSimpArgs false
open Go.RowKit
def RIntsF (B : Nat) (w : World) (v : Value) (l : List Int) : Prop :=
  ∃ ao cap, v = .slice ao l.length cap ∧ l.length ≤ maxLen ∧ ∀ i y, l[i]? = some y → ∃ b off, ao = some ⟨b, off, none⟩ ∧ B ≤ b ∧ w.cell? ⟨b, off + i, none⟩ = some (.int .i64 y)
def RShapesF (B : Nat) (w : World) (v : Value) (l : List (List Int)) : Prop :=
  ∃ ao cap, v = .slice ao l.length cap ∧ l.length ≤ maxLen ∧ ∀ i x, l[i]? = some x → ∃ b off vx, ao = some ⟨b, off, none⟩ ∧ B ≤ b ∧ w.cell? ⟨b, off + i, none⟩ = some vx ∧ RIntsF B w vx x
def RCodeF (B : Nat) (w : World) (v : Value) (l : List PIns) : Prop :=
  ∃ ao cap, v = .slice ao l.length cap ∧ l.length ≤ maxLen ∧ ∀ i x, l[i]? = some x → ∃ b off, ao = some ⟨b, off, none⟩ ∧ B ≤ b ∧
    w.cell? ⟨b, off + i * 3, none⟩ = some (.int .i64 x.op) ∧ w.cell? ⟨b, off + i * 3 + 1, none⟩ = some (.int .i64 x.a) ∧ w.cell? ⟨b, off + i * 3 + 2, none⟩ = some (.int .i64 x.b)
def RFuncsF (B : Nat) (w : World) (v : Value) (l : List PFunc) : Prop :=
  ∃ ao cap, v = .slice ao l.length cap ∧ l.length ≤ maxLen ∧ ∀ i x, l[i]? = some x → ∃ b off vp vl vc, ao = some ⟨b, off, none⟩ ∧ B ≤ b ∧
    w.cell? ⟨b, off + i * 4, none⟩ = some vp ∧ w.cell? ⟨b, off + i * 4 + 1, none⟩ = some (.int .i64 x.result) ∧ w.cell? ⟨b, off + i * 4 + 2, none⟩ = some vl ∧ w.cell? ⟨b, off + i * 4 + 3, none⟩ = some vc ∧
    RIntsF B w vp x.params ∧ RIntsF B w vl x.locals ∧ RCodeF B w vc x.code
def RImportsF (B : Nat) (w : World) (v : Value) (l : List PImp) : Prop :=
  ∃ ao cap, v = .slice ao l.length cap ∧ l.length ≤ maxLen ∧ ∀ i x, l[i]? = some x → ∃ b off vs vp, ao = some ⟨b, off, none⟩ ∧ B ≤ b ∧
    w.cell? ⟨b, off + i * 3, none⟩ = some vs ∧ w.cell? ⟨b, off + i * 3 + 1, none⟩ = some vp ∧ w.cell? ⟨b, off + i * 3 + 2, none⟩ = some (.int .i64 x.result) ∧
    RText vs x.name ∧ RIntsF B w vp x.params
def RExportsF (B : Nat) (w : World) (v : Value) (l : List PExp) : Prop :=
  ∃ ao cap, v = .slice ao l.length cap ∧ l.length ≤ maxLen ∧ ∀ i x, l[i]? = some x → ∃ b off vs, ao = some ⟨b, off, none⟩ ∧ B ≤ b ∧
    w.cell? ⟨b, off + i * 2, none⟩ = some vs ∧ w.cell? ⟨b, off + i * 2 + 1, none⟩ = some (.int .i64 x.func) ∧ RText vs x.name

/-- the blocks from B on that were there are as they were -/
def Kp (B : Nat) (w w' : World) : Prop := ∀ k, B ≤ k → k < w.heap.size → w'.heap[k]? = w.heap[k]?
theorem Kp.cell {B : Nat} {w w' : World} (h : Kp B w w') {b o : Nat} {x : Value} (hb : B ≤ b) (hx : w.cell? ⟨b, o, none⟩ = some x) : w'.cell? ⟨b, o, none⟩ = some x :=
  (World.cell?_of_block (a := ⟨b, o, none⟩) (h b hb (World.block_lt_of_cell? w _ hx))).trans hx
theorem Kp.mono {B B' : Nat} {w w' : World} (h : Kp B w w') (hB : B ≤ B') : Kp B' w w' := fun k h1 h2 => h k (Nat.le_trans hB h1) h2
theorem Gc.kp {cb B : Nat} {w w' : World} (h : Gc cb w w') (hb : cb < B) : Kp B w w' := fun k h1 h2 => h.block k h2 (by intro e; simp only [Option.some.injEq] at e; omega)
theorem Kp.set {B g o : Nat} {w : World} (v : Value) (hg : g < B) : Kp B w (w.setCell ⟨g, o, none⟩ v) := fun k h1 _ => Below.heap_setCell _ _ _ _ (by show k ≠ g; omega)
theorem Kp.trans {B : Nat} {a b c : World} (h : Kp B a b) (k : Kp B b c) (hs : a.heap.size ≤ b.heap.size) : Kp B a c := fun i h1 h2 => (k i h1 (Nat.lt_of_lt_of_le h2 hs)).trans (h i h1 h2)
theorem Gr.kp {B : Nat} {w w' : World} (h : Gr w w') : Kp B w w' := fun k _ h2 => h.block k h2 (by simp)

theorem RIntsF.kp {B : Nat} {w w' : World} {v : Value} {l : List Int} (h : RIntsF B w v l) (g : Kp B w w') : RIntsF B w' v l := by
  obtain ⟨ao, cap, hv, hm, hc⟩ := h
  refine ⟨ao, cap, hv, hm, fun i x hi => ?_⟩
  obtain ⟨b, off, h1, h2, h3⟩ := hc i x hi
  exact ⟨b, off, h1, h2, g.cell h2 h3⟩
theorem RCodeF.kp {B : Nat} {w w' : World} {v : Value} {l : List PIns} (h : RCodeF B w v l) (g : Kp B w w') : RCodeF B w' v l := by
  obtain ⟨ao, cap, hv, hm, hc⟩ := h
  refine ⟨ao, cap, hv, hm, fun i x hi => ?_⟩
  obtain ⟨b, off, h1, h2, h3, h4, h5⟩ := hc i x hi
  exact ⟨b, off, h1, h2, g.cell h2 h3, g.cell h2 h4, g.cell h2 h5⟩
theorem RShapesF.kp {B : Nat} {w w' : World} {v : Value} {l : List (List Int)} (h : RShapesF B w v l) (g : Kp B w w') : RShapesF B w' v l := by
  obtain ⟨ao, cap, hv, hm, hc⟩ := h
  refine ⟨ao, cap, hv, hm, fun i x hi => ?_⟩
  obtain ⟨b, off, vx, h1, h2, h3, h4⟩ := hc i x hi
  exact ⟨b, off, vx, h1, h2, g.cell h2 h3, h4.kp g⟩
theorem RFuncsF.kp {B : Nat} {w w' : World} {v : Value} {l : List PFunc} (h : RFuncsF B w v l) (g : Kp B w w') : RFuncsF B w' v l := by
  obtain ⟨ao, cap, hv, hm, hc⟩ := h
  refine ⟨ao, cap, hv, hm, fun i x hi => ?_⟩
  obtain ⟨b, off, vp, vl, vc, h1, h2, h3, h4, h5, h6, h7, h8, h9⟩ := hc i x hi
  exact ⟨b, off, vp, vl, vc, h1, h2, g.cell h2 h3, g.cell h2 h4, g.cell h2 h5, g.cell h2 h6, h7.kp g, h8.kp g, h9.kp g⟩
theorem RImportsF.kp {B : Nat} {w w' : World} {v : Value} {l : List PImp} (h : RImportsF B w v l) (g : Kp B w w') : RImportsF B w' v l := by
  obtain ⟨ao, cap, hv, hm, hc⟩ := h
  refine ⟨ao, cap, hv, hm, fun i x hi => ?_⟩
  obtain ⟨b, off, vs, vp, h1, h2, h3, h4, h5, h6, h7⟩ := hc i x hi
  exact ⟨b, off, vs, vp, h1, h2, g.cell h2 h3, g.cell h2 h4, g.cell h2 h5, h6, h7.kp g⟩
theorem RExportsF.kp {B : Nat} {w w' : World} {v : Value} {l : List PExp} (h : RExportsF B w v l) (g : Kp B w w') : RExportsF B w' v l := by
  obtain ⟨ao, cap, hv, hm, hc⟩ := h
  refine ⟨ao, cap, hv, hm, fun i x hi => ?_⟩
  obtain ⟨b, off, vs, h1, h2, h3, h4, h5⟩ := hc i x hi
  exact ⟨b, off, vs, h1, h2, g.cell h2 h3, g.cell h2 h4, h5⟩
theorem RIntsF.mono {B B' : Nat} {w : World} {v : Value} {l : List Int} (h : RIntsF B' w v l) (hB : B ≤ B') : RIntsF B w v l := by
  obtain ⟨ao, cap, hv, hm, hc⟩ := h
  refine ⟨ao, cap, hv, hm, fun i x hi => ?_⟩
  obtain ⟨b, off, h1, h2, h3⟩ := hc i x hi
  exact ⟨b, off, h1, Nat.le_trans hB h2, h3⟩
theorem RCodeF.mono {B B' : Nat} {w : World} {v : Value} {l : List PIns} (h : RCodeF B' w v l) (hB : B ≤ B') : RCodeF B w v l := by
  obtain ⟨ao, cap, hv, hm, hc⟩ := h
  refine ⟨ao, cap, hv, hm, fun i x hi => ?_⟩
  obtain ⟨b, off, h1, h2, h3⟩ := hc i x hi
  exact ⟨b, off, h1, Nat.le_trans hB h2, h3⟩
theorem RIntsF.to {B : Nat} {w : World} {v : Value} {l : List Int} (h : RIntsF B w v l) : RInts w v l := by
  obtain ⟨ao, cap, hv, hm, hc⟩ := h
  refine ⟨ao, cap, hv, hm, fun i hi => ?_⟩
  obtain ⟨b, off, h1, h2, h3⟩ := hc i l[i] (List.getElem?_eq_getElem hi)
  exact ⟨b, off, h1, by rw [h3]; simp [List.getD_eq_getElem?_getD, hi]⟩
theorem RCodeF.to {B : Nat} {w : World} {v : Value} {l : List PIns} (h : RCodeF B w v l) : RCode w v l := by
  obtain ⟨ao, cap, hv, hm, hc⟩ := h
  refine ⟨ao, cap, hv, hm, fun i x hi => ?_⟩
  obtain ⟨b, off, h1, h2, h3⟩ := hc i x hi
  exact ⟨b, off, h1, h3⟩
theorem RShapesF.to {B : Nat} {w : World} {v : Value} {l : List (List Int)} (h : RShapesF B w v l) : RShapes w v l := by
  obtain ⟨ao, cap, hv, hm, hc⟩ := h
  refine ⟨ao, cap, hv, hm, fun i x hi => ?_⟩
  obtain ⟨b, off, vx, h1, h2, h3, h4⟩ := hc i x hi
  exact ⟨b, off, vx, h1, h3, h4.to⟩
theorem RFuncsF.to {B : Nat} {w : World} {v : Value} {l : List PFunc} (h : RFuncsF B w v l) : RFuncs w v l := by
  obtain ⟨ao, cap, hv, hm, hc⟩ := h
  refine ⟨ao, cap, hv, hm, fun i x hi => ?_⟩
  obtain ⟨b, off, vp, vl, vc, h1, h2, h3, h4, h5, h6, h7, h8, h9⟩ := hc i x hi
  exact ⟨b, off, vp, vl, vc, h1, h3, h4, h5, h6, h7.to, h8.to, h9.to⟩
theorem RImportsF.to {B : Nat} {w : World} {v : Value} {l : List PImp} (h : RImportsF B w v l) : RImports w v l := by
  obtain ⟨ao, cap, hv, hm, hc⟩ := h
  refine ⟨ao, cap, hv, hm, fun i x hi => ?_⟩
  obtain ⟨b, off, vs, vp, h1, h2, h3, h4, h5, h6, h7⟩ := hc i x hi
  exact ⟨b, off, vs, vp, h1, h3, h4, h5, h6, h7.to⟩
theorem RExportsF.to {B : Nat} {w : World} {v : Value} {l : List PExp} (h : RExportsF B w v l) : RExports w v l := by
  obtain ⟨ao, cap, hv, hm, hc⟩ := h
  refine ⟨ao, cap, hv, hm, fun i x hi => ?_⟩
  obtain ⟨b, off, vs, h1, h2, h3, h4, h5⟩ := hc i x hi
  exact ⟨b, off, vs, h1, h3, h4, h5⟩
theorem RIntsF.shape {B : Nat} {w : World} {v : Value} {l : List Int} (h : RIntsF B w v l) : ∃ ao cap, v = .slice ao l.length cap := by
  obtain ⟨ao, cap, hv, _⟩ := h; exact ⟨ao, cap, hv⟩
theorem RCodeF.shape {B : Nat} {w : World} {v : Value} {l : List PIns} (h : RCodeF B w v l) : ∃ ao cap, v = .slice ao l.length cap := by
  obtain ⟨ao, cap, hv, _⟩ := h; exact ⟨ao, cap, hv⟩

/-- lists, read -/
def rdN {α : Type} (f : List UInt8 → Option (α × List UInt8)) : Nat → List UInt8 → Option (List α × List UInt8)
  | 0, r => some ([], r)
  | n + 1, r => match f r with
    | none => none
    | some (y, r1) => match rdN f n r1 with
      | none => none
      | some (ys, r2) => some (y :: ys, r2)
def rdList {α : Type} (f : List UInt8 → Option (α × List UInt8)) (r : List UInt8) : Option (List α × List UInt8) := match rdNum 0 0 r with
  | none => none
  | some (n, r1) => if n ≤ r1.length then rdN f n r1 else none
def glue {α : Type} (ys : List α) : Option (List α × List UInt8) → Option (List α × List UInt8)
  | none => none
  | some (zs, r) => some (ys ++ zs, r)
theorem glue_nil {α : Type} (o : Option (List α × List UInt8)) : glue [] o = o := by cases o <;> rfl
theorem glue_some {α : Type} {f : List UInt8 → Option (α × List UInt8)} {ys : List α} {m : Nat} {r r1 : List UInt8} {y : α} (h : f r = some (y, r1)) : glue ys (rdN f (m + 1) r) = glue (ys ++ [y]) (rdN f m r1) := by
  simp only [rdN, h]
  cases rdN f m r1 with
  | none => rfl
  | some p => obtain ⟨zs, r2⟩ := p; simp [glue]
theorem glue_none {α : Type} {f : List UInt8 → Option (α × List UInt8)} {ys : List α} {m : Nat} {r : List UInt8} (h : f r = none) : glue ys (rdN f (m + 1) r) = none := by
  simp only [rdN, h]; rfl
theorem glue_end {α : Type} {f : List UInt8 → Option (α × List UInt8)} {ys : List α} {r : List UInt8} : glue ys (rdN f 0 r) = some (ys, r) := by simp [rdN, glue]
end Go.Proofs.YtkgncijcnlfhiabGreat

