import Derived.Test.YtkgncijcnlfhiaaB3
namespace Go.Proofs.Ytkgncijcnlfhiaa
set_option linter.unusedVariables false
set_option linter.unusedSimpArgs false
open Go.RowKit

theorem App.box {base : Nat} {w w' : World} {v v' : Value} {l' : List UInt8} (k : App base w v w' v' l') {B o : Nat} {x : Value} (hx : w.cell? ⟨B, o, none⟩ = some x) (hv : ∀ i, v.ownBlock = some i → i < B) : w'.cell? ⟨B, o, none⟩ = some x :=
  k.frm.cell hx (fun e => by have := hv B e.symm; omega)
theorem operandsN_cases (op : Int) : operandsN op = 0 ∨ operandsN op = 1 ∨ operandsN op = 2 := by
  unfold operandsN; split
  · exact .inr (.inr rfl)
  · split
    · exact .inr (.inl rfl)
    · exact .inl rfl
theorem byte_op {op : Int} (h0 : 0 ≤ op) (h1 : op ≤ 20) : op = (UInt8.ofNat op.toNat).toNat := by simp [UInt8.toNat_ofNat']; omega
theorem insOk_op {x : PIns} (h : insOk x = true) : 0 ≤ x.op ∧ x.op ≤ 20 := by
  simp only [insOk, wB, Bool.and_eq_true, decide_eq_true_eq] at h; exact h.1
theorem insOk_small {x : PIns} (h : insOk x = true) (h1 : x.op = 1) : -2147483648 ≤ x.a ∧ x.a ≤ 2147483647 := by
  simp only [insOk, wB, Bool.and_eq_true, decide_eq_true_eq, h1, if_true] at h; exact h.2.1
theorem insOk_a {x : PIns} (h : insOk x = true) (h1 : ¬ x.op = 1) (hn : 1 ≤ operandsN x.op) : 0 ≤ x.a ∧ x.a ≤ 65535 := by
  simp only [insOk, wB, operandOk, Bool.and_eq_true, decide_eq_true_eq, h1, if_false, hn, if_true] at h; exact h.2.1
theorem insOk_b {x : PIns} (h : insOk x = true) (hn : 2 ≤ operandsN x.op) : 0 ≤ x.b ∧ x.b ≤ 65535 := by
  simp only [insOk, wB, operandOk, Bool.and_eq_true, decide_eq_true_eq, hn, if_true] at h; exact h.2.2

theorem ins_boxed (w : World) (x : PIns) : (w.alloc (.cells #[.int .i64 x.op, .int .i64 x.a, .int .i64 x.b] 54)).cell? ⟨w.heap.size, 0, none⟩ = some (.int .i64 x.op) ∧ (w.alloc (.cells #[.int .i64 x.op, .int .i64 x.a, .int .i64 x.b] 54)).cell? ⟨w.heap.size, 1, none⟩ = some (.int .i64 x.a) ∧ (w.alloc (.cells #[.int .i64 x.op, .int .i64 x.a, .int .i64 x.b] 54)).cell? ⟨w.heap.size, 2, none⟩ = some (.int .i64 x.b) := by
  refine ⟨?_, ?_, ?_⟩ <;> simp [go_sem]

set_option maxHeartbeats 1000000 in
theorem ins_write (W : World) (v : Value) (l : List UInt8) (x : PIns) (w : World) (hok : insOk x = true) (hw : Wr W w v l) (hlen : (l ++ encIns x).length ≤ 10000000) :
    Calls Try.prog 57 #[v, .agg #[.int .i64 x.op, .int .i64 x.a, .int .i64 x.b]] w fun y w' => ∃ v', y = .returned v' ∧ App W.heap.size w v w' v' (l ++ encIns x) := by
  obtain ⟨ho0, ho1⟩ := insOk_op hok
  obtain ⟨hi0, hi1, hi2⟩ := ins_boxed w x
  have hl1 : l.length + 1 ≤ 10000000 := by simp only [encIns, List.length_append, List.length_cons] at hlen; omega
  have hvb : ∀ i, v.ownBlock = some i → i < w.heap.size := fun i hi => (hw.own.lt i hi).2
  have hwb := hw.gr (World.grownBy_alloc w (.cells #[.int .i64 x.op, .int .i64 x.a, .int .i64 x.b] 54) none)
  have HLen := hide hlen
  have HOK := hide hok
  have HV := hide hvb
  clear hlen hok hvb
  by_cases h1 : x.op = 1
  · have hs := insOk_small HOK.out h1
    have HE : Hid (encIns x = [UInt8.ofNat x.op.toNat] ++ num (zig x.a)) := hide (by unfold encIns; rw [if_pos h1]; rfl)
    have hb1 : (x.op == 1) = true := by simpa using h1
    clear h1
    go_enter Try.func57, Try.ntmps57
    go_wp2_with (first | (at_builtin; refine wpList_append_byte _ rfl _ _ rfl W.heap.size _ l rfl hwb.own (UInt8.ofNat x.op.toNat) _ (by exact byte_op ho0 ho1) _ rfl (by simp) (by omega) hwb.base ?_; intro v1 w1 happ1; have hj0 := happ1.box hi0 HV.out; have hj1 := happ1.box hi1 HV.out; have hw1 := hwb.app happ1) | (go_at_call 29; refine (signed_any W _ _ x.a _ (by omega) (by omega) (by exact hw1) (by simp; omega)).mono ?_; rintro e w2 ⟨v2, rfl, happ2⟩))
    go_ret
    refine ⟨v2, rfl, ?_⟩
    rw [HE.out, ← List.append_assoc]
    exact App.gr (World.grownBy_alloc w _ none) (happ1.trans happ2)
  · have hb1 : (x.op == 1) = false := by simpa using h1
    rcases operandsN_cases x.op with hN | hN | hN
    · have HE : Hid (encIns x = [UInt8.ofNat x.op.toNat]) := hide (by unfold encIns; rw [if_neg h1, hN]; simp)
      clear h1
      go_enter Try.func57, Try.ntmps57
      go_wp2_with (first | (at_builtin; refine wpList_append_byte _ rfl _ _ rfl W.heap.size _ l rfl hwb.own (UInt8.ofNat x.op.toNat) _ (by exact byte_op ho0 ho1) _ rfl (by simp) (by omega) hwb.base ?_; intro v1 w1 happ1; have hj0 := happ1.box hi0 HV.out; have hj1 := happ1.box hi1 HV.out; have hw1 := hwb.app happ1) | (go_at_call 76; refine (operands_any _ _).mono ?_; rintro e w' ⟨rfl, rfl⟩))
      go_ret
      refine ⟨v1, rfl, ?_⟩
      rw [HE.out]
      exact App.gr (World.grownBy_alloc w _ none) happ1
    · have hs := insOk_a HOK.out h1 (by omega)
      have HE : Hid (encIns x = [UInt8.ofNat x.op.toNat] ++ num x.a.toNat) := hide (by unfold encIns; rw [if_neg h1, hN]; simp)
      clear h1
      go_enter Try.func57, Try.ntmps57
      go_wp2_with (first | (at_builtin; refine wpList_append_byte _ rfl _ _ rfl W.heap.size _ l rfl hwb.own (UInt8.ofNat x.op.toNat) _ (by exact byte_op ho0 ho1) _ rfl (by simp) (by omega) hwb.base ?_; intro v1 w1 happ1; have hj0 := happ1.box hi0 HV.out; have hj1 := happ1.box hi1 HV.out; have hw1 := hwb.app happ1) | (go_at_call 76; refine (operands_any _ _).mono ?_; rintro e w' ⟨rfl, rfl⟩) | (go_at_call 55; refine (whole_any W _ _ x.a _ (by omega) (by omega) (by exact hw1) (by simp; omega)).mono ?_; rintro e w2 ⟨v2, rfl, happ2⟩))
      go_ret
      refine ⟨v2, rfl, ?_⟩
      rw [HE.out, ← List.append_assoc]
      exact App.gr (World.grownBy_alloc w _ none) (happ1.trans happ2)
    · have hs := insOk_a HOK.out h1 (by omega)
      have ht := insOk_b HOK.out (by omega)
      have HE : Hid (encIns x = [UInt8.ofNat x.op.toNat] ++ num x.a.toNat ++ num x.b.toNat) := hide (by unfold encIns; rw [if_neg h1, hN]; simp)
      have hn := num_len x.a.toNat
      have hl2 : l.length + 1 + (num x.a.toNat).length ≤ 10000000 := by have h := HLen.out; rw [HE.out] at h; simp only [List.length_append, List.length_cons, List.length_nil] at h; omega
      clear h1
      go_enter Try.func57, Try.ntmps57
      go_wp2_with (first | (at_builtin; refine wpList_append_byte _ rfl _ _ rfl W.heap.size _ l rfl hwb.own (UInt8.ofNat x.op.toNat) _ (by exact byte_op ho0 ho1) _ rfl (by simp) (by omega) hwb.base ?_; intro v1 w1 happ1; have hj0 := happ1.box hi0 HV.out; have hj1 := happ1.box hi1 HV.out; have hw1 := hwb.app happ1) | (go_at_call 76; refine (operands_any _ _).mono ?_; rintro e w' ⟨rfl, rfl⟩) | (go_at_call_of 55 x.a; refine (whole_any W _ _ x.a _ (by omega) (by omega) (by exact hw1) (by simp; omega)).mono ?_; rintro e w2 ⟨v2, rfl, happ2⟩; have hw2 := hw1.app happ2; have happ12 := happ1.trans happ2; have hk2 := happ12.box hi2 HV.out) | (go_at_call_of 55 x.b; refine (whole_any W _ _ x.b _ (by omega) (by omega) (by exact hw2) (by simp only [List.length_append, List.length_cons, List.length_nil]; omega)).mono ?_; rintro e w3 ⟨v3, rfl, happ3⟩))
      go_ret
      refine ⟨v3, rfl, ?_⟩
      rw [HE.out, ← List.append_assoc, ← List.append_assoc]
      exact App.gr (World.grownBy_alloc w _ none) (happ12.trans happ3)
end Go.Proofs.Ytkgncijcnlfhiaa
