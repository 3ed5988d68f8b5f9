import Derived.Test.YtkgncijcnlfhiaaDoorF4
namespace Go.Proofs.YtkgncijcnlfhiaaDoor
set_option linter.unusedVariables false
set_option linter.unusedSimpArgs false
open Go.RowKit
attribute [local go_sem ↓] Go.wp_at_zero Go.wp_at_succ
theorem encIns_le (i : PIns) : (encIns i).length ≤ 23 := by
  have h1 := num_len (zig i.a); have h2 := num_len i.a.toNat; have h3 := num_len i.b.toNat
  unfold encIns; rw [List.length_cons]
  split
  · omega
  · rw [List.length_append]; split <;> split <;> simp <;> omega
theorem insOk_parts {j : Nat} {a b : Int} (h : insOk ⟨j, a, b⟩ = true) : j ≤ 20 ∧ (j = 1 → -2147483648 ≤ a ∧ a ≤ 2147483647) ∧ (¬ j = 1 → (1 ≤ operandsN j → 0 ≤ a ∧ a ≤ 65535) ∧ (2 ≤ operandsN j → 0 ≤ b ∧ b ≤ 65535)) := by
  unfold insOk at h
  simp only [Bool.and_eq_true] at h
  obtain ⟨h1, h2, h3⟩ := h
  simp only [wB, decide_eq_true_eq] at h1
  refine ⟨by omega, fun e => ?_, fun e => ⟨fun hn => ?_, fun hn => ?_⟩⟩
  · rw [if_pos (by omega)] at h2; simpa [wB] using h2
  · rw [if_neg (by omega)] at h2; simp only [operandOk, hn, decide_true, if_true, wB, decide_eq_true_eq] at h2; exact h2
  · simp only [operandOk, hn, decide_true, if_true, wB, decide_eq_true_eq] at h3; exact h3

set_option maxRecDepth 100000 in
set_option maxHeartbeats 4000000 in
theorem code_ref (v : Value) (l : List PIns) (w : World) (hR : RCode w v l) (hT : Tab w) (hl : l.length ≤ 300) (hok : ∀ x ∈ l, insOk x = true) :
    Calls Tryd.prog 123 #[v] w fun x w' => x = .returned (.string ⟨(encs encIns l).toArray⟩) ∧ Gr w w' := by
  have HR := hide hR
  obtain ⟨a1, c1, rfl, _, _⟩ := hR
  have HX := hide hok
  have HT := hide hT
  have hc0 := fun V : World => hide (count_ref (l.length : Int) (by omega) (by omega) V)
  simp only [Int.toNat_natCast] at hc0
  have hsm := encTo_small (f := encIns) (xs := l) (B := 23) (fun x _ => encIns_le x) hl (by decide)
  clear hok hT
  go_enter Tryd.func123, Tryd.ntmps123
  go_wp2_with fail
  refine (hc0 _).out.mono ?_
  rintro x w1 ⟨rfl, hg1⟩
  have HG1 := hide hg1
  clear hg1 hc0
  go_wp2_with fail
  go_loopw [3, 4] (fun s i wr => ∃ k : Nat, i = .int .i64 k ∧ k ≤ l.length ∧ s = .string ⟨(encTo encIns l k).toArray⟩ ∧ Gr w wr) (fun _ i _ => l.length - (intOf i).toNat)
  case atStart => exact ⟨0, rfl, Nat.zero_le _, by rw [encTo_zero], HG1.out⟩
  case round =>
    obtain ⟨k, rfl, hk, rfl, hg⟩ := hrel
    clear HG1
    have HG := hide hg
    by_cases hlt : k < l.length
    · obtain ⟨a1', c1', h1e, _, hc1⟩ := HR.out
      simp only [Value.slice.injEq, true_and] at h1e
      have hxk : l[k]? = some l[k] := List.getElem?_eq_getElem hlt
      obtain ⟨b1, o1, rfl, hx1, hx2, hx3⟩ := hc1 k _ hxk
      obtain ⟨rfl, rfl⟩ := h1e
      have hb := HX.out _ (List.mem_of_getElem? hxk)
      have HS := hide (encTo_succ (f := encIns) hxk)
      generalize l[k] = c at hx1 hx2 hx3 hb HS
      obtain ⟨op, a, b⟩ := c
      obtain ⟨j, rfl⟩ : ∃ j : Nat, op = (j : Int) := ⟨op.toNat, by
        have : 0 ≤ op := by unfold insOk at hb; simp only [Bool.and_eq_true, wB, decide_eq_true_eq] at hb; exact hb.1.1
        omega⟩
      obtain ⟨hj20, hp1, hp2⟩ := insOk_parts hb
      have hga := Gr.alloc (Gr.refl wr) (.cells #[.int .u8 (j : Int)] 5)
      have hy1 := hg.cell hx1 (by simp)
      have hz1 := hga.cell hy1 (by simp)
      have hz2 := hga.cell (hg.cell hx2 (by simp)) (by simp)
      have hz3 := hga.cell (hg.cell hx3 (by simp)) (by simp)
      have ht := hga.cell ((HT.out.gr hg) j (by omega)) (by simp)
      have hob := one_byte wr j (by omega)
      have hw8 : IntKind.u8.wrap (j : Int) = (j : Int) := by rw [IntKind.wrap_u8]; omega
      have h1 := hsm k
      have HGa := hide (HG.out.trans hga)
      generalize hTe : encTo encIns l k = T at h1 HS ⊢
      simp only at hz1 hz2 hz3 hy1
      clear hc1 hx1 hx2 hx3 hg hxk hb hTe hga
      by_cases hj1 : j = 1
      · have hjb : ((j : Int) == 1) = true := by simpa using (show (j : Int) = 1 by omega)
        have HS2 : Hid (encTo encIns l (k + 1) = (T ++ [UInt8.ofNat j]) ++ num (zig a)) := hide (by rw [HS.out]; unfold encIns; simp only [Int.toNat_natCast]; rw [if_pos (by omega)]; simp)
        have hsg := fun V : World => hide (signed_ref a (by have := hp1 hj1; omega) (by have := hp1 hj1; omega) V)
        have h2 := num_len (zig a)
        generalize num (zig a) = U at HS2 hsg h2
        clear hp1 hp2 ht HS hj1 hz3
        go_wp2_with fail
        refine (hsg _).out.mono ?_
        rintro x w2 ⟨rfl, hg2⟩
        have HG2 := hide (HGa.out.trans hg2)
        clear hg2 hsg
        go_wp2_with fail
        exact ⟨⟨k + 1, by simp, hlt, by rw [HS2.out, ← str_app, ← str_app], HG2.out⟩, by simp [intOf]; omega⟩
      · have hjb : ((j : Int) == 1) = false := by rw [beq_eq_false_iff_ne]; omega
        have HS2 : Hid (encTo encIns l (k + 1) = (T ++ [UInt8.ofNat j]) ++ ((if 1 ≤ operandsN j then num a.toNat else []) ++ (if 2 ≤ operandsN j then num b.toNat else []))) := hide (by rw [HS.out]; unfold encIns; simp only [Int.toNat_natCast]; rw [if_neg (by omega)]; simp)
        have hp3 := hp2 hj1
        have HN := hide (opN_cases (j : Int))
        have hj0 : (0 : Int) ≤ (j : Int) := by omega
        have hj2 : (j : Int) < 21 := by omega
        clear hp1 hp2 HS hj1
        generalize operandsN (j : Int) = n at ht HS2 HN hp3
        rcases HN.out with rfl | rfl | rfl
        · have HS3 : Hid (encTo encIns l (k + 1) = T ++ [UInt8.ofNat j]) := hide (by rw [HS2.out]; simp)
          clear HS2 HN hp3
          go_wp2_with fail
          exact ⟨⟨k + 1, by simp, hlt, by rw [HS3.out, ← str_app], HGa.out⟩, by simp [intOf]; omega⟩
        · have HS3 : Hid (encTo encIns l (k + 1) = (T ++ [UInt8.ofNat j]) ++ num a.toNat) := hide (by rw [HS2.out]; simp)
          have ha := hp3.1 (by decide)
          have hca := fun V : World => hide (count_ref a ha.1 (by omega) V)
          have h2 := num_len a.toNat
          generalize num a.toNat = U at HS3 hca h2
          clear HS2 HN hp3
          go_wp2_with fail
          refine (hca _).out.mono ?_
          rintro x w2 ⟨rfl, hg2⟩
          have HG2 := hide (HGa.out.trans hg2)
          have hz1' := hg2.cell hz1 (by simp)
          have ht' := hg2.cell ht (by simp)
          clear hg2 hca
          go_wp2_with fail
          exact ⟨⟨k + 1, by simp, hlt, by rw [HS3.out, ← str_app, ← str_app], HG2.out⟩, by simp [intOf]; omega⟩
        · have HS3 : Hid (encTo encIns l (k + 1) = ((T ++ [UInt8.ofNat j]) ++ num a.toNat) ++ num b.toNat) := hide (by rw [HS2.out]; simp)
          have ha := hp3.1 (by decide)
          have hb := hp3.2 (by decide)
          have hca := fun V : World => hide (count_ref a ha.1 (by omega) V)
          have hcb := fun V : World => hide (count_ref b hb.1 (by omega) V)
          have h2 := num_len a.toNat
          have h3 := num_len b.toNat
          generalize num a.toNat = U at HS3 hca h2
          generalize num b.toNat = U2 at HS3 hcb h3
          clear HS2 HN hp3
          go_wp2_with fail
          refine (hca _).out.mono ?_
          rintro x w2 ⟨rfl, hg2⟩
          have HG2 := hide (HGa.out.trans hg2)
          have hz1' := hg2.cell hz1 (by simp)
          have hz3' := hg2.cell hz3 (by simp)
          have ht' := hg2.cell ht (by simp)
          clear hg2 hca
          go_wp2_with fail
          refine (hcb _).out.mono ?_
          rintro x w3 ⟨rfl, hg3⟩
          have HG3 := hide (HG2.out.trans hg3)
          clear hg3 hcb
          go_wp2_with fail
          exact ⟨⟨k + 1, by simp, hlt, by rw [HS3.out, ← str_app, ← str_app, ← str_app], HG3.out⟩, by simp [intOf]; omega⟩
    · have hkk : k = l.length := by omega
      subst hkk
      have HE := hide (encs_end (f := encIns) (xs := l) (k := l.length) (by omega))
      clear hg
      go_wp2_with fail
      go_ret
      exact ⟨by rw [HE.out]; rfl, HG.out⟩
end Go.Proofs.YtkgncijcnlfhiaaDoor
