import Derived.Test.YtkgncijcnlfhiaaDoorF4
import Derived.Test.YtkgncijcnlfhiaaDoorF1
import Derived.Test.YtkgncijcnlfhiaaDoorQ1
namespace Go.Proofs.YtkgncijcnlfhiaaDoor
set_option linter.unusedVariables false
set_option linter.unusedSimpArgs false
open Go.RowKit
attribute [local go_sem ↓] Go.wp_at_zero Go.wp_at_succ
theorem encIns_le (i : PIns) : (encIns i).length ≤ 23 := by
  have h1 := num_len (zig i.a); have h2 := num_len i.a.toNat; have h3 := num_len i.b.toNat
  unfold encIns; rw [List.length_cons]
  split
  · omega
  · rw [List.length_append]; split <;> split <;> simp <;> omega
theorem insOk_parts {j : Nat} {a b : Int} (h : insOk ⟨j, a, b⟩ = true) : j ≤ 20 ∧ (j = 1 → -2147483648 ≤ a ∧ a ≤ 2147483647) ∧ (¬ j = 1 → (1 ≤ operandsN j → 0 ≤ a ∧ a ≤ 65535) ∧ (2 ≤ operandsN j → 0 ≤ b ∧ b ≤ 65535)) := by
  unfold insOk at h
  simp only [Bool.and_eq_true] at h
  obtain ⟨h1, h2, h3⟩ := h
  simp only [wB, decide_eq_true_eq] at h1
  refine ⟨by omega, fun e => ?_, fun e => ⟨fun hn => ?_, fun hn => ?_⟩⟩
  · rw [if_pos (by omega)] at h2; simpa [wB] using h2
  · rw [if_neg (by omega)] at h2; simp only [operandOk, hn, decide_true, if_true, wB, decide_eq_true_eq] at h2; exact h2
  · simp only [operandOk, hn, decide_true, if_true, wB, decide_eq_true_eq] at h3; exact h3

set_option maxRecDepth 100000 in
set_option maxHeartbeats 4000000 in
theorem code_ref (v : Value) (l : List PIns) (w : World) (hR : RCode w v l) (hT : Tab w) (hl : l.length ≤ 300) (hok : ∀ x ∈ l, insOk x = true) :
    Calls Tryd.prog 123 #[v] w fun x w' => x = .returned (.string ⟨(encs encIns l).toArray⟩) ∧ Gr w w' := by
  have HR := hide hR
  obtain ⟨a1, c1, rfl, _, _⟩ := hR
  have HX := hide hok
  have HT := hide hT
  have hc0 := fun V : World => hide (count_ref (l.length : Int) (by omega) (by omega) V)
  simp only [Int.toNat_natCast] at hc0
  have hsm := encTo_small (f := encIns) (xs := l) (B := 23) (fun x _ => encIns_le x) hl (by decide)
  clear hok hT
  go_enter Tryd.func123, Tryd.ntmps123
  go_wp2_with fail
  refine (hc0 _).out.mono ?_
  rintro x w1 ⟨rfl, hg1⟩
  have HG1 := hide hg1
  clear hg1 hc0
  go_wp2_with fail
  go_loopw [3, 4] (fun s i wr => ∃ k : Nat, i = .int .i64 k ∧ k ≤ l.length ∧ s = .string ⟨(encTo encIns l k).toArray⟩ ∧ Gr w wr) (fun _ i _ => l.length - (intOf i).toNat)
  case atStart => exact ⟨0, rfl, Nat.zero_le _, by rw [encTo_zero], HG1.out⟩
  case round =>
    obtain ⟨k, rfl, hk, rfl, hg⟩ := hrel
    clear HG1
    have HG := hide hg
    by_cases hlt : k < l.length
    · obtain ⟨a1', c1', h1e, _, hc1⟩ := HR.out
      simp only [Value.slice.injEq, true_and] at h1e
      have hxk : l[k]? = some l[k] := List.getElem?_eq_getElem hlt
      obtain ⟨b1, o1, rfl, hx1, hx2, hx3⟩ := hc1 k _ hxk
      obtain ⟨rfl, rfl⟩ := h1e
      have hb := HX.out _ (List.mem_of_getElem? hxk)
      have HS := hide (encTo_succ (f := encIns) hxk)
      generalize l[k] = c at hx1 hx2 hx3 hb HS
      obtain ⟨op, a, b⟩ := c
      obtain ⟨j, rfl⟩ : ∃ j : Nat, op = (j : Int) := ⟨op.toNat, by
        have : 0 ≤ op := by unfold insOk at hb; simp only [Bool.and_eq_true, wB, decide_eq_true_eq] at hb; exact hb.1.1
        omega⟩
      obtain ⟨hj20, hp1, hp2⟩ := insOk_parts hb
      have hga := Gr.alloc (Gr.refl wr) (.cells #[.int .u8 (j : Int)] 5)
      have hy1 := hg.cell hx1 (by simp)
      have hz1 := hga.cell hy1 (by simp)
      have hz2 := hga.cell (hg.cell hx2 (by simp)) (by simp)
      have hz3 := hga.cell (hg.cell hx3 (by simp)) (by simp)
      have ht := hga.cell ((HT.out.gr hg) j (by omega)) (by simp)
      have hob := one_byte wr j (by omega)
      have hw8 : IntKind.u8.wrap (j : Int) = (j : Int) := by rw [IntKind.wrap_u8]; omega
      have h1 := hsm k
      have HGa := hide (HG.out.trans hga)
      generalize hTe : encTo encIns l k = T at h1 HS ⊢
      simp only at hz1 hz2 hz3 hy1
      clear hc1 hx1 hx2 hx3 hg hxk hb hTe hga
      by_cases hj1 : j = 1
      · have hjb : ((j : Int) == 1) = true := by simpa using (show (j : Int) = 1 by omega)
        have HS2 : Hid (encTo encIns l (k + 1) = (T ++ [UInt8.ofNat j]) ++ num (zig a)) := hide (by rw [HS.out]; unfold encIns; simp only [Int.toNat_natCast]; rw [if_pos (by omega)]; simp)
        have hsg := fun V : World => hide (signed_ref a (by have := hp1 hj1; omega) (by have := hp1 hj1; omega) V)
        have h2 := num_len (zig a)
        generalize num (zig a) = U at HS2 hsg h2
        clear hp1 hp2 ht HS hj1 hz3
        go_wp2_with fail
        refine (hsg _).out.mono ?_
        rintro x w2 ⟨rfl, hg2⟩
        have HG2 := hide (HGa.out.trans hg2)
        clear hg2 hsg
        go_wp2_with fail
        exact ⟨⟨k + 1, by simp, hlt, by rw [HS2.out, ← str_app, ← str_app], HG2.out⟩, by simp [intOf]; omega⟩
      · have hjb : ((j : Int) == 1) = false := by rw [beq_eq_false_iff_ne]; omega
        have HS2 : Hid (encTo encIns l (k + 1) = (T ++ [UInt8.ofNat j]) ++ ((if 1 ≤ operandsN j then num a.toNat else []) ++ (if 2 ≤ operandsN j then num b.toNat else []))) := hide (by rw [HS.out]; unfold encIns; simp only [Int.toNat_natCast]; rw [if_neg (by omega)]; simp)
        have hp3 := hp2 hj1
        have HN := hide (opN_cases (j : Int))
        have hj0 : (0 : Int) ≤ (j : Int) := by omega
        have hj2 : (j : Int) < 21 := by omega
        clear hp1 hp2 HS hj1
        generalize operandsN (j : Int) = n at ht HS2 HN hp3
        rcases HN.out with rfl | rfl | rfl
        · have HS3 : Hid (encTo encIns l (k + 1) = T ++ [UInt8.ofNat j]) := hide (by rw [HS2.out]; simp)
          clear HS2 HN hp3
          go_wp2_with fail
          exact ⟨⟨k + 1, by simp, hlt, by rw [HS3.out, ← str_app], HGa.out⟩, by simp [intOf]; omega⟩
        · have HS3 : Hid (encTo encIns l (k + 1) = (T ++ [UInt8.ofNat j]) ++ num a.toNat) := hide (by rw [HS2.out]; simp)
          have ha := hp3.1 (by decide)
          have hca := fun V : World => hide (count_ref a ha.1 (by omega) V)
          have h2 := num_len a.toNat
          generalize num a.toNat = U at HS3 hca h2
          clear HS2 HN hp3
          go_wp2_with fail
          refine (hca _).out.mono ?_
          rintro x w2 ⟨rfl, hg2⟩
          have HG2 := hide (HGa.out.trans hg2)
          have hz1' := hg2.cell hz1 (by simp)
          have ht' := hg2.cell ht (by simp)
          clear hg2 hca
          go_wp2_with fail
          exact ⟨⟨k + 1, by simp, hlt, by rw [HS3.out, ← str_app, ← str_app], HG2.out⟩, by simp [intOf]; omega⟩
        · have HS3 : Hid (encTo encIns l (k + 1) = ((T ++ [UInt8.ofNat j]) ++ num a.toNat) ++ num b.toNat) := hide (by rw [HS2.out]; simp)
          have ha := hp3.1 (by decide)
          have hb := hp3.2 (by decide)
          have hca := fun V : World => hide (count_ref a ha.1 (by omega) V)
          have hcb := fun V : World => hide (count_ref b hb.1 (by omega) V)
          have h2 := num_len a.toNat
          have h3 := num_len b.toNat
          generalize num a.toNat = U at HS3 hca h2
          generalize num b.toNat = U2 at HS3 hcb h3
          clear HS2 HN hp3
          go_wp2_with fail
          refine (hca _).out.mono ?_
          rintro x w2 ⟨rfl, hg2⟩
          have HG2 := hide (HGa.out.trans hg2)
          have hz1' := hg2.cell hz1 (by simp)
          have hz3' := hg2.cell hz3 (by simp)
          have ht' := hg2.cell ht (by simp)
          clear hg2 hca
          go_wp2_with fail
          refine (hcb _).out.mono ?_
          rintro x w3 ⟨rfl, hg3⟩
          have HG3 := hide (HG2.out.trans hg3)
          clear hg3 hcb
          go_wp2_with fail
          exact ⟨⟨k + 1, by simp, hlt, by rw [HS3.out, ← str_app, ← str_app, ← str_app], HG3.out⟩, by simp [intOf]; omega⟩
    · have hkk : k = l.length := by omega
      subst hkk
      have HE := hide (encs_end (f := encIns) (xs := l) (k := l.length) (by omega))
      clear hg
      go_wp2_with fail
      go_ret
      exact ⟨by rw [HE.out]; rfl, HG.out⟩
end Go.Proofs.YtkgncijcnlfhiaaDoor

namespace Go.Proofs.YtkgncijcnlfhiaaDoor
set_option linter.unusedVariables false
set_option linter.unusedSimpArgs false
open Go.RowKit
attribute [local go_sem ↓] Go.wp_at_zero Go.wp_at_succ
theorem i64_xor (a b : Nat) (ha : a < 4294967296) (hb : b < 4294967296) : bits BinOp.xor IntKind.i64 (a : Int) (b : Int) = ((a ^^^ b : Nat) : Int) := by
  have hx : a ^^^ b < 2 ^ 32 := Nat.xor_lt_two_pow (by omega) (by omega)
  show IntKind.i64.wrap ((BitVec.ofInt 64 (a : Int) ^^^ BitVec.ofInt 64 (b : Int)).toNat : Int) = _
  have e1 : (BitVec.ofInt 64 (a : Int)).toNat = a := by rw [BitVec.toNat_ofInt]; omega
  have e2 : (BitVec.ofInt 64 (b : Int)).toNat = b := by rw [BitVec.toNat_ofInt]; omega
  rw [BitVec.toNat_xor, e1, e2, Go.IntWalk.i64_in _ (by omega)]
set_option maxRecDepth 100000 in
theorem xor_ref (a b : Nat) (ha : a < 4294967296) (hb : b < 4294967296) (w : World) :
    Calls Tryd.prog 125 #[.int .i64 (a : Int), .int .i64 (b : Int)] w fun x w' => x = .returned (.int .i64 ((a ^^^ b : Nat) : Int)) ∧ w' = w := by
  have hx := i64_xor a b ha hb
  generalize a ^^^ b = c at hx ⊢
  go_enter Tryd.func125, Tryd.ntmps125
  go_wp2_with fail
  go_ret
  exact ⟨rfl, rfl⟩
theorem xor_low (a b : Nat) : (a ^^^ b) % 2 = (a + b) % 2 := by
  have h : (a ^^^ b) % 2 ^ 1 = a % 2 ^ 1 ^^^ b % 2 ^ 1 := Nat.xor_mod_two_pow
  simp only [Nat.pow_one] at h
  rw [h]
  rcases Nat.mod_two_eq_zero_or_one a with ha | ha <;> rcases Nat.mod_two_eq_zero_or_one b with hb | hb <;> rw [ha, hb] <;> simp <;> omega
theorem xor_half (a b : Nat) : (a ^^^ b) / 2 = a / 2 ^^^ b / 2 := by
  have h : (a ^^^ b) >>> 1 = a >>> 1 ^^^ b >>> 1 := Nat.shiftRight_xor_distrib
  simpa [Nat.shiftRight_eq_div_pow] using h
theorem bit_step {v c x : Nat} (h : v ^^^ c = x) : (if (v + c) % 2 = 1 then v / 2 ^^^ 3988292384 else v / 2) ^^^ (c / 2) = crcBit x := by
  unfold crcBit
  rw [← h, xor_low, xor_half]
  split
  · rw [Nat.xor_assoc, Nat.xor_comm 3988292384, ← Nat.xor_assoc]
  · rfl
theorem four_bytes (w : World) (y0 y1 y2 y3 : Nat) (h0 : y0 < 256) (h1 : y1 < 256) (h2 : y2 < 256) (h3 : y3 < 256) :
    (convert 113 9 (.slice (some ⟨w.heap.size, 0, none⟩) 4 4)).run Tryd.prog (w.alloc (.cells #[.int .u8 (y0 : Int), .int .u8 (y1 : Int), .int .u8 (y2 : Int), .int .u8 (y3 : Int)] 5)) = .ok (.string ⟨#[UInt8.ofNat y0, UInt8.ofNat y1, UInt8.ofNat y2, UInt8.ofNat y3]⟩) (w.alloc (.cells #[.int .u8 (y0 : Int), .int .u8 (y1 : Int), .int .u8 (y2 : Int), .int .u8 (y3 : Int)] 5)) := by
  have e : ∀ y : Nat, y < 256 → (UInt8.ofNat y).toNat = y := fun y hy => by rw [UInt8.toNat_ofNat']; exact Nat.mod_eq_of_lt hy
  have h := run_convert_bytes_back (P := Tryd.prog) (w.alloc (.cells #[.int .u8 (y0 : Int), .int .u8 (y1 : Int), .int .u8 (y2 : Int), .int .u8 (y3 : Int)] 5)) 113 9 5 ⟨w.heap.size, 0, none⟩ 4 [UInt8.ofNat y0, UInt8.ofNat y1, UInt8.ofNat y2, UInt8.ofNat y3] Tryd.underlying113 Tryd.underlying5 Tryd.underlying9 (by
    intro j hj
    have hj4 : j < 4 := by simpa using hj
    have ea : (⟨w.heap.size, 0, none⟩ : Addr).add j = ⟨w.heap.size, j, none⟩ := by simp [Addr.add]; try (intro h; exact h.symm)
    rw [ea]
    have hc := World.cell?_alloc_mark w #[.int .u8 (y0 : Int), .int .u8 (y1 : Int), .int .u8 (y2 : Int), .int .u8 (y3 : Int)] 5 (0, 0) j
    refine hc.trans ?_
    have hcase : j = 0 ∨ j = 1 ∨ j = 2 ∨ j = 3 := by omega
    rcases hcase with rfl | rfl | rfl | rfl
    · simp [e y0 h0]
    · simp [e y1 h1]
    · simp [e y2 h2]
    · simp [e y3 h3])
  exact h
end Go.Proofs.YtkgncijcnlfhiaaDoor

namespace Go.Proofs.YtkgncijcnlfhiaaDoor
set_option linter.unusedVariables false
set_option linter.unusedSimpArgs false
open Go.RowKit
attribute [local go_sem ↓] Go.wp_at_zero Go.wp_at_succ
theorem crcBits_zero {x v c : Nat} (h : v ^^^ c = crcBits 8 x) (hc : c < 2 ^ (8 - 8)) : v = crcBits 8 x := by
  have : c = 0 := by simpa using hc
  rw [this] at h; simpa using h
set_option maxRecDepth 100000 in
set_option maxHeartbeats 4000000 in
theorem check_ref (s : ByteArray) (w : World) (hs : s.size ≤ 10000000) :
    Calls Tryd.prog 74 #[.string s] w fun x w' => x = .returned (.string ⟨(leK (crc s.data.toList) 4).toArray⟩) ∧ Gr w w' := by
  go_enter Tryd.func74, Tryd.ntmps74
  go_wp2_with fail
  go_loopw [3, 4] (fun v i wr => ∃ k : Nat, k ≤ s.size ∧ i = .int .i64 k ∧ v = .int .i64 (crcF (s.data.toList.take k) : Nat) ∧ wr = w) (fun _ i _ => s.size - (intOf i).toNat)
  case atStart => exact ⟨0, Nat.zero_le _, rfl, rfl, rfl⟩
  case round =>
    obtain ⟨k, hk, rfl, rfl, rfl⟩ := hrel
    by_cases hlt : k < s.size
    · have hV := crcF_lt (s.data.toList.take k)
      have HN : Hid (crcF (s.data.toList.take (k + 1)) = crcByte (crcF (s.data.toList.take k)) s[k]) := hide (by rw [take_snoc s k hlt, crcF_snoc])
      have hbt := s[k].toNat_lt
      generalize hVe : crcF (s.data.toList.take k) = V at hV HN ⊢
      generalize hbe : s[k] = b at HN hbt
      have hidx : s[k]!.toNat = b.toNat := by rw [getElem!_pos s k hlt, hbe]
      clear hVe
      have HB := hide hbe
      go_wp2_with fail
      go_loopw [3, 5, 6] (fun v c j wx => ∃ vn cn m : Nat, m ≤ 8 ∧ j = .int .i64 m ∧ v = .int .i64 (vn : Int) ∧ c = .int .i64 (cn : Int) ∧ vn < 4294967296 ∧ cn < 2 ^ (8 - m) ∧ vn ^^^ cn = crcBits m (V ^^^ b.toNat) ∧ wx = wr) (fun _ _ j _ => 8 - (intOf j).toNat)
      case atStart => exact ⟨V, b.toNat, 0, Nat.zero_le _, rfl, rfl, by rw [← HB.out], hV, hbt, rfl, rfl⟩
      case round =>
        obtain ⟨vn, cn, m, hm, rfl, rfl, rfl, hvn, hcn, hx, e⟩ := hrel
        subst e
        have HX := hide hx
        have hcn2 : cn < 256 := Nat.lt_of_lt_of_le hcn (Nat.pow_le_pow_right (n := 2) (by decide) (show 8 - m ≤ 8 by omega))
        clear hx
        by_cases hm8 : m < 8
        · have HC2 : Hid (cn / 2 < 2 ^ (8 - (m + 1))) := hide (by
            rw [Nat.div_lt_iff_lt_mul (by decide), ← Nat.pow_succ, show (8 - (m + 1)).succ = 8 - m by omega]; exact hcn)
          have HST := hide (bit_step HX.out)
          have hsum : IntKind.i64.wrap ((vn : Int) + (cn : Int)) = (vn : Int) + (cn : Int) := Go.IntWalk.i64_in _ (by omega)
          obtain ⟨v2, hv2⟩ : ∃ v2, v2 = vn / 2 := ⟨_, rfl⟩
          obtain ⟨c2, hc2⟩ : ∃ c2, c2 = cn / 2 := ⟨_, rfl⟩
          have hq1 : (vn : Int).tdiv 2 = (v2 : Int) := by rw [Int.tdiv_eq_ediv_of_nonneg (by omega)]; omega
          have hq2 : (cn : Int).tdiv 2 = (c2 : Int) := by rw [Int.tdiv_eq_ediv_of_nonneg (by omega)]; omega
          have hq3 : IntKind.i64.wrap (v2 : Int) = (v2 : Int) := Go.IntWalk.i64_in _ (by omega)
          have hq4 : IntKind.i64.wrap (c2 : Int) = (c2 : Int) := Go.IntWalk.i64_in _ (by omega)
          have hv2l : v2 < 4294967296 := by omega
          rw [← hc2] at HC2
          rw [← hv2, ← hc2] at HST
          have hcd : cn < 256 := hcn2
          by_cases hodd : (vn + cn) % 2 = 1
          · have ht : ((vn : Int) + (cn : Int)).tmod 2 = 1 := by rw [Int.tmod_eq_emod_of_nonneg (by omega)]; omega
            rw [if_pos hodd] at HST
            have hxr := fun W : World => hide (xor_ref v2 3988292384 hv2l (by decide) W)
            have hx3 : v2 ^^^ 3988292384 < 4294967296 := Nat.xor_lt_two_pow (n := 32) (by omega) (by decide)
            generalize v2 ^^^ 3988292384 = v3 at HST hxr hx3
            clear hodd hv2 hc2 HX hcn hcn2 hcd
            go_wp2_with fail
            refine (hxr _).out.mono ?_
            rintro y w2 ⟨rfl, e2⟩
            subst e2
            go_wp2_with fail
            exact ⟨⟨v3, c2, m + 1, by omega, by simp, rfl, rfl, hx3, HC2.out, HST.out, trivial⟩, by simp [intOf]; omega⟩
          · have ht : ((vn : Int) + (cn : Int)).tmod 2 = 0 := by rw [Int.tmod_eq_emod_of_nonneg (by omega)]; omega
            rw [if_neg hodd] at HST
            clear hodd hv2 hc2 HX hcn hcn2 hcd
            go_wp2_with fail
            exact ⟨⟨v2, c2, m + 1, by omega, by simp, rfl, rfl, hv2l, HC2.out, HST.out, trivial⟩, by simp [intOf]; omega⟩
        · have h8 : m = 8 := by omega
          subst h8
          have HV : Hid (vn = crcByte V b) := hide (crcBits_zero HX.out hcn)
          clear hcn hcn2 HX
          go_wp2_with fail
          exact ⟨⟨k + 1, hlt, by simp, by rw [HN.out, ← HV.out], trivial⟩, by simp [intOf]; omega⟩
    · have hlt0 := crcF_lt (s.data.toList.take k)
      have hkk : k = s.size := by omega
      have HE : Hid (crc s.data.toList = 4294967295 - crcF (s.data.toList.take k)) := hide (by unfold crc; rw [List.take_of_length_le (by simp; omega)])
      generalize crcF (s.data.toList.take k) = c at hlt0 HE
      obtain ⟨d, hd⟩ : ∃ d, d = 4294967295 - c := ⟨_, rfl⟩
      have hdl : d < 4294967296 := by omega
      have hsub : IntKind.i64.wrap (4294967295 - (c : Int)) = (d : Int) := by rw [Go.IntWalk.i64_in _ (by omega)]; omega
      rw [← hd] at HE
      obtain ⟨y0, e0⟩ : ∃ y, y = d % 256 := ⟨_, rfl⟩
      obtain ⟨z1, f1⟩ : ∃ y, y = d / 256 := ⟨_, rfl⟩
      obtain ⟨z2, f2⟩ : ∃ y, y = d / 65536 := ⟨_, rfl⟩
      obtain ⟨y3, e3⟩ : ∃ y, y = d / 16777216 := ⟨_, rfl⟩
      obtain ⟨y1, e1⟩ : ∃ y, y = z1 % 256 := ⟨_, rfl⟩
      obtain ⟨y2, e2⟩ : ∃ y, y = z2 % 256 := ⟨_, rfl⟩
      have g0 : (d : Int).tmod 256 = (y0 : Int) := by rw [Int.tmod_eq_emod_of_nonneg (by omega)]; omega
      have g1 : (d : Int).tdiv 256 = (z1 : Int) := by rw [Int.tdiv_eq_ediv_of_nonneg (by omega)]; omega
      have g2 : (d : Int).tdiv 65536 = (z2 : Int) := by rw [Int.tdiv_eq_ediv_of_nonneg (by omega)]; omega
      have g3 : (d : Int).tdiv 16777216 = (y3 : Int) := by rw [Int.tdiv_eq_ediv_of_nonneg (by omega)]; omega
      have g4 : (z1 : Int).tmod 256 = (y1 : Int) := by rw [Int.tmod_eq_emod_of_nonneg (by omega)]; omega
      have g5 : (z2 : Int).tmod 256 = (y2 : Int) := by rw [Int.tmod_eq_emod_of_nonneg (by omega)]; omega
      have k1 : IntKind.i64.wrap (z1 : Int) = (z1 : Int) := Go.IntWalk.i64_in _ (by omega)
      have k2 : IntKind.i64.wrap (z2 : Int) = (z2 : Int) := Go.IntWalk.i64_in _ (by omega)
      have k3 : IntKind.i64.wrap (y3 : Int) = (y3 : Int) := Go.IntWalk.i64_in _ (by omega)
      have j0 : IntKind.u8.wrap (y0 : Int) = (y0 : Int) := by rw [IntKind.wrap_u8]; omega
      have j1 : IntKind.u8.wrap (y1 : Int) = (y1 : Int) := by rw [IntKind.wrap_u8]; omega
      have j2 : IntKind.u8.wrap (y2 : Int) = (y2 : Int) := by rw [IntKind.wrap_u8]; omega
      have j3 : IntKind.u8.wrap (y3 : Int) = (y3 : Int) := by rw [IntKind.wrap_u8]; omega
      have hfb := four_bytes wr y0 y1 y2 y3 (by omega) (by omega) (by omega) (by omega)
      have HL : Hid (leK (crc s.data.toList) 4 = [UInt8.ofNat y0, UInt8.ofNat y1, UInt8.ofNat y2, UInt8.ofNat y3]) := hide (by
        have hk4 : leK d 4 = [UInt8.ofNat (d / 256 ^ 0 % 256), UInt8.ofNat (d / 256 ^ 1 % 256), UInt8.ofNat (d / 256 ^ 2 % 256), UInt8.ofNat (d / 256 ^ 3 % 256)] := rfl
        rw [HE.out, hk4, show d / 256 ^ 0 % 256 = y0 by simp; omega, show d / 256 ^ 1 % 256 = y1 by simp; omega, show d / 256 ^ 2 % 256 = y2 by simp; omega, show d / 256 ^ 3 % 256 = y3 by simp; omega])
      clear e0 e1 e2 e3 f1 f2 hd HE
      go_wp2_with fail
      go_ret
      exact ⟨by rw [HL.out]; rfl, (Gr.refl _).alloc _⟩
end Go.Proofs.YtkgncijcnlfhiaaDoor

