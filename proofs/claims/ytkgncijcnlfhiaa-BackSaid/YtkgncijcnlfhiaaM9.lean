import Derived.Test.YtkgncijcnlfhiaaM8
namespace Go.Proofs.Ytkgncijcnlfhiaa
set_option linter.unusedVariables false
set_option linter.unusedSimpArgs false
open Go.RowKit
attribute [local go_sem ↓] Go.wp_at_zero Go.wp_at_succ
set_option maxRecDepth 100000 in
set_option maxHeartbeats 8000000 in
theorem unit_made (mb : Nat) (r : List Int) (w : World) (h : MkR w mb r) :
    Calls Try.prog 10 #[.pointer (some ⟨mb, 0, none⟩)] w (UnitMade mb w) := by
  have HU0 := hide (UB.new w mb r h)
  have hml := h.lt
  clear h
  generalize hB : w.heap.size + 2 = B
  have HB := hide hB
  go_enter Try.func10, Try.ntmps10
  go_wp2_with fail
  refine (next_m mb 4 (by decide) (by decide) _ HU0.out.2.2.1).mono ?_
  rintro x w1 ⟨N, rfl, hN, hm1, hg1⟩
  have HU1 := hide (HU0.out.gc hg1 hm1)
  have hN3 : N ≤ 3 := by omega
  clear hm1 hg1 HU0 hN hB
  go_wp2_with fail
  go_loopw [5] (fun i wr => ∃ (es : List (Value × List Int)) (v1 : Value), i = .int .i64 (es.length : Int) ∧ es.length ≤ N ∧ UB w mb wr v1 nilS nilS nilS nilS ∧ wr.ownsRow B 22 1 v1 es.length (es.flatMap fS) ∧ (∀ e ∈ es, RIntsP (Bt B v1) wr e.1 e.2 ∧ (1 ≤ e.2.length ∧ e.2.length ≤ 4) ∧ e.2.all (inB N) = true)) (fun i _ => N - (intOf i).toNat)
  case atStart => exact ⟨[], nilS, rfl, Nat.zero_le _, HU1.out, World.ownsRow_nil _ _ _ _, by simp⟩
  case round =>
    obtain ⟨es, v1, rfl, hk, hU, hrow, hes⟩ := hrel
    have HU := hide hU
    have HO := hide hrow
    have HE := hide hes
    clear hU hrow hes HU1
    by_cases hkN : es.length < N
    · go_wp2_with fail
      refine (kinds_m mb 1 4 N (by decide) (by decide) (by omega) wr HU.out.2.2.1).mono ?_
      rintro x w2 ⟨vl, l, rfl, hown2, hl, hm2, hg2⟩
      have HU2 := hide (HU.out.gc hg2 hm2)
      have hB1 := HB.out
      have HO2 := hide (own_gc HO.out hg2 (by omega))
      have HE2 : Hid (∀ e ∈ es, RIntsP (Bt B v1) w2 e.1 e.2 ∧ (1 ≤ e.2.length ∧ e.2.length ≤ 4) ∧ e.2.all (inB N) = true) := hide (fun e he => ⟨(HE.out e he).1.stay (Stay.gc hg2 (fun b hb => by have := hb.1; omega)), (HE.out e he).2⟩)
      have HNew := hide (ints_of (P := Bt B v1) hown2 (bt_new HO.out (Nat.le_refl _) (by have := HU.out.2.2.2.2.1; omega)))
      have HL := hide hl
      obtain ⟨⟨ao, co, rfl⟩, _⟩ := own_form hown2
      obtain ⟨⟨a1, c1, rfl⟩, _⟩ := own_form HO2.out
      have hsz : B ≤ w2.heap.size := by have := HU2.out.2.2.2.2.1; omega
      obtain ⟨_, ⟨b0, b1, b2, b3, b4, d0, d1, d2, d3, d4⟩, _⟩ := HU2.out
      clear hl hown2 hm2 hg2 HU HO HE b1 b2 b3 b4 d0 d1 d2 d3 d4 hB1
      go_wp2_with (at_builtin; refine wpList_append_vals _ rfl _ _ 23 22 1 24 (.slice none 0 0) Try.infoSlice Try.underlying23 rfl (by decide) (by decide) rfl B _ es.length (es.flatMap fS) rfl HO2.out #[.slice ao l.length co] rfl (by intro u hu; simp at hu; subst hu; rfl) _ rfl rfl (by omega) hsz ?_; intro v3 w3 hap; have HAP := hide hap; have HU3 := hide (HU2.out.grown hap.frm (fun k e => by have := own_ge HO2.out k e; have := HB.out; omega)); obtain ⟨⟨a3, c3, rfl⟩, _⟩ := own_form hap.own; obtain ⟨_, ⟨b0, b1, b2, b3, b4, d0, d1, d2, d3, d4⟩, _⟩ := HU3.out; clear hap b1 b2 b3 b4 d1 d2 d3 d4)
      have hst := HAP.out.stay.set (g := w.heap.size + 1) (o := 0) (u := .slice a3 (es.length + 1) c3) (fun b hb => by have := hb.1; have := HB.out; omega)
      have hlt : w.heap.size + 1 < B := by have := HB.out; omega
      refine ⟨⟨es ++ [(.slice ao l.length co, l)], .slice a3 (es.length + 1) c3, by simp, by simp; omega, HU3.out.set0 _, own_set (own_snoc (x := (.slice ao l.length co, l)) HAP.out.own rfl) (own_ne HAP.out.own hlt), snoc_all (fun e he => ⟨(HE2.out e he).1.stay hst, (HE2.out e he).2⟩) ⟨HNew.out.stay hst, ⟨HL.out.1, HL.out.2.1⟩, HL.out.2.2⟩⟩, by simp [intOf]; omega⟩
    · have HS1 : Hid (RShapesP (Bt B nilS) wr v1 (es.map (·.2))) := hide (shapes_of HO.out bt_nil fun e he => (HE.out e he).1.stay stay_nil)
      have HS2 : Hid ((es.map (·.2)).length = N ∧ ∀ s ∈ es.map (·.2), (1 ≤ s.length ∧ s.length ≤ 4) ∧ s.all (inB N) = true) := hide ⟨by rw [List.length_map]; omega, fun s hs => by
        obtain ⟨e, he, rfl⟩ := List.mem_map.1 hs
        exact (HE.out e he).2⟩
      generalize es.map (·.2) = S at HS1 HS2
      go_wp2_with fail
      refine (next_m mb 5 (by decide) (by decide) _ HU.out.2.2.1).mono ?_
      rintro x w2 ⟨K2, rfl, hK2, hm2, hg2⟩
      have HU2 := hide (HU.out.gc hg2 hm2)
      have HF2 : Hid (Fin (Bt B nilS) w2 v1 nilS nilS nilS ⟨S, [], [], [], []⟩) := hide ⟨HS1.out.stay (Stay.gc hg2 (fun b hb => by have := hb.1; have := HB.out; omega)), nil_ints _ _, nil_funcs _ _, nil_imps _ _⟩
      clear hm2 hg2 HU HO HE HS1 hk hkN
      go_wp2_with fail
      go_loopw [7] (fun n wr => ∃ (k : Nat) (l : List Int) (v2 : Value), n = .int .i64 k ∧ l.length + k ≤ 4 ∧ UB w mb wr v1 v2 nilS nilS nilS ∧ Fin (Bt B v2) wr v1 nilS nilS nilS ⟨S, [], [], [], []⟩ ∧ wr.ownsRow B 3 1 v2 l.length (l.flatMap fI) ∧ ∀ x ∈ l, fitsI x) (fun n _ => (intOf n).toNat)
      case atStart => exact ⟨K2, [], nilS, rfl, by simp; omega, HU2.out, HF2.out, World.ownsRow_nil _ _ _ _, by simp⟩
      case round =>
        obtain ⟨k, l, v2, rfl, hkl, hU, hF, hrow, hfi⟩ := hrel
        have HU := hide hU
        have HF := hide hF
        have HO := hide hrow
        have HFi := hide hfi
        clear hU hF hrow hfi HU2 HF2 hK2
        by_cases hk0 : 0 < k
        · obtain ⟨j, rfl⟩ : ∃ j, k = j + 1 := ⟨k - 1, by omega⟩
          go_wp2_with fail
          refine (raw_m mb _ HU.out.2.2.1).mono ?_
          rintro x w3 ⟨q, rfl, hq, hm3, hg3⟩
          have HQ := hide hq
          have HU3 := hide (HU.out.gc hg3 hm3)
          have HO3 := hide (own_gc HO.out hg3 (by have := HB.out; omega))
          have HF3 := hide (HF.out.stay (Stay.gc hg3 (fun b hb => by have := hb.1; have := HB.out; omega)))
          obtain ⟨⟨a1, c1, rfl⟩, _⟩ := own_form HO3.out
          have hsz : B ≤ w3.heap.size := by have := HU3.out.2.2.2.2.1; have := HB.out; omega
          obtain ⟨_, ⟨b0, b1, b2, b3, b4, d0, d1, d2, d3, d4⟩, _⟩ := HU3.out
          clear hq hm3 hg3 HU HO HF b0 b2 b3 b4 d0 d1 d2 d3 d4
          go_wp2_with (at_builtin; refine wpList_append_vals _ rfl _ _ 22 3 1 8 (.int .i64 0) Try.infoint Try.underlying22 rfl (by decide) (by decide) rfl B _ l.length (l.flatMap fI) rfl HO3.out #[.int .i64 q] rfl (by intro u hu; simp at hu; subst hu; rfl) _ rfl rfl (by omega) hsz ?_; intro v4 w4 hap; have HAP := hide hap; have HU4 := hide (HU3.out.grown hap.frm (fun k e => by have := own_ge HO3.out k e; have := HB.out; omega)); obtain ⟨⟨a3, c3, rfl⟩, _⟩ := own_form hap.own; obtain ⟨_, ⟨b0, b1, b2, b3, b4, d0, d1, d2, d3, d4⟩, _⟩ := HU4.out; clear hap b0 b2 b3 b4 d0 d2 d3 d4)
          have hst := HAP.out.stay.set (g := w.heap.size + 1) (o := 1) (u := .slice a3 (l.length + 1) c3) (fun b hb => by have := hb.1; have := HB.out; omega)
          have hlt : w.heap.size + 1 < B := by have := HB.out; omega
          refine ⟨⟨j, l ++ [q], .slice a3 (l.length + 1) c3, by simp, by simp; omega, HU4.out.set1 _, HF3.out.stay hst, own_set (own_snoc (x := q) HAP.out.own rfl) (own_ne HAP.out.own hlt), snoc_all HFi.out HQ.out⟩, by simp [intOf]⟩
        · obtain rfl : k = 0 := by omega
          have HC1 : Hid (Fin (Bt B nilS) wr v1 v2 nilS nilS ⟨S, l, [], [], []⟩) := hide ⟨HF.out.1.stay stay_nil, (ints_of HO.out bt_nil), nil_funcs _ _, nil_imps _ _⟩
          have HC2 : Hid (l.length ≤ 4 ∧ ∀ x ∈ l, fitsI x) := hide ⟨by omega, HFi.out⟩
          generalize l = C at HC1 HC2
          go_wp2_with fail
          refine (next_m mb 4 (by decide) (by decide) _ HU.out.2.2.1).mono ?_
          rintro x w2 ⟨K3, rfl, hK3, hm2, hg2⟩
          have HU2 := hide (HU.out.gc hg2 hm2)
          have HF2 := hide (HC1.out.stay (Stay.gc hg2 (fun b hb => by have := hb.1; have := HB.out; omega)))
          clear hm2 hg2 HU HO HF HFi HC1 hkl hk0
          go_wp2_with fail
          go_loopw [9] (fun n wr => ∃ (k : Nat) (es : List BF) (v3 : Value), n = .int .i64 k ∧ es.length + k ≤ 3 ∧ UB w mb wr v1 v2 v3 nilS nilS ∧ Fin (Bt B v3) wr v1 v2 nilS nilS ⟨S, C, [], [], []⟩ ∧ wr.ownsRow B 52 4 v3 es.length (es.flatMap fF) ∧ ∀ e ∈ es, FAt (Bt B v3) wr e ∧ FOk N e.f) (fun n _ => (intOf n).toNat)
          case atStart => exact ⟨K3, [], nilS, rfl, by simp; omega, HU2.out, HF2.out, World.ownsRow_nil _ _ _ _, by simp⟩
          case round =>
            obtain ⟨k, es, v3, rfl, hkl, hU, hF, hrow, hes⟩ := hrel
            have HU := hide hU
            have HF := hide hF
            have HO := hide hrow
            have HE := hide hes
            clear hU hF hrow hes HU2 HF2 hK3
            by_cases hk0 : 0 < k
            · obtain ⟨j, rfl⟩ : ∃ j, k = j + 1 := ⟨k - 1, by omega⟩
              go_wp2_with fail
              refine (kinds_m mb 0 4 N (by decide) (by decide) (by omega) wr HU.out.2.2.1).mono ?_
              rintro x w3 ⟨vp, ps, rfl, hown3, hl3, hm3, hg3⟩
              have hB1 := HB.out
              have HU3 := hide (HU.out.gc hg3 hm3)
              have HO3 := hide (own_gc HO.out hg3 (by omega))
              have hst3 : Stay (Bt B v3) (Bt B v3) wr w3 := Stay.gc hg3 (fun b hb => by have := hb.1; omega)
              have HF3 := hide (HF.out.stay hst3)
              have HE3 : Hid (∀ e ∈ es, FAt (Bt B v3) w3 e ∧ FOk N e.f) := hide (fun e he => ⟨(HE.out e he).1.stay hst3, (HE.out e he).2⟩)
              have HP3 := hide (ints_of (P := Bt B v3) hown3 (bt_new HO.out (Nat.le_refl _) (by have := HU.out.2.2.2.2.1; omega)))
              have HL3 := hide hl3
              obtain ⟨⟨ap, cp, rfl⟩, _⟩ := own_form hown3
              clear hown3 hl3 hm3 hg3 hst3 HU HO HF HE
              go_wp2_with fail
              refine (next_m mb ((N : Int) + 1) (by omega) (by omega) _ HU3.out.2.2.1).mono ?_
              rintro x w4 ⟨q, rfl, hq, hm4, hg4⟩
              have hqN : q ≤ N := by omega
              have hst4 : Stay (Bt B v3) (Bt B v3) w3 w4 := Stay.gc hg4 (fun b hb => by have := hb.1; omega)
              have hU4 := HU3.out.gc hg4 hm4
              have hO4 := own_gc HO3.out hg4 (by omega)
              have hfbB : B ≤ w4.heap.size := by have := hU4.2.2.2.2.1; omega
              generalize hfbe : w4.heap.size = fb at hfbB
              have hga := Gr.alloc (Gr.refl w4) (.cells #[.slice ap ps.length cp, .int .i64 (q : Int), .slice none 0 0, .slice none 0 0] 52)
              have hst5 : Stay (Bt B v3) (fun b => Bt B v3 b ∧ ¬ b = fb) w3 (w4.alloc (.cells #[.slice ap ps.length cp, .int .i64 (q : Int), .slice none 0 0, .slice none 0 0] 52)) := fun b hb hl => ⟨(hga.block b (by have := hg4.size; omega) (by simp)).trans (hst4 b hb hl).1, hb, by have := hg4.size; omega⟩
              have HU5 := hide (hU4.gr hga)
              have HO5 := hide (own_kept hO4 fun b hb => hga.block b (own_lt hO4 b hb) (by simp))
              have HV3 : Hid (∀ b, v3.ownBlock = some b → b < fb) := hide (fun b hb => by have := own_lt hO4 b hb; omega)
              have HF5 := hide (HF3.out.stay hst5)
              have HE5 : Hid (∀ e ∈ es, FAt (fun b => Bt B v3 b ∧ ¬ b = fb) (w4.alloc (.cells #[.slice ap ps.length cp, .int .i64 (q : Int), .slice none 0 0, .slice none 0 0] 52)) e ∧ FOk N e.f) := hide (fun e he => ⟨(HE3.out e he).1.stay hst5, (HE3.out e he).2⟩)
              have HP5 := hide (HP3.out.stay hst5)
              have hbx := Box4.new w4 52 (.slice ap ps.length cp) (.int .i64 (q : Int)) (.slice none 0 0) (.slice none 0 0)
              have hsz5 : fb < (w4.alloc (.cells #[.slice ap ps.length cp, .int .i64 (q : Int), .slice none 0 0, .slice none 0 0] 52)).heap.size := by simp; omega
              rw [hfbe] at hbx
              have HBX := hide hbx
              clear hst4 hst5 hU4 hO4 hga hbx hm4 hg4 HU3 HO3 HF3 HE3 HP3 hq hB1
              go_wp2_with fail
              clear hfbe
              generalize w4.alloc (.cells #[.slice ap ps.length cp, .int .i64 (q : Int), .slice none 0 0, .slice none 0 0] 52) = w5 at HU5 HO5 HF5 HE5 HP5 HBX hsz5 ⊢
              refine (kinds_m mb 0 4 N (by decide) (by decide) (by omega) w5 HU5.out.2.2.1).mono ?_
              rintro x w6 ⟨vl, ls, rfl, hown6, hl6, hm6, hg6⟩
              have hB1 := HB.out
              have hst6 : Stay (fun b => Bt B v3 b ∧ ¬ b = fb) (fun b => Bt B v3 b ∧ ¬ b = fb) w5 w6 := Stay.gc hg6 (fun b hb => by have := hb.1.1; omega)
              have hst7 : Stay (fun b => Bt B v3 b ∧ ¬ b = fb) (fun b => Bt B v3 b ∧ ¬ b = fb) w5 (w6.setCell ⟨fb, 2, none⟩ vl) := hst6.set (fun b hb => hb.2)
              have hV3 := HV3.out
              have HPL7 := hide ((ints_of (P := fun b => Bt B v3 b ∧ ¬ b = fb) hown6 (fun b hb => ⟨⟨by omega, fun e => by have := hV3 b e; omega⟩, by omega⟩)).stay ((Stay.refl).set (g := fb) (o := 2) (u := vl) (fun b hb => hb.2)))
              have HU7 := hide ((HU5.out.gc hg6 hm6).other (g := fb) (o := 2) (u := vl) (by omega))
              have HO7 := hide (own_set (g := fb) (o := 2) (u := vl) (own_gc HO5.out hg6 (by omega)) (fun e => by have := hV3 fb e; omega))
              have HF7 := hide (HF5.out.stay hst7)
              have HE7 : Hid (∀ e ∈ es, FAt (fun b => Bt B v3 b ∧ ¬ b = fb) (w6.setCell ⟨fb, 2, none⟩ vl) e ∧ FOk N e.f) := hide (fun e he => ⟨(HE5.out e he).1.stay hst7, (HE5.out e he).2⟩)
              have HP7 := hide (HP5.out.stay hst7)
              have hbx := HBX.out.gc hg6 (by omega)
              have HBX7 := hide (hbx.set2 vl)
              have hsz7 : fb < (w6.setCell ⟨fb, 2, none⟩ vl).heap.size := by have := hg6.size; simp; omega
              have HL6 := hide hl6
              obtain ⟨⟨al, cl, hvl⟩, _⟩ := own_form hown6
              subst hvl
              obtain ⟨b0, b1, b2, b3, d0, d1, d2, d3⟩ := hbx
              clear hst6 hst7 hown6 hl6 hm6 hg6 hB1 hV3 HU5 HO5 HF5 HE5 HP5 HBX b0 b1 b3 d0 d1 d3 hsz5
              go_wp2_with fail
              clear b2 d2
              generalize w6.setCell ⟨fb, 2, none⟩ (.slice al ls.length cl) = w7 at HPL7 HU7 HO7 HF7 HE7 HP7 HBX7 hsz7 ⊢
              refine (next_m mb 12 (by decide) (by decide) _ HU7.out.2.2.1).mono ?_
              rintro x w8 ⟨K4, rfl, hK4, hm8, hg8⟩
              have hB1 := HB.out
              have hst8 : Stay (fun b => Bt B v3 b ∧ ¬ b = fb) (fun b => Bt B v3 b ∧ ¬ b = fb) w7 w8 := Stay.gc hg8 (fun b hb => by have := hb.1.1; omega)
              have HPL8 := hide (HPL7.out.stay hst8)
              have HU8 := hide (HU7.out.gc hg8 hm8)
              have HO8 := hide (own_gc HO7.out hg8 (by omega))
              have HF8 := hide (HF7.out.stay hst8)
              have HE8 : Hid (∀ e ∈ es, FAt (fun b => Bt B v3 b ∧ ¬ b = fb) w8 e ∧ FOk N e.f) := hide (fun e he => ⟨(HE7.out e he).1.stay hst8, (HE7.out e he).2⟩)
              have HP8 := hide (HP7.out.stay hst8)
              have HBX8 := hide (HBX7.out.gc hg8 (by omega))
              have hsz8 : fb < w8.heap.size := by have := hg8.size; omega
              generalize hHe : w8.heap.size = H at hsz8
              have HHe := hide hHe
              clear hst8 hm8 hg8 hB1 HPL7 HU7 HO7 HF7 HE7 HP7 HBX7 hsz7 hHe
              go_wp2_with fail
              go_loopw [11] (fun n wr => ∃ (k : Nat) (c : List PIns) (vc : Value), n = .int .i64 k ∧ c.length + k ≤ 12 ∧ 1 ≤ c.length + k ∧ UB w mb wr v1 v2 v3 nilS nilS ∧ Box4 wr fb (.slice ap ps.length cp) (.int .i64 (q : Int)) (.slice al ls.length cl) vc ∧ Low H mb fb w8 wr ∧ H ≤ wr.heap.size ∧ wr.ownsRow H 54 3 vc c.length (c.flatMap fC) ∧ c.all insOk = true) (fun n _ => (intOf n).toNat)
              case atStart => exact ⟨K4 + 1, [], nilS, by rw [show ((K4 + 1 : Nat) : Int) = 1 + (K4 : Int) by omega], by simp; omega, by simp, HU8.out, HBX8.out, fun _ _ _ _ => rfl, by rw [HHe.out]; exact Nat.le_refl _, World.ownsRow_nil _ _ _ _, rfl⟩
              case round =>
                obtain ⟨k2, c, vc, rfl, hc1, hc2, hU, hbx, hlow, hsz, hrow, hall⟩ := hrel
                have HUi := hide hU
                have HBi := hide hbx
                have HLi := hide hlow
                have HOi := hide hrow
                have HAi := hide hall
                clear hU hbx hlow hrow hall
                by_cases hk2 : 0 < k2
                · obtain ⟨j2, rfl⟩ : ∃ j2, k2 = j2 + 1 := ⟨k2 - 1, by omega⟩
                  go_wp2_with fail
                  refine (ins_m mb _ HUi.out.2.2.1).mono ?_
                  rintro x w9 ⟨i, rfl, hi, hm9, hg9⟩
                  have hB1 := HB.out
                  have hga := Gr.alloc (Gr.refl w9) (.cells #[.int .i64 i.op, .int .i64 i.a, .int .i64 i.b] 54)
                  have HU9 := hide ((HUi.out.gc hg9 hm9).gr hga)
                  have HI9 := hide hi
                  have hbx9 := (HBi.out.gc hg9 (by omega)).gr hga
                  have HB9 := hide hbx9
                  have HL9 := hide ((HLi.out.gc hg9 hsz).grown hga (by have := hg9.size; omega) (by simp))
                  have HO9 := hide (own_alloc (o := (.cells #[.int .i64 i.op, .int .i64 i.a, .int .i64 i.b] 54)) (own_gc HOi.out hg9 (by have := HUi.out.2.2.2.2.2; omega)))
                  have hsz9 : H ≤ (w9.alloc (.cells #[.int .i64 i.op, .int .i64 i.a, .int .i64 i.b] 54)).heap.size := Nat.le_trans (Nat.le_trans hsz hg9.size) hga.size
                  obtain ⟨⟨a1, c1, rfl⟩, _⟩ := own_form HO9.out
                  obtain ⟨b0, b1, b2, b3, d0, d1, d2, d3⟩ := hbx9
                  clear hi hm9 hg9 hga HUi HBi HLi HOi b0 b1 b2 d0 d1 d2 d3 hB1
                  go_wp2_with (at_builtin; refine wpList_append_vals _ rfl _ _ 50 54 3 24 (.agg #[.int .i64 0, .int .i64 0, .int .i64 0]) Try.infoIns Try.underlying50 rfl (by decide) (by decide) rfl H _ c.length (c.flatMap fC) rfl HO9.out #[.int .i64 i.op, .int .i64 i.a, .int .i64 i.b] rfl (by intro u hu; simp at hu; rcases hu with rfl | rfl | rfl <;> rfl) (w9.heap.size + 1) rfl (by simp) (by omega) hsz9 ?_; intro v4 w10 hap; have HAP := hide hap; have HU10 := hide (HU9.out.grown hap.frm (fun k e => by have := own_ge HO9.out k e; have := HB.out; omega)); have HB10 := hide (HB9.out.grown hap.frm (fun e => by have := own_ge HO9.out _ e; omega)); obtain ⟨⟨a3, c3, rfl⟩, _⟩ := own_form hap.own; obtain ⟨b0, b1, b2, b3, d0, d1, d2, d3⟩ := HB10.out; clear hap b0 b1 b2 d0 d1 d2)
                  have hll := (HL9.out.grown HAP.out.frm hsz9 (own_ge HO9.out)).set (o := 3) (u := .slice a3 (c.length + 1) c3)
                  refine ⟨⟨j2, c ++ [i], .slice a3 (c.length + 1) c3, by simp, by simp; omega, by simp; omega, HU10.out.other (by have := HB.out; omega), HB10.out.set3 _, hll, by simp; exact Nat.le_trans hsz9 HAP.out.frm.size, own_set (own_snoc (x := i) HAP.out.own rfl) (own_ne HAP.out.own hsz8), by rw [List.all_append, HAi.out]; simp [HI9.out]⟩, by simp [intOf]⟩
                · obtain rfl : k2 = 0 := by omega
                  have hB1 := HB.out
                  have hH1 := HHe.out
                  have hst : Stay (fun b => Bt B v3 b ∧ ¬ b = fb) (Bt B v3) w8 wr := fun b hb hl => ⟨HLi.out b (by omega) (by have := hb.1.1; omega) hb.2, hb.1⟩
                  have HOn := hide (own_kept HO8.out fun b hb => HLi.out b (by have := HV3.out b hb; omega) (by have := own_ge HO8.out b hb; omega) (by have := HV3.out b hb; omega))
                  have HFn := hide (HF8.out.stay hst)
                  have HEn : Hid (∀ e ∈ es, FAt (Bt B v3) wr e ∧ FOk N e.f) := hide (fun e he => ⟨(HE8.out e he).1.stay hst, (HE8.out e he).2⟩)
                  have HNew : Hid (FAt (Bt B v3) wr ⟨.slice ap ps.length cp, .slice al ls.length cl, vc, ⟨ps, q, ls, c⟩⟩) := hide ⟨HP8.out.stay hst, HPL8.out.stay hst, code_of HOi.out (fun b hb => ⟨by omega, fun e => by have := HV3.out b e; omega⟩)⟩
                  have HNok : Hid (FOk N ⟨ps, q, ls, c⟩) := hide ⟨⟨HL3.out.2.1, HL3.out.2.2⟩, by simp [inB, wB]; omega, ⟨HL6.out.2.1, HL6.out.2.2⟩, ⟨by omega, by omega⟩, HAi.out⟩
                  obtain ⟨⟨ac, cc, rfl⟩, _⟩ := own_form HOi.out
                  obtain ⟨⟨a3, c3, rfl⟩, _⟩ := own_form HOn.out
                  have hszn : B ≤ wr.heap.size := by omega
                  obtain ⟨b0, b1, b2, b3, d0, d1, d2, d3⟩ := HBi.out
                  obtain ⟨_, ⟨e0, e1, e2, e3, e4, f0, f1, f2, f3, f4⟩, _⟩ := HUi.out
                  clear hst hB1 hH1 HO8 HF8 HE8 HP8 HPL8 HLi HOi HBi HU8 HBX8 d0 d1 d2 d3 e0 e1 e3 e4 f0 f1 f2 f3 f4
                  go_wp2_with (at_builtin; refine wpList_append_vals _ rfl _ _ 24 52 4 80 (.agg #[.slice none 0 0, .int .i64 0, .slice none 0 0, .slice none 0 0]) Try.infoFunc Try.underlying24 rfl (by decide) (by decide) rfl B _ es.length (es.flatMap fF) rfl HOn.out #[.slice ap ps.length cp, .int .i64 (q : Int), .slice al ls.length cl, .slice ac c.length cc] rfl (by intro u hu; simp at hu; rcases hu with rfl | rfl | rfl | rfl <;> rfl) _ rfl rfl (by omega) hszn ?_; intro v4 w10 hap; have HAP := hide hap; have HU10 := hide (HUi.out.grown hap.frm (fun k e => by have := own_ge HOn.out k e; have := HB.out; omega)); obtain ⟨⟨a4, c4, rfl⟩, _⟩ := own_form hap.own; obtain ⟨_, ⟨e0, e1, e2, e3, e4, f0, f1, f2, f3, f4⟩, _⟩ := HU10.out; clear hap e0 e1 e3 e4 f0 f1 f3 f4)
                  have hst := HAP.out.stay.set (g := w.heap.size + 1) (o := 2) (u := .slice a4 (es.length + 1) c4) (fun b hb => by have := hb.1; have := HB.out; omega)
                  have hlt : w.heap.size + 1 < B := by have := HB.out; omega
                  refine ⟨⟨j, es ++ [⟨.slice ap ps.length cp, .slice al ls.length cl, .slice ac c.length cc, ⟨ps, q, ls, c⟩⟩], .slice a4 (es.length + 1) c4, by simp, by simp; omega, HU10.out.set2 _, HFn.out.stay hst, own_set (own_snoc (x := ⟨.slice ap ps.length cp, .slice al ls.length cl, .slice ac c.length cc, ⟨ps, q, ls, c⟩⟩) HAP.out.own rfl) (own_ne HAP.out.own hlt), snoc_all (fun e he => ⟨(HEn.out e he).1.stay hst, (HEn.out e he).2⟩) ⟨HNew.out.stay hst, HNok.out⟩⟩, by simp [intOf]⟩
            · obtain rfl : k = 0 := by omega
              have HC3 : Hid (Fin (Bt B nilS) wr v1 v2 v3 nilS ⟨S, C, es.map (·.f), [], []⟩) := hide ⟨HF.out.1.stay stay_nil, HF.out.2.1.stay stay_nil, funcs_of HO.out bt_nil (fun e he => (HE.out e he).1.stay stay_nil), nil_imps _ _⟩
              have HC4 : Hid ((es.map (·.f)).length ≤ 3 ∧ ∀ f ∈ es.map (·.f), FOk N f) := hide ⟨by rw [List.length_map]; omega, fun f hf => by
                obtain ⟨e, he, rfl⟩ := List.mem_map.1 hf
                exact (HE.out e he).2⟩
              generalize es.map (·.f) = F at HC3 HC4
              go_wp2_with fail
              refine (next_m mb 4 (by decide) (by decide) _ HU.out.2.2.1).mono ?_
              rintro x w2 ⟨K5, rfl, hK5, hm2, hg2⟩
              have HU2 := hide (HU.out.gc hg2 hm2)
              have HF2 := hide (HC3.out.stay (Stay.gc hg2 (fun b hb => by have := hb.1; have := HB.out; omega)))
              clear hm2 hg2 HU HO HF HE HC3 hkl hk0
              go_wp2_with fail
              go_loopw [13] (fun n wr => ∃ (k : Nat) (es : List BI) (v4 : Value), n = .int .i64 k ∧ es.length + k ≤ 3 ∧ UB w mb wr v1 v2 v3 v4 nilS ∧ Fin (Bt B v4) wr v1 v2 v3 nilS ⟨S, C, F, [], []⟩ ∧ wr.ownsRow B 56 3 v4 es.length (es.flatMap fM) ∧ ∀ e ∈ es, (RText e.vs e.i.name ∧ RIntsP (Bt B v4) wr e.vp e.i.params) ∧ IOk N e.i) (fun n _ => (intOf n).toNat)
              case atStart => exact ⟨K5, [], nilS, rfl, by simp; omega, HU2.out, HF2.out, World.ownsRow_nil _ _ _ _, by simp⟩
              case round =>
                obtain ⟨k, es, v4, rfl, hkl, hU, hF, hrow, hes⟩ := hrel
                have HU := hide hU
                have HF := hide hF
                have HO := hide hrow
                have HE := hide hes
                clear hU hF hrow hes HU2 HF2 hK5
                by_cases hk0 : 0 < k
                · obtain ⟨j, rfl⟩ : ∃ j, k = j + 1 := ⟨k - 1, by omega⟩
                  go_wp2_with fail
                  refine (name_m mb _ HU.out.2.2.1).mono ?_
                  rintro x w3 ⟨nm, rfl, hnm, hm3, hg3⟩
                  have hB1 := HB.out
                  have HU3 := hide (HU.out.gc hg3 hm3)
                  have HO3 := hide (own_gc HO.out hg3 (by omega))
                  have hst3 : Stay (Bt B v4) (Bt B v4) wr w3 := Stay.gc hg3 (fun b hb => by have := hb.1; omega)
                  have HF3 := hide (HF.out.stay hst3)
                  have HE3 : Hid (∀ e ∈ es, (RText e.vs e.i.name ∧ RIntsP (Bt B v4) w3 e.vp e.i.params) ∧ IOk N e.i) := hide (fun e he => ⟨⟨(HE.out e he).1.1, (HE.out e he).1.2.stay hst3⟩, (HE.out e he).2⟩)
                  have HNm := hide hnm
                  clear hnm hm3 hg3 hst3 HU HO HF HE hB1
                  go_wp2_with fail
                  refine (kinds_m mb 0 4 N (by decide) (by decide) (by omega) w3 HU3.out.2.2.1).mono ?_
                  rintro x w4 ⟨vp, ps, rfl, hown4, hl4, hm4, hg4⟩
                  have hB1 := HB.out
                  have HU4 := hide (HU3.out.gc hg4 hm4)
                  have HO4 := hide (own_gc HO3.out hg4 (by omega))
                  have hst4 : Stay (Bt B v4) (Bt B v4) w3 w4 := Stay.gc hg4 (fun b hb => by have := hb.1; omega)
                  have HF4 := hide (HF3.out.stay hst4)
                  have HE4 : Hid (∀ e ∈ es, (RText e.vs e.i.name ∧ RIntsP (Bt B v4) w4 e.vp e.i.params) ∧ IOk N e.i) := hide (fun e he => ⟨⟨(HE3.out e he).1.1, (HE3.out e he).1.2.stay hst4⟩, (HE3.out e he).2⟩)
                  have HP4 := hide (ints_of (P := Bt B v4) hown4 (bt_new HO3.out (Nat.le_refl _) (by have := HU3.out.2.2.2.2.1; omega)))
                  have HL4 := hide hl4
                  obtain ⟨⟨ap, cp, rfl⟩, _⟩ := own_form hown4
                  obtain ⟨⟨a1, c1, rfl⟩, _⟩ := own_form HO4.out
                  obtain ⟨_, ⟨e0, e1, e2, e3, e4, f0, f1, f2, f3, f4⟩, _⟩ := HU4.out
                  have HUd := hide (HU4.out.gr (Gr.drew (Gr.refl _)))
                  have HOd : Hid (w4.drew.ownsRow B 56 3 (.slice a1 es.length c1) es.length (es.flatMap fM)) := hide HO4.out
                  have hne : ¬ w.heap.size + 1 = mb := by omega
                  clear hown4 hl4 hm4 hg4 hst4 HU3 HO3 HF3 HE3 hB1 e0 e1 e2 e4 f0 f1 f2 f4
                  go_wp2_with fail
                  have HNX := hide (next_m mb ((N : Int) + 1) (by omega) (by omega) w4.drew HUd.out.2.2.1)
                  have hwN : IntKind.i64.wrap ((N : Int) + 1) = (N : Int) + 1 := Go.IntWalk.i64_in _ (by omega)
                  have HS5 : Hid (w4.drew.cell? ⟨w.heap.size + 1, 3, none⟩ = some (.slice a1 es.length c1)) := hide e3
                  have hmbB : mb < B := by have := HB.out; omega
                  have hesl : es.length ≤ 1000000 := by omega
                  go_region_law (first | (refine step_calls rfl 17 _ _ rfl #[.pointer (some ⟨mb, 0, none⟩), .int .i64 ((N : Int) + 1)] (by simp [Act.eval, Act.put, hwN]) (Try.callNext _ _) (HNX.out.mono ?_); rintro x w5 ⟨q, rfl, hq, hm5, hg5⟩; refine ⟨_, rfl, ?_⟩; have hS5 := hg5.box hne HS5.out; have hS5b := (Gr.alloc (Gr.refl w5) (.cells #[.string nm, .slice ap ps.length cp, .int .i64 (q : Int)] 56)).cell hS5 (by simp); have HU5 := hide (HUd.out.gc hg5 hm5); have HO5 := hide (own_gc HOd.out hg5 hmbB)) | (refine step_append_vals w5 rfl _ _ 25 56 3 48 (.agg #[.string ⟨#[]⟩, .slice none 0 0, .int .i64 0]) Try.infoImp Try.underlying25 rfl (by decide) (by decide) rfl B (.slice a1 es.length c1) es.length (es.flatMap fM) rfl HO5.out #[.string nm, .slice ap ps.length cp, .int .i64 (q : Int)] rfl (by intro u hu; simp at hu; rcases hu with rfl | rfl | rfl <;> rfl) _ rfl rfl hesl (Nat.le_trans (Nat.le_of_eq HB.out.symm) HU5.out.2.2.2.2.1) ?_; intro a6 c6 w6 hap; have HAP := hide hap; have HU6 := hide (HU5.out.grown hap.frm (fun k e => Nat.le_trans (Nat.le_of_eq HB.out) (own_ge HO5.out k e))); have hS6 := HU6.out.2.1.2.2.2.1; have hz6 := HU6.out.2.1.2.2.2.2.2.2.2.2.1; clear hap))
                  all_goals go_wp2_with fail
                  all_goals
                    have hB1 := HB.out
                    have hst5 : Stay (Bt B (.slice a1 es.length c1)) (Bt B (.slice a1 es.length c1)) w4 w5 := Stay.gc (Gc.trans_ (Gr.drew (Gr.refl w4)).toGc hg5) (fun b hb => by have := hb.1; omega)
                    have hst := (hst5.trans HAP.out.stay (Gc.trans_ (Gr.drew (Gr.refl w4)).toGc hg5).size).set (g := w.heap.size + 1) (o := 3) (u := .slice a6 (es.length + 1) c6) (fun b hb => by have := hb.1; omega)
                    have hlt : w.heap.size + 1 < B := by omega
                    have hnl : nm.data.toList.length = nm.size := len_size nm
                    refine ⟨⟨j, es ++ [⟨.string nm, .slice ap ps.length cp, ⟨nm.data.toList, ps, q⟩⟩], .slice a6 (es.length + 1) c6, by simp, by simp; omega, HU6.out.set3 _, HF4.out.stay hst, own_set (own_snoc (x := ⟨.string nm, .slice ap ps.length cp, ⟨nm.data.toList, ps, q⟩⟩) HAP.out.own rfl) (own_ne HAP.out.own hlt), snoc_all (fun e he => ⟨⟨(HE4.out e he).1.1, (HE4.out e he).1.2.stay hst⟩, (HE4.out e he).2⟩) ⟨⟨text_of nm HNm.out.2, HP4.out.stay hst⟩, ⟨by show 1 ≤ nm.data.toList.length ∧ nm.data.toList.length ≤ 4; rw [hnl]; exact HNm.out, ⟨HL4.out.2.1, HL4.out.2.2⟩, by simp [inB, wB]; omega⟩⟩⟩, by simp [intOf]⟩
                · obtain rfl : k = 0 := by omega
                  have HC5 : Hid (Fin (Bt B nilS) wr v1 v2 v3 v4 ⟨S, C, F, es.map (·.i), []⟩) := hide ⟨HF.out.1.stay stay_nil, HF.out.2.1.stay stay_nil, HF.out.2.2.1.stay stay_nil, imps_of HO.out bt_nil (fun e he => ⟨(HE.out e he).1.1, (HE.out e he).1.2.stay stay_nil⟩)⟩
                  have HC6 : Hid ((es.map (·.i)).length ≤ 3 ∧ ∀ f ∈ es.map (·.i), IOk N f) := hide ⟨by rw [List.length_map]; omega, fun f hf => by
                    obtain ⟨e, he, rfl⟩ := List.mem_map.1 hf
                    exact (HE.out e he).2⟩
                  generalize es.map (·.i) = I at HC5 HC6
                  obtain ⟨b3, c3, hv3, _⟩ := HC5.out.2.2.1
                  simp only at hv3
                  subst hv3
                  go_wp2_with fail
                  refine (next_m mb 4 (by decide) (by decide) _ HU.out.2.2.1).mono ?_
                  rintro x w2 ⟨K6, rfl, hK6, hm2, hg2⟩
                  have HU2 := hide (HU.out.gc hg2 hm2)
                  have HF2 := hide (HC5.out.stay (Stay.gc hg2 (fun b hb => by have := hb.1; have := HB.out; omega)))
                  clear hm2 hg2 HU HO HF HE HC5 hkl hk0
                  go_wp2_with fail
                  go_loopw [16] (fun n wr => ∃ (k : Nat) (es : List BE) (v5 : Value), n = .int .i64 k ∧ es.length + k ≤ 3 ∧ UB w mb wr v1 v2 (.slice b3 F.length c3) v4 v5 ∧ Fin (Bt B v5) wr v1 v2 (.slice b3 F.length c3) v4 ⟨S, C, F, I, []⟩ ∧ wr.ownsRow B 58 2 v5 es.length (es.flatMap fE) ∧ ∀ e ∈ es, RText e.vs e.e.name ∧ EOk F.length e.e) (fun n _ => (intOf n).toNat)
                  case atStart => exact ⟨K6, [], nilS, rfl, by simp; omega, HU2.out, HF2.out, World.ownsRow_nil _ _ _ _, by simp⟩
                  case round =>
                    obtain ⟨k, es, v5, rfl, hkl, hU, hF, hrow, hes⟩ := hrel
                    have HU := hide hU
                    have HF := hide hF
                    have HO := hide hrow
                    have HE := hide hes
                    have hF3 : F.length ≤ 3 := HC4.out.1
                    clear hU hF hrow hes HU2 HF2 hK6
                    by_cases hk0 : 0 < k
                    · obtain ⟨j, rfl⟩ : ∃ j, k = j + 1 := ⟨k - 1, by omega⟩
                      obtain ⟨_, ⟨e0, e1, e2, e3, e4, f0, f1, f2, f3, f4⟩, _⟩ := HU.out
                      clear e0 e1 e3 e4 f0 f1 f2 f3 f4
                      by_cases hF0 : 0 < F.length
                      · go_wp2_with fail
                        clear e2
                        refine (name_m mb _ HU.out.2.2.1).mono ?_
                        rintro x w3 ⟨nm, rfl, hnm, hm3, hg3⟩
                        have hB1 := HB.out
                        have HU3 := hide (HU.out.gc hg3 hm3)
                        have HO3 := hide (own_gc HO.out hg3 (by omega))
                        have hst3 : Stay (Bt B v5) (Bt B v5) wr w3 := Stay.gc hg3 (fun b hb => by have := hb.1; omega)
                        have HF3 := hide (HF.out.stay hst3)
                        have HNm := hide hnm
                        obtain ⟨⟨a1, c1, rfl⟩, _⟩ := own_form HO3.out
                        obtain ⟨_, ⟨e0, e1, e2, e3, e4, f0, f1, f2, f3, f4⟩, _⟩ := HU3.out
                        have HUd := hide (HU3.out.gr (Gr.drew (Gr.refl _)))
                        have HOd : Hid (w3.drew.ownsRow B 58 2 (.slice a1 es.length c1) es.length (es.flatMap fE)) := hide HO3.out
                        have hne : ¬ w.heap.size + 1 = mb := by omega
                        have HNX := hide (next_m mb (F.length : Int) (by omega) (by omega) w3.drew HUd.out.2.2.1)
                        have HS5 : Hid (w3.drew.cell? ⟨w.heap.size + 1, 4, none⟩ = some (.slice a1 es.length c1)) := hide e4
                        have hmbB : mb < B := by omega
                        have hesl : es.length ≤ 1000000 := by omega
                        clear hnm hm3 hg3 hst3 HU HO HF hB1 e0 e1 e3 f0 f1 f2 f3 f4
                        go_wp2_with fail
                        go_region_law (first | (refine step_calls rfl 17 _ _ rfl #[.pointer (some ⟨mb, 0, none⟩), .int .i64 (F.length : Int)] (by simp [Act.eval, Act.put]) (Try.callNext _ _) (HNX.out.mono ?_); rintro x w5 ⟨q, rfl, hq, hm5, hg5⟩; refine ⟨_, rfl, ?_⟩; have hS5 := hg5.box hne HS5.out; have hS5b := (Gr.alloc (Gr.refl w5) (.cells #[.string nm, .int .i64 (q : Int)] 58)).cell hS5 (by simp); have HU5 := hide (HUd.out.gc hg5 hm5); have HO5 := hide (own_gc HOd.out hg5 hmbB)) | (refine step_append_vals w5 rfl _ _ 26 58 2 24 (.agg #[.string ⟨#[]⟩, .int .i64 0]) Try.infoExp Try.underlying26 rfl (by decide) (by decide) rfl B (.slice a1 es.length c1) es.length (es.flatMap fE) rfl HO5.out #[.string nm, .int .i64 (q : Int)] rfl (by intro u hu; simp at hu; rcases hu with rfl | rfl <;> rfl) _ rfl rfl hesl (Nat.le_trans (Nat.le_of_eq HB.out.symm) HU5.out.2.2.2.2.1) ?_; intro a6 c6 w6 hap; have HAP := hide hap; have HU6 := hide (HU5.out.grown hap.frm (fun k e => Nat.le_trans (Nat.le_of_eq HB.out) (own_ge HO5.out k e))); have hS6 := HU6.out.2.1.2.2.2.2.1; have hz6 := HU6.out.2.1.2.2.2.2.2.2.2.2.2; clear hap))
                        all_goals go_wp2_with fail
                        all_goals
                          have hB1 := HB.out
                          have hst5 : Stay (Bt B (.slice a1 es.length c1)) (Bt B (.slice a1 es.length c1)) w3 w5 := Stay.gc (Gc.trans_ (Gr.drew (Gr.refl w3)).toGc hg5) (fun b hb => by have := hb.1; omega)
                          have hst := (hst5.trans HAP.out.stay (Gc.trans_ (Gr.drew (Gr.refl w3)).toGc hg5).size).set (g := w.heap.size + 1) (o := 4) (u := .slice a6 (es.length + 1) c6) (fun b hb => by have := hb.1; omega)
                          have hlt : w.heap.size + 1 < B := by omega
                          have hnl : nm.data.toList.length = nm.size := len_size nm
                          refine ⟨⟨j, es ++ [⟨.string nm, ⟨nm.data.toList, q⟩⟩], .slice a6 (es.length + 1) c6, by simp, by simp; omega, HU6.out.set4 _, HF3.out.stay hst, own_set (own_snoc (x := ⟨.string nm, ⟨nm.data.toList, q⟩⟩) HAP.out.own rfl) (own_ne HAP.out.own hlt), snoc_all HE.out ⟨text_of nm HNm.out.2, ⟨by show 1 ≤ nm.data.toList.length ∧ nm.data.toList.length ≤ 4; rw [hnl]; exact HNm.out, by simp [wB]; omega⟩⟩⟩, by simp [intOf]⟩
                      · have HX1 : Hid (RExportsP (Bt B nilS) wr v5 (es.map (·.e))) := hide (exps_of HO.out bt_nil fun e he => (HE.out e he).1)
                        have HX2 : Hid ((es.map (·.e)).length ≤ 3 ∧ ∀ e ∈ es.map (·.e), EOk F.length e) := hide ⟨by rw [List.length_map]; omega, fun f hf => by
                          obtain ⟨e, he, rfl⟩ := List.mem_map.1 hf
                          exact (HE.out e he).2⟩
                        generalize es.map (·.e) = X at HX1 HX2
                        have HFx := hide (HF.out.stay (stay_nil (v := v5)))
                        obtain ⟨b1, c1, hv1, _⟩ := HFx.out.1
                        obtain ⟨b2, c2, hv2, _⟩ := HFx.out.2.1
                        obtain ⟨b4, c4, hv4, _⟩ := HFx.out.2.2.2
                        obtain ⟨b5, c5, hv5, _⟩ := HX1.out
                        simp only at hv1 hv2 hv4 hv5
                        subst hv1 hv2 hv4 hv5
                        have HUx := hide HU.out
                        have HBp := hide (put5_box (.slice b1 S.length c1) (.slice b2 C.length c2) (.slice b3 F.length c3) (.slice b4 I.length c4) (.slice b5 X.length c5) HU.out.1)
                        obtain ⟨⟨m0, m1, m2, m3, m4, n0, n1, n2, n3, n4⟩, ⟨e0, e1, e2, e3, e4, f0, f1, f2, f3, f4⟩, _⟩ := HU.out
                        clear HU HF HO HE f0 f1 f2 f3 f4
                        go_wp2_with fail
                        clear m0 m1 m2 m3 m4 n0 n1 n2 n3 n4 e0 e1 e2 e3 e4
                        rw [put5_eq]
                        obtain ⟨m0, m1, m2, m3, m4, _⟩ := HBp.out
                        have hst0 : Stay (Bt B nilS) (Bt B nilS) wr (put5 wr w.heap.size (.slice b1 S.length c1) (.slice b2 C.length c2) (.slice b3 F.length c3) (.slice b4 I.length c4) (.slice b5 X.length c5)) := put5_stay (fun b hb => by have := hb.1; have := HB.out; omega)
                        have hst : Stay (Bt B nilS) (fun b => w.heap.size ≤ b) wr (put5 wr w.heap.size (.slice b1 S.length c1) (.slice b2 C.length c2) (.slice b3 F.length c3) (.slice b4 I.length c4) (.slice b5 X.length c5)) := fun b hb hl => ⟨(hst0 b hb hl).1, by have := hb.1; have := HB.out; omega⟩
                        have hfin := HFx.out.stay hst
                        exact bodyPost_ret (v := .agg #[.slice b1 S.length c1, .slice b2 C.length c2, .slice b3 F.length c3, .slice b4 I.length c4, .slice b5 X.length c5]) (by simp [results, Try.results10, go_sem, m0, m1, m2, m3, m4]) rfl (by exact ⟨_, ⟨S, C, F, I, X⟩, N, rfl, ⟨_, _, _, _, _, rfl, hfin.1, hfin.2.1, hfin.2.2.1, hfin.2.2.2, HX1.out.stay hst⟩, ⟨hN3, by have := HS2.out.1; show S.length ≤ 3; omega, HS2.out.2, HC2.out.1, HC2.out.2, HC4.out.1, HC4.out.2, HC6.out.1, HC6.out.2, HX2.out.1, HX2.out.2⟩, HS2.out.1, put5_gc HUx.out.2.2.2.1 (Nat.le_refl _)⟩)
                    · have HX1 : Hid (RExportsP (Bt B nilS) wr v5 (es.map (·.e))) := hide (exps_of HO.out bt_nil fun e he => (HE.out e he).1)
                      have HX2 : Hid ((es.map (·.e)).length ≤ 3 ∧ ∀ e ∈ es.map (·.e), EOk F.length e) := hide ⟨by rw [List.length_map]; omega, fun f hf => by
                        obtain ⟨e, he, rfl⟩ := List.mem_map.1 hf
                        exact (HE.out e he).2⟩
                      generalize es.map (·.e) = X at HX1 HX2
                      have HFx := hide (HF.out.stay (stay_nil (v := v5)))
                      obtain ⟨b1, c1, hv1, _⟩ := HFx.out.1
                      obtain ⟨b2, c2, hv2, _⟩ := HFx.out.2.1
                      obtain ⟨b4, c4, hv4, _⟩ := HFx.out.2.2.2
                      obtain ⟨b5, c5, hv5, _⟩ := HX1.out
                      simp only at hv1 hv2 hv4 hv5
                      subst hv1 hv2 hv4 hv5
                      have HUx := hide HU.out
                      have HBp := hide (put5_box (.slice b1 S.length c1) (.slice b2 C.length c2) (.slice b3 F.length c3) (.slice b4 I.length c4) (.slice b5 X.length c5) HU.out.1)
                      obtain ⟨⟨m0, m1, m2, m3, m4, n0, n1, n2, n3, n4⟩, ⟨e0, e1, e2, e3, e4, f0, f1, f2, f3, f4⟩, _⟩ := HU.out
                      clear HU HF HO HE f0 f1 f2 f3 f4
                      go_wp2_with fail
                      clear m0 m1 m2 m3 m4 n0 n1 n2 n3 n4 e0 e1 e2 e3 e4
                      rw [put5_eq]
                      obtain ⟨m0, m1, m2, m3, m4, _⟩ := HBp.out
                      have hst0 : Stay (Bt B nilS) (Bt B nilS) wr (put5 wr w.heap.size (.slice b1 S.length c1) (.slice b2 C.length c2) (.slice b3 F.length c3) (.slice b4 I.length c4) (.slice b5 X.length c5)) := put5_stay (fun b hb => by have := hb.1; have := HB.out; omega)
                      have hst : Stay (Bt B nilS) (fun b => w.heap.size ≤ b) wr (put5 wr w.heap.size (.slice b1 S.length c1) (.slice b2 C.length c2) (.slice b3 F.length c3) (.slice b4 I.length c4) (.slice b5 X.length c5)) := fun b hb hl => ⟨(hst0 b hb hl).1, by have := hb.1; have := HB.out; omega⟩
                      have hfin := HFx.out.stay hst
                      exact bodyPost_ret (v := .agg #[.slice b1 S.length c1, .slice b2 C.length c2, .slice b3 F.length c3, .slice b4 I.length c4, .slice b5 X.length c5]) (by simp [results, Try.results10, go_sem, m0, m1, m2, m3, m4]) rfl (by exact ⟨_, ⟨S, C, F, I, X⟩, N, rfl, ⟨_, _, _, _, _, rfl, hfin.1, hfin.2.1, hfin.2.2.1, hfin.2.2.2, HX1.out.stay hst⟩, ⟨hN3, by have := HS2.out.1; show S.length ≤ 3; omega, HS2.out.2, HC2.out.1, HC2.out.2, HC4.out.1, HC4.out.2, HC6.out.1, HC6.out.2, HX2.out.1, HX2.out.2⟩, HS2.out.1, put5_gc HUx.out.2.2.2.1 (Nat.le_refl _)⟩)
end Go.Proofs.Ytkgncijcnlfhiaa
