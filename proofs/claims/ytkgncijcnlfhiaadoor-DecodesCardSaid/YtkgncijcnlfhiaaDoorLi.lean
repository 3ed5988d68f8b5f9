import Derived.Test.YtkgncijcnlfhiaaDoorLh
namespace Go.Proofs.YtkgncijcnlfhiaaDoor
set_option linter.unusedVariables false
set_option linter.unusedSimpArgs false
open Go.RowKit
attribute [local go_sem ↓] Go.wp_at_zero Go.wp_at_succ
set_option maxRecDepth 100000 in
set_option maxHeartbeats 4000000 in
theorem decode_refL (s : ByteArray) (w : World) (hT : Tab w) (hl : s.size ≤ 20000) (h5 : 5 ≤ s.size) (hm : (!(s.extract 0 5).toList == [75, 73, 76, 78, 1]) = false) (D : PUnit ⊕ (Int × Nat)) (hD : loopU s.data.toList 5 1 ⟨[], [], [], [], []⟩ (s.data.toList.drop 5) = D) :
    Calls Tryd.prog 21 #[.string s] w (DcR w D) := by
  have hs : s.size ≤ maxLen := by unfold maxLen; omega
  have hl2 : ¬ (20000 : Int) < s.size := by omega
  have hl3 : ¬ (s.size : Int) < 5 := by omega
  have HT := hide hT
  have HDD := hide hD
  have HS := hide (DcW.start w)
  have HGW : Hid (Gr w ((w.alloc (.cells #[.slice none 0 0, .slice none 0 0, .slice none 0 0, .slice none 0 0, .slice none 0 0] 28)).alloc (.cells #[.slice none 0 0, .slice none 0 0, .slice none 0 0, .slice none 0 0, .slice none 0 0] 28))) := hide (((Gr.refl w).alloc _).alloc _)
  have HCW : Hid (Box5 ((w.alloc (.cells #[.slice none 0 0, .slice none 0 0, .slice none 0 0, .slice none 0 0, .slice none 0 0] 28)).alloc (.cells #[.slice none 0 0, .slice none 0 0, .slice none 0 0, .slice none 0 0, .slice none 0 0] 28)) w.heap.size (.slice none 0 0) (.slice none 0 0) (.slice none 0 0) (.slice none 0 0) (.slice none 0 0)) := hide ((Box5.new w 28 (.slice none 0 0) (.slice none 0 0) (.slice none 0 0) (.slice none 0 0) (.slice none 0 0)).gr ((Gr.refl _).alloc _))
  clear hT hD
  go_enter Tryd.func21, Tryd.ntmps21
  go_wp2_with fail
  generalize ((w.alloc (.cells #[.slice none 0 0, .slice none 0 0, .slice none 0 0, .slice none 0 0, .slice none 0 0] 28)).alloc (.cells #[.slice none 0 0, .slice none 0 0, .slice none 0 0, .slice none 0 0, .slice none 0 0] 28)) = W at HS HGW HCW ⊢
  go_loopw [6, 7] (fun a k wr => ∃ (n q : Nat) (x1 x2 x3 x4 x5 : Value) (u : PUnit), 1 ≤ n ∧ n ≤ 6 ∧ k = .int .i64 (n : Int) ∧ a = .int .i64 (q : Int) ∧ q ≤ s.size ∧ Hid (DcW W w.heap.size (w.heap.size + 1) n x1 x2 x3 x4 x5 u wr) ∧ Hid (loopU s.data.toList (6 - n) n u (s.data.toList.drop q) = D)) (fun _ k _ => 6 - (intOf k).toNat)
  case atStart => exact ⟨1, 5, _, _, _, _, _, _, Nat.le_refl _, by decide, rfl, rfl, h5, HS, HDD⟩
  case round =>
    obtain ⟨n, q, x1, x2, x3, x4, x5, u, hn1, hn6, rfl, rfl, hq, HW, HL⟩ := hrel
    have hqt : q ≤ s.data.toList.length := by rw [Array.length_toList]; exact hq
    have htl : s.data.toList.length = s.size := by rw [Array.length_toList]; rfl
    have HTL := hide htl
    clear htl
    by_cases hn : n ≤ 5
    · have HA := hide (LsR.new wr s q hq (by omega))
      have HX := hide ((HW.out.bx.again (rb' := wr.heap.size) (Nat.le_refl _)).gr ((Gr.refl wr).alloc (.cells #[.string s, .int .i64 (q : Int), .bool false] 97)))
      have hlt : w.heap.size + 1 < wr.heap.size := HW.out.hs
      have h0 : 0 < w.heap.size := World.block_lt_of_cell? _ _ (HT.out 0 (by decide))
      have HZ : Hid (Tab (wr.alloc (.cells #[.string s, .int .i64 (q : Int), .bool false] 97))) := hide (Tab.gr (fun j hj => (World.cell?_of_block (HW.out.low 0 (by omega))).trans ((HT.out.gr HGW.out) j hj)) ((Gr.refl wr).alloc _))
      have HGA := hide ((Gr.refl wr).alloc (.cells #[.string s, .int .i64 (q : Int), .bool false] 97))
      go_wp2_with fail
      generalize wr.alloc (.cells #[.string s, .int .i64 (q : Int), .bool false] 97) = wA at HA HX HZ HGA ⊢
      refine (next_ls _ s _ _ _ HA.out).mono ?_
      rintro x w1 ⟨v1, rfl, hv1, hl1, hg1⟩
      have HX1 := hide (HX.out.gc hlt hg1)
      have HL1 := hide hl1
      have HG1 := hide hg1
      clear hl1 hg1 HX HA
      subst hv1
      go_wp2_with fail
      refine (number_ls _ s _ _ _ HL1.out).mono ?_
      rintro x w2 ⟨v2, rfl, hv2, hl2, hg2⟩
      have HX2 := hide (HX1.out.gc hlt hg2)
      have HL2 := hide hl2
      have HG2 := hide (HG1.out.trans_ hg2)
      clear hl2 hg2 HX1 HL1 HG1
      subst hv2
      go_wp2_with fail
      have HTb : Hid (Tab w2) := hide (fun j hj => HG2.out.box (by omega) (HZ.out j hj))
      refine (fillK_u n hn1 hn _ _ s _ _ _ HL2.out hlt HTb.out (by omega) x1 x2 x3 x4 x5 u HX2.out HW.out.ni).mono ?_
      rintro x w3 ⟨rfl, y1, y2, y3, y4, y5, hy, hny, hf⟩
      have HFt := hide (fillU_fits hn1 hn HW.out.fits (lnum (lnext (s.data.toList.drop q) false).2.1 (lnext (s.data.toList.drop q) false).2.2).2.1 (lnum (lnext (s.data.toList.drop q) false).2.1 (lnext (s.data.toList.drop q) false).2.2).2.2)
      have HSU : Hid (fillU n u (lnum (lnext (s.data.toList.drop q) false).2.1 (lnext (s.data.toList.drop q) false).2.2).2.1 (lnum (lnext (s.data.toList.drop q) false).2.1 (lnext (s.data.toList.drop q) false).2.2).2.2 = secU n u (s.data.toList.drop q)) := hide rfl
      rw [HSU.out] at hy hf HFt
      clear HSU
      have HST : Hid (stepU n u (s.data.toList.drop q) = _) := hide (by rw [stepU])
      generalize secU n u (s.data.toList.drop q) = SU at hy hf HFt HST
      obtain ⟨u', r', bad'⟩ := SU
      simp only at hy hf HFt HST
      have HT3 : Hid (Tab w3) := hide (fun j hj => (World.cell?_of_block (hf.low 0 (World.block_lt_of_cell? _ _ (HTb.out 0 (by decide))) (by omega) (by omega))).trans (HTb.out j hj))
      have HLW : Hid (∀ b, b < w.heap.size + 1 → w3.heap[b]? = W.heap[b]?) := hide (fun b hb => by
        have e1 := HGA.out.block b (by omega) (by simp)
        have z1 := HGA.out.size
        have e2 := HG2.out.block b (by omega) (by intro e; have := Option.some.inj e; omega)
        have z2 := HG2.out.size
        exact (hf.low b (by omega) (by omega) (by omega)).trans (e2.trans (e1.trans (HW.out.low b hb))))
      have HEW : Hid (w3.os = W.os ∧ w3.tape = W.tape ∧ w3.output = W.output) := hide (by
        rw [hf.env.1, hf.env.2.1, hf.env.2.2, HG2.out.os, HG2.out.tape, HG2.out.output, HGA.out.os, HGA.out.tape, HGA.out.output]; exact HW.out.env)
      have HSZ : Hid (w.heap.size + 1 < w3.heap.size) := hide (by have z1 := HGA.out.size; have z2 := HG2.out.size; have z3 := hf.hs; omega)
      obtain ⟨v1', v2', v3', v4', v5', hvv, k1, k2, k3, k4, k5⟩ := hy.unit
      simp only [Value.agg.injEq, Array.mk.injEq, List.cons.injEq, and_true] at hvv
      obtain ⟨rfl, rfl, rfl, rfl, rfl⟩ := hvv
      obtain ⟨a1, c1, rfl⟩ := k1.shape
      obtain ⟨a2, c2, rfl⟩ := k2.shape
      obtain ⟨a3, c3, rfl⟩ := k3.shape
      obtain ⟨a4, c4, rfl⟩ := k4.shape
      obtain ⟨a5, c5, rfl⟩ := k5.shape
      clear k1 k2 k3 k4 k5
      have HY := hide hy
      have HF := hide hf
      have HN := hide hny
      have HRt := hide (right_ref u' _ w3 hy.unit HT3.out)
      obtain ⟨p0, p1, p2, p3, p4, _⟩ := hy.bx
      clear hy hf hny
      go_wp2_with fail
      refine HRt.out.mono ?_
      rintro x w4 ⟨rfl, hg4⟩
      have hb4 := (HF.out.ls.gr hg4).bad
      have HG4 := hide hg4
      clear HRt p0 p1 p2 p3 p4 hg4
      cases hok : unitOk u'
      · cases bad' <;> (
          have HO := hide (way_out HGW.out HCW.out HLW.out HEW.out HSZ.out HG4.out)
          have hDD := loop_none hn HL.out hqt (by rw [HST.out]; exact if_neg (fun h => absurd h.2.1 (by rw [hok]; decide)))
          subst hDD
          obtain ⟨r0, r1, r2, r3, r4, s0, s1, s2, s3, s4⟩ := HO.out.2
          go_wp2_with fail
          rw [put5_eq]
          have HG3 := hide (put5_gr (b := w.heap.size) (y0 := .slice none 0 0) (y1 := .slice none 0 0) (y2 := .slice none 0 0) (y3 := .slice none 0 0) (y4 := .slice none 0 0) HO.out.1 (Nat.le_refl _))
          obtain ⟨r0, r1, r2, r3, r4, s0, s1, s2, s3, s4⟩ := put5_box (.slice none 0 0) (.slice none 0 0) (.slice none 0 0) (.slice none 0 0) (.slice none 0 0) HO.out.2
          exact bodyPost_ret (v := .tuple #[.agg #[.slice none 0 0, .slice none 0 0, .slice none 0 0, .slice none 0 0, .slice none 0 0], .int .i64 2, .int .i64 (q : Int)]) (by simp [results, Tryd.results21, go_sem, r0, r1, r2, r3, r4]) rfl ⟨rfl, HG3.out⟩)
      cases bad' with
      | true => 
          have HO := hide (way_out HGW.out HCW.out HLW.out HEW.out HSZ.out HG4.out)
          have hDD := loop_none hn HL.out hqt (by rw [HST.out]; exact if_neg (fun h => absurd h.1 (by decide)))
          subst hDD
          obtain ⟨r0, r1, r2, r3, r4, s0, s1, s2, s3, s4⟩ := HO.out.2
          go_wp2_with fail
          rw [put5_eq]
          have HG3 := hide (put5_gr (b := w.heap.size) (y0 := .slice none 0 0) (y1 := .slice none 0 0) (y2 := .slice none 0 0) (y3 := .slice none 0 0) (y4 := .slice none 0 0) HO.out.1 (Nat.le_refl _))
          obtain ⟨r0, r1, r2, r3, r4, s0, s1, s2, s3, s4⟩ := put5_box (.slice none 0 0) (.slice none 0 0) (.slice none 0 0) (.slice none 0 0) (.slice none 0 0) HO.out.2
          exact bodyPost_ret (v := .tuple #[.agg #[.slice none 0 0, .slice none 0 0, .slice none 0 0, .slice none 0 0, .slice none 0 0], .int .i64 2, .int .i64 (q : Int)]) (by simp [results, Tryd.results21, go_sem, r0, r1, r2, r3, r4]) rfl ⟨rfl, HG3.out⟩
      | false =>
        obtain ⟨p0, p1, p2, p3, p4, _⟩ := HY.out.bx.gr HG4.out
        have HSc := hide (section_ref n (by omega) (bodyK u' n) (bodyK_len hok n hn1 hn) a1 a2 a3 a4 a5 u'.shapes.length u'.consts.length u'.funcs.length u'.imports.length u'.exports.length c1 c2 c3 c4 c5 w4 (fun V g => bodyK_ref u' _ V (HY.out.unit.gr (HG4.out.trans g)) (HT3.out.gr (HG4.out.trans g)) hok HFt.out n hn1 hn))
        go_wp2_with fail
        refine HSc.out.mono ?_
        rintro x w5 ⟨rfl, hg5⟩
        have HG5 := hide (HG4.out.trans hg5)
        have hsl : (sect n (bodyK u' n)).length ≤ 2000000 := by have := sect_short n (bodyK u' n); have := bodyK_len hok n hn1 hn; omega
        clear HSc p0 p1 p2 p3 p4 hg5 hb4
        generalize sect n (bodyK u' n) = SE at HST hsl ⊢
        by_cases hsh : (s.size : Int) - (q : Int) < (SE.length : Int)
        · have HO := hide (way_out HGW.out HCW.out HLW.out HEW.out HSZ.out HG5.out)
          have hDD := loop_none hn HL.out hqt (by rw [HST.out]; exact if_neg (fun h => by have := congrArg List.length h.2.2; rw [List.length_take, List.length_drop, HTL.out] at this; omega))
          subst hDD
          obtain ⟨r0, r1, r2, r3, r4, s0, s1, s2, s3, s4⟩ := HO.out.2
          go_wp2_with fail
          rw [put5_eq]
          have HG3 := hide (put5_gr (b := w.heap.size) (y0 := .slice none 0 0) (y1 := .slice none 0 0) (y2 := .slice none 0 0) (y3 := .slice none 0 0) (y4 := .slice none 0 0) HO.out.1 (Nat.le_refl _))
          obtain ⟨r0, r1, r2, r3, r4, s0, s1, s2, s3, s4⟩ := put5_box (.slice none 0 0) (.slice none 0 0) (.slice none 0 0) (.slice none 0 0) (.slice none 0 0) HO.out.2
          exact bodyPost_ret (v := .tuple #[.agg #[.slice none 0 0, .slice none 0 0, .slice none 0 0, .slice none 0 0, .slice none 0 0], .int .i64 2, .int .i64 (q : Int)]) (by simp [results, Tryd.results21, go_sem, r0, r1, r2, r3, r4]) rfl ⟨rfl, HG3.out⟩
        · have hsh2 : q + SE.length ≤ s.size := by omega
          have hi1 : (0 : Int) ≤ (q : Int) := by omega
          have hi2 : (q : Int) ≤ (q : Int) + (SE.length : Int) := by omega
          have hi3 : (q : Int) + (SE.length : Int) ≤ (s.size : Int) := by omega
          have hi4 : ((q : Int) + (SE.length : Int)).toNat = q + SE.length := by omega
          have hi5 : (0 : Int) ≤ (q : Int) + (SE.length : Int) := by omega
          have hw5 : IntKind.i64.wrap ((q : Int) + (SE.length : Int)) = (q : Int) + (SE.length : Int) := Go.IntWalk.i64_in _ (by omega)
          cases hcut : (!(s.extract q (q + SE.length)).toList == SE)
          · have hte : (s.data.toList.drop q).take SE.length = SE := by rw [← cut_take s q SE.length hsh2]; simpa using hcut
            have hLL := hide (loop_some hn HL.out (by rw [HST.out]; exact if_pos ⟨by first | trivial | rfl, hok, hte⟩))
            go_wp2_with fail
            go_roundw
            case rel =>
              refine ⟨n + 1, q + SE.length, _, _, _, _, _, u', by omega, by omega, by go_num, by go_num, hsh2, hide ⟨⟨(HY.out.gr HG5.out).bx, fun wq hq => (HY.out.gr HG5.out).sr wq (fun b x h1 h2 h3 => hq b x h1 (by omega) h3)⟩, HN.out, fun b hb => (HG5.out.block b (by have := HSZ.out; omega) (by simp)).trans (HLW.out b hb), by have := HSZ.out; have := HG5.out.size; omega, ⟨HG5.out.os.trans HEW.out.1, HG5.out.tape.trans HEW.out.2.1, HG5.out.output.trans HEW.out.2.2⟩, HFt.out⟩, hide ?_⟩
              rw [← List.drop_drop]; exact hLL.out
            case measure => simp [intOf]; omega
          · have HO := hide (way_out HGW.out HCW.out HLW.out HEW.out HSZ.out HG5.out)
            have hDD := loop_none hn HL.out hqt (by rw [HST.out]; exact if_neg (fun h => by rw [← cut_take s q SE.length hsh2] at h; have h2 := h.2.2; simp [h2] at hcut))
            subst hDD
            obtain ⟨r0, r1, r2, r3, r4, s0, s1, s2, s3, s4⟩ := HO.out.2
            go_wp2_with fail
            rw [put5_eq]
            have HG3 := hide (put5_gr (b := w.heap.size) (y0 := .slice none 0 0) (y1 := .slice none 0 0) (y2 := .slice none 0 0) (y3 := .slice none 0 0) (y4 := .slice none 0 0) HO.out.1 (Nat.le_refl _))
            obtain ⟨r0, r1, r2, r3, r4, s0, s1, s2, s3, s4⟩ := put5_box (.slice none 0 0) (.slice none 0 0) (.slice none 0 0) (.slice none 0 0) (.slice none 0 0) HO.out.2
            exact bodyPost_ret (v := .tuple #[.agg #[.slice none 0 0, .slice none 0 0, .slice none 0 0, .slice none 0 0, .slice none 0 0], .int .i64 2, .int .i64 (q : Int)]) (by simp [results, Tryd.results21, go_sem, r0, r1, r2, r3, r4]) rfl ⟨rfl, HG3.out⟩
    · have hn7 : n = 6 := by omega
      subst hn7
      have hlow := HW.out.low
      by_cases hqe : q = s.size
      · subst hqe
        have hDD : D = .inl u := by
          rw [← HL.out]
          show (if s.data.toList.drop s.size = [] then _ else _) = _
          rw [if_pos (by rw [List.drop_eq_nil_iff, HTL.out]; exact Nat.le_refl _)]
        subst hDD
        have HO := hide (way_out HGW.out HCW.out HW.out.low HW.out.env HW.out.hs (Gr.refl wr))
        obtain ⟨v1', v2', v3', v4', v5', hvv, k1, k2, k3, k4, k5⟩ := HW.out.bx.unit
        simp only [Value.agg.injEq, Array.mk.injEq, List.cons.injEq, and_true] at hvv
        obtain ⟨rfl, rfl, rfl, rfl, rfl⟩ := hvv
        obtain ⟨a1, c1, rfl⟩ := k1.shape
        obtain ⟨a2, c2, rfl⟩ := k2.shape
        obtain ⟨a3, c3, rfl⟩ := k3.shape
        obtain ⟨a4, c4, rfl⟩ := k4.shape
        obtain ⟨a5, c5, rfl⟩ := k5.shape
        clear k1 k2 k3 k4 k5 hlow
        obtain ⟨p0, p1, p2, p3, p4, _⟩ := HW.out.bx.bx
        obtain ⟨r0, r1, r2, r3, r4, s0, s1, s2, s3, s4⟩ := HO.out.2
        have hbq : ((s.size : Int) == (s.size : Int)) = true := by simp
        go_wp2_with fail
        rw [put5_eq]
        have HG3 := hide (put5_gr (b := w.heap.size) (y0 := .slice a1 u.shapes.length c1) (y1 := .slice a2 u.consts.length c2) (y2 := .slice a3 u.funcs.length c3) (y3 := .slice a4 u.imports.length c4) (y4 := .slice a5 u.exports.length c5) HO.out.1 (Nat.le_refl _))
        have HRU := hide (HW.out.bx.sr (put5 wr w.heap.size (.slice a1 u.shapes.length c1) (.slice a2 u.consts.length c2) (.slice a3 u.funcs.length c3) (.slice a4 u.imports.length c4) (.slice a5 u.exports.length c5)) (fun b x h1 h2 h3 => (put5_heap (by omega)).trans h3))
        obtain ⟨r0, r1, r2, r3, r4, s0, s1, s2, s3, s4⟩ := put5_box (.slice a1 u.shapes.length c1) (.slice a2 u.consts.length c2) (.slice a3 u.funcs.length c3) (.slice a4 u.imports.length c4) (.slice a5 u.exports.length c5) HO.out.2
        exact bodyPost_ret (v := .tuple #[.agg #[.slice a1 u.shapes.length c1, .slice a2 u.consts.length c2, .slice a3 u.funcs.length c3, .slice a4 u.imports.length c4, .slice a5 u.exports.length c5], .int .i64 0, .int .i64 0]) (by simp [results, Tryd.results21, go_sem, r0, r1, r2, r3, r4]) rfl ⟨_, rfl, HRU.out, HG3.out⟩
      · have hbq : ¬ (q : Int) = (s.size : Int) := by omega
        have HO := hide (way_out HGW.out HCW.out HW.out.low HW.out.env HW.out.hs (Gr.refl wr))
        have hDD : D = .inr (2, q) := by
          rw [← HL.out]
          show (if s.data.toList.drop q = [] then _ else _) = _
          rw [if_neg (by rw [List.drop_eq_nil_iff, HTL.out]; omega)]
          simp only [pl, List.length_drop, HTL.out]
          rw [show s.size - (s.size - q) = q by omega]
        clear hlow
        subst hDD
        obtain ⟨r0, r1, r2, r3, r4, s0, s1, s2, s3, s4⟩ := HO.out.2
        go_wp2_with fail
        rw [put5_eq]
        have HG3 := hide (put5_gr (b := w.heap.size) (y0 := .slice none 0 0) (y1 := .slice none 0 0) (y2 := .slice none 0 0) (y3 := .slice none 0 0) (y4 := .slice none 0 0) HO.out.1 (Nat.le_refl _))
        obtain ⟨r0, r1, r2, r3, r4, s0, s1, s2, s3, s4⟩ := put5_box (.slice none 0 0) (.slice none 0 0) (.slice none 0 0) (.slice none 0 0) (.slice none 0 0) HO.out.2
        exact bodyPost_ret (v := .tuple #[.agg #[.slice none 0 0, .slice none 0 0, .slice none 0 0, .slice none 0 0, .slice none 0 0], .int .i64 2, .int .i64 (q : Int)]) (by simp [results, Tryd.results21, go_sem, r0, r1, r2, r3, r4]) rfl ⟨rfl, HG3.out⟩
end Go.Proofs.YtkgncijcnlfhiaaDoor

