import Derived.Test.YtkgncijcnlfhiaaDoorHx
namespace Go.Proofs.YtkgncijcnlfhiaaDoor
set_option linter.unusedVariables false
set_option linter.unusedSimpArgs false
open Go.RowKit
set_option maxRecDepth 100000 in
set_option maxHeartbeats 4000000 in
theorem ownunit_any (lo ob : Nat) (V : Nat → Value) (S : Nat → List (Nat × Nat)) (u : PUnit) (vu : Value) (w00 w : World) (h : OwnAt lo w ob false V S) (hU : RUnit w00 vu u) (h00 : w00.heap.size ≤ lo) (hB : Below lo w00 w) (hF : Few u) (c0 c2 c : Nat) (hc0 : c0 ≤ 4000000) (hc2 : c2 ≤ 4000000) (hc : c ≤ 4000000) (hS : Cn S c0 c2 c) (hlo : lo ≤ w.heap.size) :
    Calls Tryd.prog 12 #[.pointer (some ⟨ob, 0, none⟩), vu] w (UnitLent lo ob V c0 c2 c u w) := by
  obtain ⟨v1, v2, v3, v4, v5, rfl, h1, h2, h3, h4, h5⟩ := hU
  have m1 := hF.shapes
  have m3 := hF.funcs
  have m4 := hF.imports
  have m5 := hF.exports
  obtain ⟨a1, q1, rfl⟩ := h1.shape
  obtain ⟨a2, q2, rfl⟩ := h2.shape
  obtain ⟨a3, q3, rfl⟩ := h3.shape
  obtain ⟨a4, q4, rfl⟩ := h4.shape
  obtain ⟨a5, q5, rfl⟩ := h5.shape
  have H1 := hide h1
  have H2 := hide h2
  have H3 := hide h3
  have H4 := hide h4
  have H5 := hide h5
  have HF := hide hF
  obtain ⟨hu0, hf0, hs0⟩ := UO.new (v1 := .slice a1 u.shapes.length q1) (v2 := .slice a2 u.consts.length q2) (v3 := .slice a3 u.funcs.length q3) (v4 := .slice a4 u.imports.length q4) (v5 := .slice a5 u.exports.length q5) h hB hlo
  have HU0 := hide hu0
  have HF0 := hide hf0
  have HS0 := hide hs0
  have HS := hide hS
  have hwr1 : IntKind.i64.wrap ((u.shapes.length : Int) + 2) = (u.shapes.length : Int) + 2 := Go.IntWalk.i64_in _ (by omega)
  have hwr2 : IntKind.i64.wrap ((u.shapes.length : Int) + 1) = (u.shapes.length : Int) + 1 := Go.IntWalk.i64_in _ (by omega)
  have hmk1 := fun V : World => make_own (n := u.shapes.length + 2) (m := (u.shapes.length : Int) + 2) Tryd.underlying22 Tryd.ownSlice (by decide) (by omega) (by simp) V
  clear h h1 h2 h3 h4 h5 hF hB hlo hS
  obtain ⟨e0, e1, e2, e3, e4⟩ := HU0.out.ucell
  clear hu0 hf0 hs0
  obtain ⟨hu1, hwb1, hns1, hfr1⟩ := HU0.out.make 1 (u.shapes.length + 2) (Value.slice none 0 0).cells rfl
  rw [HS0.out] at hwb1 hns1
  simp only [show sZ 1 = 1 from rfl, show eT 1 = 23 from rfl] at hu1 hwb1 hfr1
  generalize madeCells (Value.slice none 0 0).cells ((u.shapes.length + 2) * 1) = M at hmk1 hu1 hwb1 hfr1
  have HL1 : Hid (Lp1 lo ob w.heap.size (w.heap.size + 1) (w.heap.size + 1 + 1) (.slice a1 u.shapes.length q1) (.slice a2 u.consts.length q2) (.slice a3 u.funcs.length q3) (.slice a4 u.imports.length q4) (.slice a5 u.exports.length q5) w00 w V u.shapes c0 c2 c 0 _) :=
    hide ⟨V, S, _, [], hu1, hwb1, hns1 1 (by decide), HS.out, rfl, rfl, by simp, by simp, (HF0.out.trans hfr1).toX⟩
  clear hu1 hwb1 hns1 hfr1
  go_enter Tryd.func12, Tryd.ntmps12
  go_wp2
  clear e0 e1 e2 e3 e4 hmk1 HU0 HF0 HS0
  generalize hsb : w.heap.size + 1 + 1 = sb at HL1 ⊢
  generalize hrb : w.heap.size + 1 = rb at HL1 ⊢
  generalize hub : w.heap.size = ub at HL1 ⊢
  have HSB := hide hsb
  have HRB := hide hrb
  have HUB := hide hub
  clear hsb hrb hub
  go_loopw [7] (fun i wr => ∃ k : Nat, k ≤ u.shapes.length ∧ i = .int .i64 k ∧ Lp1 lo ob ub rb sb (.slice a1 u.shapes.length q1) (.slice a2 u.consts.length q2) (.slice a3 u.funcs.length q3) (.slice a4 u.imports.length q4) (.slice a5 u.exports.length q5) w00 w V u.shapes c0 c2 c k wr) (fun i _ => u.shapes.length - (intOf i).toNat)
  case atStart => exact ⟨0, Nat.zero_le _, rfl, HL1.out⟩
  case round =>
    clear HL1
    obtain ⟨k, hk, rfl, V', S', cur, es, huo, hwb, hns, hcn, hes, hlen, hri, hcur, hfx⟩ := hrel
    obtain ⟨e0, e1, e2, e3, e4⟩ := huo.ucell
    have HUO := hide huo
    have HWB := hide hwb
    have HNS := hide hns
    have HCN := hide hcn
    have HES := hide hes
    have HLEN := hide hlen
    have HRI := hide hri
    have HCUR := hide hcur
    have HFX := hide hfx
    clear huo hwb hns hcn hes hlen hri hcur hfx
    by_cases hlt : k < u.shapes.length
    · obtain ⟨x, hx⟩ := getElem?_lt hlt
      have hR := H1.out.below (HUO.out.low.mono h00)
      obtain ⟨ao', cap', hv', hm', hc'⟩ := hR
      obtain ⟨b1, off1, vx, hao, hcell, hRx⟩ := hc' k x hx
      simp only [Value.slice.injEq] at hv'
      have hao1 := hv'.1.trans hao
      subst hao1
      have HX := hide hx
      have HRx := hide hRx
      have hxl : x.length ≤ 1048576 := HF.out.shape x (List.mem_of_getElem? hx)
      clear hv' hao hc' hRx hm' hx e1 e2 e3 e4
      go_wp2_with (go_at_call 28; refine (lend_any lo ob V' S' x vx _ HUO.out.own HRx.out (by omega) (by have := HCN.out.ints; omega) HUO.out.size).mono ?_; rintro y w' ⟨b, V2, rfl, hb, hr, ho, hf⟩; obtain ⟨⟨x5, hx5⟩, hz5⟩ := (HWB.out.fr hf).cell (j := k) (by simp [sZ]; omega))
      go_roundw
      case rel => exact ⟨k + 1, by omega, by go_num, Lp1.step HUO.out HWB.out HNS.out HCN.out HES.out HLEN.out HRI.out HCUR.out HFX.out HX.out hb hr ho hf⟩
      case measure => simp [intOf]; omega
    · have hkn : k = u.shapes.length := by omega
      subst hkn
      clear hlt hk
      have hslt : sb < wr.heap.size := block_lt HWB.out.heap
      obtain ⟨⟨x5, hx5⟩, hz5⟩ := HWB.out.cell (j := u.shapes.length) (by simp [sZ])
      obtain ⟨⟨x6, hx6⟩, hz6⟩ := HWB.out.cell (j := u.shapes.length + 1) (by simp [sZ])
      have hob := HUO.out.own.cell 1 (by decide)
      have hobl := block_lt HUO.out.own.box
      have hobs : ¬ ob = sb := fun e => HWB.out.po.2.1 e.symm
      have hobs' : ¬ sb = ob := HWB.out.po.2.1
      have nu : ¬ ub = ob := HUO.out.pu.2.1
      have nu' : ¬ ob = ub := fun e => HUO.out.pu.2.1 e.symm
      have n1 : ¬ sb = wr.heap.size := by omega
      have n2 : ¬ sb = wr.heap.size + 1 := by omega
      have n3 : ¬ ob = wr.heap.size := by omega
      have n4 : ¬ ob = wr.heap.size + 1 := by omega
      obtain ⟨u4, f4, r4, s4⟩ := lists_mid HUO.out HWB.out HNS.out (by rw [HES.out, List.take_length]) (by omega) HRI.out HCUR.out
      have HU4 := hide u4
      have HF4 := hide f4
      have HR4 := hide r4
      have HS4 := hide s4
      clear u4 f4 r4 s4
      have hsx := HCN.out.rest 1 (by decide) (by decide) (by decide)
      go_wp2_with (first
        | (at_builtin; refine wpList_append_vals _ rfl _ _ 33 22 1 24 (.slice none 0 0) Tryd.ownRow1 Tryd.underlying33 rfl (by decide) (by decide) rfl lo _ (S' 1).length ((S' 1).map rowV) rfl (HU4.out.own.own 1 (by decide)) #[rowV (sb, u.shapes.length + 2)] rfl (by intro u hu; simp at hu; subst hu; rfl) _ rfl (by simp) (by omega) HU4.out.size ?_; intro v3 w3 hap; obtain ⟨⟨a8, c8, hv3⟩, _⟩ := own_form hap.own; subst hv3; have hob3 := hap.frm.cell (HU4.out.own.cell 1 (by decide)) (fun e => HU4.out.own.not_ob (f := 1) (by decide) e.symm); have hz3 : w3.frozen? ⟨ob, 1, none⟩ = false := (World.frozen?_of_block (hap.frm.block ob (block_lt HU4.out.own.box) (fun e => HU4.out.own.not_ob (f := 1) (by decide) e.symm))).trans (HU4.out.own.frozen 1); have hu2 := hap.frm.cell HU4.out.ucell.2.2.1 (fun e => HU4.out.pu.2.2 1 (by decide) e.symm)))
      obtain ⟨k1, k2⟩ := HU4.out.own.push (k := 1) (r := (sb, u.shapes.length + 2)) (by decide) hap HR4.out HU4.out.size
      have HU5 := hide (HU4.out.fr k1 k2)
      have HS5 := hide (HS4.out.stay k2.stay)
      have HC5 := hide (HCN.out.push (k := 1) (r := (sb, u.shapes.length + 2)) (by decide) (by decide))
      have HF5 := hide (((HFX.out.trans HF4.out).fr k2).close (by have := HSB.out; omega))
      clear k1 k2 hap hob3 hz3 hu2 hsx HU4 HF4 HR4 HS4 n1 n2 n3 n4 hobs hobs' hobl hob hx5 hz5 hx6 hz6 HUO HWB HNS HCN HES HLEN HRI HCUR HFX hwr1 hwr2 e0 e1 e2 e3 e4 hslt
      generalize upd V' 1 (.slice a8 ((S' 1).length + 1) c8) = V1 at HU5 HS5 HF5
      generalize updS S' 1 (sb, u.shapes.length + 2) = S1 at HU5 HC5
      generalize w3.setCell ⟨ob, 1, none⟩ (.slice a8 ((S' 1).length + 1) c8) = w5 at HU5 HS5 HF5 ⊢
      generalize hd0e : c0 + u.shapes.length = d0 at HC5
      have hd0 : d0 ≤ 5048576 := by omega
      have HD0E := hide hd0e
      clear hd0e
      have hmk2 := fun V : World => make_own (n := u.funcs.length + 2) (m := (u.funcs.length : Int) + 2) Tryd.underlying24 Tryd.ownFunc (by decide) (by omega) (by simp) V
      have hwr3 : IntKind.i64.wrap ((u.funcs.length : Int) + 2) = (u.funcs.length : Int) + 2 := Go.IntWalk.i64_in _ (by omega)
      have hwr4 : IntKind.i64.wrap ((u.funcs.length : Int) + 1) = (u.funcs.length : Int) + 1 := Go.IntWalk.i64_in _ (by omega)
      obtain ⟨e0, e1, e2, e3, e4⟩ := HU5.out.ucell
      obtain ⟨g1, g2, g3, g4⟩ := HU5.out.make 3 (u.funcs.length + 2) zF rfl
      have hct : Cont fF 4 zF (u.funcs.length + 2) [] (madeCells zF ((u.funcs.length + 2) * 4)) := Cont.start rfl (by decide)
      have hzz : (Value.agg #[.slice none 0 0, .int .i64 0, .slice none 0 0, .slice none 0 0]).cells = zF := rfl
      rw [hzz] at hmk2
      simp only [show sZ 3 = 4 from rfl, show eT 3 = 76 from rfl] at g1 g2 g4
      generalize madeCells zF ((u.funcs.length + 2) * 4) = M2 at hmk2 g1 g2 g4 hct
      generalize hfb : w5.heap.size = fb at hmk2 g2 g3
      have HL2 : Hid (Lp2 lo ob ub rb fb (.slice a1 u.shapes.length q1) (.slice a2 u.consts.length q2) (.slice a3 u.funcs.length q3) (.slice a4 u.imports.length q4) (.slice a5 u.exports.length q5) w00 w5 V1 (.slice (some ⟨sb, 0, none⟩) u.shapes.length (u.shapes.length + 2)) u.shapes u.funcs d0 c2 (c + 1) 0 (w5.alloc (.cells M2 76))) := hide ⟨V1, S1, M2, [], ⟨g1, g2, g3 3 (by decide), ⟨HS5.out.stay (fun b hb hl => ⟨(g4.stay b hb hl).1, (g4.stay b hb hl).2, by omega⟩), by simp⟩, g4.toX⟩, HC5.out, rfl, rfl, hct⟩
      have HFB := hide hfb
      clear g1 g2 g3 g4 hct hzz hfb
      have hmk3 := hmk2 w5
      rw [HFB.out] at hmk3
      rw [hmk3]
      clear hmk2 hmk3 e0 e1 e2 e3 e4 HU5 HS5 HC5 nu nu'
      go_wp2
      go_loopw [10] (fun i wr => ∃ k : Nat, k ≤ u.funcs.length ∧ i = .int .i64 k ∧ Lp2 lo ob ub rb fb (.slice a1 u.shapes.length q1) (.slice a2 u.consts.length q2) (.slice a3 u.funcs.length q3) (.slice a4 u.imports.length q4) (.slice a5 u.exports.length q5) w00 w5 V1 (.slice (some ⟨sb, 0, none⟩) u.shapes.length (u.shapes.length + 2)) u.shapes u.funcs d0 c2 (c + 1) k wr) (fun i _ => u.funcs.length - (intOf i).toNat)
      case atStart => exact ⟨0, Nat.zero_le _, rfl, HL2.out⟩
      case round =>
        clear HL2
        obtain ⟨k, hk, rfl, V', S', cur, es, hfl, hcn, hes, hlen, hct⟩ := hrel
        obtain ⟨e0, e1, e2, e3, e4⟩ := hfl.uo.ucell
        have HFL := hide hfl
        have HCN := hide hcn
        have HES := hide hes
        have HLEN := hide hlen
        have HCT := hide hct
        clear hfl hcn hes hlen hct
        by_cases hlt : k < u.funcs.length
        · obtain ⟨x, hx⟩ := getElem?_lt hlt
          obtain ⟨ao', cap', hv', hm', hc'⟩ := H3.out
          obtain ⟨b1, off1, vp, vl, vc, hao, d0', d1', d2', d3', hRp, hRl, hRc⟩ := hc' k x hx
          simp only [Value.slice.injEq] at hv'
          have hao1 := hv'.1.trans hao
          subst hao1
          obtain ⟨ap, cp, rfl⟩ := hRp.shape
          obtain ⟨al, cl, rfl⟩ := hRl.shape
          obtain ⟨ac, cc, rfl⟩ := hRc.shape
          have HX := hide hx
          have HRP := hide hRp
          have HRL := hide hRl
          have HRC := hide hRc
          have HD2 := hide d2'
          have HD3 := hide d3'
          have HD0 := hide d0'
          have hb1l : b1 < w00.heap.size := World.block_lt_of_cell? w00 _ d0'
          obtain ⟨hxp, hxl, hxc⟩ := HF.out.func x (List.mem_of_getElem? hx)
          have hlw := HFL.out.uo.low.mono h00
          have g0 := below_cell hlw d0'
          have g1 := below_cell hlw d1'
          have g2 := below_cell hlw d2'
          have g3 := below_cell hlw d3'
          obtain ⟨⟨x0, i0⟩, j0⟩ := HFL.out.cell (j := k * 4) (by simp [sZ]; omega)
          obtain ⟨⟨x1, i1⟩, j1⟩ := HFL.out.cell (j := k * 4 + 1) (by simp [sZ]; omega)
          obtain ⟨⟨x2, i2⟩, j2⟩ := HFL.out.cell (j := k * 4 + 2) (by simp [sZ]; omega)
          obtain ⟨⟨x3, i3⟩, j3⟩ := HFL.out.cell (j := k * 4 + 3) (by simp [sZ]; omega)
          have hflo : lo ≤ fb := HFL.out.wb.po.1
          have nb : ¬ b1 = fb := by omega
          have nb' : ¬ fb = b1 := by omega
          have nuf : ¬ ub = fb := fun e => by
            have h1 := HFL.out.uo.hu
            rw [e, HFL.out.wb.heap] at h1
            simp only [Option.some.injEq, Obj.cells.injEq] at h1
            exact absurd h1.2.1 (by decide)
          have nuf' : ¬ fb = ub := fun e => nuf e.symm
          have F0 := hide ((((HFL.out.set (R2_closed _ _ _) (by decide) (by decide) (k * 4) (.slice ap x.params.length cp)).set (R2_closed _ _ _) (by decide) (by decide) (k * 4 + 1) (.int .i64 x.result)).set (R2_closed _ _ _) (by decide) (by decide) (k * 4 + 2) (.slice al x.locals.length cl)).set (R2_closed _ _ _) (by decide) (by decide) (k * 4 + 3) (.slice ac x.code.length cc))
          clear hv' hao hc' hRp hRl hRc hm' hx d0' d1' d2' d3' hlw e0 e1 e3 e4
          go_wp2_with fail
          refine (lend_any lo ob V' S' x.params _ _ F0.out.uo.own (HRP.out.below (F0.out.uo.low.mono h00)) (by omega) (by have := HCN.out.ints; omega) F0.out.uo.size).mono ?_
          rintro y wA ⟨bA, VA, rfl, hbA, hrA, hoA, hfA⟩
          have hpA := lent_px (fb := fb) hoA (by decide) hbA (block_lt F0.out.wb.heap)
          have FA := (F0.out.fr (R2_closed _ _ _) hoA (by simp [updS]) hfA)
          have FB := hide ((FA.add (R' := R2p (.slice (some ⟨sb, 0, none⟩) u.shapes.length (u.shapes.length + 2)) u.shapes es (.slice (some ⟨bA, 0, none⟩) x.params.length (x.params.length + 2)) x.params) ⟨FA.rest, rints_at hrA hpA⟩).set (R2p_closed _ _ _ _ _) (by decide) (by decide) (k * 4) (.slice (some ⟨bA, 0, none⟩) x.params.length (x.params.length + 2)))
          have HCA := hide (HCN.out.push0 (r := (bA, x.params.length + 2)))
          obtain ⟨⟨x4, i4⟩, j4⟩ := FA.cell (j := k * 4) (by simp [sZ]; omega)
          have e2A := FA.uo.ucell.2.2.1
          have g2A := below_cell (FA.uo.low.mono h00) HD2.out
          clear FA hrA hoA hfA hpA F0 i0 i1 i2 i3 j0 j1 j2 j3 g0 g1 g2 g3 e2
          go_wp2_with fail
          refine (lend_any lo ob VA _ x.locals _ _ FB.out.uo.own (HRL.out.below (FB.out.uo.low.mono h00)) (by omega) (by have := HCA.out.ints; omega) FB.out.uo.size).mono ?_
          rintro y wB ⟨bB, VB, rfl, hbB, hrB, hoB, hfB⟩
          have hpB := lent_px (fb := fb) hoB (by decide) hbB (block_lt FB.out.wb.heap)
          have FA := (FB.out.fr (R2p_closed _ _ _ _ _) hoB (by simp [updS]) hfB)
          have FC := hide ((FA.add (R' := R2l (.slice (some ⟨sb, 0, none⟩) u.shapes.length (u.shapes.length + 2)) u.shapes es (.slice (some ⟨bA, 0, none⟩) x.params.length (x.params.length + 2)) x.params (.slice (some ⟨bB, 0, none⟩) x.locals.length (x.locals.length + 2)) x.locals) ⟨FA.rest, rints_at hrB hpB⟩).set (R2l_closed _ _ _ _ _ _ _) (by decide) (by decide) (k * 4 + 2) (.slice (some ⟨bB, 0, none⟩) x.locals.length (x.locals.length + 2)))
          have HCB := hide (HCA.out.push0 (r := (bB, x.locals.length + 2)))
          obtain ⟨⟨x5, i5⟩, j5⟩ := FA.cell (j := k * 4 + 2) (by simp [sZ]; omega)
          have e2B := FA.uo.ucell.2.2.1
          have g3B := below_cell (FA.uo.low.mono h00) HD3.out
          clear FA hrB hoB hfB hpB FB i4 j4 e2A g2A HCA
          go_wp2_with fail
          refine (owncode_any lo ob VB _ x.code _ _ FC.out.uo.own (HRC.out.below (FC.out.uo.low.mono h00)) (by omega) (by have := HCB.out.codes; omega) FC.out.uo.size).mono ?_
          rintro y wC ⟨bC, VC, rfl, hbC, hrC, hoC, hfC⟩
          have hpC := lent_px (fb := fb) hoC (by decide) hbC (block_lt FC.out.wb.heap)
          have FA := (FC.out.fr (R2l_closed _ _ _ _ _ _ _) hoC (by simp [updS]) hfC)
          have FD := hide ((FA.add (R' := R2 (.slice (some ⟨sb, 0, none⟩) u.shapes.length (u.shapes.length + 2)) u.shapes (es ++ [⟨.slice (some ⟨bA, 0, none⟩) x.params.length (x.params.length + 2), .slice (some ⟨bB, 0, none⟩) x.locals.length (x.locals.length + 2), .slice (some ⟨bC, 0, none⟩) x.code.length (x.code.length + 2), x⟩])) ⟨FA.rest.1.1.1, fun e he => by
            rcases List.mem_append.1 he with he | he
            · exact FA.rest.1.1.2 e he
            · rw [List.mem_singleton.1 he]; exact ⟨FA.rest.1.2, FA.rest.2, rcode_at hrC hpC⟩⟩).set (R2_closed _ _ _) (by decide) (by decide) (k * 4 + 3) (.slice (some ⟨bC, 0, none⟩) x.code.length (x.code.length + 2)))
          have HCC := hide (HCB.out.push2 (r := (bC, x.code.length + 2)))
          obtain ⟨⟨x6, i6⟩, j6⟩ := FA.cell (j := k * 4 + 3) (by simp [sZ]; omega)
          clear FA hrC hoC hfC hpC FC i5 j5 e2B g3B HCB
          go_wp2_with fail
          go_roundw
          case rel =>
            refine ⟨k + 1, by omega, by go_num, VC, _, _, _, FD.out, HCC.out.mono (by omega) (by omega) (Nat.le_refl _), takes_snoc HES.out HX.out rfl, by rw [List.length_append, HLEN.out]; rfl, ?_⟩
            have h9 := HLEN.out
            have := cont_func (e := ⟨.slice (some ⟨bA, 0, none⟩) x.params.length (x.params.length + 2), .slice (some ⟨bB, 0, none⟩) x.locals.length (x.locals.length + 2), .slice (some ⟨bC, 0, none⟩) x.code.length (x.code.length + 2), x⟩) (p0 := .slice ap x.params.length cp) (p2 := .slice al x.locals.length cl) (p3 := .slice ac x.code.length cc) HCT.out (by omega)
            rw [h9] at this
            exact this
          case measure => simp [intOf]; omega
        · have hkn : k = u.funcs.length := by omega
          subst hkn
          clear hlt hk
          obtain ⟨⟨x5, hx5⟩, hz5⟩ := HFL.out.cell (j := u.funcs.length * 4 + 1) (by simp [sZ]; omega)
          obtain ⟨⟨x6, hx6⟩, hz6⟩ := HFL.out.cell (j := (u.funcs.length + 1) * 4 + 1) (by simp [sZ]; omega)
          have hob := HFL.out.uo.own.cell 3 (by decide)
          have hobs : ¬ ob = fb := fun e => HFL.out.wb.po.2.1 e.symm
          have hobs' : ¬ fb = ob := HFL.out.wb.po.2.1
          have nu : ¬ ub = ob := HFL.out.uo.pu.2.1
          have nu' : ¬ ob = ub := fun e => HFL.out.uo.pu.2.1 e.symm
          obtain ⟨cur', f4, r4, s4⟩ := funcs_mid HFL.out (by rw [HES.out, List.take_length]) (by omega) HCT.out
          have HF4 := hide f4
          have HR4 := hide r4
          have HS4 := hide s4
          clear f4 r4 s4
          have hsx := HCN.out.rest 3 (by decide) (by decide) (by decide)
          go_wp2_with (first
            | (at_builtin; refine wpList_append_vals _ rfl _ _ 32 24 1 24 (.slice none 0 0) Tryd.ownRow3 Tryd.underlying32 rfl (by decide) (by decide) rfl lo _ (S' 3).length ((S' 3).map rowV) rfl (HF4.out.uo.own.own 3 (by decide)) #[rowV (fb, u.funcs.length + 2)] rfl (by intro u hu; simp at hu; subst hu; rfl) _ rfl (by simp) (by omega) HF4.out.uo.size ?_; intro v3 w3 hap; obtain ⟨⟨a8, c8, hv3⟩, _⟩ := own_form hap.own; subst hv3; have hob3 := hap.frm.cell (HF4.out.uo.own.cell 3 (by decide)) (fun e => HF4.out.uo.own.not_ob (f := 3) (by decide) e.symm); have hz3 : w3.frozen? ⟨ob, 3, none⟩ = false := (World.frozen?_of_block (hap.frm.block ob (block_lt HF4.out.uo.own.box) (fun e => HF4.out.uo.own.not_ob (f := 3) (by decide) e.symm))).trans (HF4.out.uo.own.frozen 3); have hu2 := hap.frm.cell HF4.out.uo.ucell.2.2.2.1 (fun e => HF4.out.uo.pu.2.2 3 (by decide) e.symm)))
          obtain ⟨p1, p2, p3, p4⟩ := HF4.out.push (R2_closed _ _ _) (by decide) hap HR4.out (by have := HFB.out; omega)
          have HU6 := hide p1
          have HS6 := hide p2.1
          have HN6 := hide (HS4.out.stay p4)
          have HC6 := hide (HCN.out.push (k := 3) (r := (fb, u.funcs.length + 2)) (by decide) (by decide))
          have HF6 := hide (HF5.out.trans p3)
          clear p1 p2 p3 p4 hap hob3 hz3 hu2 hsx HF4 HR4 HS4 hobs hobs' hob hx5 hz5 hx6 hz6 HFL HCN HES HLEN HCT hwr3 hwr4 e0 e1 e2 e3 e4 HF5 HFB
          generalize upd V' 3 (.slice a8 ((S' 3).length + 1) c8) = V2 at HU6 HS6 HN6 HF6
          generalize updS S' 3 (fb, u.funcs.length + 2) = S2 at HU6 HC6
          generalize w3.setCell ⟨ob, 3, none⟩ (.slice a8 ((S' 3).length + 1) c8) = w7 at HU6 HS6 HN6 HF6 ⊢
          have hmk4 := make_own (n := u.imports.length + 2) (m := (u.imports.length : Int) + 2) Tryd.underlying25 Tryd.ownImp (by decide) (by omega) (by simp) w7
          have hwr5 : IntKind.i64.wrap ((u.imports.length : Int) + 2) = (u.imports.length : Int) + 2 := Go.IntWalk.i64_in _ (by omega)
          have hwr6 : IntKind.i64.wrap ((u.imports.length : Int) + 1) = (u.imports.length : Int) + 1 := Go.IntWalk.i64_in _ (by omega)
          obtain ⟨g1, g2, g3, g4⟩ := HU6.out.make 4 (u.imports.length + 2) zM rfl
          have hct : Cont fM 3 zM (u.imports.length + 2) [] (madeCells zM ((u.imports.length + 2) * 3)) := Cont.start rfl (by decide)
          have hzz : (Value.agg #[.string ⟨#[]⟩, .slice none 0 0, .int .i64 0]).cells = zM := rfl
          rw [hzz] at hmk4
          simp only [show sZ 4 = 3 from rfl, show eT 4 = 79 from rfl] at g1 g2 g4
          generalize madeCells zM ((u.imports.length + 2) * 3) = M3 at hmk4 g1 g2 g4 hct
          generalize hgb : w7.heap.size = gb at hmk4 g2 g3
          have HL3 : Hid (Lp3 lo ob ub rb gb (.slice a1 u.shapes.length q1) (.slice a2 u.consts.length q2) (.slice a3 u.funcs.length q3) (.slice a4 u.imports.length q4) (.slice a5 u.exports.length q5) w00 w7 V2 (.slice (some ⟨sb, 0, none⟩) u.shapes.length (u.shapes.length + 2)) u.shapes (.slice (some ⟨fb, 0, none⟩) u.funcs.length (u.funcs.length + 2)) u.funcs u.imports (d0 + 2 * u.funcs.length) (c2 + u.funcs.length) (c + 2) 0 (w7.alloc (.cells M3 79))) := hide ⟨V2, S2, M3, [], ⟨g1, g2, g3 4 (by decide), ⟨HS6.out.stay (fun b hb hl => ⟨(g4.stay b hb hl).1, (g4.stay b hb hl).2, by omega⟩), HN6.out.stay (fun b hb hl => ⟨(g4.stay b hb hl).1, (g4.stay b hb hl).2, by omega⟩), by simp⟩, g4.toX⟩, HC6.out, rfl, rfl, hct⟩
          have HGB := hide hgb
          clear g1 g2 g3 g4 hct hzz hgb
          rw [hmk4]
          clear hmk4 HU6 HS6 HN6 HC6 nu nu'
          go_wp2
          go_loopw [13] (fun i wr => ∃ k : Nat, k ≤ u.imports.length ∧ i = .int .i64 k ∧ Lp3 lo ob ub rb gb (.slice a1 u.shapes.length q1) (.slice a2 u.consts.length q2) (.slice a3 u.funcs.length q3) (.slice a4 u.imports.length q4) (.slice a5 u.exports.length q5) w00 w7 V2 (.slice (some ⟨sb, 0, none⟩) u.shapes.length (u.shapes.length + 2)) u.shapes (.slice (some ⟨fb, 0, none⟩) u.funcs.length (u.funcs.length + 2)) u.funcs u.imports (d0 + 2 * u.funcs.length) (c2 + u.funcs.length) (c + 2) k wr) (fun i _ => u.imports.length - (intOf i).toNat)
          case atStart => exact ⟨0, Nat.zero_le _, rfl, HL3.out⟩
          case round =>
            clear HL3
            obtain ⟨k, hk, rfl, V', S', cur, es, hfl, hcn, hes, hlen, hct⟩ := hrel
            obtain ⟨e0, e1, e2, e3, e4⟩ := hfl.uo.ucell
            have HFL := hide hfl
            have HCN := hide hcn
            have HES := hide hes
            have HLEN := hide hlen
            have HCT := hide hct
            clear hfl hcn hes hlen hct
            by_cases hlt : k < u.imports.length
            · obtain ⟨x, hx⟩ := getElem?_lt hlt
              obtain ⟨ao', cap', hv', hm', hc'⟩ := H4.out
              obtain ⟨b1, off1, vs, vp, hao, d0', d1', d2', hTx, hRp⟩ := hc' k x hx
              simp only [Value.slice.injEq] at hv'
              have hao1 := hv'.1.trans hao
              subst hao1
              obtain ⟨ap, cp, rfl⟩ := hRp.shape
              obtain ⟨ts, rfl, htx, htm⟩ := hTx
              have HTX : Hid (RText (.string ts) x.name) := hide ⟨ts, rfl, htx, htm⟩
              have HX := hide hx
              have HRP := hide hRp
              have HD1 := hide d1'
              have hb1l : b1 < w00.heap.size := World.block_lt_of_cell? w00 _ d0'
              have hxp := HF.out.import_ x (List.mem_of_getElem? hx)
              have hlw := HFL.out.uo.low.mono h00
              have g0 := below_cell hlw d0'
              have g1 := below_cell hlw d1'
              have g2 := below_cell hlw d2'
              obtain ⟨⟨x0, i0⟩, j0⟩ := HFL.out.cell (j := k * 3) (by simp [sZ]; omega)
              obtain ⟨⟨x1, i1⟩, j1⟩ := HFL.out.cell (j := k * 3 + 1) (by simp [sZ]; omega)
              obtain ⟨⟨x2, i2⟩, j2⟩ := HFL.out.cell (j := k * 3 + 2) (by simp [sZ]; omega)
              have hflo : lo ≤ gb := HFL.out.wb.po.1
              have nb : ¬ b1 = gb := by omega
              have nb' : ¬ gb = b1 := by omega
              have nuf : ¬ ub = gb := fun e => by
                have h1 := HFL.out.uo.hu
                rw [e, HFL.out.wb.heap] at h1
                simp only [Option.some.injEq, Obj.cells.injEq] at h1
                exact absurd h1.2.1 (by decide)
              have nuf' : ¬ gb = ub := fun e => nuf e.symm
              have F0 := hide (((HFL.out.set (R3_closed _ _ _ _ _) (by decide) (by decide) (k * 3) (.string ts)).set (R3_closed _ _ _ _ _) (by decide) (by decide) (k * 3 + 1) (.slice ap x.params.length cp)).set (R3_closed _ _ _ _ _) (by decide) (by decide) (k * 3 + 2) (.int .i64 x.result))
              clear hv' hao hc' hRp hm' hx d0' d1' d2' hlw e0 e1 e2 e4 htx htm
              go_wp2_with fail
              refine (lend_any lo ob V' S' x.params _ _ F0.out.uo.own (HRP.out.below (F0.out.uo.low.mono h00)) (by omega) (by have := HCN.out.ints; omega) F0.out.uo.size).mono ?_
              rintro y wA ⟨bA, VA, rfl, hbA, hrA, hoA, hfA⟩
              have hpA := lent_px (fb := gb) hoA (by decide) hbA (block_lt F0.out.wb.heap)
              have FA := (F0.out.fr (R3_closed _ _ _ _ _) hoA (by simp [updS]) hfA)
              have FD := hide ((FA.add (R' := R3 (.slice (some ⟨sb, 0, none⟩) u.shapes.length (u.shapes.length + 2)) u.shapes (.slice (some ⟨fb, 0, none⟩) u.funcs.length (u.funcs.length + 2)) u.funcs (es ++ [⟨.string ts, .slice (some ⟨bA, 0, none⟩) x.params.length (x.params.length + 2), x⟩])) ⟨FA.rest.1, FA.rest.2.1, fun e he => by
                rcases List.mem_append.1 he with he | he
                · exact FA.rest.2.2 e he
                · rw [List.mem_singleton.1 he]; exact ⟨HTX.out, rints_at hrA hpA⟩⟩).set (R3_closed _ _ _ _ _) (by decide) (by decide) (k * 3 + 1) (.slice (some ⟨bA, 0, none⟩) x.params.length (x.params.length + 2)))
              have HCC := hide (HCN.out.push0 (r := (bA, x.params.length + 2)))
              obtain ⟨⟨x6, i6⟩, j6⟩ := FA.cell (j := k * 3 + 1) (by simp [sZ]; omega)
              clear FA hrA hoA hfA hpA F0 i0 i1 i2 j0 j1 j2 g0 g1 g2 e3
              go_wp2_with fail
              go_roundw
              case rel =>
                refine ⟨k + 1, by omega, by go_num, VA, _, _, _, FD.out, HCC.out.mono (by omega) (Nat.le_refl _) (Nat.le_refl _), takes_snoc HES.out HX.out rfl, by rw [List.length_append, HLEN.out]; rfl, ?_⟩
                have h9 := HLEN.out
                have := cont_imp (e := ⟨.string ts, .slice (some ⟨bA, 0, none⟩) x.params.length (x.params.length + 2), x⟩) (p1 := .slice ap x.params.length cp) HCT.out (by omega)
                rw [h9] at this
                exact this
              case measure => simp [intOf]; omega
            · have hkn : k = u.imports.length := by omega
              subst hkn
              clear hlt hk
              obtain ⟨⟨x5, hx5⟩, hz5⟩ := HFL.out.cell (j := u.imports.length * 3 + 2) (by simp [sZ]; omega)
              obtain ⟨⟨x6, hx6⟩, hz6⟩ := HFL.out.cell (j := (u.imports.length + 1) * 3 + 2) (by simp [sZ]; omega)
              have hob := HFL.out.uo.own.cell 4 (by decide)
              have hobs : ¬ ob = gb := fun e => HFL.out.wb.po.2.1 e.symm
              have hobs' : ¬ gb = ob := HFL.out.wb.po.2.1
              have nu : ¬ ub = ob := HFL.out.uo.pu.2.1
              have nu' : ¬ ob = ub := fun e => HFL.out.uo.pu.2.1 e.symm
              obtain ⟨cur', f4, r4, s4⟩ := imps_mid HFL.out (by rw [HES.out, List.take_length]) (by omega) HCT.out
              have HF4 := hide f4
              have HR4 := hide r4
              have HS4 := hide s4
              clear f4 r4 s4
              have hsx := HCN.out.rest 4 (by decide) (by decide) (by decide)
              go_wp2_with (first
                | (at_builtin; refine wpList_append_vals _ rfl _ _ 35 25 1 24 (.slice none 0 0) Tryd.ownRow4 Tryd.underlying35 rfl (by decide) (by decide) rfl lo _ (S' 4).length ((S' 4).map rowV) rfl (HF4.out.uo.own.own 4 (by decide)) #[rowV (gb, u.imports.length + 2)] rfl (by intro u hu; simp at hu; subst hu; rfl) _ rfl (by simp) (by omega) HF4.out.uo.size ?_; intro v3 w3 hap; obtain ⟨⟨a8, c8, hv3⟩, _⟩ := own_form hap.own; subst hv3; have hob3 := hap.frm.cell (HF4.out.uo.own.cell 4 (by decide)) (fun e => HF4.out.uo.own.not_ob (f := 4) (by decide) e.symm); have hz3 : w3.frozen? ⟨ob, 4, none⟩ = false := (World.frozen?_of_block (hap.frm.block ob (block_lt HF4.out.uo.own.box) (fun e => HF4.out.uo.own.not_ob (f := 4) (by decide) e.symm))).trans (HF4.out.uo.own.frozen 4); have hu2 := hap.frm.cell HF4.out.uo.ucell.2.2.2.2 (fun e => HF4.out.uo.pu.2.2 4 (by decide) e.symm)))
              obtain ⟨p1, p2, p3, p4⟩ := HF4.out.push (R3_closed _ _ _ _ _) (by decide) hap HR4.out (by have := HGB.out; omega)
              have HU8 := hide p1
              have HS8 := hide p2.1
              have HN8 := hide p2.2.1
              have HI8 := hide (HS4.out.stay p4)
              have HC8 := hide (HCN.out.push (k := 4) (r := (gb, u.imports.length + 2)) (by decide) (by decide))
              have HF8 := hide (HF6.out.trans p3)
              clear p1 p2 p3 p4 hap hob3 hz3 hu2 hsx HF4 HR4 HS4 hobs hobs' hob hx5 hz5 hx6 hz6 HFL HCN HES HLEN HCT hwr5 hwr6 e0 e1 e2 e3 e4 HF6 HGB
              generalize upd V' 4 (.slice a8 ((S' 4).length + 1) c8) = V3 at HU8 HS8 HN8 HI8 HF8
              generalize updS S' 4 (gb, u.imports.length + 2) = S3 at HU8 HC8
              generalize w3.setCell ⟨ob, 4, none⟩ (.slice a8 ((S' 4).length + 1) c8) = w9 at HU8 HS8 HN8 HI8 HF8 ⊢
              obtain ⟨es5, hes5, htx5, hce5⟩ := exps_list H5.out
              have hel5 : es5.length = u.exports.length := by rw [← hes5, List.length_map]
              have hmk5 := make_own (n := u.exports.length + 2) (m := (u.exports.length : Int) + 2) Tryd.underlying26 Tryd.ownExp (by decide) (by omega) (by simp) w9
              have hwr7 : IntKind.i64.wrap ((u.exports.length : Int) + 2) = (u.exports.length : Int) + 2 := Go.IntWalk.i64_in _ (by omega)
              have hwr8 : IntKind.i64.wrap ((u.exports.length : Int) + 1) = (u.exports.length : Int) + 1 := Go.IntWalk.i64_in _ (by omega)
              have hzz : (Value.agg #[.string ⟨#[]⟩, .int .i64 0]).cells = zE := rfl
              rw [hzz] at hmk5
              have hsz : (madeCells zE ((u.exports.length + 2) * 2)).size = (u.exports.length + 2) * 2 := size_madeCells _ _
              have HE := hide (copied w9 (madeCells zE ((u.exports.length + 2) * 2)) 81 (es5.flatMap fE))
              have HMid := fun W2 hW hG => hide (exps_mid (w := w9) (W2 := W2) (l := u.exports) hes5 htx5 hW hG HU8.out.own HU8.out.size (by omega))
              generalize madeCells zE ((u.exports.length + 2) * 2) = M4 at hmk5 hsz HE HMid
              have hP0 : (w9.alloc (.cells M4 81)).heap[w9.heap.size]? = some (.cells M4 81 (0, 0)) := heap_new _ _
              have hga := Gr.alloc (Gr.refl w9) (.cells M4 81)
              have hPP : 0 < u.exports.length → ∃ ad, a5 = some ad ∧ ∀ j v, (es5.flatMap fE)[j]? = some v → (w9.alloc (.cells M4 81)).cell? (ad.add j) = some v := by
                intro h0
                obtain ⟨x0, hx0⟩ := getElem?_lt (l := es5) (k := 0) (by omega)
                obtain ⟨b, off, rfl, _⟩ := hce5 0 x0 hx0
                refine ⟨_, rfl, fun j v hj => ?_⟩
                have hjl : j < es5.length * 2 := by rw [← flat_size fE_len es5]; exact (List.getElem?_eq_some_iff.1 hj).1
                obtain ⟨x, hx⟩ := getElem?_lt (l := es5) (k := j / 2) (by omega)
                obtain ⟨b', off', e, c0', c1'⟩ := hce5 (j / 2) x hx
                simp only [Option.some.injEq, Addr.mk.injEq] at e
                obtain ⟨rfl, rfl, -⟩ := e
                have hadd : (⟨b, off, none⟩ : Addr).add j = ⟨b, off + j, none⟩ := by unfold Addr.add; split <;> simp_all
                have hr := flat_at fE_len (j := j % 2) hx (Nat.mod_lt _ (by decide))
                rw [show j / 2 * 2 + j % 2 = j by omega, hj] at hr
                rw [hadd]
                refine hga.cell (below_cell (HU8.out.low.mono h00) ?_) (by simp)
                have e3 : j % 2 = 0 ∨ j % 2 = 1 := by omega
                rcases e3 with e | e <;> rw [e] at hr
                · rw [show off + j = off + j / 2 * 2 by omega, c0']; exact hr.symm
                · rw [show off + j = off + j / 2 * 2 + 1 by omega, c1']; exact hr.symm
              have hcp : ∀ ty, (Builtin.copy_ #[26, 26] ty #[.slice (some ⟨w9.heap.size, 0, none⟩) (u.exports.length + 2) (u.exports.length + 2), .slice a5 u.exports.length q5]).run Tryd.prog (w9.alloc (.cells M4 81)) = .ok (goInt u.exports.length) ((w9.alloc (.cells M4 81)).setRow w9.heap.size (es5.flatMap fE ++ M4.toList.drop (es5.flatMap fE).length).toArray) := fun ty =>
                run_copy_n (P := Tryd.prog) (w9.alloc (.cells M4 81)) 26 26 ty 81 2 w9.heap.size (u.exports.length + 2) (u.exports.length + 2) a5 u.exports.length q5 M4 81 (es5.flatMap fE) Tryd.underlying26 (info_size Tryd.ownExp) hP0 (by omega) (by rw [flat_size fE_len es5, hel5]) hPP (by rw [hsz, flat_size fE_len es5, hel5]; omega) (by
                  intro v hv
                  simp only [List.mem_flatMap, fE, List.mem_cons, List.not_mem_nil, or_false] at hv
                  obtain ⟨x, hx, rfl | rfl⟩ := hv
                  · obtain ⟨s, hs, _⟩ := htx5 x hx; rw [hs]; rfl
                  · rfl)
              obtain ⟨hW, hGW⟩ := HE.out
              generalize World.setRow (w9.alloc (.cells M4 81)) w9.heap.size (es5.flatMap fE ++ M4.toList.drop (es5.flatMap fE).length).toArray = W2 at hW hGW hcp
              obtain ⟨⟨x1, hx1⟩, ⟨x2, hx2⟩, hz1, hz2, hob, hg4, hr4, hri4⟩ := (HMid W2 hW hGW).out
              have HU9 := hide (HU8.out.gr hg4)
              have HFg := hide (fr_gr (ob := ob) (V := V3) hg4 HU8.out.size)
              have HR4 := hide hr4
              have HRX := hide hri4
              have hobl := block_lt HU8.out.own.box
              have hne : ¬ ob = w9.heap.size := by omega
              have hne' : ¬ w9.heap.size = ob := by omega
              have hu5 := (hga).cell HU8.out.ucell.2.2.2.2 (by simp)
              have hsx := HC8.out.rest 5 (by decide) (by decide) (by decide)
              rw [hmk5]
              clear hW hGW hg4 hr4 hri4 HMid HE hP0 hPP hga hzz hsz hmk5 hes5 htx5 hce5 hel5
              go_wp2_with (first
                | (at_builtin; refine wpList_append_vals _ rfl _ _ 34 26 1 24 (.slice none 0 0) Tryd.ownRow5 Tryd.underlying34 rfl (by decide) (by decide) rfl lo _ (S3 5).length ((S3 5).map rowV) rfl (HU9.out.own.own 5 (by decide)) #[rowV (w9.heap.size, u.exports.length + 2)] rfl (by intro u hu; simp at hu; subst hu; rfl) _ rfl (by simp) (by omega) HU9.out.size ?_; intro v3 w3 hap; obtain ⟨⟨a8, c8, hv3⟩, _⟩ := own_form hap.own; subst hv3; have hob3 := hap.frm.cell (HU9.out.own.cell 5 (by decide)) (fun e => HU9.out.own.not_ob (f := 5) (by decide) e.symm); have hz3 : w3.frozen? ⟨ob, 5, none⟩ = false := (World.frozen?_of_block (hap.frm.block ob (block_lt HU9.out.own.box) (fun e => HU9.out.own.not_ob (f := 5) (by decide) e.symm))).trans (HU9.out.own.frozen 5); have hu2 := hap.frm.cell HU9.out.ucell.2.1 (fun e => HU9.out.pu.2.2 5 (by decide) e.symm)))
              obtain ⟨k1, k2⟩ := HU9.out.own.push (k := 5) (r := (w9.heap.size, u.exports.length + 2)) (by decide) hap HR4.out HU9.out.size
              have HU10 := hide (HU9.out.fr k1 k2)
              have HX10 := hide (HRX.out.stay k2.stay)
              have hs10 := HFg.out.stay.trans k2.stay HFg.out.size
              have HS10 := hide (HS8.out.stay hs10)
              have HN10 := hide (HN8.out.stay hs10)
              have HI10 := hide (HI8.out.stay hs10)
              have HC10 := hide (HC8.out.push (k := 5) (r := (w9.heap.size, u.exports.length + 2)) (by decide) (by decide))
              have HF10 := hide ((HF8.out.trans HFg.out).trans k2)
              clear k1 k2 hap hob3 hz3 hu2 hsx HU9 HFg HR4 HRX hs10 HU8 HS8 HN8 HI8 HC8 HF8 hcp hx1 hx2 hz1 hz2 hob hobl hne hne' hu5 hwr7 hwr8
              generalize upd V3 5 (.slice a8 ((S3 5).length + 1) c8) = V4 at HU10 HX10 HS10 HN10 HI10 HF10
              generalize updS S3 5 (w9.heap.size, u.exports.length + 2) = S4 at HU10 HC10
              generalize w3.setCell ⟨ob, 5, none⟩ (.slice a8 ((S3 5).length + 1) c8) = w11 at HU10 HX10 HS10 HN10 HI10 HF10 ⊢
              have hcl := HF.out.consts
              refine (lend_any lo ob V4 S4 u.consts _ _ HU10.out.own (H2.out.below (HU10.out.low.mono h00)) (by omega) (by have := HC10.out.ints; omega) HU10.out.size).mono ?_
              rintro y wA ⟨bA, VA, rfl, hbA, hrA, hoA, hfA⟩
              have huA := HU10.out.fr hoA hfA
              have hfz := HF10.out.trans hfA
              have hun := runit_not huA.hr (by have := HSB.out; have := HRB.out; omega) (HS10.out.stay hfA.stay) hrA (HN10.out.stay hfA.stay) (HI10.out.stay hfA.stay) (HX10.out.stay hfA.stay)
              obtain ⟨z1, z2, z3⟩ := UO.done (y0 := (.slice (some ⟨sb, 0, none⟩) u.shapes.length (u.shapes.length + 2))) (y1 := (.slice (some ⟨bA, 0, none⟩) u.consts.length (u.consts.length + 2))) (y2 := (.slice (some ⟨fb, 0, none⟩) u.funcs.length (u.funcs.length + 2))) (y3 := (.slice (some ⟨gb, 0, none⟩) u.imports.length (u.imports.length + 2))) (y4 := (.slice (some ⟨w9.heap.size, 0, none⟩) u.exports.length (u.exports.length + 2))) huA hfz (by have := HRB.out; omega)
              have HZ1 := hide z1
              have HZ2 := hide z2
              have HZ3 := hide (hun.stay z3)
              have HC11 := hide (HC10.out.push0 (r := (bA, u.consts.length + 2)))
              have hbx : Box5 wA rb nS nS nS nS nS := by
                refine ⟨?_, ?_, ?_, ?_, ?_, ?_, ?_, ?_, ?_, ?_⟩ <;> first | (rw [heap_cell huA.hr]; rfl) | exact heap_frozen huA.hr
              have HBP := hide (put5_box (.slice (some ⟨sb, 0, none⟩) u.shapes.length (u.shapes.length + 2)) (.slice (some ⟨bA, 0, none⟩) u.consts.length (u.consts.length + 2)) (.slice (some ⟨fb, 0, none⟩) u.funcs.length (u.funcs.length + 2)) (.slice (some ⟨gb, 0, none⟩) u.imports.length (u.imports.length + 2)) (.slice (some ⟨w9.heap.size, 0, none⟩) u.exports.length (u.exports.length + 2)) hbx)
              have hub0 := huA.ucell.1
              obtain ⟨r0, r1, r2, r3, r4, s0, s1, s2, s3, s4⟩ := hbx
              have nur : ¬ ub = rb := by have := HRB.out; have := HUB.out; omega
              have nur' : ¬ rb = ub := by have := HRB.out; have := HUB.out; omega
              clear hrA hoA hfA huA hfz hun z1 z2 z3 HU10 HX10 HS10 HN10 HI10 HF10 HC10
              have ya0 : (0 : Int) ≤ (u.shapes.length : Int) := by omega
              have yb0 : (u.shapes.length : Int) ≤ (u.shapes.length : Int) + 2 := by omega
              have yc0 : u.shapes.length ≤ u.shapes.length + 2 := by omega
              have yd0 : (u.shapes.length : Int) ≤ ((u.shapes.length + 2 : Nat) : Int) := by omega
              have ya1 : (0 : Int) ≤ (u.funcs.length : Int) := by omega
              have yb1 : (u.funcs.length : Int) ≤ (u.funcs.length : Int) + 2 := by omega
              have yc1 : u.funcs.length ≤ u.funcs.length + 2 := by omega
              have yd1 : (u.funcs.length : Int) ≤ ((u.funcs.length + 2 : Nat) : Int) := by omega
              have ya2 : (0 : Int) ≤ (u.imports.length : Int) := by omega
              have yb2 : (u.imports.length : Int) ≤ (u.imports.length : Int) + 2 := by omega
              have yc2 : u.imports.length ≤ u.imports.length + 2 := by omega
              have yd2 : (u.imports.length : Int) ≤ ((u.imports.length + 2 : Nat) : Int) := by omega
              have ya3 : (0 : Int) ≤ (u.exports.length : Int) := by omega
              have yb3 : (u.exports.length : Int) ≤ (u.exports.length : Int) + 2 := by omega
              have yc3 : u.exports.length ≤ u.exports.length + 2 := by omega
              have yd3 : (u.exports.length : Int) ≤ ((u.exports.length + 2 : Nat) : Int) := by omega
              go_wp2_with fail
              go_region_held3 (fun w' => w'.cell? ⟨ub, 0, none⟩ = some (.slice a1 u.shapes.length q1)) (go_keep) (fail)
              rw [put5_eq]
              obtain ⟨r0, r1, r2, r3, r4, s0, s1, s2, s3, s4⟩ := HBP.out
              generalize hWE : put5 wA rb (.slice (some ⟨sb, 0, none⟩) u.shapes.length (u.shapes.length + 2)) (.slice (some ⟨bA, 0, none⟩) u.consts.length (u.consts.length + 2)) (.slice (some ⟨fb, 0, none⟩) u.funcs.length (u.funcs.length + 2)) (.slice (some ⟨gb, 0, none⟩) u.imports.length (u.imports.length + 2)) (.slice (some ⟨w9.heap.size, 0, none⟩) u.exports.length (u.exports.length + 2)) = WE at r0 r1 r2 r3 r4 s0 s1 s2 s3 s4 HZ1 HZ2 HZ3 ⊢
              have t0 : WE.drew.cell? ⟨rb, 0, none⟩ = _ := r0
              have t1 : WE.drew.cell? ⟨rb, 1, none⟩ = _ := r1
              have t2 : WE.drew.cell? ⟨rb, 2, none⟩ = _ := r2
              have t3 : WE.drew.cell? ⟨rb, 3, none⟩ = _ := r3
              have t4 : WE.drew.cell? ⟨rb, 4, none⟩ = _ := r4
              go_wp2
              exact bodyPost_ret (v := .agg #[.slice (some ⟨sb, 0, none⟩) u.shapes.length (u.shapes.length + 2), .slice (some ⟨bA, 0, none⟩) u.consts.length (u.consts.length + 2), .slice (some ⟨fb, 0, none⟩) u.funcs.length (u.funcs.length + 2), .slice (some ⟨gb, 0, none⟩) u.imports.length (u.imports.length + 2), .slice (some ⟨w9.heap.size, 0, none⟩) u.exports.length (u.exports.length + 2)]) (by simp [results, Tryd.results12, go_sem, t0, t1, t2, t3, t4]) rfl ⟨_, VA, _, rfl, HZ3.out, HZ1.out.keep (fun _ _ _ => rfl), HC11.out.mono (by have := HD0E.out; omega) (Nat.le_refl _) (Nat.le_refl _), HZ2.out.drew, _, _, _, _, _, _, _, rfl, by have := HSB.out; have := HUB.out; omega⟩
end Go.Proofs.YtkgncijcnlfhiaaDoor

