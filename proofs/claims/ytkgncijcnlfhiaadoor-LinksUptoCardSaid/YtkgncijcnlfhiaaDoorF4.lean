import Derived.Test.YtkgncijcnlfhiaaDoorF3
import Derived.Test.YtkgncijcnlfhiaaDoorH1
namespace Go.Proofs.YtkgncijcnlfhiaaDoor
set_option linter.unusedVariables false
set_option linter.unusedSimpArgs false
open Go.RowKit
attribute [local go_sem ↓] Go.wp_at_zero Go.wp_at_succ
theorem unitOk_eq (u : PUnit) : unitOk u = ((decide ((u.shapes.length : Int) ≤ 20) && (decide ((u.consts.length : Int) ≤ 50) && (decide ((u.funcs.length : Int) ≤ 30) && (decide ((u.imports.length : Int) ≤ 20) && decide ((u.exports.length : Int) ≤ 20))))) &&
    (u.shapes.all (shapeOk u.shapes.length) && (u.funcs.all (funcOk u.shapes.length) && (u.imports.all (impOk u.shapes.length) && u.exports.all (expOk u.funcs.length))))) := by
  unfold unitOk shapesOk constsOk funcsOk importsOk exportsOk
  rw [len_dec, len_dec, len_dec, len_dec, len_dec]
  generalize u.shapes.all (shapeOk u.shapes.length) = a
  generalize u.funcs.all (funcOk u.shapes.length) = b
  generalize u.imports.all (impOk u.shapes.length) = c
  generalize u.exports.all (expOk u.funcs.length) = d
  generalize decide ((u.shapes.length : Int) ≤ 20) = e
  generalize decide ((u.consts.length : Int) ≤ 50) = f
  generalize decide ((u.funcs.length : Int) ≤ 30) = g
  generalize decide ((u.imports.length : Int) ≤ 20) = h
  generalize decide ((u.exports.length : Int) ≤ 20) = i
  cases a <;> cases b <;> cases c <;> cases d <;> cases e <;> cases f <;> cases g <;> cases h <;> cases i <;> rfl

set_option maxRecDepth 100000 in
set_option maxHeartbeats 8000000 in
theorem right_ref (u : PUnit) (v : Value) (w : World) (hR : RUnit w v u) (hT : Tab w) :
    Calls Tryd.prog 33 #[v] w fun x w' => x = .returned (.bool (unitOk u)) ∧ Gr w w' := by
  obtain ⟨v1, v2, v3, v4, v5, rfl, h1, h2, h3, h4, h5⟩ := hR
  obtain ⟨a1, c1, rfl⟩ := h1.shape
  obtain ⟨a2, c2, rfl⟩ := h2.shape
  obtain ⟨a3, c3, rfl⟩ := h3.shape
  obtain ⟨a4, c4, rfl⟩ := h4.shape
  obtain ⟨a5, c5, rfl⟩ := h5.shape
  have m1 : u.shapes.length ≤ 9223372036854775807 := by obtain ⟨_, _, _, h, _⟩ := h1; unfold maxLen at h; omega
  have m2 : u.consts.length ≤ 9223372036854775807 := by obtain ⟨_, _, _, h, _⟩ := h2; unfold maxLen at h; omega
  have m3 : u.funcs.length ≤ 9223372036854775807 := by obtain ⟨_, _, _, h, _⟩ := h3; unfold maxLen at h; omega
  have m4 : u.imports.length ≤ 9223372036854775807 := by obtain ⟨_, _, _, h, _⟩ := h4; unfold maxLen at h; omega
  have m5 : u.exports.length ≤ 9223372036854775807 := by obtain ⟨_, _, _, h, _⟩ := h5; unfold maxLen at h; omega
  have HG := hide (Gr.alloc (Gr.refl w) (.cells #[.slice a1 u.shapes.length c1, .slice a2 u.consts.length c2, .slice a3 u.funcs.length c3, .slice a4 u.imports.length c4, .slice a5 u.exports.length c5] 28))
  have HB := hide (Box5.new w 28 (.slice a1 u.shapes.length c1) (.slice a2 u.consts.length c2) (.slice a3 u.funcs.length c3) (.slice a4 u.imports.length c4) (.slice a5 u.exports.length c5))
  have H1 := hide h1
  have H3 := hide h3
  have H4 := hide h4
  have H5 := hide h5
  have HTb := hide hT
  have HU := hide (unitOk_eq u)
  clear h1 h2 h3 h4 h5 hT
  obtain ⟨p0, p1, p2, p3, p4, _⟩ := HB.out
  by_cases hlens : (u.shapes.length : Int) ≤ 20 ∧ (u.consts.length : Int) ≤ 50 ∧ (u.funcs.length : Int) ≤ 30 ∧ (u.imports.length : Int) ≤ 20 ∧ (u.exports.length : Int) ≤ 20
  rotate_left
  · have HF : Hid (unitOk u = false) := hide (by
      rw [HU.out]
      have : (decide ((u.shapes.length : Int) ≤ 20) && (decide ((u.consts.length : Int) ≤ 50) && (decide ((u.funcs.length : Int) ≤ 30) && (decide ((u.imports.length : Int) ≤ 20) && decide ((u.exports.length : Int) ≤ 20))))) = false := by
        rw [Bool.eq_false_iff]; intro h; simp at h; omega
      rw [this]; rfl)
    clear HU
    by_cases q1 : 20 < u.shapes.length
    · go_enter Tryd.func33, Tryd.ntmps33
      go_wp2_with fail
      go_ret
      exact ⟨by rw [HF.out]; rfl, HG.out⟩
    by_cases q2 : 50 < u.consts.length
    · go_enter Tryd.func33, Tryd.ntmps33
      go_wp2_with fail
      go_ret
      exact ⟨by rw [HF.out]; rfl, HG.out⟩
    by_cases q3 : 30 < u.funcs.length
    · go_enter Tryd.func33, Tryd.ntmps33
      go_wp2_with fail
      go_ret
      exact ⟨by rw [HF.out]; rfl, HG.out⟩
    by_cases q4 : 20 < u.imports.length
    · go_enter Tryd.func33, Tryd.ntmps33
      go_wp2_with fail
      go_ret
      exact ⟨by rw [HF.out]; rfl, HG.out⟩
    have q5 : 20 < u.exports.length := by omega
    go_enter Tryd.func33, Tryd.ntmps33
    go_wp2_with fail
    go_ret
    exact ⟨by rw [HF.out]; rfl, HG.out⟩
  obtain ⟨l1, l2, l3, l4, l5⟩ := hlens
  have HK : Hid (unitOk u = (u.shapes.all (shapeOk u.shapes.length) && (u.funcs.all (funcOk u.shapes.length) && (u.imports.all (impOk u.shapes.length) && u.exports.all (expOk u.funcs.length))))) := hide (by
    rw [HU.out, decide_eq_true l1, decide_eq_true l2, decide_eq_true l3, decide_eq_true l4, decide_eq_true l5]; rfl)
  have l1' : ¬ 20 < u.shapes.length := by omega
  have l2' : ¬ 50 < u.consts.length := by omega
  have l3' : ¬ 30 < u.funcs.length := by omega
  have l4' : ¬ 20 < u.imports.length := by omega
  have l5' : ¬ 20 < u.exports.length := by omega
  clear HU
  go_enter Tryd.func33, Tryd.ntmps33
  go_wp2_with fail
  clear p0 p1 p2 p3 p4
  generalize w.alloc (.cells #[.slice a1 u.shapes.length c1, .slice a2 u.consts.length c2, .slice a3 u.funcs.length c3, .slice a4 u.imports.length c4, .slice a5 u.exports.length c5] 28) = W at HB HG ⊢
  go_loopw [4] (fun i wr => ∃ k : Nat, i = .int .i64 k ∧ k ≤ u.shapes.length ∧ (u.shapes.take k).all (shapeOk u.shapes.length) = true ∧ Gr W wr) (fun i _ => u.shapes.length - (intOf i).toNat)
  case atStart => exact ⟨0, rfl, Nat.zero_le _, by simp, Gr.refl _⟩
  case round =>
    obtain ⟨k, rfl, hk, hall, hg⟩ := hrel
    have HA := hide hall
    have HGr := hide hg
    obtain ⟨p0, _, p2, _⟩ := HB.out.gr hg
    clear hall
    by_cases hlt : k < u.shapes.length
    · obtain ⟨a9, c9, h9e, _, hc9⟩ := H1.out
      simp only [Value.slice.injEq, true_and] at h9e
      have hxk : u.shapes[k]? = some u.shapes[k] := List.getElem?_eq_getElem hlt
      obtain ⟨b1, o1, vx, rfl, hx1, hr1⟩ := hc9 k _ hxk
      obtain ⟨rfl, rfl⟩ := h9e
      have hgw := HG.out.trans hg
      have hx1' := hgw.cell hx1 (by simp)
      have HXk := hide hxk
      have HI := hide (kinds_ref _ u.shapes[k] u.shapes.length 8 wr (hr1.gr hgw))
      have hrs := hr1.shape
      generalize u.shapes[k] = x at HXk HI hrs
      obtain ⟨xa, xc, rfl⟩ := hrs
      have HSe : Hid (shapeOk u.shapes.length x = ((x.all (inB u.shapes.length) && decide ((x.length : Int) ≤ 8)) && decide (1 ≤ x.length))) := hide (by
        unfold shapeOk
        generalize x.all (inB u.shapes.length) = a
        have hw : wB x.length 1 8 = (decide ((x.length : Int) ≤ 8) && decide (1 ≤ x.length)) := by unfold wB; rw [Bool.eq_iff_iff, Bool.and_eq_true, decide_eq_true_eq, decide_eq_true_eq, decide_eq_true_eq]; omega
        rw [hw]
        cases a <;> cases decide ((x.length : Int) ≤ 8) <;> cases decide (1 ≤ x.length) <;> rfl)
      generalize (x.all (inB u.shapes.length) && decide ((x.length : Int) ≤ 8)) = P at HI HSe
      clear hc9 hx1 hgw hg hxk hr1
      go_wp2_with fail
      refine HI.out.mono ?_
      rintro y w2 ⟨rfl, e2⟩
      subst e2
      clear HI
      cases P
      · have HFa : Hid (u.shapes.all (shapeOk u.shapes.length) = false) := hide (all_false_at HXk.out (by rw [HSe.out]; rfl))
        go_wp2_with fail
        go_ret
        exact ⟨by rw [HK.out, HFa.out]; rfl, HG.out.trans HGr.out⟩
      · by_cases hx0 : x.length = 0
        · have HFa : Hid (u.shapes.all (shapeOk u.shapes.length) = false) := hide (all_false_at HXk.out (by rw [HSe.out, hx0]; rfl))
          go_wp2_with fail
          go_ret
          exact ⟨by rw [HK.out, HFa.out]; rfl, HG.out.trans HGr.out⟩
        · have HTk : Hid ((u.shapes.take (k + 1)).all (shapeOk u.shapes.length) = true) := hide (by rw [all_take_succ HXk.out, HA.out, HSe.out, decide_eq_true (show 1 ≤ x.length by omega)]; rfl)
          have hx0' : ((x.length : Int) == 0) = false := by simpa using hx0
          go_wp2_with fail
          exact ⟨⟨k + 1, by simp, hlt, HTk.out, HGr.out⟩, by simp [intOf]; omega⟩
    · have hkk : k = u.shapes.length := by omega
      have HE1 : Hid (u.shapes.all (shapeOk u.shapes.length) = true) := hide (by have h := HA.out; rwa [hkk, List.take_length] at h)
      subst hkk
      clear hg HA H1
      go_wp2_with fail
      clear p0 p2
      go_loopw [6] (fun i wr => ∃ k : Nat, i = .int .i64 k ∧ k ≤ u.funcs.length ∧ (u.funcs.take k).all (funcOk u.shapes.length) = true ∧ Gr W wr) (fun i _ => u.funcs.length - (intOf i).toNat)
      case atStart => exact ⟨0, rfl, Nat.zero_le _, by simp, HGr.out⟩
      case round =>
        clear HGr
        obtain ⟨k2, rfl, hk2, hall, hg⟩ := hrel
        have HA := hide hall
        have HGr := hide hg
        obtain ⟨_, _, p2, _⟩ := HB.out.gr hg
        clear hall
        by_cases hlt2 : k2 < u.funcs.length
        · obtain ⟨a9, c9, h9e, _, hc9⟩ := H3.out
          simp only [Value.slice.injEq, true_and] at h9e
          have hxk : u.funcs[k2]? = some u.funcs[k2] := List.getElem?_eq_getElem hlt2
          obtain ⟨b1, o1, y1, y2, y3, rfl, hx1, hx2, hx3, hx4, hr1, hr2, hr3⟩ := hc9 k2 _ hxk
          obtain ⟨rfl, rfl⟩ := h9e
          have hgw := HG.out.trans hg
          have hx1' := hgw.cell hx1 (by simp)
          have hx2' := hgw.cell hx2 (by simp)
          have hx3' := hgw.cell hx3 (by simp)
          have hx4' := hgw.cell hx4 (by simp)
          have HXk := hide hxk
          have HI := hide (function_ref u.funcs[k2] _ _ _ u.shapes.length wr (hr1.gr hgw) (hr2.gr hgw) (hr3.gr hgw) (HTb.out.gr hgw))
          have s1 := hr1.shape
          have s2 := hr2.shape
          have s3 := hr3.shape
          generalize u.funcs[k2] = f at HXk HI s1 s2 s3 hx2'
          obtain ⟨y1a, y1c, rfl⟩ := s1
          obtain ⟨y2a, y2c, rfl⟩ := s2
          obtain ⟨y3a, y3c, rfl⟩ := s3
          clear hc9 hx1 hx2 hx3 hx4 hgw hg hxk hr1 hr2 hr3
          go_wp2_with fail
          refine HI.out.mono ?_
          rintro y w2 ⟨rfl, hg2⟩
          have HG2 := hide (HGr.out.trans hg2)
          clear HI hg2 hx1' hx2' hx3' hx4' p2
          cases hi : funcOk u.shapes.length f
          · have HFa : Hid (u.funcs.all (funcOk u.shapes.length) = false) := hide (all_false_at HXk.out hi)
            go_wp2_with fail
            go_ret
            exact ⟨by rw [HK.out, HE1.out, HFa.out]; rfl, HG.out.trans HG2.out⟩
          · have HTk : Hid ((u.funcs.take (k2 + 1)).all (funcOk u.shapes.length) = true) := hide (by rw [all_take_succ HXk.out, HA.out, hi]; rfl)
            go_wp2_with fail
            exact ⟨⟨k2 + 1, by simp, hlt2, HTk.out, HG2.out⟩, by simp [intOf]; omega⟩
        · have hkk2 : k2 = u.funcs.length := by omega
          have HE2 : Hid (u.funcs.all (funcOk u.shapes.length) = true) := hide (by have h := HA.out; rwa [hkk2, List.take_length] at h)
          subst hkk2
          clear hg HA H3
          go_wp2_with fail
          clear p2
          go_loopw [8] (fun i wr => ∃ k : Nat, i = .int .i64 k ∧ k ≤ u.imports.length ∧ (u.imports.take k).all (impOk u.shapes.length) = true ∧ Gr W wr) (fun i _ => u.imports.length - (intOf i).toNat)
          case atStart => exact ⟨0, rfl, Nat.zero_le _, by simp, HGr.out⟩
          case round =>
            clear HGr
            obtain ⟨k3, rfl, hk3, hall, hg⟩ := hrel
            have HA := hide hall
            have HGr := hide hg
            obtain ⟨_, _, _, p3, _⟩ := HB.out.gr hg
            clear hall
            by_cases hlt3 : k3 < u.imports.length
            · obtain ⟨a9, c9, h9e, _, hc9⟩ := H4.out
              simp only [Value.slice.injEq, true_and] at h9e
              have hxk : u.imports[k3]? = some u.imports[k3] := List.getElem?_eq_getElem hlt3
              obtain ⟨b1, o1, y1, y2, rfl, hx1, hx2, hx3, hr1, hr2⟩ := hc9 k3 _ hxk
              obtain ⟨rfl, rfl⟩ := h9e
              have hgw := HG.out.trans hg
              have hx1' := hgw.cell hx1 (by simp)
              have hx2' := hgw.cell hx2 (by simp)
              have hx3' := hgw.cell hx3 (by simp)
              have HXk := hide hxk
              have HR2 := hide (hr2.gr hgw)
              have s2 := hr2.shape
              generalize u.imports[k3] = x at HXk HR2 s2 hr1 hx3'
              obtain ⟨y2a, y2c, rfl⟩ := s2
              obtain ⟨s, rfl, hs1, hs2⟩ := hr1
              have hgI := Gr.alloc (Gr.refl wr) (.cells #[.string s, .slice y2a x.params.length y2c, .int .i64 x.result] 79)
              have HBI := hide (Box3.new wr 79 (.string s) (.slice y2a x.params.length y2c) (.int .i64 x.result))
              have HGI := hide (HGr.out.trans hgI)
              have HNm := fun V : World => hide (named_ref s V hs2)
              have HKi := hide (kinds_ref _ x.params u.shapes.length 6 _ (HR2.out.gr hgI))
              have HSe : Hid (impOk u.shapes.length x = (nameOk s.data.toList && ((x.params.all (inB u.shapes.length) && decide ((x.params.length : Int) ≤ 6)) && inB u.shapes.length x.result))) := hide (by
                unfold impOk sigOk
                rw [len_dec, hs1]
                generalize nameOk x.name = n
                generalize x.params.all (inB u.shapes.length) = a
                cases n <;> cases a <;> cases decide ((x.params.length : Int) ≤ 6) <;> cases inB (u.shapes.length : Int) x.result <;> rfl)
              generalize (x.params.all (inB u.shapes.length) && decide ((x.params.length : Int) ≤ 6)) = P at HKi HSe
              generalize nameOk s.data.toList = Nm at HNm HSe
              clear hc9 hx1 hx2 hx3 hgw hg hxk hr2 hgI hs1 hs2
              go_wp2_with fail
              clear hx1' hx2' hx3' p3
              refine (HNm _).out.mono ?_
              rintro y w2 ⟨rfl, e2⟩
              subst e2
              obtain ⟨i0, i1, i2, _⟩ := HBI.out
              go_wp2_with fail
              refine HKi.out.mono ?_
              rintro y w2 ⟨rfl, e2⟩
              subst e2
              clear HKi HNm
              cases Nm
              · have HFa : Hid (u.imports.all (impOk u.shapes.length) = false) := hide (all_false_at HXk.out (by rw [HSe.out]; rfl))
                go_wp2_with fail
                go_ret
                exact ⟨by rw [HK.out, HE1.out, HE2.out, HFa.out]; rfl, HG.out.trans HGI.out⟩
              cases P
              · have HFa : Hid (u.imports.all (impOk u.shapes.length) = false) := hide (all_false_at HXk.out (by rw [HSe.out]; rfl))
                go_wp2_with fail
                go_ret
                exact ⟨by rw [HK.out, HE1.out, HE2.out, HFa.out]; rfl, HG.out.trans HGI.out⟩
              by_cases r0 : x.result < 0
              · have HFa : Hid (u.imports.all (impOk u.shapes.length) = false) := hide (all_false_at HXk.out (by rw [HSe.out, show inB (u.shapes.length : Int) x.result = false by simp [inB, wB]; omega]; rfl))
                go_wp2_with fail
                go_ret
                exact ⟨by rw [HK.out, HE1.out, HE2.out, HFa.out]; rfl, HG.out.trans HGI.out⟩
              by_cases r1 : (u.shapes.length : Int) < x.result
              · have HFa : Hid (u.imports.all (impOk u.shapes.length) = false) := hide (all_false_at HXk.out (by rw [HSe.out, show inB (u.shapes.length : Int) x.result = false by simp [inB, wB]; omega]; rfl))
                go_wp2_with fail
                go_ret
                exact ⟨by rw [HK.out, HE1.out, HE2.out, HFa.out]; rfl, HG.out.trans HGI.out⟩
              have HTk : Hid ((u.imports.take (k3 + 1)).all (impOk u.shapes.length) = true) := hide (by rw [all_take_succ HXk.out, HA.out, HSe.out, show inB (u.shapes.length : Int) x.result = true by simp [inB, wB]; omega]; rfl)
              go_wp2_with fail
              exact ⟨⟨k3 + 1, by simp, hlt3, HTk.out, HGI.out⟩, by simp [intOf]; omega⟩
            · have hkk3 : k3 = u.imports.length := by omega
              have HE3 : Hid (u.imports.all (impOk u.shapes.length) = true) := hide (by have h := HA.out; rwa [hkk3, List.take_length] at h)
              subst hkk3
              clear hg HA H4
              go_wp2_with fail
              clear p3
              go_loopw [12] (fun i wr => ∃ k : Nat, i = .int .i64 k ∧ k ≤ u.exports.length ∧ (u.exports.take k).all (expOk u.funcs.length) = true ∧ Gr W wr) (fun i _ => u.exports.length - (intOf i).toNat)
              case atStart => exact ⟨0, rfl, Nat.zero_le _, by simp, HGr.out⟩
              case round =>
                clear HGr
                obtain ⟨k4, rfl, hk4, hall, hg⟩ := hrel
                have HA := hide hall
                have HGr := hide hg
                obtain ⟨_, _, _, _, p4, _⟩ := HB.out.gr hg
                clear hall
                by_cases hlt4 : k4 < u.exports.length
                · obtain ⟨a9, c9, h9e, _, hc9⟩ := H5.out
                  simp only [Value.slice.injEq, true_and] at h9e
                  have hxk : u.exports[k4]? = some u.exports[k4] := List.getElem?_eq_getElem hlt4
                  obtain ⟨b1, o1, y1, rfl, hx1, hx2, hr1⟩ := hc9 k4 _ hxk
                  obtain ⟨rfl, rfl⟩ := h9e
                  have hgw := HG.out.trans hg
                  have hx1' := hgw.cell hx1 (by simp)
                  have hx2' := hgw.cell hx2 (by simp)
                  have HXk := hide hxk
                  generalize u.exports[k4] = x at HXk hr1 hx2'
                  obtain ⟨s, rfl, hs1, hs2⟩ := hr1
                  have hgI := Gr.alloc (Gr.refl wr) (.cells #[.string s, .int .i64 x.func] 81)
                  have HBI := hide (Box2.new wr 81 (.string s) (.int .i64 x.func))
                  have HGI := hide (HGr.out.trans hgI)
                  have HNm := fun V : World => hide (named_ref s V hs2)
                  have HSe : Hid (expOk u.funcs.length x = (nameOk s.data.toList && wB x.func 0 ((u.funcs.length : Int) - 1))) := hide (by unfold expOk; rw [hs1])
                  generalize nameOk s.data.toList = Nm at HNm HSe
                  have hpf : (wr.alloc (.cells #[.string s, .int .i64 x.func] 81)).cell? ⟨w.heap.size, 2, none⟩ = some (.slice a3 u.funcs.length c3) := hgI.cell (HB.out.gr hg).2.2.1 (by simp)
                  clear hc9 hx1 hx2 hgw hg hxk hgI hs1 hs2
                  go_wp2_with fail
                  clear hx1' hx2' p4
                  refine (HNm _).out.mono ?_
                  rintro y w2 ⟨rfl, e2⟩
                  subst e2
                  obtain ⟨i0, i1, _⟩ := HBI.out
                  clear HNm
                  cases Nm
                  · have HFa : Hid (u.exports.all (expOk u.funcs.length) = false) := hide (all_false_at HXk.out (by rw [HSe.out]; rfl))
                    go_wp2_with fail
                    go_ret
                    exact ⟨by rw [HK.out, HE1.out, HE2.out, HE3.out, HFa.out]; rfl, HG.out.trans HGI.out⟩
                  by_cases r0 : x.func < 0
                  · have HFa : Hid (u.exports.all (expOk u.funcs.length) = false) := hide (all_false_at HXk.out (by rw [HSe.out, show wB x.func 0 ((u.funcs.length : Int) - 1) = false by simp [wB]; omega]; rfl))
                    go_wp2_with fail
                    go_ret
                    exact ⟨by rw [HK.out, HE1.out, HE2.out, HE3.out, HFa.out]; rfl, HG.out.trans HGI.out⟩
                  by_cases r1 : (u.funcs.length : Int) ≤ x.func
                  · have HFa : Hid (u.exports.all (expOk u.funcs.length) = false) := hide (all_false_at HXk.out (by rw [HSe.out, show wB x.func 0 ((u.funcs.length : Int) - 1) = false by simp [wB]; omega]; rfl))
                    go_wp2_with fail
                    go_ret
                    exact ⟨by rw [HK.out, HE1.out, HE2.out, HE3.out, HFa.out]; rfl, HG.out.trans HGI.out⟩
                  have HTk : Hid ((u.exports.take (k4 + 1)).all (expOk u.funcs.length) = true) := hide (by rw [all_take_succ HXk.out, HA.out, HSe.out, show wB x.func 0 ((u.funcs.length : Int) - 1) = true by simp [wB]; omega]; rfl)
                  go_wp2_with fail
                  exact ⟨⟨k4 + 1, by simp, hlt4, HTk.out, HGI.out⟩, by simp [intOf]; omega⟩
                · have hkk4 : k4 = u.exports.length := by omega
                  have HE4 : Hid (u.exports.all (expOk u.funcs.length) = true) := hide (by have h := HA.out; rwa [hkk4, List.take_length] at h)
                  subst hkk4
                  clear hg HA
                  go_wp2_with fail
                  go_ret
                  exact ⟨by rw [HK.out, HE1.out, HE2.out, HE3.out, HE4.out]; rfl, HG.out.trans HGr.out⟩
end Go.Proofs.YtkgncijcnlfhiaaDoor

