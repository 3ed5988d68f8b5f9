import Derived.Test.YtkgncijcnlfhiaaDoorF3
import Derived.Test.YtkgncijcnlfhiaaDoorH1
namespace Go.Proofs.YtkgncijcnlfhiaaDoor
set_option linter.unusedVariables false
set_option linter.unusedSimpArgs false
open Go.RowKit
attribute [local go_sem ↓] Go.wp_at_zero Go.wp_at_succ
theorem gr_drewN {w w' : World} (h : Gr w w') (n : Nat) : Gr w (w'.drewN n) := ⟨h.os, h.tape, h.output, h.size, h.block⟩
set_option maxRecDepth 100000 in
set_option maxHeartbeats 1000000 in
theorem same_ints (va vb : Value) (l : List Int) (w : World) (ha : RInts w va l) (hb : RInts w vb l) :
    Calls Tryd.prog 35 #[va, vb] w fun x w' => x = .returned (.bool true) ∧ Gr w w' := by
  have HA := hide ha
  have HBb := hide hb
  obtain ⟨a1, c1, rfl, hm, _⟩ := ha
  obtain ⟨a2, c2, rfl, _, _⟩ := hb
  unfold maxLen at hm
  go_enter Tryd.func35, Tryd.ntmps35
  go_wp2_with fail
  go_loopw [5] (fun i wr => ∃ k : Nat, i = .int .i64 k ∧ k ≤ l.length ∧ Gr w wr) (fun i _ => l.length - (intOf i).toNat)
  case atStart => exact ⟨0, rfl, Nat.zero_le _, Gr.refl _⟩
  case round =>
    obtain ⟨k, rfl, hk, hg⟩ := hrel
    by_cases hlt : k < l.length
    · obtain ⟨a1', c1', h1e, _, hc1⟩ := HA.out
      obtain ⟨a2', c2', h2e, _, hc2⟩ := HBb.out
      simp only [Value.slice.injEq, true_and] at h1e h2e
      obtain ⟨b1, o1, rfl, hx1⟩ := hc1 k hlt
      obtain ⟨b2, o2, rfl, hx2⟩ := hc2 k hlt
      obtain ⟨rfl, rfl⟩ := h1e
      obtain ⟨rfl, rfl⟩ := h2e
      have hy1 := hg.cell hx1 (by simp)
      have hy2 := hg.cell hx2 (by simp)
      generalize l.getD k 0 = x at hy1 hy2 hx1 hx2
      have HG := hide hg
      clear hc1 hc2 hx1 hx2 hg HA HBb
      go_wp2_with fail
      go_quiet (fail)
      go_wp2_with fail
      exact ⟨⟨k + 1, by simp, hlt, gr_drewN HG.out _⟩, by simp [intOf]; omega⟩
    · have hkk : k = l.length := by omega
      subst hkk
      have HG := hide hg
      clear hg
      go_wp2_with fail
      go_ret
      exact ⟨rfl, HG.out⟩
set_option maxRecDepth 100000 in
set_option maxHeartbeats 1000000 in
theorem same_code (va vb : Value) (l : List PIns) (w : World) (ha : RCode w va l) (hb : RCode w vb l) :
    Calls Tryd.prog 36 #[va, vb] w fun x w' => x = .returned (.bool true) ∧ Gr w w' := by
  have HA := hide ha
  have HBb := hide hb
  obtain ⟨a1, c1, rfl, hm, _⟩ := ha
  obtain ⟨a2, c2, rfl, _, _⟩ := hb
  unfold maxLen at hm
  go_enter Tryd.func36, Tryd.ntmps36
  go_wp2_with fail
  go_loopw [5] (fun i wr => ∃ k : Nat, i = .int .i64 k ∧ k ≤ l.length ∧ Gr w wr) (fun i _ => l.length - (intOf i).toNat)
  case atStart => exact ⟨0, rfl, Nat.zero_le _, Gr.refl _⟩
  case round =>
    obtain ⟨k, rfl, hk, hg⟩ := hrel
    by_cases hlt : k < l.length
    · obtain ⟨a1', c1', h1e, _, hc1⟩ := HA.out
      obtain ⟨a2', c2', h2e, _, hc2⟩ := HBb.out
      simp only [Value.slice.injEq, true_and] at h1e h2e
      obtain ⟨b1, o1, rfl, hx1, hx2, hx3⟩ := hc1 k _ (List.getElem?_eq_getElem hlt)
      obtain ⟨b2, o2, rfl, hz1, hz2, hz3⟩ := hc2 k _ (List.getElem?_eq_getElem hlt)
      obtain ⟨rfl, rfl⟩ := h1e
      obtain ⟨rfl, rfl⟩ := h2e
      have hx1' := hg.cell hx1 (by simp)
      have hx2' := hg.cell hx2 (by simp)
      have hx3' := hg.cell hx3 (by simp)
      have hz1' := hg.cell hz1 (by simp)
      have hz2' := hg.cell hz2 (by simp)
      have hz3' := hg.cell hz3 (by simp)
      generalize l[k] = c at hx1' hx2' hx3' hz1' hz2' hz3'
      have HG := hide hg
      clear hc1 hc2 hx1 hx2 hx3 hz1 hz2 hz3 hg HA HBb
      go_wp2_with fail
      go_quiet (fail)
      clear hx1' hx2' hx3' hz1' hz2' hz3'
      go_wp2_with fail
      exact ⟨⟨k + 1, by simp, hlt, gr_drewN HG.out _⟩, by simp [intOf]; omega⟩
    · have hkk : k = l.length := by omega
      subst hkk
      have HG := hide hg
      clear hg
      go_wp2_with fail
      go_ret
      exact ⟨rfl, HG.out⟩
end Go.Proofs.YtkgncijcnlfhiaaDoor

namespace Go.Proofs.YtkgncijcnlfhiaaDoor
set_option linter.unusedVariables false
set_option linter.unusedSimpArgs false
open Go.RowKit
attribute [local go_sem ↓] Go.wp_at_zero Go.wp_at_succ
theorem bytes_same {a b : ByteArray} (h : a.data.toList = b.data.toList) : a = b := by
  cases a; cases b; simp at h; rw [h]
set_option maxRecDepth 100000 in
set_option maxHeartbeats 8000000 in
theorem same_unit (va vb : Value) (u : PUnit) (w : World) (ha : RUnit w va u) (hb : RUnit w vb u) :
    Calls Tryd.prog 15 #[va, vb] w fun x w' => x = .returned (.bool true) ∧ Gr w w' := by
  obtain ⟨v1, v2, v3, v4, v5, rfl, h1, h2, h3, h4, h5⟩ := ha
  obtain ⟨a1, c1, rfl⟩ := h1.shape
  obtain ⟨a2, c2, rfl⟩ := h2.shape
  obtain ⟨a3, c3, rfl⟩ := h3.shape
  obtain ⟨a4, c4, rfl⟩ := h4.shape
  obtain ⟨a5, c5, rfl⟩ := h5.shape
  obtain ⟨w1, w2, w3, w4, w5, rfl, k1, k2, k3, k4, k5⟩ := hb
  obtain ⟨d1, e1, rfl⟩ := k1.shape
  obtain ⟨d2, e2, rfl⟩ := k2.shape
  obtain ⟨d3, e3, rfl⟩ := k3.shape
  obtain ⟨d4, e4, rfl⟩ := k4.shape
  obtain ⟨d5, e5, rfl⟩ := k5.shape
  have m1 : u.shapes.length ≤ 9223372036854775807 := by obtain ⟨_, _, _, hm, _⟩ := h1; unfold maxLen at hm; omega
  have m3 : u.funcs.length ≤ 9223372036854775807 := by obtain ⟨_, _, _, hm, _⟩ := h3; unfold maxLen at hm; omega
  have m4 : u.imports.length ≤ 9223372036854775807 := by obtain ⟨_, _, _, hm, _⟩ := h4; unfold maxLen at hm; omega
  have m5 : u.exports.length ≤ 9223372036854775807 := by obtain ⟨_, _, _, hm, _⟩ := h5; unfold maxLen at hm; omega
  have hgA := Gr.alloc (Gr.refl w) (.cells #[.slice a1 u.shapes.length c1, .slice a2 u.consts.length c2, .slice a3 u.funcs.length c3, .slice a4 u.imports.length c4, .slice a5 u.exports.length c5] 28)
  have hgB := Gr.alloc (Gr.refl (w.alloc (.cells #[.slice a1 u.shapes.length c1, .slice a2 u.consts.length c2, .slice a3 u.funcs.length c3, .slice a4 u.imports.length c4, .slice a5 u.exports.length c5] 28))) (.cells #[.slice d1 u.shapes.length e1, .slice d2 u.consts.length e2, .slice d3 u.funcs.length e3, .slice d4 u.imports.length e4, .slice d5 u.exports.length e5] 28)
  have HGW := hide (hgA.trans hgB)
  have HBA := hide ((Box5.new w 28 (.slice a1 u.shapes.length c1) (.slice a2 u.consts.length c2) (.slice a3 u.funcs.length c3) (.slice a4 u.imports.length c4) (.slice a5 u.exports.length c5)).gr hgB)
  have hbb := Box5.new (w.alloc (.cells #[.slice a1 u.shapes.length c1, .slice a2 u.consts.length c2, .slice a3 u.funcs.length c3, .slice a4 u.imports.length c4, .slice a5 u.exports.length c5] 28)) 28 (.slice d1 u.shapes.length e1) (.slice d2 u.consts.length e2) (.slice d3 u.funcs.length e3) (.slice d4 u.imports.length e4) (.slice d5 u.exports.length e5)
  rw [show (w.alloc (.cells #[.slice a1 u.shapes.length c1, .slice a2 u.consts.length c2, .slice a3 u.funcs.length c3, .slice a4 u.imports.length c4, .slice a5 u.exports.length c5] 28)).heap.size = w.heap.size + 1 by simp] at hbb
  have HBB := hide hbb
  have H1 := hide h1
  have H2 := hide h2
  have H3 := hide h3
  have H4 := hide h4
  have H5 := hide h5
  have K1 := hide k1
  have K2 := hide k2
  have K3 := hide k3
  have K4 := hide k4
  have K5 := hide k5
  clear h1 h2 h3 h4 h5 k1 k2 k3 k4 k5 hgA hgB hbb
  go_enter Tryd.func15, Tryd.ntmps15
  go_wp2_with fail
  refine (same_ints _ _ u.consts _ (H2.out.gr HGW.out) (K2.out.gr HGW.out)).mono ?_
  generalize ((w.alloc (.cells #[.slice a1 u.shapes.length c1, .slice a2 u.consts.length c2, .slice a3 u.funcs.length c3, .slice a4 u.imports.length c4, .slice a5 u.exports.length c5] 28)).alloc (.cells #[.slice d1 u.shapes.length e1, .slice d2 u.consts.length e2, .slice d3 u.funcs.length e3, .slice d4 u.imports.length e4, .slice d5 u.exports.length e5] 28)) = W1 at HGW HBA HBB ⊢
  rintro x w1 ⟨rfl, hg1⟩
  have hba := HBA.out.gr hg1
  have hbb := HBB.out.gr hg1
  obtain ⟨p0, p1, p2, p3, p4, _, _, _, _, _⟩ := hba
  obtain ⟨q0, q1, q2, q3, q4, _, _, _, _, _⟩ := hbb
  have HG1 := hide hg1
  clear hg1
  go_wp2_with fail
  clear p0 p1 p2 p3 p4 q0 q1 q2 q3 q4
  go_loopw [6] (fun i wr => ∃ k : Nat, i = .int .i64 k ∧ k ≤ u.shapes.length ∧ Gr W1 wr) (fun i _ => u.shapes.length - (intOf i).toNat)
  case atStart => exact ⟨0, rfl, Nat.zero_le _, HG1.out⟩
  case round =>
    obtain ⟨k, rfl, hk, hg⟩ := hrel
    have HG := hide hg
    obtain ⟨p0, _⟩ := HBA.out.gr hg
    obtain ⟨q0, _⟩ := HBB.out.gr hg
    clear HG1
    by_cases hlt : k < u.shapes.length
    · have hgw := HGW.out.trans hg
      obtain ⟨a1', c1', h1e, _, hc1⟩ := H1.out
      obtain ⟨d1', e1', k1e, _, hd1⟩ := K1.out
      simp only [Value.slice.injEq, true_and] at h1e k1e
      obtain ⟨b1, o1, x1, rfl, hx1, hr1⟩ := hc1 k _ (List.getElem?_eq_getElem hlt)
      obtain ⟨b2, o2, x2, rfl, hx2, hr2⟩ := hd1 k _ (List.getElem?_eq_getElem hlt)
      obtain ⟨rfl, rfl⟩ := h1e
      obtain ⟨rfl, rfl⟩ := k1e
      have hy1 := hgw.cell hx1 (by simp)
      have hy2 := hgw.cell hx2 (by simp)
      have HR1 := hide ((hr1.gr hgw).gr (Gr.drew (Gr.refl _)))
      have HR2 := hide ((hr2.gr hgw).gr (Gr.drew (Gr.refl _)))
      generalize u.shapes[k] = xx at HR1 HR2
      obtain ⟨xa, xc, hxe⟩ := HR1.out.shape
      obtain ⟨ya, yc, hye⟩ := HR2.out.shape
      subst hxe hye
      clear hc1 hd1 hx1 hx2 hg hgw hr1 hr2
      go_wp2_with fail
      go_region_held3 (fun w' => w'.cell? ⟨w.heap.size, 0, none⟩ = some (.slice (some ⟨b1, o1, none⟩) u.shapes.length c1) ∧ w'.cell? ⟨w.heap.size + 1, 0, none⟩ = some (.slice (some ⟨b2, o2, none⟩) u.shapes.length e1) ∧ w'.cell? ⟨b1, o1 + k, none⟩ = some (.slice xa xx.length xc) ∧ w'.cell? ⟨b2, o2 + k, none⟩ = some (.slice ya xx.length yc)) (first | (refine ⟨?_, ?_, ?_, ?_⟩ <;> exact hg'.cell (by assumption) (by simp)) | go_keep) (first | (go_at_call 35; refine (same_ints _ _ xx _ (by exact HR1.out) (by exact HR2.out)).mono ?_; rintro e w' ⟨rfl, hg'⟩))
      have HGn := hide (Gr.trans (Gr.drew HG.out) hg')
      clear hg' hy1 hy2 p0 q0
      go_wp2_with fail
      exact ⟨⟨k + 1, by simp, hlt, HGn.out⟩, by simp [intOf]; omega⟩
    · have hkk : k = u.shapes.length := by omega
      subst hkk
      clear hg H1 K1
      go_wp2_with fail
      clear p0 q0
      go_loopw [8] (fun i wr => ∃ k : Nat, i = .int .i64 k ∧ k ≤ u.funcs.length ∧ Gr W1 wr) (fun i _ => u.funcs.length - (intOf i).toNat)
      case atStart => exact ⟨0, rfl, Nat.zero_le _, HG.out⟩
      case round =>
        obtain ⟨k, rfl, hk, hg⟩ := hrel
        clear HG
        have HG := hide hg
        obtain ⟨_, _, p2, _⟩ := HBA.out.gr hg
        obtain ⟨_, _, q2, _⟩ := HBB.out.gr hg
        by_cases hlt : k < u.funcs.length
        · have hgw := HGW.out.trans hg
          obtain ⟨a3', c3', h1e, _, hc1⟩ := H3.out
          obtain ⟨d3', e3', k1e, _, hd1⟩ := K3.out
          simp only [Value.slice.injEq, true_and] at h1e k1e
          obtain ⟨b1, o1, y1, y2, y3, rfl, hx1, hx2, hx3, hx4, hr1, hr2, hr3⟩ := hc1 k _ (List.getElem?_eq_getElem hlt)
          obtain ⟨b2, o2, z1, z2, z3, rfl, hz1, hz2, hz3, hz4, hs1, hs2, hs3⟩ := hd1 k _ (List.getElem?_eq_getElem hlt)
          obtain ⟨rfl, rfl⟩ := h1e
          obtain ⟨rfl, rfl⟩ := k1e
          have hx1' := hgw.cell hx1 (by simp)
          have hx2' := hgw.cell hx2 (by simp)
          have hx3' := hgw.cell hx3 (by simp)
          have hx4' := hgw.cell hx4 (by simp)
          have hz1' := hgw.cell hz1 (by simp)
          have hz2' := hgw.cell hz2 (by simp)
          have hz3' := hgw.cell hz3 (by simp)
          have hz4' := hgw.cell hz4 (by simp)
          have HR1 := hide (hr1.gr hgw)
          have HR2 := hide (hr2.gr hgw)
          have HR3 := hide (hr3.gr hgw)
          have HS1 := hide (hs1.gr hgw)
          have HS2 := hide (hs2.gr hgw)
          have HS3 := hide (hs3.gr hgw)
          obtain ⟨y1a, y1c, rfl⟩ := hr1.shape
          obtain ⟨y2a, y2c, rfl⟩ := hr2.shape
          obtain ⟨y3a, y3c, rfl⟩ := hr3.shape
          obtain ⟨z1a, z1c, rfl⟩ := hs1.shape
          obtain ⟨z2a, z2c, rfl⟩ := hs2.shape
          obtain ⟨z3a, z3c, rfl⟩ := hs3.shape
          generalize u.funcs[k] = f at HR1 HR2 HR3 HS1 HS2 HS3 hx1' hx2' hx3' hx4' hz1' hz2' hz3' hz4'
          have mc : f.code.length ≤ 9223372036854775807 := by obtain ⟨_, _, _, hm, _⟩ := HR3.out; unfold maxLen at hm; omega
          clear hc1 hd1 hx1 hx2 hx3 hx4 hz1 hz2 hz3 hz4 hg hgw hr1 hr2 hr3 hs1 hs2 hs3
          have hgF := Gr.alloc (Gr.refl wr) (.cells #[.slice y1a f.params.length y1c, .int .i64 f.result, .slice y2a f.locals.length y2c, .slice y3a f.code.length y3c] 76)
          have hgG := Gr.alloc (Gr.refl (wr.alloc (.cells #[.slice y1a f.params.length y1c, .int .i64 f.result, .slice y2a f.locals.length y2c, .slice y3a f.code.length y3c] 76))) (.cells #[.slice z1a f.params.length z1c, .int .i64 f.result, .slice z2a f.locals.length z2c, .slice z3a f.code.length z3c] 76)
          have HGF := hide (hgF.trans hgG)
          have HBF := hide ((Box4.new wr 76 (.slice y1a f.params.length y1c) (.int .i64 f.result) (.slice y2a f.locals.length y2c) (.slice y3a f.code.length y3c)).gr hgG)
          have hbg := Box4.new (wr.alloc (.cells #[.slice y1a f.params.length y1c, .int .i64 f.result, .slice y2a f.locals.length y2c, .slice y3a f.code.length y3c] 76)) 76 (.slice z1a f.params.length z1c) (.int .i64 f.result) (.slice z2a f.locals.length z2c) (.slice z3a f.code.length z3c)
          rw [show (wr.alloc (.cells #[.slice y1a f.params.length y1c, .int .i64 f.result, .slice y2a f.locals.length y2c, .slice y3a f.code.length y3c] 76)).heap.size = wr.heap.size + 1 by simp] at hbg
          have HBG := hide hbg
          have q2' := hgF.cell q2 (by simp)
          have hz1a := hgF.cell hz1' (by simp)
          have hz2a := hgF.cell hz2' (by simp)
          have hz3a := hgF.cell hz3' (by simp)
          have hz4a := hgF.cell hz4' (by simp)
          clear hgF hgG hbg
          go_wp2_with fail
          clear p2 q2 q2' hx1' hx2' hx3' hx4' hz1' hz2' hz3' hz4' hz1a hz2a hz3a hz4a
          refine (same_ints _ _ f.params _ (HR1.out.gr HGF.out) (HS1.out.gr HGF.out)).mono ?_
          have HGW2 := hide (HG.out.trans HGF.out)
          generalize (wr.alloc (.cells #[.slice y1a f.params.length y1c, .int .i64 f.result, .slice y2a f.locals.length y2c, .slice y3a f.code.length y3c] 76)).alloc (.cells #[.slice z1a f.params.length z1c, .int .i64 f.result, .slice z2a f.locals.length z2c, .slice z3a f.code.length z3c] 76) = W2 at HGF HBF HBG HGW2 ⊢
          rintro x w5 ⟨rfl, hg5⟩
          have hbf := HBF.out.gr hg5
          have hbg := HBG.out.gr hg5
          have HG5 := hide hg5
          obtain ⟨f0, f1, f2, f3, _⟩ := hbf
          obtain ⟨g0, g1, g2, g3, _⟩ := hbg
          clear hg5
          go_wp2_with fail
          refine (same_ints _ _ f.locals _ ((HR2.out.gr HGF.out).gr HG5.out) ((HS2.out.gr HGF.out).gr HG5.out)).mono ?_
          rintro x w6 ⟨rfl, hg6⟩
          have hg56 := HG5.out.trans hg6
          clear f0 f1 f2 f3 g0 g1 g2 g3
          have hbf := HBF.out.gr hg56
          have hbg := HBG.out.gr hg56
          have HG6 := hide hg56
          obtain ⟨f0, f1, f2, f3, _⟩ := hbf
          obtain ⟨g0, g1, g2, g3, _⟩ := hbg
          clear hg6 hg56 HG5
          go_wp2_with fail
          refine (same_code _ _ f.code _ ((HR3.out.gr HGF.out).gr HG6.out) ((HS3.out.gr HGF.out).gr HG6.out)).mono ?_
          rintro x w7 ⟨rfl, hg7⟩
          have hg67 := HG6.out.trans hg7
          clear f0 f1 f2 f3 g0 g1 g2 g3
          have hbf := HBF.out.gr hg67
          have hbg := HBG.out.gr hg67
          have HG7 := hide hg67
          obtain ⟨f0, f1, f2, f3, _⟩ := hbf
          obtain ⟨g0, g1, g2, g3, _⟩ := hbg
          clear hg7 hg67 HG6
          go_wp2_with fail
          exact ⟨⟨k + 1, by simp, hlt, HGW2.out.trans HG7.out⟩, by simp [intOf]; omega⟩
        · have hkk : k = u.funcs.length := by omega
          subst hkk
          clear hg H3 K3
          go_wp2_with fail
          clear p2 q2
          go_loopw [14] (fun i wr => ∃ k : Nat, i = .int .i64 k ∧ k ≤ u.imports.length ∧ Gr W1 wr) (fun i _ => u.imports.length - (intOf i).toNat)
          case atStart => exact ⟨0, rfl, Nat.zero_le _, HG.out⟩
          case round =>
            obtain ⟨k, rfl, hk, hg⟩ := hrel
            clear HG
            have HG := hide hg
            obtain ⟨_, _, _, p3, _⟩ := HBA.out.gr hg
            obtain ⟨_, _, _, q3, _⟩ := HBB.out.gr hg
            by_cases hlt : k < u.imports.length
            · have hgw := HGW.out.trans hg
              obtain ⟨a4', c4', h1e, _, hc1⟩ := H4.out
              obtain ⟨d4', e4', k1e, _, hd1⟩ := K4.out
              simp only [Value.slice.injEq, true_and] at h1e k1e
              obtain ⟨b1, o1, y1, y2, rfl, hx1, hx2, hx3, hr1, hr2⟩ := hc1 k _ (List.getElem?_eq_getElem hlt)
              obtain ⟨b2, o2, z1, z2, rfl, hz1, hz2, hz3, hs1, hs2⟩ := hd1 k _ (List.getElem?_eq_getElem hlt)
              obtain ⟨rfl, rfl⟩ := h1e
              obtain ⟨rfl, rfl⟩ := k1e
              have hx1' := hgw.cell hx1 (by simp)
              have hx2' := hgw.cell hx2 (by simp)
              have hx3' := hgw.cell hx3 (by simp)
              have hz1' := hgw.cell hz1 (by simp)
              have hz2' := hgw.cell hz2 (by simp)
              have hz3' := hgw.cell hz3 (by simp)
              have HR2 := hide ((hr2.gr hgw).gr (Gr.drew (Gr.refl _)))
              have HS2 := hide ((hs2.gr hgw).gr (Gr.drew (Gr.refl _)))
              obtain ⟨s1, rfl, hn1, _⟩ := hr1
              obtain ⟨s2, rfl, hn2, _⟩ := hs1
              obtain rfl : s1 = s2 := bytes_same (hn1.trans hn2.symm)
              generalize u.imports[k] = i at HR2 HS2 hx1' hx2' hx3' hz1' hz2' hz3'
              obtain ⟨xa, xc, hxe⟩ := HR2.out.shape
              obtain ⟨ya, yc, hye⟩ := HS2.out.shape
              subst hxe hye
              clear hc1 hd1 hx1 hx2 hx3 hz1 hz2 hz3 hg hgw hr2 hs2 hn1 hn2
              go_wp2_with fail
              go_region_held3 (fun w' => w'.cell? ⟨w.heap.size, 3, none⟩ = some (.slice (some ⟨b1, o1, none⟩) u.imports.length c4) ∧ w'.cell? ⟨w.heap.size + 1, 3, none⟩ = some (.slice (some ⟨b2, o2, none⟩) u.imports.length e4) ∧ w'.cell? ⟨b1, o1 + k * 3 + 1, none⟩ = some (.slice xa i.params.length xc) ∧ w'.cell? ⟨b2, o2 + k * 3 + 1, none⟩ = some (.slice ya i.params.length yc)) (first | (refine ⟨?_, ?_, ?_, ?_⟩ <;> exact hg'.cell (by assumption) (by simp)) | go_keep) (first | (go_at_call 35; refine (same_ints _ _ i.params _ (by exact HR2.out) (by exact HS2.out)).mono ?_; rintro e w' ⟨rfl, hg'⟩))
              have hgd := Gr.trans (Gr.drew (Gr.refl wr)) hg'
              have HGn := hide (HG.out.trans hgd)
              have hx1n := hgd.cell hx1' (by simp)
              have hx3n := hgd.cell hx3' (by simp)
              have hz1n := hgd.cell hz1' (by simp)
              have hz3n := hgd.cell hz3' (by simp)
              have p3n := hgd.cell p3 (by simp)
              have q3n := hgd.cell q3 (by simp)
              clear hg' hgd hx1' hx2' hx3' hz1' hz2' hz3' p3 q3
              go_wp2_with fail
              go_quiet (fail)
              clear hx1n hx3n hz1n hz3n p3n q3n
              go_wp2_with fail
              exact ⟨⟨k + 1, by simp, hlt, gr_drewN HGn.out _⟩, by simp [intOf]; omega⟩
            · have hkk : k = u.imports.length := by omega
              subst hkk
              clear hg H4 K4
              go_wp2_with fail
              clear p3 q3
              go_loopw [16] (fun i wr => ∃ k : Nat, i = .int .i64 k ∧ k ≤ u.exports.length ∧ Gr W1 wr) (fun i _ => u.exports.length - (intOf i).toNat)
              case atStart => exact ⟨0, rfl, Nat.zero_le _, HG.out⟩
              case round =>
                obtain ⟨k, rfl, hk, hg⟩ := hrel
                clear HG
                have HG := hide hg
                obtain ⟨_, _, _, _, p4, _⟩ := HBA.out.gr hg
                obtain ⟨_, _, _, _, q4, _⟩ := HBB.out.gr hg
                by_cases hlt : k < u.exports.length
                · have hgw := HGW.out.trans hg
                  obtain ⟨a5', c5', h1e, _, hc1⟩ := H5.out
                  obtain ⟨d5', e5', k1e, _, hd1⟩ := K5.out
                  simp only [Value.slice.injEq, true_and] at h1e k1e
                  obtain ⟨b1, o1, y1, rfl, hx1, hx2, hr1⟩ := hc1 k _ (List.getElem?_eq_getElem hlt)
                  obtain ⟨b2, o2, z1, rfl, hz1, hz2, hs1⟩ := hd1 k _ (List.getElem?_eq_getElem hlt)
                  obtain ⟨rfl, rfl⟩ := h1e
                  obtain ⟨rfl, rfl⟩ := k1e
                  have hx1' := hgw.cell hx1 (by simp)
                  have hx2' := hgw.cell hx2 (by simp)
                  have hz1' := hgw.cell hz1 (by simp)
                  have hz2' := hgw.cell hz2 (by simp)
                  obtain ⟨s1, rfl, hn1, _⟩ := hr1
                  obtain ⟨s2, rfl, hn2, _⟩ := hs1
                  obtain rfl : s1 = s2 := bytes_same (hn1.trans hn2.symm)
                  generalize u.exports[k] = i at hx1' hx2' hz1' hz2'
                  clear hc1 hd1 hx1 hx2 hz1 hz2 hg hgw hn1 hn2
                  go_wp2_with fail
                  go_quiet (fail)
                  clear hx1' hx2' hz1' hz2' p4 q4
                  go_wp2_with fail
                  exact ⟨⟨k + 1, by simp, hlt, gr_drewN HG.out _⟩, by simp [intOf]; omega⟩
                · have hkk : k = u.exports.length := by omega
                  subst hkk
                  clear hg
                  go_wp2_with fail
                  go_ret
                  exact ⟨rfl, HGW.out.trans HG.out⟩
end Go.Proofs.YtkgncijcnlfhiaaDoor

