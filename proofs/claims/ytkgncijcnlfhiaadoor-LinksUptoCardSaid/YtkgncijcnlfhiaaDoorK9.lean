import Derived.Test.YtkgncijcnlfhiaaDoorF3
import Derived.Test.YtkgncijcnlfhiaaDoorG2
import Derived.Test.YtkgncijcnlfhiaaDoorK7
import Derived.Test.YtkgncijcnlfhiaaDoorK4
import Derived.Test.YtkgncijcnlfhiaaDoorF4
import Derived.Deep.Cut
import Derived.Deep.CutRange
import Derived.Test.YtkgncijcnlfhiaaDoorHk
namespace Go.Proofs.YtkgncijcnlfhiaaDoor
set_option linter.unusedVariables false
set_option linter.unusedSimpArgs false
open Go.RowKit
attribute [local go_sem ↓] Go.wp_at_zero Go.wp_at_succ
theorem eq_of_getD {l m : List Int} (hl : l.length = m.length) (h : ∀ j, j < l.length → l.getD j 0 = m.getD j 0) : l = m := by
  apply List.ext_getElem hl
  intro i h1 h2
  have := h i h1
  rw [List.getD_eq_getElem?_getD, List.getD_eq_getElem?_getD, List.getElem?_eq_getElem h1, List.getElem?_eq_getElem h2] at this
  exact this
set_option maxRecDepth 100000 in
set_option maxHeartbeats 1000000 in
theorem ref_same_ints (va vb : Value) (l m : List Int) (w : World) (ha : RInts w va l) (hb : RInts w vb m) :
    Calls Tryd.prog 109 #[va, vb] w fun x w' => x = .returned (.bool (decide (l = m))) ∧ Gr w w' := by
  have HA := hide ha
  have HBb := hide hb
  obtain ⟨a1, c1, rfl, hm, _⟩ := ha
  obtain ⟨a2, c2, rfl, hm2, _⟩ := hb
  unfold maxLen at hm hm2
  by_cases hlen : l.length = m.length
  · have hne : ((l.length : Int) != (m.length : Int)) = false := by simp [hlen]
    have hM : m.length = l.length := hlen.symm
    have HLen := hide hlen
    rw [hM] at hne ⊢
    clear hlen
    have HMM := hide hM
    clear hM
    go_enter Tryd.func109, Tryd.ntmps109
    go_wp2_with fail
    go_loopw [5] (fun i wr => ∃ k : Nat, i = .int .i64 k ∧ k ≤ l.length ∧ (∀ j, j < k → l.getD j 0 = m.getD j 0) ∧ Gr w wr) (fun i _ => l.length - (intOf i).toNat)
    case atStart => exact ⟨0, rfl, Nat.zero_le _, fun j h => by omega, Gr.refl _⟩
    case round =>
      obtain ⟨k, rfl, hk, hall, hg⟩ := hrel
      have HAll := hide hall
      clear hall
      by_cases hlt : k < l.length
      · obtain ⟨a1', c1', h1e, _, hc1⟩ := HA.out
        obtain ⟨a2', c2', h2e, _, hc2⟩ := HBb.out
        rw [HMM.out] at h2e hc2
        simp only [Value.slice.injEq, true_and] at h1e h2e
        obtain ⟨b1, o1, rfl, hx1⟩ := hc1 k hlt
        obtain ⟨b2, o2, rfl, hx2⟩ := hc2 k hlt
        obtain ⟨rfl, rfl⟩ := h1e
        obtain ⟨rfl, rfl⟩ := h2e
        have hy1 := hg.cell hx1 (by simp)
        have hy2 := hg.cell hx2 (by simp)
        have HX : ∀ x y, l.getD k 0 = x → m.getD k 0 = y → Hid (l.getD k 0 = x ∧ m.getD k 0 = y) := fun x y h1 h2 => hide ⟨h1, h2⟩
        obtain ⟨x, hx⟩ : ∃ x, l.getD k 0 = x := ⟨_, rfl⟩
        obtain ⟨y, hy⟩ : ∃ y, m.getD k 0 = y := ⟨_, rfl⟩
        have HXY := HX x y hx hy
        rw [hx] at hy1
        rw [hy] at hy2
        have HG := hide hg
        clear hc1 hc2 hx1 hx2 hg HA HBb HX hx hy
        by_cases hxy : x = y
        · have hb1 : (x != y) = false := by simp [hxy]
          have HA2 : Hid (∀ j, j < k + 1 → l.getD j 0 = m.getD j 0) := hide (fun j hj => by
            by_cases e : j = k
            · subst e; rw [HXY.out.1, HXY.out.2, hxy]
            · exact HAll.out j (by omega))
          clear hxy
          go_wp2_with fail
          go_quiet (fail)
          go_wp2_with fail
          exact ⟨⟨k + 1, by simp, hlt, HA2.out, gr_drewN HG.out _⟩, by simp [intOf]; omega⟩
        · have hb1 : (x != y) = true := by simp [hxy]
          have HD : Hid (decide (l = m) = false) := hide (by
            rw [decide_eq_false_iff_not]; intro e; subst e; exact hxy (HXY.out.1.symm.trans HXY.out.2))
          clear hxy
          go_wp2_with fail
          go_quiet (fail)
          go_wp2_with fail
          go_ret
          exact ⟨by rw [HD.out]; rfl, gr_drewN HG.out _⟩
      · have hkk : k = l.length := by omega
        subst hkk
        have HD : Hid (decide (l = m) = true) := hide (by rw [decide_eq_true_eq]; exact eq_of_getD HLen.out HAll.out)
        have HG := hide hg
        clear hg
        go_wp2_with fail
        go_ret
        exact ⟨by rw [HD.out]; rfl, HG.out⟩
  · have hne : ((l.length : Int) != (m.length : Int)) = true := by rw [bne_iff_ne]; omega
    have HD : Hid (decide (l = m) = false) := hide (by rw [decide_eq_false_iff_not]; intro e; subst e; exact hlen rfl)
    clear hlen
    go_enter Tryd.func109, Tryd.ntmps109
    go_wp2_with fail
    go_ret
    exact ⟨by rw [HD.out]; rfl, Gr.refl _⟩
end Go.Proofs.YtkgncijcnlfhiaaDoor

namespace Go.Proofs.YtkgncijcnlfhiaaDoor
set_option linter.unusedVariables false
set_option linter.unusedSimpArgs false
open Go.RowKit
attribute [local go_sem ↓] Go.wp_at_zero Go.wp_at_succ
set_option maxRecDepth 100000 in
set_option maxHeartbeats 1000000 in
theorem ref_same_shapes (va vb : Value) (l m : List (List Int)) (w : World) (ha : RShapes w va l) (hb : RShapes w vb m) :
    Calls Tryd.prog 107 #[va, vb] w fun x w' => x = .returned (.bool (decide (l = m))) ∧ Gr w w' := by
  have HA := hide ha
  have HBb := hide hb
  obtain ⟨a1, c1, rfl, hm, _⟩ := ha
  obtain ⟨a2, c2, rfl, hm2, _⟩ := hb
  unfold maxLen at hm hm2
  by_cases hlen : l.length = m.length
  · have hne : ((l.length : Int) != (m.length : Int)) = false := by simp [hlen]
    have hM : m.length = l.length := hlen.symm
    have HLen := hide hlen
    rw [hM] at hne ⊢
    clear hlen
    have HMM := hide hM
    clear hM
    go_enter Tryd.func107, Tryd.ntmps107
    go_wp2_with fail
    go_loopw [5] (fun i wr => ∃ k : Nat, i = .int .i64 k ∧ k ≤ l.length ∧ (∀ j, j < k → l[j]? = m[j]?) ∧ Gr w wr) (fun i _ => l.length - (intOf i).toNat)
    case atStart => exact ⟨0, rfl, Nat.zero_le _, fun j h => by omega, Gr.refl _⟩
    case round =>
      obtain ⟨k, rfl, hk, hall, hg⟩ := hrel
      have HAll := hide hall
      clear hall
      by_cases hlt : k < l.length
      · obtain ⟨a1', c1', h1e, _, hc1⟩ := HA.out
        obtain ⟨a2', c2', h2e, _, hc2⟩ := HBb.out
        rw [HMM.out] at h2e
        simp only [Value.slice.injEq, true_and] at h1e h2e
        obtain ⟨x, hx⟩ : ∃ x, l[k]? = some x := ⟨_, List.getElem?_eq_getElem hlt⟩
        obtain ⟨y, hy⟩ : ∃ y, m[k]? = some y := ⟨_, List.getElem?_eq_getElem (by rw [HMM.out]; exact hlt)⟩
        obtain ⟨b1, o1, vx, rfl, hx1, hi1⟩ := hc1 k x hx
        obtain ⟨b2, o2, vy, rfl, hx2, hi2⟩ := hc2 k y hy
        obtain ⟨rfl, rfl⟩ := h1e
        obtain ⟨rfl, rfl⟩ := h2e
        have hy1 := hg.cell hx1 (by simp)
        have hy2 := hg.cell hx2 (by simp)
        have HXY := hide (And.intro hx hy)
        have HI1 := hide (hi1.gr hg)
        have HI2 := hide (hi2.gr hg)
        have HG := hide hg
        clear hc1 hc2 hx1 hx2 hg HA HBb hx hy hi1 hi2
        obtain ⟨ax, cx, rfl, _, _⟩ := HI1.out
        obtain ⟨ay, cy, rfl, _, _⟩ := HI2.out
        by_cases hxy : x = y
        · have HD : Hid (decide (x = y) = true) := hide (by simp [hxy])
          have HA2 : Hid (∀ j, j < k + 1 → l[j]? = m[j]?) := hide (fun j hj => by
            by_cases e : j = k
            · subst e; rw [HXY.out.1, HXY.out.2, hxy]
            · exact HAll.out j (by omega))
          clear hxy
          have HSm : Hid (∀ V : World, Gr wr V → Calls Tryd.prog 109 #[.slice ax x.length cx, .slice ay y.length cy] V fun e w' => e = .returned (.bool true) ∧ Gr V w') := hide (fun V g => by
            have := ref_same_ints _ _ x y V (HI1.out.gr g) (HI2.out.gr g)
            rwa [HD.out] at this)
          go_wp2_with fail
          go_region_held3 (fun w' => w'.cell? ⟨b1, o1 + k, none⟩ = some (.slice ax x.length cx) ∧ w'.cell? ⟨b2, o2 + k, none⟩ = some (.slice ay y.length cy)) (first | go_keep | exact ⟨hg'.cell (by assumption) (by simp), hg'.cell (by assumption) (by simp)⟩) (first | (go_at_call 109; refine (HSm.out _ (by first | exact Gr.drew (Gr.refl _) | exact Gr.refl _)).mono ?_; rintro e w' ⟨rfl, hg'⟩))
          have HG2 := hide (HG.out.trans (Gr.trans (Gr.drew (Gr.refl wr)) hg'))
          clear hg'
          go_wp2_with fail
          exact ⟨⟨k + 1, by simp, hlt, HA2.out, HG2.out⟩, by simp [intOf]; omega⟩
        · have HE : Hid (decide (x = y) = false) := hide (by simp [hxy])
          have HD : Hid (decide (l = m) = false) := hide (by
            rw [decide_eq_false_iff_not]; intro e; subst e; have := HXY.out.1.symm.trans HXY.out.2; cases this; exact hxy rfl)
          clear hxy
          have HSm : Hid (∀ V : World, Gr wr V → Calls Tryd.prog 109 #[.slice ax x.length cx, .slice ay y.length cy] V fun e w' => e = .returned (.bool false) ∧ Gr V w') := hide (fun V g => by
            have := ref_same_ints _ _ x y V (HI1.out.gr g) (HI2.out.gr g)
            rwa [HE.out] at this)
          go_wp2_with fail
          go_region_held3 (fun w' => w'.cell? ⟨b1, o1 + k, none⟩ = some (.slice ax x.length cx) ∧ w'.cell? ⟨b2, o2 + k, none⟩ = some (.slice ay y.length cy)) (first | go_keep | exact ⟨hg'.cell (by assumption) (by simp), hg'.cell (by assumption) (by simp)⟩) (first | (go_at_call 109; refine (HSm.out _ (by first | exact Gr.drew (Gr.refl _) | exact Gr.refl _)).mono ?_; rintro e w' ⟨rfl, hg'⟩))
          have HG2 := hide (HG.out.trans (Gr.trans (Gr.drew (Gr.refl wr)) hg'))
          clear hg'
          go_wp2_with fail
          go_ret
          exact ⟨by rw [HD.out]; rfl, HG2.out⟩
      · have hkk : k = l.length := by omega
        subst hkk
        have HD : Hid (decide (l = m) = true) := hide (by
          rw [decide_eq_true_eq]; apply List.ext_getElem?; intro j
          by_cases hj : j < l.length
          · exact HAll.out j hj
          · rw [List.getElem?_eq_none (by omega), List.getElem?_eq_none (by have := HLen.out; omega)])
        have HG := hide hg
        clear hg
        go_wp2_with fail
        go_ret
        exact ⟨by rw [HD.out]; rfl, HG.out⟩
  · have hne : ((l.length : Int) != (m.length : Int)) = true := by rw [bne_iff_ne]; omega
    have HD : Hid (decide (l = m) = false) := hide (by rw [decide_eq_false_iff_not]; intro e; subst e; exact hlen rfl)
    clear hlen
    go_enter Tryd.func107, Tryd.ntmps107
    go_wp2_with fail
    go_ret
    exact ⟨by rw [HD.out]; rfl, Gr.refl _⟩
end Go.Proofs.YtkgncijcnlfhiaaDoor

namespace Go.Proofs.YtkgncijcnlfhiaaDoor
set_option linter.unusedVariables false
set_option linter.unusedSimpArgs false
open Go.RowKit
attribute [local go_sem ↓] Go.wp_at_zero Go.wp_at_succ
theorem RUnits.at_all {w : World} {v : Value} {l : List PUnit} (h : RUnits w v l) {a : Nat} {u : PUnit} (hu : l[a]? = some u) : ∃ b off cap a1 c1 a2 c2 a3 c3 a4 c4 a5 c5, v = .slice (some ⟨b, off, none⟩) l.length cap ∧ w.cell? ⟨b, off + a * 5, none⟩ = some (.slice a1 u.shapes.length c1) ∧ w.cell? ⟨b, off + a * 5 + 1, none⟩ = some (.slice a2 u.consts.length c2) ∧ w.cell? ⟨b, off + a * 5 + 2, none⟩ = some (.slice a3 u.funcs.length c3) ∧ w.cell? ⟨b, off + a * 5 + 3, none⟩ = some (.slice a4 u.imports.length c4) ∧ w.cell? ⟨b, off + a * 5 + 4, none⟩ = some (.slice a5 u.exports.length c5) ∧ RUnit w (.agg #[.slice a1 u.shapes.length c1, .slice a2 u.consts.length c2, .slice a3 u.funcs.length c3, .slice a4 u.imports.length c4, .slice a5 u.exports.length c5]) u := by
  obtain ⟨ao, cap, rfl, hm, hc⟩ := h
  obtain ⟨b, off, v1, v2, v3, v4, v5, rfl, c1, c2, c3, c4, c5, hr⟩ := hc a u hu
  have hr' := hr
  obtain ⟨y1, y2, y3, y4, y5, hv, k1, k2, k3, k4, k5⟩ := hr
  simp only [Value.agg.injEq, Array.mk.injEq, List.cons.injEq, and_true] at hv
  obtain ⟨rfl, rfl, rfl, rfl, rfl⟩ := hv
  obtain ⟨x1, d1, rfl⟩ := k1.shape
  obtain ⟨x2, d2, rfl⟩ := k2.shape
  obtain ⟨x3, d3, rfl⟩ := k3.shape
  obtain ⟨x4, d4, rfl⟩ := k4.shape
  obtain ⟨x5, d5, rfl⟩ := k5.shape
  exact ⟨b, off, cap, _, _, _, _, _, _, _, _, _, _, rfl, c1, c2, c3, c4, c5, hr'⟩
theorem RUnit.lowK {W w : World} {v : Value} {u : PUnit} (h : RUnit W v u) (g : Below W.heap.size W w) : RUnit w v u := by
  obtain ⟨v1, v2, v3, v4, v5, hv, h1, h2, h3, h4, h5⟩ := h
  exact ⟨v1, v2, v3, v4, v5, hv, h1.below g, h2.below g, h3.below g, h4.below g, h5.below g⟩
theorem RUnits.low {W w : World} {v : Value} {l : List PUnit} (h : RUnits W v l) (g : Below W.heap.size W w) : RUnits w v l := by
  obtain ⟨ao, cap, hv, hm, hc⟩ := h
  refine ⟨ao, cap, hv, hm, fun i x hi => ?_⟩
  obtain ⟨b, off, v1, v2, v3, v4, v5, h1, k1, k2, k3, k4, k5, hu⟩ := hc i x hi
  exact ⟨b, off, v1, v2, v3, v4, v5, h1, below_cell g k1, below_cell g k2, below_cell g k3, below_cell g k4, below_cell g k5, hu.lowK g⟩
theorem RUnits.at_both {w0 w : World} {v : Value} {l : List PUnit} (h : RUnits w0 v l) (g : Below w0.heap.size w0 w) {a : Nat} {u : PUnit} (hu : l[a]? = some u) : ∃ b off cap a1 c1 a2 c2 a3 c3 a4 c4 a5 c5, v = .slice (some ⟨b, off, none⟩) l.length cap ∧ w.cell? ⟨b, off + a * 5, none⟩ = some (.slice a1 u.shapes.length c1) ∧ w.cell? ⟨b, off + a * 5 + 1, none⟩ = some (.slice a2 u.consts.length c2) ∧ w.cell? ⟨b, off + a * 5 + 2, none⟩ = some (.slice a3 u.funcs.length c3) ∧ w.cell? ⟨b, off + a * 5 + 3, none⟩ = some (.slice a4 u.imports.length c4) ∧ w.cell? ⟨b, off + a * 5 + 4, none⟩ = some (.slice a5 u.exports.length c5) ∧ RUnit w0 (.agg #[.slice a1 u.shapes.length c1, .slice a2 u.consts.length c2, .slice a3 u.funcs.length c3, .slice a4 u.imports.length c4, .slice a5 u.exports.length c5]) u := by
  obtain ⟨b, off, cap, a1, c1, a2, c2, a3, c3, a4, c4, a5, c5, hv, y1, y2, y3, y4, y5, hr⟩ := h.at_all hu
  exact ⟨b, off, cap, a1, c1, a2, c2, a3, c3, a4, c4, a5, c5, hv, below_cell g y1, below_cell g y2, below_cell g y3, below_cell g y4, below_cell g y5, hr⟩
def BoolR (p : Bool) (w : World) (x : Ending) (w' : World) : Prop := x = .returned (.bool p) ∧ Gr w w'
set_option maxRecDepth 100000 in
set_option maxHeartbeats 2000000 in
theorem refused_1 (l : List PUnit) (vl : Value) (k : Nat) (u : PUnit) (w : World) (hR : RUnits w vl l) (hu : l[k]? = some u) (hT : Tab w) :
    Calls Tryd.prog 49 #[vl, .int .i64 (k : Int), .int .i64 1] w (BoolR (!unitOk u) w) := by
  have hkl : k < l.length := (List.getElem?_eq_some_iff.1 hu).1
  obtain ⟨b, off, cap, a1, c1, a2, c2, a3, c3, a4, c4, a5, c5, rfl, x1, x2, x3, x4, x5, hr⟩ := hR.at_all hu
  have hd0 : (0 : Int) ≤ (k : Int) := by omega
  have hd1 : (k : Int) < (l.length : Int) := by omega
  have HR := hide hr
  have HT := hide hT
  clear hr hT hR
  go_enter Tryd.func49, Tryd.ntmps49
  go_wp2_with fail
  have HG := hide ((Gr.refl w).alloc (.cells #[.slice a1 u.shapes.length c1, .slice a2 u.consts.length c2, .slice a3 u.funcs.length c3, .slice a4 u.imports.length c4, .slice a5 u.exports.length c5] 28))
  refine (right_ref u _ _ (HR.out.gr HG.out) (HT.out.gr HG.out)).mono ?_
  rintro x w1 ⟨rfl, hg⟩
  have HG1 := hide (HG.out.trans hg)
  clear hg
  go_wp2_with fail
  go_ret
  exact ⟨rfl, HG1.out⟩
theorem Tryd.callSs (vals : Array Value) (w : World) : (callFunc 107 vals).run Tryd.prog w = .ok (.enter 107 vals) w := by kernel_rfl
end Go.Proofs.YtkgncijcnlfhiaaDoor

namespace Go.Proofs.YtkgncijcnlfhiaaDoor
set_option linter.unusedVariables false
set_option linter.unusedSimpArgs false
open Go.RowKit
attribute [local go_sem ↓] Go.wp_at_zero Go.wp_at_succ
set_option maxRecDepth 100000 in
set_option maxHeartbeats 2000000 in
theorem refused_5 (l : List PUnit) (vl : Value) (k : Nat) (u u0 : PUnit) (w : World) (hR : RUnits w vl l) (hu : l[k]? = some u) (hu0 : l[0]? = some u0) :
    Calls Tryd.prog 49 #[vl, .int .i64 (k : Int), .int .i64 5] w (BoolR (!decide (u.shapes = u0.shapes)) w) := by
  have hkl : k < l.length := (List.getElem?_eq_some_iff.1 hu).1
  obtain ⟨b, off, cap, a1, c1, a2, c2, a3, c3, a4, c4, a5, c5, rfl, x1, x2, x3, x4, x5, hr⟩ := hR.at_all hu
  have hd0 : (0 : Int) ≤ (k : Int) := by omega
  have hd1 : (k : Int) < (l.length : Int) := by omega
  have HR := hide hr
  have HRl := hide hR
  have HG := hide ((Gr.refl w).alloc (.cells #[.slice a1 u.shapes.length c1, .slice a2 u.consts.length c2, .slice a3 u.funcs.length c3, .slice a4 u.imports.length c4, .slice a5 u.exports.length c5] 28))
  have HBX := hide (heap_alloc_new w (.cells #[.slice a1 u.shapes.length c1, .slice a2 u.consts.length c2, .slice a3 u.funcs.length c3, .slice a4 u.imports.length c4, .slice a5 u.exports.length c5] 28))
  clear hr hR
  obtain ⟨b', off', cap', z1, z2, _, _, _, _, _, _, _, _, hv, y1, _, _, _, _, hr0⟩ := HRl.out.at_all hu0
  simp only [Value.slice.injEq, Option.some.injEq, Addr.mk.injEq, and_true, true_and] at hv
  obtain ⟨⟨rfl, rfl⟩, rfl⟩ := hv
  have y1 : w.cell? ⟨b, off, none⟩ = some (.slice z1 u0.shapes.length z2) := y1
  have HR0 := hide hr0
  have hl0 : (0 : Int) < (l.length : Int) := by omega
  have hl0n : 0 < l.length := by omega
  have HY := hide y1
  clear hr0
  go_enter Tryd.func49, Tryd.ntmps49
  go_upto_region 6 with fail
  obtain ⟨e0, e1, e2, e3, e4⟩ := heap_box5 HBX.out
  generalize (w.alloc (.cells #[.slice a1 u.shapes.length c1, .slice a2 u.consts.length c2, .slice a3 u.funcs.length c3, .slice a4 u.imports.length c4, .slice a5 u.exports.length c5] 28)) = W at HG HBX e0 e1 e2 e3 e4 ⊢
  have KS : Hid (∀ w', Gr W w' → (fun w' : World => w'.cell? ⟨w.heap.size, 0, none⟩ = some (.slice a1 u.shapes.length c1) ∧ w'.cell? ⟨b, off, none⟩ = some (.slice z1 u0.shapes.length z2)) w') := hide (fun w' g => ⟨g.cell e0 (by simp), (HG.out.trans g).cell HY.out (by simp)⟩)
  clear e0 e1 e2 e3 e4 x1 x2 x3 x4 x5 y1
  go_wp2_with fail
  refine wp_region_held_drew (S := (fun w' : World => w'.cell? ⟨w.heap.size, 0, none⟩ = some (.slice a1 u.shapes.length c1) ∧ w'.cell? ⟨b, off, none⟩ = some (.slice z1 u0.shapes.length z2))) (by kernel_rfl) (KS.out _ (Gr.drew (Gr.refl _))) (fun hHeld => ?_)
  refine takeL (i := 0) (v := ?sv0) rfl (by kernel_rfl) (by kernel_rfl) (by kernel_rfl) (by intro c a w h; exact h) (by rfl) ?shy0 hHeld ?srest0
  case shy0 => (intro w hSw; (try dsimp only at hSw); go_simp <;> with_reducible rfl)
  simp only [Act.put, List.setIfInBounds_toArray, List.set_cons_zero, List.set_cons_succ]
  refine takeL (i := 1) (v := ?sv1) rfl (by kernel_rfl) (by kernel_rfl) (by kernel_rfl) (by intro c a w h; exact h) (by rfl) ?shy1 hHeld ?srest1
  case shy1 => (intro w hSw; (try dsimp only at hSw); go_simp <;> with_reducible rfl)
  simp only [Act.put, List.setIfInBounds_toArray, List.set_cons_zero, List.set_cons_succ]
  refine takeL (i := 2) (v := ?sv2) rfl (by kernel_rfl) (by kernel_rfl) (by kernel_rfl) (by intro c a w h; exact h) (by rfl) ?shy2 hHeld ?srest2
  case shy2 => (intro w hSw; (try dsimp only at hSw); go_simp <;> with_reducible rfl)
  simp only [Act.put, List.setIfInBounds_toArray, List.set_cons_zero, List.set_cons_succ]
  refine takeL (i := 3) (v := ?sv3) rfl (by kernel_rfl) (by kernel_rfl) (by kernel_rfl) (by intro c a w h; exact h) (by rfl) ?shy3 hHeld ?srest3
  case shy3 => (intro w hSw; (try dsimp only at hSw); go_simp <;> with_reducible rfl)
  simp only [Act.put, List.setIfInBounds_toArray, List.set_cons_zero, List.set_cons_succ]
  refine takeL (i := 4) (v := ?sv4) rfl (by kernel_rfl) (by kernel_rfl) (by kernel_rfl) (by intro c a w h; exact h) (by rfl) ?shy4 hHeld ?srest4
  case shy4 => (intro w hSw; (try dsimp only at hSw); go_simp <;> with_reducible rfl)
  simp only [Act.put, List.setIfInBounds_toArray, List.set_cons_zero, List.set_cons_succ]
  refine takeL (i := 5) (v := ?sv5) rfl (by kernel_rfl) (by kernel_rfl) (by kernel_rfl) (by intro c a w h; exact h) (by rfl) ?shy5 hHeld ?srest5
  case shy5 => (intro w hSw; (try dsimp only at hSw); go_simp <;> with_reducible rfl)
  simp only [Act.put, List.setIfInBounds_toArray, List.set_cons_zero, List.set_cons_succ]
  refine aloneL (i := 6) rfl (by kernel_rfl) (fun K hK => ?_)
  obtain ⟨_, _, _, _, _, hvv, k1, _⟩ := HR.out
  simp only [Value.agg.injEq, Array.mk.injEq, List.cons.injEq, and_true] at hvv
  obtain ⟨rfl, rfl, rfl, rfl, rfl⟩ := hvv
  obtain ⟨_, _, _, _, _, hvv, j1, _⟩ := HR0.out
  simp only [Value.agg.injEq, Array.mk.injEq, List.cons.injEq, and_true] at hvv
  obtain ⟨rfl, _⟩ := hvv
  have HGD : Hid (Gr w W.drew) := hide (HG.out.trans (Gr.drew (Gr.refl _)))
  refine step_calls_w rfl 107 _ _ rfl #[.slice a1 u.shapes.length c1, .slice z1 u0.shapes.length z2] (by simp [Act.eval]) (Tryd.callSs _ _) ((ref_same_shapes _ _ u.shapes u0.shapes _ (k1.gr HGD.out) (j1.gr HGD.out)).mono ?_)
  rintro x w1 ⟨rfl, hg⟩
  have HG1 := hide ((Gr.drew (Gr.refl W)).trans hg)
  refine .inl ⟨_, rfl, ?_⟩
  refine hK.out _ _ (KS.out _ HG1.out) (fun hHeld => ?_)
  clear hK
  try simp only [Act.put, List.setIfInBounds_toArray, List.set_cons_zero, List.set_cons_succ]
  refine takeL (i := 7) (v := ?tv7) rfl (by kernel_rfl) (by kernel_rfl) (by kernel_rfl) (by intro c a w h; exact h) (by rfl) ?thy7 hHeld ?trest7
  case thy7 => (intro w hSw; (try dsimp only at hSw); go_simp <;> with_reducible rfl)
  simp only [Act.put, List.setIfInBounds_toArray, List.set_cons_zero, List.set_cons_succ]
  refine wpAnyH_done (by kernel_rfl) ?_ _
  clear hHeld KS hg
  go_wp2_with fail
  go_ret
  exact ⟨rfl, HG.out.trans HG1.out⟩
/-- an answer that is right -/
def RefR (P : Prop) (w : World) (x : Ending) (w' : World) : Prop := ∃ p : Bool, x = .returned (.bool p) ∧ (p = true ↔ P) ∧ Gr w w'
theorem RUnit.expAt {w : World} {v1 v2 v3 v4 : Value} {a5 : Option Addr} {c5 : Nat} {u : PUnit} (h : RUnit w (.agg #[v1, v2, v3, v4, .slice a5 u.exports.length c5]) u) {i : Nat} {e : PExp} (he : u.exports[i]? = some e) : ∃ xb xo s, a5 = some ⟨xb, xo, none⟩ ∧ w.cell? ⟨xb, xo + i * 2, none⟩ = some (.string s) ∧ s.data.toList = e.name := by
  obtain ⟨y1, y2, y3, y4, y5, hv, k1, k2, k3, k4, k5⟩ := h
  simp only [Value.agg.injEq, Array.mk.injEq, List.cons.injEq, and_true] at hv
  obtain ⟨rfl, rfl, rfl, rfl, rfl⟩ := hv
  obtain ⟨ao, cp, hv, hm, hx⟩ := k5
  simp only [Value.slice.injEq, true_and] at hv
  obtain ⟨rfl, rfl⟩ := hv
  obtain ⟨xb, xo, vs, q1, q2, q3, s, rfl, q5, _⟩ := hx i e he
  exact ⟨xb, xo, s, q1, q2, q5⟩
theorem RUnit.impAt {w : World} {v1 v2 v3 v5 : Value} {a4 : Option Addr} {c4 : Nat} {u : PUnit} (h : RUnit w (.agg #[v1, v2, v3, .slice a4 u.imports.length c4, v5]) u) {i : Nat} {e : PImp} (he : u.imports[i]? = some e) : ∃ xb xo s pa pc, a4 = some ⟨xb, xo, none⟩ ∧ w.cell? ⟨xb, xo + i * 3, none⟩ = some (.string s) ∧ s.data.toList = e.name ∧ w.cell? ⟨xb, xo + i * 3 + 1, none⟩ = some (.slice pa e.params.length pc) ∧ RInts w (.slice pa e.params.length pc) e.params ∧ w.cell? ⟨xb, xo + i * 3 + 2, none⟩ = some (.int .i64 e.result) := by
  obtain ⟨y1, y2, y3, y4, y5, hv, k1, k2, k3, k4, k5⟩ := h
  simp only [Value.agg.injEq, Array.mk.injEq, List.cons.injEq, and_true] at hv
  obtain ⟨rfl, rfl, rfl, rfl, rfl⟩ := hv
  obtain ⟨ao, cp, hv, hm, hx⟩ := k4
  simp only [Value.slice.injEq, true_and] at hv
  obtain ⟨rfl, rfl⟩ := hv
  obtain ⟨xb, xo, vs, vp, q1, q2, q3, q4, ⟨s, rfl, q5, _⟩, q6⟩ := hx i e he
  obtain ⟨pa, pc, rfl⟩ := q6.shape
  exact ⟨xb, xo, s, pa, pc, q1, q2, q5, q3, q6, q4⟩
set_option maxRecDepth 100000 in
set_option maxHeartbeats 2000000 in
theorem refused_6 (l : List PUnit) (vl : Value) (k : Nat) (u : PUnit) (w : World) (hR : RUnits w vl l) (hu : l[k]? = some u) (hl : l.length ≤ 6) (hE : ∀ u ∈ l, u.exports.length ≤ 20) :
    Calls Tryd.prog 49 #[vl, .int .i64 (k : Int), .int .i64 6] w (RefR (∃ i e, u.exports[i]? = some e ∧ 0 < (expoK e.name k i 0 l (0, 0, 0)).1) w) := by
  have hkl : k < l.length := (List.getElem?_eq_some_iff.1 hu).1
  obtain ⟨b, off, cap, a1, c1, a2, c2, a3, c3, a4, c4, a5, c5, rfl, x1, x2, x3, x4, x5, hr⟩ := hR.at_all hu
  have hd0 : (0 : Int) ≤ (k : Int) := by omega
  have hd1 : (k : Int) < (l.length : Int) := by omega
  have HR := hide hr
  have HRl := hide hR
  have HG := hide ((Gr.refl w).alloc (.cells #[.slice a1 u.shapes.length c1, .slice a2 u.consts.length c2, .slice a3 u.funcs.length c3, .slice a4 u.imports.length c4, .slice a5 u.exports.length c5] 28))
  have HBX := hide (heap_alloc_new w (.cells #[.slice a1 u.shapes.length c1, .slice a2 u.consts.length c2, .slice a3 u.funcs.length c3, .slice a4 u.imports.length c4, .slice a5 u.exports.length c5] 28))
  clear hr hR
  have hx20 := hE u (List.mem_of_getElem? hu)
  go_enter Tryd.func49, Tryd.ntmps49
  go_upto_region 9 with fail
  obtain ⟨e0, e1, e2, e3, e4⟩ := heap_box5 HBX.out
  generalize (w.alloc (.cells #[.slice a1 u.shapes.length c1, .slice a2 u.consts.length c2, .slice a3 u.funcs.length c3, .slice a4 u.imports.length c4, .slice a5 u.exports.length c5] 28)) = W at HG HBX e0 e1 e2 e3 e4 ⊢
  clear e0 e1 e2 e3 x1 x2 x3 x4 x5
  go_wp2_with fail
  go_loopw [10] (fun iv wr => ∃ i : Nat, i ≤ u.exports.length ∧ iv = .int .i64 (i : Int) ∧ Hid (∀ j e, j < i → u.exports[j]? = some e → (expoK e.name k j 0 l (0, 0, 0)).1 = 0) ∧ W = wr) (fun iv _ => u.exports.length - (intOf iv).toNat)
  case atStart => exact ⟨0, Nat.zero_le _, rfl, hide (fun j e hj => by omega), rfl⟩
  case round =>
    obtain ⟨i, hi, rfl, HN, rfl⟩ := hrel
    by_cases hlt : i < u.exports.length
    · obtain ⟨e, he⟩ : ∃ e, u.exports[i]? = some e := ⟨_, List.getElem?_eq_getElem hlt⟩
      obtain ⟨xb, xo, s, rfl, hx0, hxs⟩ := (HR.out.gr HG.out).expAt he
      have hi0 : (0 : Int) ≤ (i : Int) := by omega
      have hi1 : (i : Int) < (u.exports.length : Int) := by omega
      have HE := hide he
      have HC := hide (exported_ref l _ s k i W (HRl.out.gr HG.out) (by omega) (by omega) (by omega) hE)
      rw [hxs] at HC
      clear he hxs
      go_wp2_with fail
      refine HC.out.mono ?_
      rintro x w1 ⟨rfl, hw1⟩
      obtain rfl := hw1.symm
      clear HC
      generalize hn : (expoK e.name k i 0 l (0, 0, 0)).1 = nn
      have HNN := hide hn
      clear hn
      generalize (expoK e.name k i 0 l (0, 0, 0)).2.1 = n2
      generalize (expoK e.name k i 0 l (0, 0, 0)).2.2 = n3
      by_cases hz : nn = 0
      · subst hz
        go_wp2_with fail
        go_roundw
        case rel => exact ⟨i + 1, by omega, by go_num, hide (fun j e' hj he' => by
            by_cases e0 : j = i
            · subst e0; rw [HE.out] at he'; obtain rfl := Option.some.inj he'; exact HNN.out
            · exact HN.out j e' (by omega) he'), by first | rfl | trivial⟩
        case measure => simp [intOf]; omega
      · have hz2 : (0 : Int) < (nn : Int) := by omega
        have HP : Hid (∃ i e, u.exports[i]? = some e ∧ 0 < (expoK e.name k i 0 l (0, 0, 0)).1) := hide ⟨i, e, HE.out, by rw [HNN.out]; omega⟩
        clear hz
        go_wp2_with fail
        go_ret
        exact ⟨true, rfl, ⟨fun _ => HP.out, fun _ => rfl⟩, HG.out⟩
    · have hie : i = u.exports.length := by omega
      subst hie
      have HP : Hid (¬ ∃ i e, u.exports[i]? = some e ∧ 0 < (expoK e.name k i 0 l (0, 0, 0)).1) := hide (fun ⟨i, e, h1, h2⟩ => by
        have := HN.out i e (List.getElem?_eq_some_iff.1 h1).1 h1
        omega)
      go_wp2_with fail
      go_ret
      exact ⟨false, rfl, ⟨fun h => (by cases h), fun h => absurd h HP.out⟩, HG.out⟩
set_option maxRecDepth 100000 in
set_option maxHeartbeats 2000000 in
theorem refused_7 (l : List PUnit) (vl : Value) (k : Nat) (u : PUnit) (w : World) (hR : RUnits w vl l) (hu : l[k]? = some u) (hl : l.length ≤ 6) (hE : ∀ u ∈ l, u.exports.length ≤ 20) (hI : u.imports.length ≤ 20) :
    Calls Tryd.prog 49 #[vl, .int .i64 (k : Int), .int .i64 7] w (RefR (∃ i ∈ u.imports, (expoL i.name 0 l (0, 0, 0)).1 = 0) w) := by
  have hkl : k < l.length := (List.getElem?_eq_some_iff.1 hu).1
  obtain ⟨b, off, cap, a1, c1, a2, c2, a3, c3, a4, c4, a5, c5, rfl, x1, x2, x3, x4, x5, hr⟩ := hR.at_all hu
  have hd0 : (0 : Int) ≤ (k : Int) := by omega
  have hd1 : (k : Int) < (l.length : Int) := by omega
  have HR := hide hr
  have HRl := hide hR
  have HG := hide ((Gr.refl w).alloc (.cells #[.slice a1 u.shapes.length c1, .slice a2 u.consts.length c2, .slice a3 u.funcs.length c3, .slice a4 u.imports.length c4, .slice a5 u.exports.length c5] 28))
  have HBX := hide (heap_alloc_new w (.cells #[.slice a1 u.shapes.length c1, .slice a2 u.consts.length c2, .slice a3 u.funcs.length c3, .slice a4 u.imports.length c4, .slice a5 u.exports.length c5] 28))
  clear hr hR
  go_enter Tryd.func49, Tryd.ntmps49
  go_upto_region 17 with fail
  obtain ⟨e0, e1, e2, e3, e4⟩ := heap_box5 HBX.out
  generalize (w.alloc (.cells #[.slice a1 u.shapes.length c1, .slice a2 u.consts.length c2, .slice a3 u.funcs.length c3, .slice a4 u.imports.length c4, .slice a5 u.exports.length c5] 28)) = W at HG HBX e0 e1 e2 e3 e4 ⊢
  clear e0 e1 e2 e4 x1 x2 x3 x4 x5
  go_wp2_with fail
  go_loopw [14] (fun iv wr => ∃ i : Nat, i ≤ u.imports.length ∧ iv = .int .i64 (i : Int) ∧ Hid (∀ j e, j < i → u.imports[j]? = some e → (expoL e.name 0 l (0, 0, 0)).1 ≠ 0) ∧ W = wr) (fun iv _ => u.imports.length - (intOf iv).toNat)
  case atStart => exact ⟨0, Nat.zero_le _, rfl, hide (fun j e hj => by omega), rfl⟩
  case round =>
    obtain ⟨i, hi, rfl, HN, rfl⟩ := hrel
    by_cases hlt : i < u.imports.length
    · obtain ⟨e, he⟩ : ∃ e, u.imports[i]? = some e := ⟨_, List.getElem?_eq_getElem hlt⟩
      obtain ⟨xb, xo, s, pa, pc, rfl, hx0, hxs, hx1, _, hx2⟩ := (HR.out.gr HG.out).impAt he
      have hi0 : (0 : Int) ≤ (i : Int) := by omega
      have hi1 : (i : Int) < (u.imports.length : Int) := by omega
      have HE := hide he
      have HC := hide (exported_ref l _ s l.length 0 W (HRl.out.gr HG.out) (by omega) (by omega) (by omega) hE)
      rw [hxs, expoK_all _ _ _ _ _ (by omega)] at HC
      clear he hxs
      go_wp2_with fail
      refine HC.out.mono ?_
      rintro x w1 ⟨rfl, hw1⟩
      obtain rfl := hw1.symm
      clear HC
      generalize hn : (expoL e.name 0 l (0, 0, 0)).1 = nn
      have HNN := hide hn
      clear hn
      generalize (expoL e.name 0 l (0, 0, 0)).2.1 = n2
      generalize (expoL e.name 0 l (0, 0, 0)).2.2 = n3
      by_cases hz : nn = 0
      · subst hz
        have HP : Hid (∃ i ∈ u.imports, (expoL i.name 0 l (0, 0, 0)).1 = 0) := hide ⟨e, List.mem_of_getElem? HE.out, HNN.out⟩
        go_wp2_with fail
        go_ret
        exact ⟨true, rfl, ⟨fun _ => HP.out, fun _ => rfl⟩, HG.out⟩
      · have hz2 : ((nn : Int) == 0) = false := by rw [beq_eq_false_iff_ne]; omega
        have HZ := hide hz
        clear hz
        go_wp2_with fail
        go_roundw
        case rel => exact ⟨i + 1, by omega, by go_num, hide (fun j e' hj he' => by
            by_cases e0 : j = i
            · subst e0; rw [HE.out] at he'; obtain rfl := Option.some.inj he'; rw [HNN.out]; exact HZ.out
            · exact HN.out j e' (by omega) he'), by first | rfl | trivial⟩
        case measure => simp [intOf]; omega
    · have hie : i = u.imports.length := by omega
      subst hie
      have HP : Hid (¬ ∃ i ∈ u.imports, (expoL i.name 0 l (0, 0, 0)).1 = 0) := hide (fun ⟨e, h1, h2⟩ => by
        obtain ⟨j, hj⟩ := List.mem_iff_getElem?.1 h1
        exact HN.out j e (List.getElem?_eq_some_iff.1 hj).1 hj h2)
      go_wp2_with fail
      go_ret
      exact ⟨false, rfl, ⟨fun h => (by cases h), fun h => absurd h HP.out⟩, HG.out⟩
end Go.Proofs.YtkgncijcnlfhiaaDoor

