import Derived.Test.YtkgncijcnlfhiaaDoorKa
import Derived.Test.YtkgncijcnlfhiaaDoorBk5e
namespace Go.Proofs.YtkgncijcnlfhiaaDoor
set_option linter.unusedVariables false
set_option linter.unusedSimpArgs false
open Go.RowKit
attribute [local go_sem ↓] Go.wp_at_zero Go.wp_at_succ
/-- the number of an exported function, the document's way -/
def nRef (l : List PUnit) (n : List UInt8) : Int := (aheadF l (expoL n 0 l (0, 0, 0)).2.1 : Int) + (expoL n 0 l (0, 0, 0)).2.2
def insV (i : PIns) : Value := .agg #[.int .i64 i.op, .int .i64 i.a, .int .i64 i.b]
theorem aheadF_lim {l : List PUnit} (h : ∀ u ∈ l, u.funcs.length ≤ 30) : ∀ k, k ≤ l.length → aheadF l k ≤ k * 30 := by
  intro k hk
  induction k with
  | zero => exact Nat.zero_le _
  | succ k ih =>
    have hu := List.getElem?_eq_getElem (l := l) (i := k) (by omega)
    rw [aheadF_succ hu]
    have h1 := ih (by omega)
    have h2 := h _ (List.mem_of_getElem? hu)
    omega
theorem aheadC_lim {l : List PUnit} (h : ∀ u ∈ l, u.consts.length ≤ 50) : ∀ k, k ≤ l.length → aheadC l k ≤ k * 50 := by
  intro k hk
  induction k with
  | zero => exact Nat.zero_le _
  | succ k ih =>
    have hu := List.getElem?_eq_getElem (l := l) (i := k) (by omega)
    rw [aheadC_succ hu]
    have h1 := ih (by omega)
    have h2 := h _ (List.mem_of_getElem? hu)
    omega
/-- two boxes -/
theorem mov_world (w : World) (x1 x2 x3 : Value) : Gr w ((w.alloc (.cells #[x1, x2, x3] 91)).alloc (.cells #[.int .i64 0, .int .i64 0, .int .i64 0] 91)) ∧ ((w.alloc (.cells #[x1, x2, x3] 91)).alloc (.cells #[.int .i64 0, .int .i64 0, .int .i64 0] 91)).heap[w.heap.size]? = some (.cells #[x1, x2, x3] 91 (0, 0)) ∧ ((w.alloc (.cells #[x1, x2, x3] 91)).alloc (.cells #[.int .i64 0, .int .i64 0, .int .i64 0] 91)).heap[w.heap.size + 1]? = some (.cells #[.int .i64 0, .int .i64 0, .int .i64 0] 91 (0, 0)) ∧ ((w.alloc (.cells #[x1, x2, x3] 91)).alloc (.cells #[.int .i64 0, .int .i64 0, .int .i64 0] 91)).heap.size = w.heap.size + 2 := by
  have s1 : (w.alloc (.cells #[x1, x2, x3] 91)).heap.size = w.heap.size + 1 := by simp
  have h1 := heap_alloc_new w (.cells #[x1, x2, x3] 91)
  have h2 := heap_alloc_new (w.alloc (.cells #[x1, x2, x3] 91)) (.cells #[.int .i64 0, .int .i64 0, .int .i64 0] 91)
  rw [s1] at h2
  exact ⟨((Gr.refl w).alloc _).alloc _, (heap_alloc_old _ _ (by omega)).trans h1, h2, by simp⟩
/-- the boxes while an instruction moves: its own, the result's, the unit's -/
structure MovW (w W : World) (i : PIns) (v2 v3 v4 : Value) : Prop where
  gr : Gr w W
  i0 : W.cell? ⟨w.heap.size, 0, none⟩ = some (.int .i64 i.op)
  i1 : W.cell? ⟨w.heap.size, 1, none⟩ = some (.int .i64 i.a)
  i2 : W.cell? ⟨w.heap.size, 2, none⟩ = some (.int .i64 i.b)
  z0 : W.frozen? ⟨w.heap.size, 0, none⟩ = false
  z1 : W.frozen? ⟨w.heap.size, 1, none⟩ = false
  z2 : W.frozen? ⟨w.heap.size, 2, none⟩ = false
  r0 : W.cell? ⟨w.heap.size + 1, 0, none⟩ = some (.int .i64 0)
  r1 : W.cell? ⟨w.heap.size + 1, 1, none⟩ = some (.int .i64 0)
  r2 : W.cell? ⟨w.heap.size + 1, 2, none⟩ = some (.int .i64 0)
  y0 : W.frozen? ⟨w.heap.size + 1, 0, none⟩ = false
  y1 : W.frozen? ⟨w.heap.size + 1, 1, none⟩ = false
  y2 : W.frozen? ⟨w.heap.size + 1, 2, none⟩ = false
  u2 : W.cell? ⟨w.heap.size + 2, 1, none⟩ = some v2
  u3 : W.cell? ⟨w.heap.size + 2, 2, none⟩ = some v3
  u4 : W.cell? ⟨w.heap.size + 2, 3, none⟩ = some v4
/-- an instruction written, and given back -/
theorem mov_set {w W : World} {x : Value} {o b : Nat} (hg : Gr w W) (hb : w.heap.size ≤ b) : Gr w (W.setCell ⟨b, o, none⟩ x) := gr_set hg hb
set_option maxRecDepth 100000 in
set_option maxHeartbeats 4000000 in
theorem moved_ref (l : List PUnit) (vl : Value) (k : Nat) (u : PUnit) (i : PIns) (w : World) (hR : RUnits w vl l) (hu : l[k]? = some u) (hl : l.length ≤ 6) (hE : ∀ u ∈ l, u.exports.length ≤ 20 ∧ u.consts.length ≤ 50 ∧ u.funcs.length ≤ 30 ∧ u.imports.length ≤ 20) (hF : ∀ i ∈ u.imports, ∃ v g, Hit l i v g) (hi : 0 ≤ i.a ∧ i.a ≤ 65535 ∨ (i.op ≠ 0 ∧ i.op ≠ 13)) :
    Calls Tryd.prog 51 #[vl, .int .i64 (k : Int), .agg #[.int .i64 i.op, .int .i64 i.a, .int .i64 i.b]] w fun x w' => x = .returned (insV (movedP (nRef l) u (aheadC l k) (aheadF l k) i)) ∧ Gr w w' := by
  have hkl : k < l.length := (List.getElem?_eq_some_iff.1 hu).1
  obtain ⟨b, off, cap, a1, c1, a2, c2, a3, c3, a4, c4, a5, c5, rfl, x1, x2, x3, x4, x5, hr⟩ := hR.at_all hu
  have hd0 : (0 : Int) ≤ (k : Int) := by omega
  have hd1 : (k : Int) < (l.length : Int) := by omega
  have HR := hide hr
  have HRl := hide hR
  have HF := hide hF
  obtain ⟨m1, m2, m3, m4⟩ := hE u (List.mem_of_getElem? hu)
  have hcl := aheadC_lim (fun v hv => (hE v hv).2.1) k (by omega)
  have hfl := aheadF_lim (fun v hv => (hE v hv).2.2.1) k (by omega)
  clear hr hR hF
  obtain ⟨hg, hbi, hbr, hsz⟩ := mov_world w (.int .i64 i.op) (.int .i64 i.a) (.int .i64 i.b)
  have HG := hide hg
  have HBI := hide hbi
  have HBR := hide hbr
  have HSZ := hide hsz
  have hnn : ¬ w.heap.size = w.heap.size + 1 := by omega
  clear hg hbi hbr hsz
  go_enter Tryd.func51, Tryd.ntmps51
  go_upto_region 1 with fail
  have y1 := HG.out.cell x1 (by simp)
  have y2 := HG.out.cell x2 (by simp)
  have y3 := HG.out.cell x3 (by simp)
  have y4 := HG.out.cell x4 (by simp)
  have y5 := HG.out.cell x5 (by simp)
  generalize (w.alloc (.cells #[.int .i64 i.op, .int .i64 i.a, .int .i64 i.b] 91)).alloc (.cells #[.int .i64 0, .int .i64 0, .int .i64 0] 91) = W1 at HG HBI HBR HSZ y1 y2 y3 y4 y5 ⊢
  clear x1 x2 x3 x4 x5
  go_upto_region 2 with fail
  have HGU := hide ((Gr.refl W1).alloc (.cells #[.slice a1 u.shapes.length c1, .slice a2 u.consts.length c2, .slice a3 u.funcs.length c3, .slice a4 u.imports.length c4, .slice a5 u.exports.length c5] 28))
  have hbu := heap_alloc_new W1 (.cells #[.slice a1 u.shapes.length c1, .slice a2 u.consts.length c2, .slice a3 u.funcs.length c3, .slice a4 u.imports.length c4, .slice a5 u.exports.length c5] 28)
  rw [HSZ.out] at hbu
  have hbi := (HGU.out.block _ (by have := HSZ.out; omega) (by simp)).trans HBI.out
  have hbr := (HGU.out.block _ (by have := HSZ.out; omega) (by simp)).trans HBR.out
  have HM : Hid (MovW w (W1.alloc (.cells #[.slice a1 u.shapes.length c1, .slice a2 u.consts.length c2, .slice a3 u.funcs.length c3, .slice a4 u.imports.length c4, .slice a5 u.exports.length c5] 28)) i (.slice a2 u.consts.length c2) (.slice a3 u.funcs.length c3) (.slice a4 u.imports.length c4)) := hide ⟨HG.out.trans HGU.out, by rw [heap_cell hbi]; rfl, by rw [heap_cell hbi]; rfl, by rw [heap_cell hbi]; rfl, heap_frozen hbi, heap_frozen hbi, heap_frozen hbi, by rw [heap_cell hbr]; rfl, by rw [heap_cell hbr]; rfl, by rw [heap_cell hbr]; rfl, heap_frozen hbr, heap_frozen hbr, heap_frozen hbr, by rw [heap_cell hbu]; rfl, by rw [heap_cell hbu]; rfl, by rw [heap_cell hbu]; rfl⟩
  rw [show W1.heap.size = w.heap.size + 2 from HSZ.out]
  generalize W1.alloc (.cells #[.slice a1 u.shapes.length c1, .slice a2 u.consts.length c2, .slice a3 u.funcs.length c3, .slice a4 u.imports.length c4, .slice a5 u.exports.length c5] 28) = W at HM HGU ⊢
  clear hbu hbi hbr y1 y2 y3 y4 y5
  have HA := hide (ahead_ref l _ k W (HRl.out.gr HM.out.gr) (by omega) (by omega) (fun v hv => by have := hE v hv; omega))
  go_wp2_with fail
  refine HA.out.mono ?_
  rintro x w1 ⟨rfl, hw1⟩
  obtain rfl := hw1.symm
  clear HA
  obtain ⟨-, i0, i1, i2, z0, z1, z2, r0, r1, r2, y0, y1, y2, u2, u3, u4⟩ := HM.out
  generalize hc : aheadC l k = c at hcl
  generalize hf : aheadF l k = f at hfl
  have HC := hide hc
  have HFF := hide hf
  clear hc hf
  have HGM := hide HM.out.gr
  by_cases h0 : i.op = 0
  · have ho : 0 ≤ i.a ∧ i.a ≤ 65535 := hi.resolve_right (fun h => h.1 h0)
    obtain ⟨ha0, ha1⟩ := ho
    rw [h0] at i0
    by_cases hac : i.a < (u.consts.length : Int)
    · have HV : Hid (movedP (nRef l) u c f i = ⟨0, i.a + c, i.b⟩) := hide (by unfold movedP; rw [if_pos h0, if_pos hac, h0]; simp [Int.add_comm])
      clear h0 hi
      go_wp2_with fail
      exact bodyPost_ret (v := .agg #[.int .i64 0, .int .i64 (i.a + (c : Int)), .int .i64 i.b]) (by simp [results, Tryd.results51, go_sem, r0, r1, r2]) rfl ⟨by first | rw [HV.out]; rfl | (rw [HC.out, HFF.out, HV.out]; rfl), mov_set (mov_set (mov_set (mov_set (HGM.out) (by omega)) (by omega)) (by omega)) (by omega)⟩
    · have HV : Hid (movedP (nRef l) u c f i = ⟨0, 65535, i.b⟩) := hide (by unfold movedP; rw [if_pos h0, if_neg hac, h0])
      have hac2 : (u.consts.length : Int) ≤ i.a := by omega
      clear h0 hi hac
      go_wp2_with fail
      exact bodyPost_ret (v := .agg #[.int .i64 0, .int .i64 (65535), .int .i64 i.b]) (by simp [results, Tryd.results51, go_sem, r0, r1, r2]) rfl ⟨by first | rw [HV.out]; rfl | (rw [HC.out, HFF.out, HV.out]; rfl), mov_set (mov_set (mov_set (mov_set (HGM.out) (by omega)) (by omega)) (by omega)) (by omega)⟩
  · by_cases h13 : i.op = 13
    · have ho : 0 ≤ i.a ∧ i.a ≤ 65535 := hi.resolve_right (fun h => h.2 h13)
      obtain ⟨ha0, ha1⟩ := ho
      rw [h13] at i0
      by_cases hac : i.a < (u.funcs.length : Int)
      · have HV : Hid (movedP (nRef l) u c f i = ⟨13, i.a + f, i.b⟩) := hide (by unfold movedP; rw [if_neg h0, if_pos h13, if_pos hac, h13]; simp [Int.add_comm])
        clear h0 h13 hi
        go_wp2_with fail
        exact bodyPost_ret (v := .agg #[.int .i64 13, .int .i64 (i.a + (f : Int)), .int .i64 i.b]) (by simp [results, Tryd.results51, go_sem, r0, r1, r2]) rfl ⟨by first | rw [HV.out]; rfl | (rw [HC.out, HFF.out, HV.out]; rfl), mov_set (mov_set (mov_set (mov_set (HGM.out) (by omega)) (by omega)) (by omega)) (by omega)⟩
      · have hac2 : (u.funcs.length : Int) ≤ i.a := by omega
        by_cases him : i.a < (u.funcs.length : Int) + (u.imports.length : Int)
        · obtain ⟨q, hq⟩ : ∃ q : Nat, i.a - (u.funcs.length : Int) = (q : Int) := ⟨(i.a - u.funcs.length).toNat, by omega⟩
          have hql : q < u.imports.length := by omega
          obtain ⟨e, he⟩ : ∃ e, u.imports[q]? = some e := ⟨_, List.getElem?_eq_getElem hql⟩
          obtain ⟨v, g, hl1, f', hf1, hg1⟩ := HF.out e (List.mem_of_getElem? he)
          have hal : (expoL e.name 0 l (0, 0, 0)).2.1 < l.length := (List.getElem?_eq_some_iff.1 hl1).1
          have hvl := (hE v (List.mem_of_getElem? hl1)).2.2.1
          have hfl' : f' < v.funcs.length := (List.getElem?_eq_some_iff.1 hg1).1
          have haF := aheadF_lim (fun v hv => (hE v hv).2.2.1) _ (Nat.le_of_lt hal)
          have HV : Hid (movedP (nRef l) u c f i = ⟨13, nRef l e.name, i.b⟩) := hide (by unfold movedP; rw [if_neg h0, if_pos h13, if_neg hac, h13, hq, Int.toNat_natCast, he])
          obtain ⟨xb, xo, s, pa, pc, rfl, hx0, hxs, _⟩ := (HR.out.gr HGM.out).impAt he
          have HX := hide (exported_ref l _ s l.length 0 W (HRl.out.gr HGM.out) (by omega) (by omega) (by omega) (fun v hv => (hE v hv).1))
          rw [hxs, expoK_all _ _ _ _ _ (by omega), hf1] at HX
          have HNR : Hid (nRef l e.name = (aheadF l (expoL e.name 0 l (0, 0, 0)).2.1 : Int) + (f' : Int)) := hide (by unfold nRef; rw [hf1])
          have HA := hide (ahead_ref l _ (expoL e.name 0 l (0, 0, 0)).2.1 W (HRl.out.gr HGM.out) (by omega) (by omega) (fun v hv => by have := hE v hv; omega))
          generalize aheadF l (expoL e.name 0 l (0, 0, 0)).2.1 = bF at HNR HA haF
          generalize aheadC l (expoL e.name 0 l (0, 0, 0)).2.1 = bC at HA
          generalize (expoL e.name 0 l (0, 0, 0)).2.1 = aa at HX HA hal haF
          generalize (expoL e.name 0 l (0, 0, 0)).1 = nn at HX
          have hq0 : (0 : Int) ≤ (q : Int) := by omega
          have hq1 : (q : Int) < (u.imports.length : Int) := by omega
          have hwq : IntKind.i64.wrap (i.a - (u.funcs.length : Int)) = (q : Int) := by rw [hq]; exact Go.IntWalk.i64_in _ (by omega)
          clear h0 h13 hi hac hl1 hf1 hg1 he hxs
          go_wp2_with fail
          refine HX.out.mono ?_
          rintro x w1 ⟨rfl, hw1⟩
          obtain rfl := hw1.symm
          clear HX
          go_wp2_with fail
          refine HA.out.mono ?_
          rintro x w1 ⟨rfl, hw1⟩
          obtain rfl := hw1.symm
          clear HA
          rw [HNR.out] at HV
          go_wp2_with fail
          exact bodyPost_ret (v := .agg #[.int .i64 13, .int .i64 ((bF : Int) + (f' : Int)), .int .i64 i.b]) (by simp [results, Tryd.results51, go_sem, r0, r1, r2]) rfl ⟨by first | rw [HV.out]; rfl | (rw [HC.out, HFF.out, HV.out]; rfl), mov_set (mov_set (mov_set (mov_set (HGM.out) (by omega)) (by omega)) (by omega)) (by omega)⟩
        · have HV : Hid (movedP (nRef l) u c f i = ⟨13, 65535, i.b⟩) := hide (by
            unfold movedP
            rw [if_neg h0, if_pos h13, if_neg hac, h13, List.getElem?_eq_none (by omega)])
          have him2 : (u.funcs.length : Int) + (u.imports.length : Int) ≤ i.a := by omega
          clear h0 h13 hi hac him
          go_wp2_with fail
          exact bodyPost_ret (v := .agg #[.int .i64 13, .int .i64 (65535), .int .i64 i.b]) (by simp [results, Tryd.results51, go_sem, r0, r1, r2]) rfl ⟨by first | rw [HV.out]; rfl | (rw [HC.out, HFF.out, HV.out]; rfl), mov_set (mov_set (mov_set (mov_set (HGM.out) (by omega)) (by omega)) (by omega)) (by omega)⟩
    · have HV : Hid (movedP (nRef l) u c f i = i) := hide (by unfold movedP; rw [if_neg h0, if_neg h13])
      have hb0 : (i.op == 0) = false := by rw [beq_eq_false_iff_ne]; exact h0
      have hb13 : (i.op == 13) = false := by rw [beq_eq_false_iff_ne]; exact h13
      clear hi
      go_wp2_with fail
      exact bodyPost_ret (v := .agg #[.int .i64 i.op, .int .i64 (i.a), .int .i64 i.b]) (by simp [results, Tryd.results51, go_sem, r0, r1, r2]) rfl ⟨by first | rw [HV.out]; rfl | (rw [HC.out, HFF.out, HV.out]; rfl), mov_set (mov_set (mov_set (HGM.out) (by omega)) (by omega)) (by omega)⟩
end Go.Proofs.YtkgncijcnlfhiaaDoor

namespace Go.Proofs.YtkgncijcnlfhiaaDoor
set_option linter.unusedVariables false
set_option linter.unusedSimpArgs false
open Go.RowKit
def ordE : Nat → Int
  | 0 => 1
  | 1 => 5
  | 2 => 6
  | 3 => 7
  | _ => 8
def refU (l : List PUnit) (e k : Nat) (u : PUnit) : Prop :=
  match e with
  | 0 => unitOk u = false
  | 1 => ∃ u0, l[0]? = some u0 ∧ u.shapes ≠ u0.shapes
  | 2 => ∃ i x, u.exports[i]? = some x ∧ 0 < (expoK x.name k i 0 l (0, 0, 0)).1
  | 3 => ∃ i ∈ u.imports, (expoL i.name 0 l (0, 0, 0)).1 = 0
  | _ => ∃ i ∈ u.imports, ∃ v g, Hit l i v g ∧ ¬ (g.params = i.params ∧ g.result = i.result)
def refP (l : List PUnit) (e k : Nat) : Prop := ∃ u, l[k]? = some u ∧ refU l e k u
/-- no error ahead of number e applies -/
def Clear (l : List PUnit) (e : Nat) : Prop := ∀ e', e' < e → ∀ k, ¬ refP l e' k
theorem Clear.ok {l : List PUnit} {e : Nat} (h : Clear l e) (he : 0 < e) : ∀ u ∈ l, unitOk u = true := by
  intro u hu
  obtain ⟨k, hk⟩ := List.mem_iff_getElem?.1 hu
  cases ho : unitOk u with
  | true => rfl
  | false => exact absurd ⟨u, hk, ho⟩ (h 0 he k)
theorem hit_of {l : List PUnit} (hok : ∀ u ∈ l, unitOk u = true) {i : PImp} (h : (expoL i.name 0 l (0, 0, 0)).1 ≠ 0) : ∃ v g, Hit l i v g := by
  rcases expoL_spec i.name l 0 (0, 0, 0) with ⟨h1, _⟩ | ⟨_, m, b, v, x, hl, h2⟩
  · rw [h1] at h; exact absurd rfl h
  · obtain ⟨l1, l2, l3⟩ := hl
    have hv := hok v (List.mem_of_getElem? l1)
    obtain ⟨_, _, _, _, h5⟩ := unit_parts hv
    simp only [exportsOk, Bool.and_eq_true, List.all_eq_true] at h5
    have hx := h5.2 x (List.mem_of_getElem? l2)
    simp only [expOk, wB, Bool.and_eq_true, decide_eq_true_eq] at hx
    have hfl : x.func.toNat < v.funcs.length := by omega
    refine ⟨v, v.funcs[x.func.toNat], ?_, x.func.toNat, ?_, List.getElem?_eq_getElem hfl⟩
    · rw [h2]; simpa using l1
    · rw [h2]; show x.func = _; omega
theorem refused_all (l : List PUnit) (vl : Value) (e k : Nat) (u : PUnit) (w : World) (he : e < 5) (hR : RUnits w vl l) (hu : l[k]? = some u) (hl : l.length ≤ 6) (hT : Tab w) (hC : Clear l e) :
    Calls Tryd.prog 49 #[vl, .int .i64 (k : Int), .int .i64 (ordE e)] w (RefR (refP l e k) w) := by
  have hiff : ∀ P : Prop, (P ↔ refU l e k u) → (P ↔ refP l e k) := fun P h => ⟨fun p => ⟨u, hu, h.1 p⟩, fun ⟨u', h1, h2⟩ => by
    rw [hu] at h1
    obtain rfl := Option.some.inj h1
    exact h.2 h2⟩
  have hkl : k < l.length := (List.getElem?_eq_some_iff.1 hu).1
  have hc : e = 0 ∨ e = 1 ∨ e = 2 ∨ e = 3 ∨ e = 4 := by omega
  rcases hc with rfl | rfl | rfl | rfl | rfl
  · refine (refused_1 l vl k u w hR hu hT).mono fun x w' ⟨h1, h2⟩ => ⟨_, h1, hiff _ ?_, h2⟩
    show (!unitOk u) = true ↔ unitOk u = false
    simp
  · obtain ⟨u0, hu0⟩ : ∃ u0, l[0]? = some u0 := ⟨_, List.getElem?_eq_getElem (by omega)⟩
    refine (refused_5 l vl k u u0 w hR hu hu0).mono fun x w' ⟨h1, h2⟩ => ⟨_, h1, hiff _ ?_, h2⟩
    show (!decide (u.shapes = u0.shapes)) = true ↔ ∃ u0, l[0]? = some u0 ∧ u.shapes ≠ u0.shapes
    rw [Bool.not_eq_true', decide_eq_false_iff_not]
    exact ⟨fun h => ⟨u0, hu0, h⟩, fun ⟨u1, h1, h2⟩ => by
      rw [hu0] at h1
      obtain rfl := Option.some.inj h1
      exact h2⟩
  · have hok := hC.ok (by decide)
    refine (refused_6 l vl k u w hR hu hl (fun v hv => (lens_ok (hok v hv)).2.2.2.2.2.2.2)).mono fun x w' ⟨p, h1, h2, h3⟩ => ⟨p, h1, h2.trans (hiff _ Iff.rfl), h3⟩
  · have hok := hC.ok (by decide)
    refine (refused_7 l vl k u w hR hu hl (fun v hv => (lens_ok (hok v hv)).2.2.2.2.2.2.2) (lens_ok (hok u (List.mem_of_getElem? hu))).2.2.2.2.2.1).mono fun x w' ⟨p, h1, h2, h3⟩ => ⟨p, h1, h2.trans (hiff _ Iff.rfl), h3⟩
  · have hok := hC.ok (by decide)
    have hF : ∀ i ∈ u.imports, ∃ v g, Hit l i v g := fun i hi => hit_of hok (fun h0 => hC 3 (by decide) k ⟨u, hu, i, hi, h0⟩)
    refine (refused_8 l vl k u w hR hu hl (fun v hv => (lens_ok (hok v hv)).2.2.2.2.2.2.2) (lens_ok (hok u (List.mem_of_getElem? hu))).2.2.2.2.2.1 hF (fun v hv => (lens_ok (hok v hv)).2.2.2.1)).mono fun x w' ⟨p, h1, h2, h3⟩ => ⟨p, h1, h2.trans (hiff _ Iff.rfl), h3⟩
end Go.Proofs.YtkgncijcnlfhiaaDoor

namespace Go.Proofs.YtkgncijcnlfhiaaDoor
set_option linter.unusedVariables false
set_option linter.unusedSimpArgs false
open Go.RowKit
theorem expoK_spec (n : List UInt8) (k i : Nat) : ∀ (l : List PUnit) (a : Nat) (r : Nat × Nat × Int), (expoK n k i a l r = r ∧ ∀ m u, l[m]? = some u → ∀ e ∈ expsA k i (a + m) u.exports, e.name ≠ n) ∨ (r.1 < (expoK n k i a l r).1 ∧ ∃ m u e, l[m]? = some u ∧ e ∈ expsA k i (a + m) u.exports ∧ e.name = n)
  | [], a, r => .inl ⟨rfl, fun m u h => by simp at h⟩
  | u :: l, a, r => by
    rw [expoK]
    rcases expoU_spec n a (expsA k i a u.exports) r with ⟨h1, h2⟩ | ⟨h1, b, e, h2, h3, _⟩
    · rw [h1]
      rcases expoK_spec n k i l (a + 1) r with ⟨k1, k2⟩ | ⟨k1, m, v, e, k2, k3, k4⟩
      · refine .inl ⟨k1, fun m v hv x hx => ?_⟩
        cases m with
        | zero => simp at hv; subst hv; exact h2 x hx
        | succ m => exact k2 m v (by simpa using hv) x (by rw [show a + 1 + m = a + (m + 1) by omega]; exact hx)
      · exact .inr ⟨k1, m + 1, v, e, by simpa using k2, by rw [show a + (m + 1) = a + 1 + m by omega]; exact k3, k4⟩
    · have hmem : e ∈ expsA k i (a + 0) u.exports := List.mem_of_getElem? h2
      rcases expoK_spec n k i l (a + 1) (expoU n a (expsA k i a u.exports) r) with ⟨k1, _⟩ | ⟨k1, _⟩
      · exact .inr ⟨by rw [k1]; exact h1, 0, u, e, rfl, hmem, h3⟩
      · exact .inr ⟨by omega, 0, u, e, rfl, hmem, h3⟩
theorem expsA_mem {k i m : Nat} {E : List PExp} {e : PExp} : e ∈ expsA k i m E ↔ (m < k ∧ e ∈ E) ∨ (m = k ∧ ∃ j, j < i ∧ E[j]? = some e) := by
  unfold expsA
  by_cases h1 : m < k
  · rw [if_pos h1]
    exact ⟨fun h => .inl ⟨h1, h⟩, fun h => h.elim (·.2) (fun h => by omega)⟩
  · rw [if_neg h1]
    by_cases h2 : m = k
    · rw [if_pos h2]
      constructor
      · intro h
        obtain ⟨j, hj⟩ := List.mem_iff_getElem?.1 h
        rw [List.getElem?_take] at hj
        by_cases hji : j < i
        · rw [if_pos hji] at hj; exact .inr ⟨h2, j, hji, hj⟩
        · rw [if_neg hji] at hj; cases hj
      · rintro (⟨h, _⟩ | ⟨_, j, hj, he⟩)
        · exact absurd h h1
        · exact List.mem_iff_getElem?.2 ⟨j, by rw [List.getElem?_take, if_pos hj]; exact he⟩
    · rw [if_neg h2]
      exact ⟨fun h => by simp at h, fun h => h.elim (fun h => absurd h.1 h1) (fun h => absurd h.1 h2)⟩
theorem ref2_tw {l : List PUnit} {k : Nat} : refP l 2 k ↔ Tw [] l k := by
  have hp : ∀ (i : Nat) (u : PUnit) (x : PExp), l[k]? = some u → (0 < (expoK x.name k i 0 l (0, 0, 0)).1 ↔ ((∃ (a : Nat) (u' : PUnit), a < k ∧ l[a]? = some u' ∧ ∃ e' ∈ u'.exports, e'.name = x.name) ∨ ∃ (j : Nat) (e' : PExp), j < i ∧ u.exports[j]? = some e' ∧ e'.name = x.name)) := by
    intro i u x hu
    rcases expoK_spec x.name k i l 0 (0, 0, 0) with ⟨h1, h2⟩ | ⟨h1, m, v, e, h2, h3, h4⟩
    · rw [h1]
      refine ⟨fun h => by simp at h, fun h => ?_⟩
      rcases h with ⟨a, u', ha, hu', e', he', hn⟩ | ⟨j, e', hj, he', hn⟩
      · exact absurd hn (h2 a u' hu' e' (expsA_mem.2 (.inl ⟨by omega, he'⟩)))
      · exact absurd hn (h2 k u hu e' (expsA_mem.2 (.inr ⟨by omega, j, hj, he'⟩)))
    · refine ⟨fun _ => ?_, fun _ => h1⟩
      rcases expsA_mem.1 h3 with ⟨hm, he⟩ | ⟨hm, j, hj, he⟩
      · exact .inl ⟨m, v, by omega, h2, e, he, h4⟩
      · have : m = k := by omega
        subst this
        rw [hu] at h2
        obtain rfl := Option.some.inj h2
        exact .inr ⟨j, e, hj, he, h4⟩
  constructor
  · rintro ⟨u, hu, i, x, hx, h0⟩
    exact ⟨u, i, x, hu, hx, .inr ((hp i u x hu).1 h0)⟩
  · rintro ⟨u, i, x, hu, hx, h⟩
    exact ⟨u, hu, i, x, hx, (hp i u x hu).2 (h.resolve_left (by simp))⟩
theorem first_some {l : List PUnit} {e k : Nat} {p : PUnit → Bool} (hp : ∀ m u, l[m]? = some u → (p u = true ↔ refU l e m u)) (hk : refP l e k) (hb : ∀ k', k' < k → ¬ refP l e k') : firstU p 0 l = some k := by
  obtain ⟨u, hu, hr⟩ := hk
  refine (firstU_some l 0 k).2 ⟨k, u, by omega, hu, (hp k u hu).2 hr, fun m' u' hm hu' => ?_⟩
  cases hq : p u' with
  | false => rfl
  | true => exact absurd ⟨u', hu', (hp m' u' hu').1 hq⟩ (hb m' hm)
theorem first_none {l : List PUnit} {e : Nat} {p : PUnit → Bool} (hp : ∀ m u, l[m]? = some u → (p u = true ↔ refU l e m u)) (hb : ∀ k, ¬ refP l e k) : firstU p 0 l = none := by
  refine (firstU_none l 0).2 fun u hu => ?_
  obtain ⟨m, hm⟩ := List.mem_iff_getElem?.1 hu
  cases hq : p u with
  | false => rfl
  | true => exact absurd ⟨u, hm, (hp m u hm).1 hq⟩ (hb m)
theorem p0 {l : List PUnit} : ∀ m u, l[m]? = some u → ((fun u => !unitOk u) u = true ↔ refU l 0 m u) := fun m u _ => by show (!unitOk u) = true ↔ unitOk u = false; simp
theorem p1 {h : PUnit} {t : List PUnit} : ∀ m u, (h :: t)[m]? = some u → ((fun u : PUnit => !decide (u.shapes = h.shapes)) u = true ↔ refU (h :: t) 1 m u) := fun m u _ => by
  show (!decide (u.shapes = h.shapes)) = true ↔ ∃ u0, (h :: t)[0]? = some u0 ∧ u.shapes ≠ u0.shapes
  rw [Bool.not_eq_true', decide_eq_false_iff_not]
  exact ⟨fun e => ⟨h, rfl, e⟩, fun ⟨u0, h1, h2⟩ => by simp at h1; subst h1; exact h2⟩
/-- what an import finds, both ways -/
theorem hit_tgt {l : List PUnit} (hok : ∀ u ∈ l, unitOk u = true) (hn : ∀ m, ¬ Tw [] l m) (i : PImp) : ((expoL i.name 0 l (0, 0, 0)).1 = 0 ∧ tgtL 0 l (fun _ => none) i.name = none) ∨ ((expoL i.name 0 l (0, 0, 0)).1 ≠ 0 ∧ ∃ v g, Hit l i v g ∧ tgtL 0 l (fun _ => none) i.name = some (g, nRef l i.name)) := by
  rcases found_same hn i.name with ⟨h1, h2, _⟩ | ⟨h1, b, u, e, h2, h3, h4⟩
  · exact .inl ⟨h1, h2⟩
  · obtain ⟨v, g, hh⟩ := hit_of hok (i := i) (by omega)
    refine .inr ⟨by omega, v, g, hh, ?_⟩
    obtain ⟨q1, f, q2, q3⟩ := hh
    rw [h2.1] at q1
    obtain rfl := Option.some.inj q1
    rw [h4]
    have : e.func.toNat = f := by rw [h3] at q2; omega
    rw [this, q3]
    show some (g, _) = some (g, nRef l i.name)
    unfold nRef
    rw [h3]
theorem p3 {l : List PUnit} (hok : ∀ u ∈ l, unitOk u = true) (hn : ∀ m, ¬ Tw [] l m) : ∀ m u, l[m]? = some u → ((fun u : PUnit => u.imports.any fun i => !(tgtL 0 l (fun _ => none) i.name).isSome) u = true ↔ refU l 3 m u) := fun m u _ => by
  show (u.imports.any fun i => !(tgtL 0 l (fun _ => none) i.name).isSome) = true ↔ ∃ i ∈ u.imports, (expoL i.name 0 l (0, 0, 0)).1 = 0
  rw [List.any_eq_true]
  constructor
  · rintro ⟨i, hi, h⟩
    rcases hit_tgt hok hn i with ⟨h1, _⟩ | ⟨_, v, g, _, h2⟩
    · exact ⟨i, hi, h1⟩
    · rw [h2] at h; simp at h
  · rintro ⟨i, hi, h⟩
    rcases hit_tgt hok hn i with ⟨_, h2⟩ | ⟨h1, _⟩
    · exact ⟨i, hi, by rw [h2]; rfl⟩
    · exact absurd h h1
theorem p4 {l : List PUnit} (hok : ∀ u ∈ l, unitOk u = true) (hn : ∀ m, ¬ Tw [] l m) (h3 : ∀ k, ¬ refP l 3 k) : ∀ m u, l[m]? = some u → ((fun u : PUnit => u.imports.any fun i => !alikeI (tgtL 0 l fun _ => none) i) u = true ↔ refU l 4 m u) := fun m u hu => by
  show (u.imports.any fun i => !alikeI (tgtL 0 l fun _ => none) i) = true ↔ ∃ i ∈ u.imports, ∃ v g, Hit l i v g ∧ ¬ (g.params = i.params ∧ g.result = i.result)
  have key : ∀ i ∈ u.imports, ∃ v g, Hit l i v g ∧ (alikeI (tgtL 0 l fun _ => none) i = true ↔ g.params = i.params ∧ g.result = i.result) := by
    intro i hi
    rcases hit_tgt hok hn i with ⟨h1, _⟩ | ⟨_, v, g, hh, h2⟩
    · exact absurd ⟨u, hu, i, hi, h1⟩ (h3 m)
    · refine ⟨v, g, hh, ?_⟩
      unfold alikeI
      rw [h2]
      simp only [decide_eq_true_eq]
      exact ⟨fun ⟨a, b⟩ => ⟨a.symm, b.symm⟩, fun ⟨a, b⟩ => ⟨a.symm, b.symm⟩⟩
  rw [List.any_eq_true]
  constructor
  · rintro ⟨i, hi, h⟩
    obtain ⟨v, g, hh, hk⟩ := key i hi
    refine ⟨i, hi, v, g, hh, fun hc => ?_⟩
    rw [hk.2 hc] at h; cases h
  · rintro ⟨i, hi, v, g, hh, hc⟩
    obtain ⟨v', g', hh', hk⟩ := key i hi
    obtain ⟨rfl, rfl⟩ := hh.same hh'
    refine ⟨i, hi, ?_⟩
    cases hq : alikeI (tgtL 0 l fun _ => none) i with
    | false => rfl
    | true => exact absurd (hk.1 hq) hc
theorem Clear.tw {l : List PUnit} {e : Nat} (h : Clear l e) (he : 2 < e) : ∀ m, ¬ Tw [] l m := fun m hm => h 2 he m (ref2_tw.2 hm)
theorem link_first {h : PUnit} {t : List PUnit} {e k : Nat} (hl : (h :: t).length ≤ 6) (he : e < 5) (hC : Clear (h :: t) e) (hk : refP (h :: t) e k) (hb : ∀ k', k' < k → ¬ refP (h :: t) e k') : linkP (h :: t) = .inr (ordE e, k) := by
  have h6 : ¬ 6 < (h :: t).length := by omega
  unfold linkP
  simp only
  rw [if_neg h6]
  have hc : e = 0 ∨ e = 1 ∨ e = 2 ∨ e = 3 ∨ e = 4 := by omega
  rcases hc with rfl | rfl | rfl | rfl | rfl
  · rw [first_some p0 hk hb]; rfl
  · rw [first_none p0 (hC 0 (by decide))]
    simp only
    rw [first_some p1 hk hb]; rfl
  · rw [first_none p0 (hC 0 (by decide))]
    simp only
    rw [first_none p1 (hC 1 (by decide))]
    simp only
    cases hq : twiceP [] 0 (h :: t) with
    | none => exact absurd (ref2_tw.1 hk) ((twiceP_none _ _ _).1 hq k)
    | some q =>
      obtain ⟨m, rfl, hm, hm'⟩ := twiceP_some _ _ _ _ hq
      have : m = k := by
        rcases Nat.lt_trichotomy m k with hlt | heq | hgt
        · exact absurd (ref2_tw.2 hm) (hb m hlt)
        · exact heq
        · exact absurd (ref2_tw.1 hk) (hm' k hgt)
      subst this
      simp [ordE]
  · have hok := hC.ok (by decide)
    have htw := hC.tw (by decide)
    rw [first_none p0 (hC 0 (by decide))]
    simp only
    rw [first_none p1 (hC 1 (by decide))]
    simp only
    rw [(twiceP_none _ _ _).2 htw]
    simp only
    rw [first_some (p3 hok htw) hk hb]; rfl
  · have hok := hC.ok (by decide)
    have htw := hC.tw (by decide)
    rw [first_none p0 (hC 0 (by decide))]
    simp only
    rw [first_none p1 (hC 1 (by decide))]
    simp only
    rw [(twiceP_none _ _ _).2 htw]
    simp only
    rw [first_none (p3 hok htw) (hC 3 (by decide))]
    simp only
    rw [first_some (p4 hok htw (hC 3 (by decide))) hk hb]; rfl
theorem link_last {h : PUnit} {t : List PUnit} (hl : (h :: t).length ≤ 6) (hC : Clear (h :: t) 5) : linkP (h :: t) = if 30 < (joinF (tgtN (h :: t)) 0 0 (h :: t)).2.1.length ∨ 50 < (joinF (tgtN (h :: t)) 0 0 (h :: t)).1.length ∨ 20 < (joinF (tgtN (h :: t)) 0 0 (h :: t)).2.2.length then .inr (9, 0) else .inl ⟨h.shapes, (joinF (tgtN (h :: t)) 0 0 (h :: t)).1, (joinF (tgtN (h :: t)) 0 0 (h :: t)).2.1, [], (joinF (tgtN (h :: t)) 0 0 (h :: t)).2.2⟩ := by
  have h6 : ¬ 6 < (h :: t).length := by omega
  have hok := hC.ok (by decide)
  have htw := hC.tw (by decide)
  unfold linkP
  simp only
  rw [if_neg h6, first_none p0 (hC 0 (by decide))]
  simp only
  rw [first_none p1 (hC 1 (by decide))]
  simp only
  rw [(twiceP_none _ _ _).2 htw]
  simp only
  rw [first_none (p3 hok htw) (hC 3 (by decide))]
  simp only
  rw [first_none (p4 hok htw (hC 3 (by decide))) (hC 4 (by decide))]
/-- the numbers of the functions that are called by name are the same both ways -/
theorem nums_same {l : List PUnit} (hC : Clear l 5) {k : Nat} {u : PUnit} (hu : l[k]? = some u) : ∀ i ∈ u.imports, nRef l i.name = tgtN l i.name := by
  intro i hi
  have hok := hC.ok (by decide)
  have htw := hC.tw (by decide)
  rcases hit_tgt hok htw i with ⟨h1, _⟩ | ⟨_, v, g, _, h2⟩
  · exact absurd ⟨u, hu, i, hi, h1⟩ (hC 3 (by decide) k)
  · unfold tgtN; rw [h2]
theorem movedP_congr {N N' : List UInt8 → Int} {u : PUnit} (h : ∀ i ∈ u.imports, N i.name = N' i.name) (c f : Nat) (x : PIns) : movedP N u c f x = movedP N' u c f x := by
  unfold movedP
  by_cases h0 : x.op = 0
  · rw [if_pos h0, if_pos h0]
  · rw [if_neg h0, if_neg h0]
    by_cases h1 : x.op = 13
    · rw [if_pos h1, if_pos h1]
      cases hq : u.imports[(x.a - u.funcs.length).toNat]? with
      | none => rfl
      | some g => simp only [h g (List.mem_of_getElem? hq)]
    · rw [if_neg h1, if_neg h1]
end Go.Proofs.YtkgncijcnlfhiaaDoor

