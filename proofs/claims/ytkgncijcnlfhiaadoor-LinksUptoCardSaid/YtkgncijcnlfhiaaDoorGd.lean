import Derived.Test.YtkgncijcnlfhiaaDoorHk
import Derived.Test.YtkgncijcnlfhiaaDoorNa
namespace Go.Proofs.YtkgncijcnlfhiaaDoor
set_option linter.unusedVariables false
set_option linter.unusedSimpArgs false
open Go.RowKit
structure BU where
  v1 : Value
  v2 : Value
  v3 : Value
  v4 : Value
  v5 : Value
  u : PUnit
def fU (e : BU) : List Value := [e.v1, e.v2, e.v3, e.v4, e.v5]
abbrev zU : Array Value := #[nS, nS, nS, nS, nS]
theorem zU_at : ∀ i, i < 5 → zU[i]? = some nS
  | 0, _ => rfl
  | 1, _ => rfl
  | 2, _ => rfl
  | 3, _ => rfl
  | 4, _ => rfl
  | _ + 5, h => by omega
theorem cont_unit {m : Nat} {es : List BU} {cur : Array Value} {e : BU} (h : Cont fU 5 zU m es cur) (hm : es.length < m) :
    Cont fU 5 zU m (es ++ [e]) (((((cur.setIfInBounds (es.length * 5) e.v1).setIfInBounds (es.length * 5 + 1) e.v2).setIfInBounds (es.length * 5 + 2) e.v3).setIfInBounds (es.length * 5 + 3) e.v4).setIfInBounds (es.length * 5 + 4) e.v5) := by
  have hs := h.size
  refine h.snoc (by simp) (fun j hj => ?_) (fun q hq => ?_)
  · have n0 : es.length * 5 ≠ j := by omega
    have n1 : es.length * 5 + 1 ≠ j := by omega
    have n2 : es.length * 5 + 2 ≠ j := by omega
    have n3 : es.length * 5 + 3 ≠ j := by omega
    have n4 : es.length * 5 + 4 ≠ j := by omega
    simp only [Array.getElem?_setIfInBounds_ne n0, Array.getElem?_setIfInBounds_ne n1, Array.getElem?_setIfInBounds_ne n2, Array.getElem?_setIfInBounds_ne n3, Array.getElem?_setIfInBounds_ne n4]
  · have hq4 : q = 0 ∨ q = 1 ∨ q = 2 ∨ q = 3 ∨ q = 4 := by omega
    rcases hq4 with rfl | rfl | rfl | rfl | rfl
    · simp only [Nat.add_zero]; rw [Array.getElem?_setIfInBounds_ne (by omega), Array.getElem?_setIfInBounds_ne (by omega), Array.getElem?_setIfInBounds_ne (by omega), Array.getElem?_setIfInBounds_ne (by omega), Array.getElem?_setIfInBounds_self_of_lt (by omega)]; rfl
    · rw [Array.getElem?_setIfInBounds_ne (by omega), Array.getElem?_setIfInBounds_ne (by omega), Array.getElem?_setIfInBounds_ne (by omega), Array.getElem?_setIfInBounds_self_of_lt (by simp; omega)]; rfl
    · rw [Array.getElem?_setIfInBounds_ne (by omega), Array.getElem?_setIfInBounds_ne (by omega), Array.getElem?_setIfInBounds_self_of_lt (by simp; omega)]; rfl
    · rw [Array.getElem?_setIfInBounds_ne (by omega), Array.getElem?_setIfInBounds_self_of_lt (by simp; omega)]; rfl
    · rw [Array.getElem?_setIfInBounds_self_of_lt (by simp; omega)]; rfl
/-- a block without a number is none of a unit's but its shapes' -/
theorem rints_no {P : Nat → Prop} {w : World} {rb : Nat} {v : Value} {l : List Int} (h : RIntsP P w v l) (hr : ∀ o z, ¬ w.cell? ⟨rb, o, none⟩ = some (.int .i64 z)) : RIntsP (fun b => P b ∧ ¬ b = rb) w v l := by
  obtain ⟨ao, cap, hv, hm, hc⟩ := h
  refine ⟨ao, cap, hv, hm, fun i y hi => ?_⟩
  obtain ⟨b, off, h1, h2, h3⟩ := hc i y hi
  exact ⟨b, off, h1, ⟨h2, fun e => hr _ _ (e ▸ h3)⟩, h3⟩
theorem runit_no {P : Nat → Prop} {w : World} {rb sb m c : Nat} {v2 v3 v4 v5 : Value} {u : PUnit} (hr : ∀ o z, ¬ w.cell? ⟨rb, o, none⟩ = some (.int .i64 z)) (hsb : ¬ sb = rb) (h : RUnitP P w (.agg #[.slice (some ⟨sb, 0, none⟩) m c, v2, v3, v4, v5]) u) :
    RUnitP (fun b => P b ∧ ¬ b = rb) w (.agg #[.slice (some ⟨sb, 0, none⟩) m c, v2, v3, v4, v5]) u := by
  obtain ⟨y1, y2, y3, y4, y5, hv, h1, h2, h3, h4, h5⟩ := h
  simp only [Value.agg.injEq, Array.mk.injEq, List.cons.injEq, and_true] at hv
  obtain ⟨rfl, rfl, rfl, rfl, rfl⟩ := hv
  refine ⟨_, _, _, _, _, rfl, ?_, rints_no h2 hr, ?_, ?_, ?_⟩
  · obtain ⟨ao, cap, hv, hm, hc⟩ := h1
    refine ⟨ao, cap, hv, hm, fun i y hi => ?_⟩
    obtain ⟨b, off, vx, k1, k2, k3, k4⟩ := hc i y hi
    simp only [Value.slice.injEq] at hv
    have e : b = sb := by have := hv.1.trans k1; simp only [Option.some.injEq, Addr.mk.injEq] at this; exact this.1.symm
    exact ⟨b, off, vx, k1, ⟨k2, e ▸ hsb⟩, k3, rints_no k4 hr⟩
  · obtain ⟨ao, cap, hv, hm, hc⟩ := h3
    refine ⟨ao, cap, hv, hm, fun i y hi => ?_⟩
    obtain ⟨b, off, vp, vl, vc, k1, k2, k3, k4, k5, k6, k7, k8, k9⟩ := hc i y hi
    obtain ⟨ao', cap', hv', hm', hc'⟩ := k9
    refine ⟨b, off, vp, vl, vc, k1, ⟨k2, fun e => hr _ _ (e ▸ k4)⟩, k3, k4, k5, k6, rints_no k7 hr, rints_no k8 hr, ⟨ao', cap', hv', hm', fun j z hj => ?_⟩⟩
    obtain ⟨b', off', j1, j2, j3, j4⟩ := hc' j z hj
    exact ⟨b', off', j1, ⟨j2, fun e => hr _ _ (e ▸ j3)⟩, j3, j4⟩
  · obtain ⟨ao, cap, hv, hm, hc⟩ := h4
    refine ⟨ao, cap, hv, hm, fun i y hi => ?_⟩
    obtain ⟨b, off, vs, vp, k1, k2, k3, k4, k5, k6, k7⟩ := hc i y hi
    exact ⟨b, off, vs, vp, k1, ⟨k2, fun e => hr _ _ (e ▸ k5)⟩, k3, k4, k5, k6, rints_no k7 hr⟩
  · obtain ⟨ao, cap, hv, hm, hc⟩ := h5
    refine ⟨ao, cap, hv, hm, fun i y hi => ?_⟩
    obtain ⟨b, off, vs, k1, k2, k3, k4, k5⟩ := hc i y hi
    exact ⟨b, off, vs, k1, ⟨k2, fun e => hr _ _ (e ▸ k4)⟩, k3, k4, k5⟩
theorem RUnitP.slices {P : Nat → Prop} {w : World} {y1 y2 y3 y4 y5 : Value} {u : PUnit} (h : RUnitP P w (.agg #[y1, y2, y3, y4, y5]) u) : ∀ x ∈ [y1, y2, y3, y4, y5], ∃ a n c, x = .slice a n c := by
  obtain ⟨z1, z2, z3, z4, z5, hv, h1, h2, h3, h4, h5⟩ := h
  simp only [Value.agg.injEq, Array.mk.injEq, List.cons.injEq, and_true] at hv
  obtain ⟨rfl, rfl, rfl, rfl, rfl⟩ := hv
  obtain ⟨a1, c1, e1, _⟩ := h1
  obtain ⟨a2, c2, e2, _⟩ := h2
  obtain ⟨a3, c3, e3, _⟩ := h3
  obtain ⟨a4, c4, e4, _⟩ := h4
  obtain ⟨a5, c5, e5, _⟩ := h5
  intro x hx
  simp only [List.mem_cons, List.not_mem_nil, or_false] at hx
  rcases hx with rfl | rfl | rfl | rfl | rfl
  · exact ⟨_, _, _, e1⟩
  · exact ⟨_, _, _, e2⟩
  · exact ⟨_, _, _, e3⟩
  · exact ⟨_, _, _, e4⟩
  · exact ⟨_, _, _, e5⟩
/-- a row of the units is not the one that is being filled -/
theorem ns_of {lo ob xb n : Nat} {V : Nat → Value} {S : Nat → List (Nat × Nat)} {w : World} {cur : Array Value} {es : List BU} (h : OwnAt lo w ob false V S) (hw : WB lo ob V w xb 7 (n + 2) cur) (hc : Cont fU 5 zU (n + 2) es cur) (he : es.length ≤ n) : ∀ r ∈ S 7, ¬ r.1 = xb := by
  intro r hr e
  have k := h.rows 7 (by decide) r hr
  obtain ⟨cs, hcs, hsz⟩ := k.cells
  rw [e, hw.heap] at hcs
  simp only [Option.some.injEq, Obj.cells.injEq] at hcs
  obtain ⟨rfl, -⟩ := hcs
  have h1 := hw.size
  have h7 : sZ 7 = 5 := rfl
  rw [h7] at hsz h1
  have hr2 : r.2 = n + 2 := by omega
  have hi := k.inked n (.inr (by omega)) (by omega)
  obtain ⟨b', _, i1, _⟩ := hi
  rw [e, heap_cell hw.heap, hc.back (n * 5 + 1) (by omega) (by omega), show (n * 5 + 1) % 5 = 1 by omega] at i1
  simp [nS] at i1
def w0U (u : PUnit) : Nat := u.shapes.length + 2 * u.funcs.length + u.imports.length + 1
def c0U (l : List PUnit) (i : Nat) : Nat := ((l.take i).map w0U).sum
def c2U (l : List PUnit) (i : Nat) : Nat := ((l.take i).map fun u => u.funcs.length).sum
theorem sum_take {f : PUnit → Nat} : ∀ (l : List PUnit) (i : Nat), ((l.take i).map f).sum ≤ (l.map f).sum
  | [], i => by simp
  | a :: l, 0 => by simp
  | a :: l, i + 1 => by have := sum_take (f := f) l i; simp only [List.take_succ_cons, List.map_cons, List.sum_cons]; omega
theorem sum_snoc {f : PUnit → Nat} {l : List PUnit} {i : Nat} {x : PUnit} (h : l[i]? = some x) : ((l.take (i + 1)).map f).sum = ((l.take i).map f).sum + f x := by
  obtain ⟨h1, h2⟩ := List.getElem?_eq_some_iff.1 h
  rw [List.take_succ_eq_append_getElem h1, h2]; simp
theorem sum_twice : ∀ (l : List PUnit), (l.map w0U).sum ≤ 2 * (l.map fun u => u.shapes.length + u.funcs.length + u.imports.length + 1).sum
  | [] => by simp
  | a :: l => by have := sum_twice l; simp only [List.map_cons, List.sum_cons, w0U]; omega
theorem sum_funcs : ∀ (l : List PUnit), (l.map fun u => u.funcs.length).sum ≤ (l.map fun u => u.shapes.length + u.funcs.length + u.imports.length + 1).sum
  | [] => by simp
  | a :: l => by have := sum_funcs l; simp only [List.map_cons, List.sum_cons]; omega
/-- what units may weigh -/
structure FewL (l : List PUnit) : Prop where
  each : ∀ u ∈ l, Few u
  sum : (l.map fun u => u.shapes.length + u.funcs.length + u.imports.length + 1).sum ≤ 1048576
  len : l.length ≤ 200000
theorem FewL.c0 {l : List PUnit} (h : FewL l) (i : Nat) : c0U l i ≤ 2097152 := by
  have h1 := sum_take (f := w0U) l i
  have h2 := sum_twice l
  have h3 := h.sum
  unfold c0U; omega
theorem FewL.c2 {l : List PUnit} (h : FewL l) (i : Nat) : c2U l i ≤ 1048576 := by
  have h1 := sum_take (f := fun u => u.funcs.length) l i
  have h2 := sum_funcs l
  have h3 := h.sum
  unfold c2U; omega
def LpU (lo ob xb : Nat) (w0 : World) (V0 : Nat → Value) (l : List PUnit) (i : Nat) (wr : World) : Prop :=
  ∃ (V : Nat → Value) (S : Nat → List (Nat × Nat)) (cur : Array Value) (es : List BU), OwnAt lo wr ob false V S ∧ WB lo ob V wr xb 7 (l.length + 2) cur ∧ Cn S (c0U l i) (c2U l i) (4 * i) ∧ es.map (·.u) = l.take i ∧ es.length = i ∧
    (∀ e ∈ es, RUnitP (PX lo ob V xb) wr (.agg #[e.v1, e.v2, e.v3, e.v4, e.v5]) e.u) ∧ Cont fU 5 zU (l.length + 2) es cur ∧ (∀ (j : Nat) (x : Value), cur[j]? = some x → ∃ a n c, x = .slice a n c) ∧ FrX lo ob xb V0 V w0 wr
theorem sl_set {cur : Array Value} {j : Nat} {v : Value} (h : ∀ (j : Nat) (x : Value), cur[j]? = some x → ∃ a n c, x = .slice a n c) (hv : ∃ a n c, v = .slice a n c) : ∀ (i : Nat) (x : Value), (cur.setIfInBounds j v)[i]? = some x → ∃ a n c, x = .slice a n c := by
  intro i x hx
  by_cases e : j = i
  · subst e
    by_cases hl : j < cur.size
    · rw [Array.getElem?_setIfInBounds_self_of_lt hl] at hx
      obtain rfl := Option.some.inj hx; exact hv
    · rw [Array.getElem?_eq_none (by simp; omega)] at hx; cases hx
  · rw [Array.getElem?_setIfInBounds_ne e] at hx; exact h i x hx
theorem LpU.start {lo ob : Nat} {V : Nat → Value} {S : Nat → List (Nat × Nat)} {w : World} (l : List PUnit) (h : OwnAt lo w ob false V S) (hs : lo ≤ w.heap.size) (hS : Cn S 0 0 0) :
    LpU lo ob w.heap.size w V l 0 (w.alloc (.cells (madeCells zU ((l.length + 2) * 5)) 28)) := by
  have g := (Gr.refl w).alloc (.cells (madeCells zU ((l.length + 2) * 5)) 28)
  refine ⟨V, S, madeCells zU ((l.length + 2) * 5), [], h.gr g, ⟨h.fresh hs (Nat.le_refl _), heap_new _ _, by rw [size_madeCells]; rfl⟩, hS, rfl, rfl, by simp, Cont.start rfl (by decide), fun j x hx => ?_, (fr_gr g hs).toX⟩
  have hj : j < (l.length + 2) * 5 := by have := (Array.getElem?_eq_some_iff.1 hx).1; rwa [size_madeCells] at this
  rw [made_at (by decide) hj] at hx
  have hz : ∀ i, i < 5 → zU[i]? = some nS := zU_at
  rw [show zU.size = 5 from rfl, hz _ (Nat.mod_lt _ (by decide))] at hx
  obtain rfl := Option.some.inj hx
  exact ⟨_, _, _, rfl⟩
theorem LpU.step {lo ob xb : Nat} {w0 : World} {V0 V V2 : Nat → Value} {S2 : Nat → List (Nat × Nat)} {cur : Array Value} {es : List BU} {l : List PUnit} {i : Nat} {wr w' : World} {x : PUnit} {sb n q : Nat} {y2 y3 y4 y5 : Value}
    (hwb : WB lo ob V wr xb 7 (l.length + 2) cur) (hes : es.map (·.u) = l.take i) (hlen : es.length = i)
    (hri : ∀ e ∈ es, RUnitP (PX lo ob V xb) wr (.agg #[e.v1, e.v2, e.v3, e.v4, e.v5]) e.u) (hc : Cont fU 5 zU (l.length + 2) es cur) (hsl : ∀ (j : Nat) (x : Value), cur[j]? = some x → ∃ a n c, x = .slice a n c) (hfx : FrX lo ob xb V0 V w0 wr) (hx : l[i]? = some x)
    (hr : RUnitP (PO lo ob V2) w' (.agg #[.slice (some ⟨sb, 0, none⟩) n q, y2, y3, y4, y5]) x) (ho : OwnAt lo w' ob false V2 S2) (hcn : Cn S2 (c0U l i + x.shapes.length + 2 * x.funcs.length + x.imports.length + 1) (c2U l i + x.funcs.length) (4 * i + 4)) (hf : Fr lo ob V V2 wr w') (hb : wr.heap.size ≤ sb) :
    LpU lo ob xb w0 V0 l (i + 1) (((((w'.setCell ⟨xb, i * 5, none⟩ (.slice (some ⟨sb, 0, none⟩) n q)).setCell ⟨xb, i * 5 + 1, none⟩ y2).setCell ⟨xb, i * 5 + 2, none⟩ y3).setCell ⟨xb, i * 5 + 3, none⟩ y4).setCell ⟨xb, i * 5 + 4, none⟩ y5) := by
  have hil : i < l.length := (List.getElem?_eq_some_iff.1 hx).1
  have hwb2 := hwb.fr hf
  have hS := ns_of ho hwb2 hc (by omega)
  have hxl := block_lt hwb.heap
  have hno : ∀ o z, ¬ w'.cell? ⟨xb, o, none⟩ = some (.int .i64 z) := fun o z e => by
    rw [heap_cell hwb2.heap] at e
    obtain ⟨a, n, c, e2⟩ := hsl _ _ e
    cases e2
  have hnew : RUnitP (PX lo ob V2 xb) w' (.agg #[.slice (some ⟨sb, 0, none⟩) n q, y2, y3, y4, y5]) x := runit_no hno (by omega) hr
  have hys := hr.slices
  have o1 := ho.setw hwb2 (by decide) (by decide) hS (i * 5) (.slice (some ⟨sb, 0, none⟩) n q)
  have b1 := hwb2.set (i * 5) (.slice (some ⟨sb, 0, none⟩) n q)
  have o2 := o1.setw b1 (by decide) (by decide) hS (i * 5 + 1) y2
  have b2 := b1.set (i * 5 + 1) y2
  have o3 := o2.setw b2 (by decide) (by decide) hS (i * 5 + 2) y3
  have b3 := b2.set (i * 5 + 2) y3
  have o4 := o3.setw b3 (by decide) (by decide) hS (i * 5 + 3) y4
  have b4 := b3.set (i * 5 + 3) y4
  have o5 := o4.setw b4 (by decide) (by decide) hS (i * 5 + 4) y5
  have b5 := b4.set (i * 5 + 4) y5
  have hP := hwb2.po.1
  have hcu := cont_unit (e := ⟨.slice (some ⟨sb, 0, none⟩) n q, y2, y3, y4, y5, x⟩) hc (by omega)
  rw [hlen] at hcu
  refine ⟨V2, S2, _, es ++ [⟨.slice (some ⟨sb, 0, none⟩) n q, y2, y3, y4, y5, x⟩], o5, b5, ?_, takes_snoc hes hx rfl, by simp [hlen], ?_, hcu, sl_set (sl_set (sl_set (sl_set (sl_set hsl (hys _ (by simp))) (hys _ (by simp))) (hys _ (by simp))) (hys _ (by simp))) (hys _ (by simp)), (((((hfx.fr hf).set hP _ _).set hP _ _).set hP _ _).set hP _ _).set hP _ _⟩
  · have e0 : c0U l (i + 1) = c0U l i + w0U x := sum_snoc hx
    have e2 : c2U l (i + 1) = c2U l i + x.funcs.length := sum_snoc (f := fun u => u.funcs.length) hx
    rw [e0, e2]
    exact hcn.mono (by unfold w0U; omega) (Nat.le_refl _) (by omega)
  · intro e he
    rcases List.mem_append.1 he with he | he
    · exact ((((((hri e he).stay (px_fr hf)).stay px_set).stay px_set).stay px_set).stay px_set).stay px_set
    · rw [List.mem_singleton.1 he]; exact ((((hnew.stay px_set).stay px_set).stay px_set).stay px_set).stay px_set
theorem all_mid {lo ob xb : Nat} {w0 : World} {V0 V : Nat → Value} {S : Nat → List (Nat × Nat)} {cur : Array Value} {es : List BU} {l : List PUnit} {wr : World}
    (ho : OwnAt lo wr ob false V S) (hlo : lo ≤ wr.heap.size) (hwb : WB lo ob V wr xb 7 (l.length + 2) cur) (hes : es.map (·.u) = l) (hll : l.length ≤ 2000000)
    (hri : ∀ e ∈ es, RUnitP (PX lo ob V xb) wr (.agg #[e.v1, e.v2, e.v3, e.v4, e.v5]) e.u) (hc : Cont fU 5 zU (l.length + 2) es cur) (hfx : FrX lo ob xb V0 V w0 wr) (hx0 : w0.heap.size ≤ xb) :
    ∃ W4, W4 = ((((wr.setCell ⟨xb, l.length * 5 + 1, none⟩ (.slice (some ⟨wr.heap.size, 0, none⟩) 1 1)).setCell ⟨xb, (l.length + 1) * 5 + 1, none⟩ (.slice (some ⟨wr.heap.size + 1, 0, none⟩) 1 1)).alloc (.cells #[inkV] 3)).alloc (.cells #[inkV] 3)) ∧
    OwnAt lo W4 ob false V S ∧ Fr lo ob V0 V w0 W4 ∧ RowOk (PO lo ob V) W4 7 false (xb, l.length + 2) ∧ PO lo ob V xb ∧ (∃ c, W4.heap[xb]? = some (.cells c 28 (0, 0)) ∧ ∀ i e, es[i]? = some e → ∀ q, q < 5 → c[i * 5 + q]? = (fU e)[q]?) ∧ ∀ e ∈ es, RUnitP (PO lo ob V) W4 (.agg #[e.v1, e.v2, e.v3, e.v4, e.v5]) e.u := by
  have hlen : es.length = l.length := by rw [← hes, List.length_map]
  have hS := ns_of ho hwb hc (by omega)
  have o1 := ho.setw hwb (by decide) (by decide) hS (l.length * 5 + 1) (.slice (some ⟨wr.heap.size, 0, none⟩) 1 1)
  have b1 := hwb.set (l.length * 5 + 1) (.slice (some ⟨wr.heap.size, 0, none⟩) 1 1)
  have f1 := hfx.set hwb.po.1 (l.length * 5 + 1) (.slice (some ⟨wr.heap.size, 0, none⟩) 1 1)
  have r1 : ∀ e ∈ es, RUnitP (PX lo ob V xb) (wr.setCell ⟨xb, l.length * 5 + 1, none⟩ (.slice (some ⟨wr.heap.size, 0, none⟩) 1 1)) (.agg #[e.v1, e.v2, e.v3, e.v4, e.v5]) e.u := fun e he => (hri e he).stay px_set
  have o2 := o1.setw b1 (by decide) (by decide) hS ((l.length + 1) * 5 + 1) (.slice (some ⟨wr.heap.size + 1, 0, none⟩) 1 1)
  have b2 := b1.set ((l.length + 1) * 5 + 1) (.slice (some ⟨wr.heap.size + 1, 0, none⟩) 1 1)
  have f2 := f1.set hwb.po.1 ((l.length + 1) * 5 + 1) (.slice (some ⟨wr.heap.size + 1, 0, none⟩) 1 1)
  have r2 : ∀ e ∈ es, RUnitP (PX lo ob V xb) ((wr.setCell ⟨xb, l.length * 5 + 1, none⟩ (.slice (some ⟨wr.heap.size, 0, none⟩) 1 1)).setCell ⟨xb, (l.length + 1) * 5 + 1, none⟩ (.slice (some ⟨wr.heap.size + 1, 0, none⟩) 1 1)) (.agg #[e.v1, e.v2, e.v3, e.v4, e.v5]) e.u := fun e he => (r1 e he).stay px_set
  have hs1 : ((wr.setCell ⟨xb, l.length * 5 + 1, none⟩ (.slice (some ⟨wr.heap.size, 0, none⟩) 1 1)).setCell ⟨xb, (l.length + 1) * 5 + 1, none⟩ (.slice (some ⟨wr.heap.size + 1, 0, none⟩) 1 1)).heap.size = wr.heap.size := by simp
  generalize (wr.setCell ⟨xb, l.length * 5 + 1, none⟩ (.slice (some ⟨wr.heap.size, 0, none⟩) 1 1)).setCell ⟨xb, (l.length + 1) * 5 + 1, none⟩ (.slice (some ⟨wr.heap.size + 1, 0, none⟩) 1 1) = X1 at o2 b2 f2 r2 hs1 ⊢
  have hg : Gr X1 ((X1.alloc (.cells #[inkV] 3)).alloc (.cells #[inkV] 3)) := ((Gr.refl X1).alloc _).alloc _
  have o4 := o2.gr hg
  have b4 := b2.gr hg
  have f4 := (f2.fr (fr_gr (V := V) hg (by omega))).close hx0
  have hA := heap_new X1 (.cells #[inkV] 3)
  have hA4 : ((X1.alloc (.cells #[inkV] 3)).alloc (.cells #[inkV] 3)).heap[wr.heap.size]? = some (.cells #[inkV] 3 (0, 0)) := by
    rw [← hs1]
    exact ((World.grownBy_alloc (X1.alloc (.cells #[inkV] 3)) (.cells #[inkV] 3) none).block X1.heap.size (by simp) (by simp)).trans hA
  have hB4 : ((X1.alloc (.cells #[inkV] 3)).alloc (.cells #[inkV] 3)).heap[wr.heap.size + 1]? = some (.cells #[inkV] 3 (0, 0)) := by
    have := heap_new (X1.alloc (.cells #[inkV] 3)) (.cells #[inkV] 3)
    rw [show (X1.alloc (.cells #[inkV] 3)).heap.size = wr.heap.size + 1 by simp [hs1]] at this
    exact this
  have hPa : PO lo ob V wr.heap.size := ho.fresh hlo (Nat.le_refl _)
  have hPb : PO lo ob V (wr.heap.size + 1) := ho.fresh hlo (by omega)
  have hcs : cur.size = (l.length + 2) * 5 := by rw [hwb.size]; rfl
  have hz : ∀ i, i < 5 → zU[i]? = some nS := zU_at
  have hbk : ∀ j, l.length * 5 ≤ j → j < (l.length + 2) * 5 → cur[j]? = some nS := fun j h1 h2 => by
    rw [hc.back j (by rw [hlen]; exact h1) h2, hz _ (Nat.mod_lt _ (by decide))]
  refine ⟨_, rfl, ?_⟩
  have r4 : ∀ e ∈ es, RUnitP (PO lo ob V) ((X1.alloc (.cells #[inkV] 3)).alloc (.cells #[inkV] 3)) (.agg #[e.v1, e.v2, e.v3, e.v4, e.v5]) e.u := fun e he => (r2 e he).stay (fun b hb hl => ⟨hg.block b hl (by simp), hb.1⟩)
  generalize (X1.alloc (.cells #[inkV] 3)).alloc (.cells #[inkV] 3) = X4' at o4 b4 f4 hA4 hB4 r4 ⊢
  refine ⟨o4, f4, ⟨b4.po, by simp, by simp; omega, ⟨_, b4.heap, b4.size⟩, fun k hk hl => ?_⟩, b4.po, ⟨_, b4.heap, fun i e he q hq => ?_⟩, r4⟩
  · rcases hk with hk | hk
    · cases hk
    · simp only at hk hl
      have e0 : k = l.length ∨ k = l.length + 1 := by omega
      simp only [Ink]
      rcases e0 with rfl | rfl
      · refine ⟨wr.heap.size, ?_, ?_, ?_, ?_, ?_, hPa, hA4⟩
        · rw [heap_cell b4.heap, Array.getElem?_setIfInBounds_ne (by omega), Array.getElem?_setIfInBounds_ne (by omega), hbk _ (by omega) (by omega)]
        · rw [heap_cell b4.heap, Array.getElem?_setIfInBounds_ne (by omega), Array.getElem?_setIfInBounds_self_of_lt (by omega)]
        · rw [heap_cell b4.heap, Array.getElem?_setIfInBounds_ne (by omega), Array.getElem?_setIfInBounds_ne (by omega), hbk _ (by omega) (by omega)]
        · rw [heap_cell b4.heap, Array.getElem?_setIfInBounds_ne (by omega), Array.getElem?_setIfInBounds_ne (by omega), hbk _ (by omega) (by omega)]
        · rw [heap_cell b4.heap, Array.getElem?_setIfInBounds_ne (by omega), Array.getElem?_setIfInBounds_ne (by omega), hbk _ (by omega) (by omega)]
      · refine ⟨wr.heap.size + 1, ?_, ?_, ?_, ?_, ?_, hPb, hB4⟩
        · rw [heap_cell b4.heap, Array.getElem?_setIfInBounds_ne (by omega), Array.getElem?_setIfInBounds_ne (by omega), hbk _ (by omega) (by omega)]
        · rw [heap_cell b4.heap, Array.getElem?_setIfInBounds_self_of_lt (by simp; omega)]
        · rw [heap_cell b4.heap, Array.getElem?_setIfInBounds_ne (by omega), Array.getElem?_setIfInBounds_ne (by omega), hbk _ (by omega) (by omega)]
        · rw [heap_cell b4.heap, Array.getElem?_setIfInBounds_ne (by omega), Array.getElem?_setIfInBounds_ne (by omega), hbk _ (by omega) (by omega)]
        · rw [heap_cell b4.heap, Array.getElem?_setIfInBounds_ne (by omega), Array.getElem?_setIfInBounds_ne (by omega), hbk _ (by omega) (by omega)]
  · have hil : i < es.length := (List.getElem?_eq_some_iff.1 he).1
    rw [Array.getElem?_setIfInBounds_ne (by omega), Array.getElem?_setIfInBounds_ne (by omega)]
    exact hc.front i e he q hq
/-- units that were lent -/
def AllLent (lo ob : Nat) (V : Nat → Value) (l : List PUnit) (w : World) (x : Ending) (w' : World) : Prop :=
  ∃ a c V' S', x = .returned (.slice a l.length c) ∧ RUnits w' (.slice a l.length c) l ∧ OwnAt lo w' ob false V' S' ∧ Fr lo ob V V' w w'
theorem all_units {lo ob xb : Nat} {V V' : Nat → Value} {es : List BU} {l : List PUnit} {W4 W5 : World} {c : Array Value} (hes : es.map (·.u) = l) (hll : l.length ≤ 2000000) (hx : PO lo ob V xb) (hb : W4.heap[xb]? = some (.cells c 28 (0, 0))) (hc : ∀ i e, es[i]? = some e → ∀ q, q < 5 → c[i * 5 + q]? = (fU e)[q]?) (hr : ∀ e ∈ es, RUnitP (PO lo ob V) W4 (.agg #[e.v1, e.v2, e.v3, e.v4, e.v5]) e.u) (hs : Stay (PO lo ob V) (PO lo ob V') W4 W5) : RUnits W5 (.slice (some ⟨xb, 0, none⟩) l.length (l.length + 2)) l := by
  have hlen : es.length = l.length := by rw [← hes, List.length_map]
  have hb5 := ((hs xb hx (block_lt hb)).1).trans hb
  refine ⟨_, _, rfl, by unfold maxLen; omega, fun i u hi => ?_⟩
  have hil : i < l.length := (List.getElem?_eq_some_iff.1 hi).1
  obtain ⟨e, he⟩ := getElem?_lt (l := es) (k := i) (by omega)
  have hex : e.u = u := by
    have h1 : (es.map (·.u))[i]? = some e.u := by rw [List.getElem?_map, he]; rfl
    rw [hes, hi] at h1; exact (Option.some.inj h1).symm
  refine ⟨xb, 0, e.v1, e.v2, e.v3, e.v4, e.v5, rfl, ?_, ?_, ?_, ?_, ?_, ?_⟩
  · rw [Nat.zero_add, heap_cell hb5]; exact hc i e he 0 (by decide)
  · rw [Nat.zero_add, heap_cell hb5]; exact hc i e he 1 (by decide)
  · rw [Nat.zero_add, heap_cell hb5]; exact hc i e he 2 (by decide)
  · rw [Nat.zero_add, heap_cell hb5]; exact hc i e he 3 (by decide)
  · rw [Nat.zero_add, heap_cell hb5]; exact hc i e he 4 (by decide)
  · rw [← hex]; exact ((hr e (List.mem_of_getElem? he)).stay hs).to
end Go.Proofs.YtkgncijcnlfhiaaDoor

