import Derived.Test.YtkgncijcnlfhiaaDoorH7
namespace Go.Proofs.YtkgncijcnlfhiaaDoor
set_option linter.unusedVariables false
set_option linter.unusedSimpArgs false
open Go.RowKit
structure FrX (lo ob sb : Nat) (V V' : Nat → Value) (w w' : World) : Prop where
  size : w.heap.size ≤ w'.heap.size
  stay : Stay (PX lo ob V sb) (PX lo ob V' sb) w w'
  low : Below lo w w'
theorem Fr.toX {lo ob sb : Nat} {V V' : Nat → Value} {w w' : World} (h : Fr lo ob V V' w w') : FrX lo ob sb V V' w w' := ⟨h.size, px_fr h, h.low⟩
theorem FrX.fr {lo ob sb : Nat} {V V' V'' : Nat → Value} {w w' w'' : World} (h : FrX lo ob sb V V' w w') (k : Fr lo ob V' V'' w' w'') : FrX lo ob sb V V'' w w'' := ⟨Nat.le_trans h.size k.size, h.stay.trans (px_fr k) h.size, h.low.trans k.low⟩
theorem FrX.set {lo ob sb : Nat} {V V' : Nat → Value} {w w' : World} (h : FrX lo ob sb V V' w w') (hl : lo ≤ sb) (o : Nat) (v : Value) : FrX lo ob sb V V' w (w'.setCell ⟨sb, o, none⟩ v) := ⟨by simpa using h.size, h.stay.trans px_set h.size, h.low.setCell (p := ⟨sb, o, none⟩) hl _⟩
theorem FrX.close {lo ob sb : Nat} {V V' : Nat → Value} {w w' : World} (h : FrX lo ob sb V V' w w') (hs : w.heap.size ≤ sb) : Fr lo ob V V' w w' := ⟨h.size, fun b hb hl => ⟨(h.stay b ⟨hb, by omega⟩ hl).1, (h.stay b ⟨hb, by omega⟩ hl).2.1⟩, h.low⟩
/-- a unit, all of whose lists are such ones -/
def RUnitP (P : Nat → Prop) (w : World) (v : Value) (u : PUnit) : Prop :=
  ∃ v1 v2 v3 v4 v5, v = .agg #[v1, v2, v3, v4, v5] ∧ RShapesP P w v1 u.shapes ∧ RIntsP P w v2 u.consts ∧ RFuncsP P w v3 u.funcs ∧ RImportsP P w v4 u.imports ∧ RExportsP P w v5 u.exports
theorem RUnitP.stay {P P' : Nat → Prop} {w w' : World} {v : Value} {u : PUnit} (h : RUnitP P w v u) (g : Stay P P' w w') : RUnitP P' w' v u := by
  obtain ⟨v1, v2, v3, v4, v5, hv, h1, h2, h3, h4, h5⟩ := h
  exact ⟨v1, v2, v3, v4, v5, hv, h1.stay g, h2.stay g, h3.stay g, h4.stay g, h5.stay g⟩
/-- what a unit may weigh -/
structure Few (u : PUnit) : Prop where
  shapes : u.shapes.length ≤ 1048576
  consts : u.consts.length ≤ 1048576
  funcs : u.funcs.length ≤ 1048576
  imports : u.imports.length ≤ 1048576
  exports : u.exports.length ≤ 1048576
  shape : ∀ s ∈ u.shapes, s.length ≤ 1048576
  func : ∀ f ∈ u.funcs, f.params.length ≤ 1048576 ∧ f.locals.length ≤ 1048576 ∧ f.code.length ≤ 1048576
  import_ : ∀ i ∈ u.imports, i.params.length ≤ 1048576
def Lp1 (lo ob ub rb sb : Nat) (v1 v2 v3 v4 v5 : Value) (w00 w0 : World) (V : Nat → Value) (l : List (List Int)) (c0 c2 c i : Nat) (wr : World) : Prop :=
  ∃ (V' : Nat → Value) (S' : Nat → List (Nat × Nat)) (cur : Array Value) (es : List (Value × List Int)), UO lo ob ub rb V' S' v1 v2 v3 v4 v5 w00 wr ∧ WB lo ob V' wr sb 1 (l.length + 2) cur ∧ (∀ r ∈ S' 1, ¬ r.1 = sb) ∧ Cn S' (c0 + i) c2 c ∧ es.map (·.2) = l.take i ∧ es.length = i ∧
    (∀ e ∈ es, RIntsP (PX lo ob V' sb) wr e.1 e.2) ∧ (∀ (j : Nat) (e : Value × List Int), es[j]? = some e → cur[j]? = some e.1) ∧ FrX lo ob sb V V' w0 wr
theorem Lp1.step {lo ob ub rb sb : Nat} {v1 v2 v3 v4 v5 : Value} {w00 w0 : World} {V V' : Nat → Value} {S' : Nat → List (Nat × Nat)} {cur : Array Value} {es : List (Value × List Int)} {l : List (List Int)} {c0 c2 c i : Nat} {wr w' : World} {x : List Int} {b : Nat} {V2 : Nat → Value}
    (huo : UO lo ob ub rb V' S' v1 v2 v3 v4 v5 w00 wr) (hwb : WB lo ob V' wr sb 1 (l.length + 2) cur) (hns : ∀ r ∈ S' 1, ¬ r.1 = sb) (hcn : Cn S' (c0 + i) c2 c) (hes : es.map (·.2) = l.take i) (hlen : es.length = i)
    (hri : ∀ e ∈ es, RIntsP (PX lo ob V' sb) wr e.1 e.2) (hcur : ∀ (j : Nat) (e : Value × List Int), es[j]? = some e → cur[j]? = some e.1) (hfx : FrX lo ob sb V V' w0 wr) (hx : l[i]? = some x)
    (hb : wr.heap.size ≤ b) (hr : RIntsP (PO lo ob V2) w' (.slice (some ⟨b, 0, none⟩) x.length (x.length + 2)) x) (ho : OwnAt lo w' ob false V2 (updS S' 0 (b, x.length + 2))) (hf : Fr lo ob V' V2 wr w') :
    Lp1 lo ob ub rb sb v1 v2 v3 v4 v5 w00 w0 V l c0 c2 c (i + 1) (w'.setCell ⟨sb, i, none⟩ (.slice (some ⟨b, 0, none⟩) x.length (x.length + 2))) := by
  have hil : i < l.length := (List.getElem?_eq_some_iff.1 hx).1
  have hwb2 := hwb.fr hf
  have hns2 : ∀ r ∈ updS S' 0 (b, x.length + 2) 1, ¬ r.1 = sb := by simpa [updS] using hns
  have hbs : ¬ b = sb := by have := block_lt hwb.heap; omega
  have hbl : b < w'.heap.size := by
    obtain ⟨cs, hcs, _⟩ := (ho.rows 0 (by decide) (b, x.length + 2) (by simp [updS])).cells
    exact block_lt hcs
  have hPb : PX lo ob V2 sb b := ⟨(ho.rows 0 (by decide) (b, x.length + 2) (by simp [updS])).here, hbs⟩
  refine ⟨V2, updS S' 0 (b, x.length + 2), cur.setIfInBounds i (.slice (some ⟨b, 0, none⟩) x.length (x.length + 2)), es ++ [(.slice (some ⟨b, 0, none⟩) x.length (x.length + 2), x)], (huo.fr ho hf).setw hwb2 (by decide) (by decide) hns2 _ _, hwb2.set _ _, hns2, by rw [← Nat.add_assoc]; exact hcn.push0, ?_, by simp [hlen], ?_, ?_, (hfx.fr hf).set hwb2.po.1 _ _⟩
  · obtain ⟨h1, h2⟩ := List.getElem?_eq_some_iff.1 hx
    rw [List.map_append, hes, List.take_succ_eq_append_getElem h1, h2]; rfl
  · intro e he
    rcases List.mem_append.1 he with he | he
    · exact ((hri e he).stay (px_fr hf)).stay px_set
    · rw [List.mem_singleton.1 he]; exact (rints_at hr hPb).stay px_set
  · intro j e hj
    by_cases hji : j < i
    · rw [List.getElem?_append_left (by omega)] at hj
      rw [Array.getElem?_setIfInBounds_ne (by omega)]; exact hcur j e hj
    · have hje : j = i := by
        have := (List.getElem?_eq_some_iff.1 hj).1; simp [hlen] at this; omega
      subst hje
      rw [List.getElem?_append_right (by omega), hlen] at hj
      simp at hj; subst hj
      rw [Array.getElem?_setIfInBounds_self_of_lt (by rw [hwb.size]; simp [sZ]; omega)]
theorem heap_new (w : World) (o : Obj) : (w.alloc o).heap[w.heap.size]? = some o := by show (w.heap.push _)[w.heap.size]? = _; simp
theorem lists_mid {lo ob ub rb sb : Nat} {v1 v2 v3 v4 v5 : Value} {w00 : World} {V' : Nat → Value} {S' : Nat → List (Nat × Nat)} {cur : Array Value} {es : List (Value × List Int)} {l : List (List Int)} {wr : World}
    (huo : UO lo ob ub rb V' S' v1 v2 v3 v4 v5 w00 wr) (hwb : WB lo ob V' wr sb 1 (l.length + 2) cur) (hns : ∀ r ∈ S' 1, ¬ r.1 = sb) (hes : es.map (·.2) = l) (hll : l.length ≤ 2000000)
    (hri : ∀ e ∈ es, RIntsP (PX lo ob V' sb) wr e.1 e.2) (hcur : ∀ (j : Nat) (e : Value × List Int), es[j]? = some e → cur[j]? = some e.1) :
    UO lo ob ub rb V' S' v1 v2 v3 v4 v5 w00 ((((wr.setCell ⟨sb, l.length, none⟩ (.slice (some ⟨wr.heap.size, 0, none⟩) 1 1)).setCell ⟨sb, l.length + 1, none⟩ (.slice (some ⟨wr.heap.size + 1, 0, none⟩) 1 1)).alloc (.cells #[inkV] 3)).alloc (.cells #[inkV] 3)) ∧ FrX lo ob sb V' V' wr ((((wr.setCell ⟨sb, l.length, none⟩ (.slice (some ⟨wr.heap.size, 0, none⟩) 1 1)).setCell ⟨sb, l.length + 1, none⟩ (.slice (some ⟨wr.heap.size + 1, 0, none⟩) 1 1)).alloc (.cells #[inkV] 3)).alloc (.cells #[inkV] 3)) ∧ RowOk (PO lo ob V') ((((wr.setCell ⟨sb, l.length, none⟩ (.slice (some ⟨wr.heap.size, 0, none⟩) 1 1)).setCell ⟨sb, l.length + 1, none⟩ (.slice (some ⟨wr.heap.size + 1, 0, none⟩) 1 1)).alloc (.cells #[inkV] 3)).alloc (.cells #[inkV] 3)) 1 false (sb, l.length + 2) ∧ RShapesP (PO lo ob V') ((((wr.setCell ⟨sb, l.length, none⟩ (.slice (some ⟨wr.heap.size, 0, none⟩) 1 1)).setCell ⟨sb, l.length + 1, none⟩ (.slice (some ⟨wr.heap.size + 1, 0, none⟩) 1 1)).alloc (.cells #[inkV] 3)).alloc (.cells #[inkV] 3)) (.slice (some ⟨sb, 0, none⟩) l.length (l.length + 2)) l := by
  have hlen : es.length = l.length := by rw [← hes, List.length_map]
  have u1 := huo.setw hwb (by decide) (by decide) hns l.length (.slice (some ⟨wr.heap.size, 0, none⟩) 1 1)
  have b1 := hwb.set l.length (.slice (some ⟨wr.heap.size, 0, none⟩) 1 1)
  have f1 := (Fr.refl lo ob V' wr).toX.set hwb.po.1 l.length (.slice (some ⟨wr.heap.size, 0, none⟩) 1 1) (sb := sb)
  have u2 := u1.setw b1 (by decide) (by decide) hns (l.length + 1) (.slice (some ⟨wr.heap.size + 1, 0, none⟩) 1 1)
  have b2 := b1.set (l.length + 1) (.slice (some ⟨wr.heap.size + 1, 0, none⟩) 1 1)
  have f2 := f1.set b1.po.1 (l.length + 1) (.slice (some ⟨wr.heap.size + 1, 0, none⟩) 1 1)
  have hs1 : ((wr.setCell ⟨sb, l.length, none⟩ (.slice (some ⟨wr.heap.size, 0, none⟩) 1 1)).setCell ⟨sb, l.length + 1, none⟩ (.slice (some ⟨wr.heap.size + 1, 0, none⟩) 1 1)).heap.size = wr.heap.size := by simp
  generalize (wr.setCell ⟨sb, l.length, none⟩ (.slice (some ⟨wr.heap.size, 0, none⟩) 1 1)).setCell ⟨sb, l.length + 1, none⟩ (.slice (some ⟨wr.heap.size + 1, 0, none⟩) 1 1) = X1 at u2 b2 f2 hs1 ⊢
  have hg : Gr X1 ((X1.alloc (.cells #[inkV] 3)).alloc (.cells #[inkV] 3)) := ((Gr.refl X1).alloc _).alloc _
  have u4 := u2.gr hg
  have b4 := b2.gr hg
  have f4 := f2.fr (fr_gr (V := V') hg u2.size)
  have hA := heap_new X1 (.cells #[inkV] 3)
  have hA4 : ((X1.alloc (.cells #[inkV] 3)).alloc (.cells #[inkV] 3)).heap[wr.heap.size]? = some (.cells #[inkV] 3 (0, 0)) := by
    rw [← hs1]
    exact ((World.grownBy_alloc (X1.alloc (.cells #[inkV] 3)) (.cells #[inkV] 3) none).block X1.heap.size (by simp) (by simp)).trans hA
  have hB4 : ((X1.alloc (.cells #[inkV] 3)).alloc (.cells #[inkV] 3)).heap[wr.heap.size + 1]? = some (.cells #[inkV] 3 (0, 0)) := by
    have := heap_new (X1.alloc (.cells #[inkV] 3)) (.cells #[inkV] 3)
    rw [show (X1.alloc (.cells #[inkV] 3)).heap.size = wr.heap.size + 1 by simp [hs1]] at this
    exact this
  have hPa : PO lo ob V' wr.heap.size := huo.own.fresh huo.size (Nat.le_refl _)
  have hPb : PO lo ob V' (wr.heap.size + 1) := huo.own.fresh huo.size (by omega)
  have hcs : cur.size = l.length + 2 := by rw [hwb.size]; simp [sZ]
  generalize (X1.alloc (.cells #[inkV] 3)).alloc (.cells #[inkV] 3) = X4' at u4 b4 f4 hA4 hB4 ⊢
  refine ⟨u4, f4, ⟨b4.po, by simp, by simp; omega, ⟨_, b4.heap, b4.size⟩, fun k hk hl => ?_⟩, ⟨_, _, rfl, by unfold maxLen; omega, fun i x hi => ?_⟩⟩
  · rcases hk with hk | hk
    · cases hk
    · simp only at hk hl
      have e0 : k = l.length ∨ k = l.length + 1 := by omega
      simp only [Ink]
      rcases e0 with rfl | rfl
      · exact ⟨wr.heap.size, by rw [heap_cell b4.heap, Array.getElem?_setIfInBounds_ne (by omega), Array.getElem?_setIfInBounds_self_of_lt (by omega)], hPa, hA4⟩
      · exact ⟨wr.heap.size + 1, by rw [heap_cell b4.heap, Array.getElem?_setIfInBounds_self_of_lt (by simp; omega)], hPb, hB4⟩
  · have hil : i < l.length := (List.getElem?_eq_some_iff.1 hi).1
    obtain ⟨e, he⟩ := getElem?_lt (l := es) (k := i) (by omega)
    have hex : e.2 = x := by
      have h1 : (es.map (·.2))[i]? = some e.2 := by rw [List.getElem?_map, he]; rfl
      rw [hes, hi] at h1; exact (Option.some.inj h1).symm
    refine ⟨sb, 0, e.1, rfl, b4.po, ?_, ?_⟩
    · rw [Nat.zero_add, heap_cell b4.heap, Array.getElem?_setIfInBounds_ne (by omega), Array.getElem?_setIfInBounds_ne (by omega)]
      exact hcur i e he
    · rw [← hex]; exact ((hri e (List.mem_of_getElem? he)).stay f4.stay).stay px_po
/-- a unit that was lent -/
def UnitLent (lo ob : Nat) (V : Nat → Value) (c0 c2 c : Nat) (u : PUnit) (w : World) (x : Ending) (w' : World) : Prop :=
  ∃ v V' S', x = .returned v ∧ RUnitP (PO lo ob V') w' v u ∧ OwnAt lo w' ob false V' S' ∧ Cn S' (c0 + u.shapes.length + 2 * u.funcs.length + u.imports.length + 1) (c2 + u.funcs.length) (c + 4) ∧ Fr lo ob V V' w w' ∧ ∃ sb n q y2 y3 y4 y5, v = .agg #[.slice (some ⟨sb, 0, none⟩) n q, y2, y3, y4, y5] ∧ w.heap.size ≤ sb
theorem UO.new {lo ob : Nat} {V : Nat → Value} {S : Nat → List (Nat × Nat)} {v1 v2 v3 v4 v5 : Value} {w00 w : World} (h : OwnAt lo w ob false V S) (hl : Below lo w00 w) (hs : lo ≤ w.heap.size) :
    UO lo ob w.heap.size (w.heap.size + 1) V S v1 v2 v3 v4 v5 w00 ((w.alloc (.cells #[v1, v2, v3, v4, v5] 28)).alloc (.cells #[nS, nS, nS, nS, nS] 28)) ∧ Fr lo ob V V w ((w.alloc (.cells #[v1, v2, v3, v4, v5] 28)).alloc (.cells #[nS, nS, nS, nS, nS] 28)) ∧ ((w.alloc (.cells #[v1, v2, v3, v4, v5] 28)).alloc (.cells #[nS, nS, nS, nS, nS] 28)).heap.size = w.heap.size + 1 + 1 := by
  have hg := ((Gr.refl w).alloc (.cells #[v1, v2, v3, v4, v5] 28)).alloc (.cells #[nS, nS, nS, nS, nS] 28)
  refine ⟨⟨h.gr hg, h.fresh hs (Nat.le_refl _), h.fresh hs (by omega), ?_, ?_, hl.trans (fr_gr (ob := ob) (V := V) hg hs).low, Nat.le_trans hs hg.size⟩, fr_gr hg hs, by simp⟩
  · show ((w.heap.push _).push _)[w.heap.size]? = _
    simp [Array.getElem?_push]
  · show ((w.heap.push (.cells #[v1, v2, v3, v4, v5] 28)).push (.cells #[nS, nS, nS, nS, nS] 28))[w.heap.size + 1]? = _
    rw [show w.heap.size + 1 = (w.heap.push (.cells #[v1, v2, v3, v4, v5] 28)).size by simp, Array.getElem?_push_size]

theorem FrX.trans {lo ob sb : Nat} {V V' V'' : Nat → Value} {w w' w'' : World} (h : FrX lo ob sb V V' w w') (k : FrX lo ob sb V' V'' w' w'') : FrX lo ob sb V V'' w w'' := ⟨Nat.le_trans h.size k.size, h.stay.trans k.stay h.size, h.low.trans k.low⟩
/-- a block that is being filled, and all that stands beside it -/
structure Fill (lo ob ub rb fb k m : Nat) (v1 v2 v3 v4 v5 : Value) (w00 w0 : World) (V0 V : Nat → Value) (S : Nat → List (Nat × Nat)) (cur : Array Value) (R : (Nat → Prop) → World → Prop) (wr : World) : Prop where
  uo : UO lo ob ub rb V S v1 v2 v3 v4 v5 w00 wr
  wb : WB lo ob V wr fb k m cur
  ns : ∀ r ∈ S k, ¬ r.1 = fb
  rest : R (PX lo ob V fb) wr
  fx : FrX lo ob fb V0 V w0 wr
def Closed (R : (Nat → Prop) → World → Prop) : Prop := ∀ P P' w w', Stay P P' w w' → R P w → R P' w'
section
variable {lo ob ub rb fb k m : Nat} {v1 v2 v3 v4 v5 : Value} {w00 w0 : World} {V0 V : Nat → Value} {S : Nat → List (Nat × Nat)} {cur : Array Value} {R : (Nat → Prop) → World → Prop} {wr : World}
theorem Fill.set (h : Fill lo ob ub rb fb k m v1 v2 v3 v4 v5 w00 w0 V0 V S cur R wr) (hR : Closed R) (hk : k < 7) (hk0 : k ≠ 0) (o : Nat) (v : Value) : Fill lo ob ub rb fb k m v1 v2 v3 v4 v5 w00 w0 V0 V S (cur.setIfInBounds o v) R (wr.setCell ⟨fb, o, none⟩ v) :=
  ⟨h.uo.setw h.wb hk hk0 h.ns o v, h.wb.set o v, h.ns, hR _ _ _ _ px_set h.rest, h.fx.set h.wb.po.1 o v⟩
theorem Fill.fr {V' : Nat → Value} {S' : Nat → List (Nat × Nat)} {w' : World} (h : Fill lo ob ub rb fb k m v1 v2 v3 v4 v5 w00 w0 V0 V S cur R wr) (hR : Closed R) (ho : OwnAt lo w' ob false V' S') (hs : S' k = S k) (hf : Fr lo ob V V' wr w') : Fill lo ob ub rb fb k m v1 v2 v3 v4 v5 w00 w0 V0 V' S' cur R w' :=
  ⟨h.uo.fr ho hf, h.wb.fr hf, by rw [hs]; exact h.ns, hR _ _ _ _ (px_fr hf) h.rest, h.fx.fr hf⟩
theorem Fill.add {R' : (Nat → Prop) → World → Prop} (h : Fill lo ob ub rb fb k m v1 v2 v3 v4 v5 w00 w0 V0 V S cur R wr) (hr : R' (PX lo ob V fb) wr) : Fill lo ob ub rb fb k m v1 v2 v3 v4 v5 w00 w0 V0 V S cur R' wr := ⟨h.uo, h.wb, h.ns, hr, h.fx⟩
theorem Fill.cell (h : Fill lo ob ub rb fb k m v1 v2 v3 v4 v5 w00 w0 V0 V S cur R wr) {j : Nat} (hj : j < m * sZ k) : (∃ x, wr.cell? ⟨fb, j, none⟩ = some x) ∧ wr.frozen? ⟨fb, j, none⟩ = false := h.wb.cell hj
/-- it is filled: the row goes into the list -/
theorem Fill.push {w1 : World} {v' : Value} (h : Fill lo ob ub rb fb k m v1 v2 v3 v4 v5 w00 w0 V0 V S cur R wr) (hR : Closed R) (hk : k < 8) (ha : Ap lo (oT k) 1 wr (V k) w1 v' ((S k).length + 1) ((S k).map rowV ++ [rowV (fb, m)])) (hr : RowOk (PO lo ob V) wr k false (fb, m)) (h0 : w0.heap.size ≤ fb) :
    UO lo ob ub rb (upd V k v') (updS S k (fb, m)) v1 v2 v3 v4 v5 w00 (w1.setCell ⟨ob, k, none⟩ v') ∧ R (PO lo ob (upd V k v')) (w1.setCell ⟨ob, k, none⟩ v') ∧ Fr lo ob V0 (upd V k v') w0 (w1.setCell ⟨ob, k, none⟩ v') ∧ Stay (PO lo ob V) (PO lo ob (upd V k v')) wr (w1.setCell ⟨ob, k, none⟩ v') := by
  obtain ⟨k1, k2⟩ := h.uo.own.push hk ha hr h.uo.size
  exact ⟨h.uo.fr k1 k2, hR _ _ _ _ k2.stay (hR _ _ _ _ px_po h.rest), (h.fx.fr k2).close h0, k2.stay⟩
end
end Go.Proofs.YtkgncijcnlfhiaaDoor

