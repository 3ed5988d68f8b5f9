import Derived.Test.YtkgncijcnlfhiaaDoorH8
namespace Go.Proofs.YtkgncijcnlfhiaaDoor
set_option linter.unusedVariables false
set_option linter.unusedSimpArgs false
open Go.RowKit
/-- what a block holds that is being filled: the elements, and zeros behind them -/
structure Cont {α : Type} (f : α → List Value) (n : Nat) (z : Array Value) (m : Nat) (es : List α) (cur : Array Value) : Prop where
  size : cur.size = m * n
  front : ∀ (j : Nat) (e : α), es[j]? = some e → ∀ q, q < n → cur[j * n + q]? = (f e)[q]?
  back : ∀ j, es.length * n ≤ j → j < m * n → cur[j]? = z[j % n]?
theorem Cont.start {α : Type} {f : α → List Value} {n : Nat} {z : Array Value} {m : Nat} (hz : z.size = n) (hn : 0 < n) : Cont f n z m [] (madeCells z (m * n)) :=
  ⟨size_madeCells _ _, fun j e h => by simp at h, fun j _ h2 => by rw [made_at (by omega) h2, hz]⟩
theorem Cont.snoc {α : Type} {f : α → List Value} {n : Nat} {z : Array Value} {m : Nat} {es : List α} {cur cur' : Array Value} {e : α} (h : Cont f n z m es cur) (hs : cur'.size = cur.size) (h1 : ∀ j, (j < es.length * n ∨ (es.length + 1) * n ≤ j) → cur'[j]? = cur[j]?) (h2 : ∀ q, q < n → cur'[es.length * n + q]? = (f e)[q]?) : Cont f n z m (es ++ [e]) cur' := by
  refine ⟨hs.trans h.size, fun j x hj q hq => ?_, fun j hj hm => ?_⟩
  · by_cases hl : j < es.length
    · rw [List.getElem?_append_left hl] at hj
      have h3 : (j + 1) * n ≤ es.length * n := Nat.mul_le_mul_right _ hl
      rw [Nat.add_mul] at h3
      rw [h1 _ (.inl (by omega))]; exact h.front j x hj q hq
    · have hje : j = es.length := by have := (List.getElem?_eq_some_iff.1 hj).1; simp at this; omega
      subst hje
      rw [List.getElem?_append_right (Nat.le_refl _)] at hj
      simp at hj; subst hj
      exact h2 q hq
  · simp only [List.length_append, List.length_singleton] at hj
    rw [h1 _ (.inr hj)]
    refine h.back j ?_ hm
    rw [Nat.add_mul] at hj; omega
def R2 (sv : Value) (sh : List (List Int)) (es : List BF) : (Nat → Prop) → World → Prop := fun P w => RShapesP P w sv sh ∧ ∀ e ∈ es, RIntsP P w e.vp e.f.params ∧ RIntsP P w e.vl e.f.locals ∧ RCodeP P w e.vc e.f.code
theorem R2_closed (sv : Value) (sh : List (List Int)) (es : List BF) : Closed (R2 sv sh es) := fun _ _ _ _ g h => ⟨h.1.stay g, fun e he => ⟨(h.2 e he).1.stay g, (h.2 e he).2.1.stay g, (h.2 e he).2.2.stay g⟩⟩
def R2p (sv : Value) (sh : List (List Int)) (es : List BF) (vp : Value) (ps : List Int) : (Nat → Prop) → World → Prop := fun P w => R2 sv sh es P w ∧ RIntsP P w vp ps
theorem R2p_closed (sv : Value) (sh : List (List Int)) (es : List BF) (vp : Value) (ps : List Int) : Closed (R2p sv sh es vp ps) := fun _ _ _ _ g h => ⟨R2_closed _ _ _ _ _ _ _ g h.1, h.2.stay g⟩
def R2l (sv : Value) (sh : List (List Int)) (es : List BF) (vp : Value) (ps : List Int) (vl : Value) (ls : List Int) : (Nat → Prop) → World → Prop := fun P w => R2p sv sh es vp ps P w ∧ RIntsP P w vl ls
theorem R2l_closed (sv : Value) (sh : List (List Int)) (es : List BF) (vp : Value) (ps : List Int) (vl : Value) (ls : List Int) : Closed (R2l sv sh es vp ps vl ls) := fun _ _ _ _ g h => ⟨R2p_closed _ _ _ _ _ _ _ _ _ g h.1, h.2.stay g⟩
abbrev zF : Array Value := #[nS, zI, nS, nS]
def Lp2 (lo ob ub rb fb : Nat) (v1 v2 v3 v4 v5 : Value) (w00 w0 : World) (V0 : Nat → Value) (sv : Value) (sh : List (List Int)) (l : List PFunc) (c0 c2 c i : Nat) (wr : World) : Prop :=
  ∃ (V : Nat → Value) (S : Nat → List (Nat × Nat)) (cur : Array Value) (es : List BF), Fill lo ob ub rb fb 3 (l.length + 2) v1 v2 v3 v4 v5 w00 w0 V0 V S cur (R2 sv sh es) wr ∧ Cn S (c0 + 2 * i) (c2 + i) c ∧ es.map (·.f) = l.take i ∧ es.length = i ∧ Cont fF 4 zF (l.length + 2) es cur
theorem lent_px {lo ob fb b m k : Nat} {V : Nat → Value} {S : Nat → List (Nat × Nat)} {w : World} {wr : World} (ho : OwnAt lo w ob false V (updS S k (b, m))) (hk : k < 8) (hb : wr.heap.size ≤ b) (hf : fb < wr.heap.size) : PX lo ob V fb b :=
  ⟨(ho.rows k hk (b, m) (by simp [updS])).here, by omega⟩
theorem takes_snoc {α β : Type} {g : α → β} {es : List α} {l : List β} {i : Nat} {x : β} {e : α} (h : es.map g = l.take i) (hx : l[i]? = some x) (he : g e = x) : (es ++ [e]).map g = l.take (i + 1) := by
  obtain ⟨h1, h2⟩ := List.getElem?_eq_some_iff.1 hx
  rw [List.map_append, h, List.take_succ_eq_append_getElem h1, h2, ← he]; rfl
/-- the four cells of a function, and then three of them anew -/
theorem cont_func {m : Nat} {es : List BF} {cur : Array Value} {e : BF} {p0 p2 p3 : Value} (h : Cont fF 4 zF m es cur) (hm : es.length < m) :
    Cont fF 4 zF m (es ++ [e]) (((((((cur.setIfInBounds (es.length * 4) p0).setIfInBounds (es.length * 4 + 1) (.int .i64 e.f.result)).setIfInBounds (es.length * 4 + 2) p2).setIfInBounds (es.length * 4 + 3) p3).setIfInBounds (es.length * 4) e.vp).setIfInBounds (es.length * 4 + 2) e.vl).setIfInBounds (es.length * 4 + 3) e.vc) := by
  have hs := h.size
  refine h.snoc (by simp) (fun j hj => ?_) (fun q hq => ?_)
  · have n0 : es.length * 4 ≠ j := by omega
    have n1 : es.length * 4 + 1 ≠ j := by omega
    have n2 : es.length * 4 + 2 ≠ j := by omega
    have n3 : es.length * 4 + 3 ≠ j := by omega
    simp only [Array.getElem?_setIfInBounds_ne n0, Array.getElem?_setIfInBounds_ne n1, Array.getElem?_setIfInBounds_ne n2, Array.getElem?_setIfInBounds_ne n3]
  · have hq4 : q = 0 ∨ q = 1 ∨ q = 2 ∨ q = 3 := by omega
    rcases hq4 with rfl | rfl | rfl | rfl
    · simp only [Nat.add_zero]; rw [Array.getElem?_setIfInBounds_ne (by omega), Array.getElem?_setIfInBounds_ne (by omega), Array.getElem?_setIfInBounds_self_of_lt (by simp; omega)]; rfl
    · rw [Array.getElem?_setIfInBounds_ne (by omega), Array.getElem?_setIfInBounds_ne (by omega), Array.getElem?_setIfInBounds_ne (by omega), Array.getElem?_setIfInBounds_ne (by omega), Array.getElem?_setIfInBounds_ne (by omega), Array.getElem?_setIfInBounds_self_of_lt (by simp; omega)]; rfl
    · rw [Array.getElem?_setIfInBounds_ne (by omega), Array.getElem?_setIfInBounds_self_of_lt (by simp; omega)]; rfl
    · rw [Array.getElem?_setIfInBounds_self_of_lt (by simp; omega)]; rfl
/-- the functions are there: ink behind them -/
theorem funcs_mid {lo ob ub rb fb : Nat} {v1 v2 v3 v4 v5 : Value} {w00 w0 : World} {V0 V : Nat → Value} {S : Nat → List (Nat × Nat)} {cur : Array Value} {sv : Value} {sh : List (List Int)} {es : List BF} {l : List PFunc} {wr : World}
    (h : Fill lo ob ub rb fb 3 (l.length + 2) v1 v2 v3 v4 v5 w00 w0 V0 V S cur (R2 sv sh es) wr) (hes : es.map (·.f) = l) (hll : l.length ≤ 2000000) (hc : Cont fF 4 zF (l.length + 2) es cur) :
    ∃ cur', Fill lo ob ub rb fb 3 (l.length + 2) v1 v2 v3 v4 v5 w00 w0 V0 V S cur' (R2 sv sh es) ((wr.setCell ⟨fb, l.length * 4 + 1, none⟩ inkV).setCell ⟨fb, (l.length + 1) * 4 + 1, none⟩ inkV) ∧
    RowOk (PO lo ob V) ((wr.setCell ⟨fb, l.length * 4 + 1, none⟩ inkV).setCell ⟨fb, (l.length + 1) * 4 + 1, none⟩ inkV) 3 false (fb, l.length + 2) ∧
    RFuncsP (PO lo ob V) ((wr.setCell ⟨fb, l.length * 4 + 1, none⟩ inkV).setCell ⟨fb, (l.length + 1) * 4 + 1, none⟩ inkV) (.slice (some ⟨fb, 0, none⟩) l.length (l.length + 2)) l := by
  have hlen : es.length = l.length := by rw [← hes, List.length_map]
  have g2 := (h.set (R2_closed _ _ _) (by decide) (by decide) (l.length * 4 + 1) inkV).set (R2_closed _ _ _) (by decide) (by decide) ((l.length + 1) * 4 + 1) inkV
  have hs := hc.size
  refine ⟨_, g2, ⟨g2.wb.po, by simp, by simp; omega, ⟨_, g2.wb.heap, g2.wb.size⟩, fun k hk hl => ?_⟩, ⟨_, _, rfl, by unfold maxLen; omega, fun i x hi => ?_⟩⟩
  · rcases hk with hk | hk
    · cases hk
    · simp only at hk hl
      have e0 : k = l.length ∨ k = l.length + 1 := by omega
      have hb : ∀ j, l.length * 4 ≤ j → j < (l.length + 2) * 4 → cur[j]? = zF[j % 4]? := fun j h1 h2 => hc.back j (by omega) h2
      simp only [Ink]
      rw [heap_cell g2.wb.heap, heap_cell g2.wb.heap, heap_cell g2.wb.heap, heap_cell g2.wb.heap]
      rcases e0 with rfl | rfl
      · refine ⟨?_, ?_, ?_, ?_⟩
        · rw [Array.getElem?_setIfInBounds_ne (by omega), Array.getElem?_setIfInBounds_ne (by omega), hb _ (by omega) (by omega), show l.length * 4 % 4 = 0 by omega]; rfl
        · rw [Array.getElem?_setIfInBounds_ne (by omega), Array.getElem?_setIfInBounds_self_of_lt (by omega)]
        · rw [Array.getElem?_setIfInBounds_ne (by omega), Array.getElem?_setIfInBounds_ne (by omega), hb _ (by omega) (by omega), show (l.length * 4 + 2) % 4 = 2 by omega]; rfl
        · rw [Array.getElem?_setIfInBounds_ne (by omega), Array.getElem?_setIfInBounds_ne (by omega), hb _ (by omega) (by omega), show (l.length * 4 + 3) % 4 = 3 by omega]; rfl
      · refine ⟨?_, ?_, ?_, ?_⟩
        · rw [Array.getElem?_setIfInBounds_ne (by omega), Array.getElem?_setIfInBounds_ne (by omega), hb _ (by omega) (by omega), show (l.length + 1) * 4 % 4 = 0 by omega]; rfl
        · rw [Array.getElem?_setIfInBounds_self_of_lt (by simp; omega)]
        · rw [Array.getElem?_setIfInBounds_ne (by omega), Array.getElem?_setIfInBounds_ne (by omega), hb _ (by omega) (by omega), show ((l.length + 1) * 4 + 2) % 4 = 2 by omega]; rfl
        · rw [Array.getElem?_setIfInBounds_ne (by omega), Array.getElem?_setIfInBounds_ne (by omega), hb _ (by omega) (by omega), show ((l.length + 1) * 4 + 3) % 4 = 3 by omega]; rfl
  · have hil : i < l.length := (List.getElem?_eq_some_iff.1 hi).1
    obtain ⟨e, he⟩ := getElem?_lt (l := es) (k := i) (by omega)
    have hex : e.f = x := by
      have h1 : (es.map (·.f))[i]? = some e.f := by rw [List.getElem?_map, he]; rfl
      rw [hes, hi] at h1; exact (Option.some.inj h1).symm
    obtain ⟨k1, k2, k3⟩ := g2.rest.2 e (List.mem_of_getElem? he)
    have hcell : ∀ q, q < 4 → ((wr.setCell ⟨fb, l.length * 4 + 1, none⟩ inkV).setCell ⟨fb, (l.length + 1) * 4 + 1, none⟩ inkV).cell? ⟨fb, 0 + i * 4 + q, none⟩ = (fF e)[q]? := fun q hq => by
      rw [Nat.zero_add, heap_cell g2.wb.heap, Array.getElem?_setIfInBounds_ne (by omega), Array.getElem?_setIfInBounds_ne (by omega)]
      exact hc.front i e he q hq
    rw [← hex]
    exact ⟨fb, 0, e.vp, e.vl, e.vc, rfl, g2.wb.po, hcell 0 (by decide), hcell 1 (by decide), hcell 2 (by decide), hcell 3 (by decide), k1.stay px_po, k2.stay px_po, k3.stay px_po⟩
def R3 (sv : Value) (sh : List (List Int)) (fv : Value) (fs : List PFunc) (es : List BI) : (Nat → Prop) → World → Prop := fun P w => RShapesP P w sv sh ∧ RFuncsP P w fv fs ∧ ∀ e ∈ es, RText e.vs e.i.name ∧ RIntsP P w e.vp e.i.params
theorem R3_closed (sv : Value) (sh : List (List Int)) (fv : Value) (fs : List PFunc) (es : List BI) : Closed (R3 sv sh fv fs es) := fun _ _ _ _ g h => ⟨h.1.stay g, h.2.1.stay g, fun e he => ⟨(h.2.2 e he).1, (h.2.2 e he).2.stay g⟩⟩
abbrev zM : Array Value := #[eS, nS, zI]
def Lp3 (lo ob ub rb fb : Nat) (v1 v2 v3 v4 v5 : Value) (w00 w0 : World) (V0 : Nat → Value) (sv : Value) (sh : List (List Int)) (fv : Value) (fs : List PFunc) (l : List PImp) (c0 c2 c i : Nat) (wr : World) : Prop :=
  ∃ (V : Nat → Value) (S : Nat → List (Nat × Nat)) (cur : Array Value) (es : List BI), Fill lo ob ub rb fb 4 (l.length + 2) v1 v2 v3 v4 v5 w00 w0 V0 V S cur (R3 sv sh fv fs es) wr ∧ Cn S (c0 + i) c2 c ∧ es.map (·.i) = l.take i ∧ es.length = i ∧ Cont fM 3 zM (l.length + 2) es cur
theorem cont_imp {m : Nat} {es : List BI} {cur : Array Value} {e : BI} {p1 : Value} (h : Cont fM 3 zM m es cur) (hm : es.length < m) :
    Cont fM 3 zM m (es ++ [e]) ((((cur.setIfInBounds (es.length * 3) e.vs).setIfInBounds (es.length * 3 + 1) p1).setIfInBounds (es.length * 3 + 2) (.int .i64 e.i.result)).setIfInBounds (es.length * 3 + 1) e.vp) := by
  have hs := h.size
  refine h.snoc (by simp) (fun j hj => ?_) (fun q hq => ?_)
  · have n0 : es.length * 3 ≠ j := by omega
    have n1 : es.length * 3 + 1 ≠ j := by omega
    have n2 : es.length * 3 + 2 ≠ j := by omega
    simp only [Array.getElem?_setIfInBounds_ne n0, Array.getElem?_setIfInBounds_ne n1, Array.getElem?_setIfInBounds_ne n2]
  · have hq4 : q = 0 ∨ q = 1 ∨ q = 2 := by omega
    rcases hq4 with rfl | rfl | rfl
    · simp only [Nat.add_zero]; rw [Array.getElem?_setIfInBounds_ne (by omega), Array.getElem?_setIfInBounds_ne (by omega), Array.getElem?_setIfInBounds_ne (by omega), Array.getElem?_setIfInBounds_self_of_lt (by omega)]; rfl
    · rw [Array.getElem?_setIfInBounds_self_of_lt (by simp; omega)]; rfl
    · rw [Array.getElem?_setIfInBounds_ne (by omega), Array.getElem?_setIfInBounds_self_of_lt (by simp; omega)]; rfl
theorem imps_mid {lo ob ub rb fb : Nat} {v1 v2 v3 v4 v5 : Value} {w00 w0 : World} {V0 V : Nat → Value} {S : Nat → List (Nat × Nat)} {cur : Array Value} {sv : Value} {sh : List (List Int)} {fv : Value} {fs : List PFunc} {es : List BI} {l : List PImp} {wr : World}
    (h : Fill lo ob ub rb fb 4 (l.length + 2) v1 v2 v3 v4 v5 w00 w0 V0 V S cur (R3 sv sh fv fs es) wr) (hes : es.map (·.i) = l) (hll : l.length ≤ 2000000) (hc : Cont fM 3 zM (l.length + 2) es cur) :
    ∃ cur', Fill lo ob ub rb fb 4 (l.length + 2) v1 v2 v3 v4 v5 w00 w0 V0 V S cur' (R3 sv sh fv fs es) ((wr.setCell ⟨fb, l.length * 3 + 2, none⟩ inkV).setCell ⟨fb, (l.length + 1) * 3 + 2, none⟩ inkV) ∧
    RowOk (PO lo ob V) ((wr.setCell ⟨fb, l.length * 3 + 2, none⟩ inkV).setCell ⟨fb, (l.length + 1) * 3 + 2, none⟩ inkV) 4 false (fb, l.length + 2) ∧
    RImportsP (PO lo ob V) ((wr.setCell ⟨fb, l.length * 3 + 2, none⟩ inkV).setCell ⟨fb, (l.length + 1) * 3 + 2, none⟩ inkV) (.slice (some ⟨fb, 0, none⟩) l.length (l.length + 2)) l := by
  have hlen : es.length = l.length := by rw [← hes, List.length_map]
  have g2 := (h.set (R3_closed _ _ _ _ _) (by decide) (by decide) (l.length * 3 + 2) inkV).set (R3_closed _ _ _ _ _) (by decide) (by decide) ((l.length + 1) * 3 + 2) inkV
  have hs := hc.size
  refine ⟨_, g2, ⟨g2.wb.po, by simp, by simp; omega, ⟨_, g2.wb.heap, g2.wb.size⟩, fun k hk hl => ?_⟩, ⟨_, _, rfl, by unfold maxLen; omega, fun i x hi => ?_⟩⟩
  · rcases hk with hk | hk
    · cases hk
    · simp only at hk hl
      have e0 : k = l.length ∨ k = l.length + 1 := by omega
      have hb : ∀ j, l.length * 3 ≤ j → j < (l.length + 2) * 3 → cur[j]? = zM[j % 3]? := fun j h1 h2 => hc.back j (by omega) h2
      simp only [Ink]
      rw [heap_cell g2.wb.heap, heap_cell g2.wb.heap, heap_cell g2.wb.heap]
      rcases e0 with rfl | rfl
      · refine ⟨?_, ?_, ?_⟩
        · rw [Array.getElem?_setIfInBounds_ne (by omega), Array.getElem?_setIfInBounds_ne (by omega), hb _ (by omega) (by omega), show l.length * 3 % 3 = 0 by omega]; rfl
        · rw [Array.getElem?_setIfInBounds_ne (by omega), Array.getElem?_setIfInBounds_ne (by omega), hb _ (by omega) (by omega), show (l.length * 3 + 1) % 3 = 1 by omega]; rfl
        · rw [Array.getElem?_setIfInBounds_ne (by omega), Array.getElem?_setIfInBounds_self_of_lt (by omega)]
      · refine ⟨?_, ?_, ?_⟩
        · rw [Array.getElem?_setIfInBounds_ne (by omega), Array.getElem?_setIfInBounds_ne (by omega), hb _ (by omega) (by omega), show (l.length + 1) * 3 % 3 = 0 by omega]; rfl
        · rw [Array.getElem?_setIfInBounds_ne (by omega), Array.getElem?_setIfInBounds_ne (by omega), hb _ (by omega) (by omega), show ((l.length + 1) * 3 + 1) % 3 = 1 by omega]; rfl
        · rw [Array.getElem?_setIfInBounds_self_of_lt (by simp; omega)]
  · have hil : i < l.length := (List.getElem?_eq_some_iff.1 hi).1
    obtain ⟨e, he⟩ := getElem?_lt (l := es) (k := i) (by omega)
    have hex : e.i = x := by
      have h1 : (es.map (·.i))[i]? = some e.i := by rw [List.getElem?_map, he]; rfl
      rw [hes, hi] at h1; exact (Option.some.inj h1).symm
    obtain ⟨k1, k2⟩ := g2.rest.2.2 e (List.mem_of_getElem? he)
    have hcell : ∀ q, q < 3 → ((wr.setCell ⟨fb, l.length * 3 + 2, none⟩ inkV).setCell ⟨fb, (l.length + 1) * 3 + 2, none⟩ inkV).cell? ⟨fb, 0 + i * 3 + q, none⟩ = (fM e)[q]? := fun q hq => by
      rw [Nat.zero_add, heap_cell g2.wb.heap, Array.getElem?_setIfInBounds_ne (by omega), Array.getElem?_setIfInBounds_ne (by omega)]
      exact hc.front i e he q hq
    rw [← hex]
    exact ⟨fb, 0, e.vs, e.vp, rfl, g2.wb.po, hcell 0 (by decide), hcell 1 (by decide), hcell 2 (by decide), k1, k2.stay px_po⟩
end Go.Proofs.YtkgncijcnlfhiaaDoor

