import Derived.Test.YtkgncijcnlfhiaaDoorH8
namespace Go.Proofs.YtkgncijcnlfhiaaDoor
set_option linter.unusedVariables false
set_option linter.unusedSimpArgs false
open Go.RowKit
/-- what a block holds that is being filled: the elements, and zeros behind them -/
structure Cont {α : Type} (f : α → List Value) (n : Nat) (z : Array Value) (m : Nat) (es : List α) (cur : Array Value) : Prop where
  size : cur.size = m * n
  front : ∀ (j : Nat) (e : α), es[j]? = some e → ∀ q, q < n → cur[j * n + q]? = (f e)[q]?
  back : ∀ j, es.length * n ≤ j → j < m * n → cur[j]? = z[j % n]?
theorem Cont.start {α : Type} {f : α → List Value} {n : Nat} {z : Array Value} {m : Nat} (hz : z.size = n) (hn : 0 < n) : Cont f n z m [] (madeCells z (m * n)) :=
  ⟨size_madeCells _ _, fun j e h => by simp at h, fun j _ h2 => by rw [made_at (by omega) h2, hz]⟩
theorem Cont.snoc {α : Type} {f : α → List Value} {n : Nat} {z : Array Value} {m : Nat} {es : List α} {cur cur' : Array Value} {e : α} (h : Cont f n z m es cur) (hs : cur'.size = cur.size) (h1 : ∀ j, (j < es.length * n ∨ (es.length + 1) * n ≤ j) → cur'[j]? = cur[j]?) (h2 : ∀ q, q < n → cur'[es.length * n + q]? = (f e)[q]?) : Cont f n z m (es ++ [e]) cur' := by
  refine ⟨hs.trans h.size, fun j x hj q hq => ?_, fun j hj hm => ?_⟩
  · by_cases hl : j < es.length
    · rw [List.getElem?_append_left hl] at hj
      have h3 : (j + 1) * n ≤ es.length * n := Nat.mul_le_mul_right _ hl
      rw [Nat.add_mul] at h3
      rw [h1 _ (.inl (by omega))]; exact h.front j x hj q hq
    · have hje : j = es.length := by have := (List.getElem?_eq_some_iff.1 hj).1; simp at this; omega
      subst hje
      rw [List.getElem?_append_right (Nat.le_refl _)] at hj
      simp at hj; subst hj
      exact h2 q hq
  · simp only [List.length_append, List.length_singleton] at hj
    rw [h1 _ (.inr hj)]
    refine h.back j ?_ hm
    rw [Nat.add_mul] at hj; omega
def R2 (sv : Value) (sh : List (List Int)) (es : List BF) : (Nat → Prop) → World → Prop := fun P w => RShapesP P w sv sh ∧ ∀ e ∈ es, RIntsP P w e.vp e.f.params ∧ RIntsP P w e.vl e.f.locals ∧ RCodeP P w e.vc e.f.code
theorem R2_closed (sv : Value) (sh : List (List Int)) (es : List BF) : Closed (R2 sv sh es) := fun _ _ _ _ g h => ⟨h.1.stay g, fun e he => ⟨(h.2 e he).1.stay g, (h.2 e he).2.1.stay g, (h.2 e he).2.2.stay g⟩⟩
def R2p (sv : Value) (sh : List (List Int)) (es : List BF) (vp : Value) (ps : List Int) : (Nat → Prop) → World → Prop := fun P w => R2 sv sh es P w ∧ RIntsP P w vp ps
theorem R2p_closed (sv : Value) (sh : List (List Int)) (es : List BF) (vp : Value) (ps : List Int) : Closed (R2p sv sh es vp ps) := fun _ _ _ _ g h => ⟨R2_closed _ _ _ _ _ _ _ g h.1, h.2.stay g⟩
def R2l (sv : Value) (sh : List (List Int)) (es : List BF) (vp : Value) (ps : List Int) (vl : Value) (ls : List Int) : (Nat → Prop) → World → Prop := fun P w => R2p sv sh es vp ps P w ∧ RIntsP P w vl ls
theorem R2l_closed (sv : Value) (sh : List (List Int)) (es : List BF) (vp : Value) (ps : List Int) (vl : Value) (ls : List Int) : Closed (R2l sv sh es vp ps vl ls) := fun _ _ _ _ g h => ⟨R2p_closed _ _ _ _ _ _ _ _ _ g h.1, h.2.stay g⟩
abbrev zF : Array Value := #[nS, zI, nS, nS]
def Lp2 (lo ob ub rb fb : Nat) (v1 v2 v3 v4 v5 : Value) (w00 w0 : World) (V0 : Nat → Value) (sv : Value) (sh : List (List Int)) (l : List PFunc) (c0 c2 c i : Nat) (wr : World) : Prop :=
  ∃ (V : Nat → Value) (S : Nat → List (Nat × Nat)) (cur : Array Value) (es : List BF), Fill lo ob ub rb fb 3 (l.length + 2) v1 v2 v3 v4 v5 w00 w0 V0 V S cur (R2 sv sh es) wr ∧ Cn S (c0 + 2 * i) (c2 + i) c ∧ es.map (·.f) = l.take i ∧ es.length = i ∧ Cont fF 4 zF (l.length + 2) es cur
theorem lent_px {lo ob fb b m k : Nat} {V : Nat → Value} {S : Nat → List (Nat × Nat)} {w : World} {wr : World} (ho : OwnAt lo w ob false V (updS S k (b, m))) (hk : k < 8) (hb : wr.heap.size ≤ b) (hf : fb < wr.heap.size) : PX lo ob V fb b :=
  ⟨(ho.rows k hk (b, m) (by simp [updS])).here, by omega⟩
theorem takes_snoc {α β : Type} {g : α → β} {es : List α} {l : List β} {i : Nat} {x : β} {e : α} (h : es.map g = l.take i) (hx : l[i]? = some x) (he : g e = x) : (es ++ [e]).map g = l.take (i + 1) := by
  obtain ⟨h1, h2⟩ := List.getElem?_eq_some_iff.1 hx
  rw [List.map_append, h, List.take_succ_eq_append_getElem h1, h2, ← he]; rfl
/-- the four cells of a function, and then three of them anew -/
theorem cont_func {m : Nat} {es : List BF} {cur : Array Value} {e : BF} {p0 p2 p3 : Value} (h : Cont fF 4 zF m es cur) (hm : es.length < m) :
    Cont fF 4 zF m (es ++ [e]) (((((((cur.setIfInBounds (es.length * 4) p0).setIfInBounds (es.length * 4 + 1) (.int .i64 e.f.result)).setIfInBounds (es.length * 4 + 2) p2).setIfInBounds (es.length * 4 + 3) p3).setIfInBounds (es.length * 4) e.vp).setIfInBounds (es.length * 4 + 2) e.vl).setIfInBounds (es.length * 4 + 3) e.vc) := by
  have hs := h.size
  refine h.snoc (by simp) (fun j hj => ?_) (fun q hq => ?_)
  · have n0 : es.length * 4 ≠ j := by omega
    have n1 : es.length * 4 + 1 ≠ j := by omega
    have n2 : es.length * 4 + 2 ≠ j := by omega
    have n3 : es.length * 4 + 3 ≠ j := by omega
    simp only [Array.getElem?_setIfInBounds_ne n0, Array.getElem?_setIfInBounds_ne n1, Array.getElem?_setIfInBounds_ne n2, Array.getElem?_setIfInBounds_ne n3]
  · have hq4 : q = 0 ∨ q = 1 ∨ q = 2 ∨ q = 3 := by omega
    rcases hq4 with rfl | rfl | rfl | rfl
    · simp only [Nat.add_zero]; rw [Array.getElem?_setIfInBounds_ne (by omega), Array.getElem?_setIfInBounds_ne (by omega), Array.getElem?_setIfInBounds_self_of_lt (by simp; omega)]; rfl
    · rw [Array.getElem?_setIfInBounds_ne (by omega), Array.getElem?_setIfInBounds_ne (by omega), Array.getElem?_setIfInBounds_ne (by omega), Array.getElem?_setIfInBounds_ne (by omega), Array.getElem?_setIfInBounds_ne (by omega), Array.getElem?_setIfInBounds_self_of_lt (by simp; omega)]; rfl
    · rw [Array.getElem?_setIfInBounds_ne (by omega), Array.getElem?_setIfInBounds_self_of_lt (by simp; omega)]; rfl
    · rw [Array.getElem?_setIfInBounds_self_of_lt (by simp; omega)]; rfl
/-- the functions are there: ink behind them -/
theorem funcs_mid {lo ob ub rb fb : Nat} {v1 v2 v3 v4 v5 : Value} {w00 w0 : World} {V0 V : Nat → Value} {S : Nat → List (Nat × Nat)} {cur : Array Value} {sv : Value} {sh : List (List Int)} {es : List BF} {l : List PFunc} {wr : World}
    (h : Fill lo ob ub rb fb 3 (l.length + 2) v1 v2 v3 v4 v5 w00 w0 V0 V S cur (R2 sv sh es) wr) (hes : es.map (·.f) = l) (hll : l.length ≤ 2000000) (hc : Cont fF 4 zF (l.length + 2) es cur) :
    ∃ cur', Fill lo ob ub rb fb 3 (l.length + 2) v1 v2 v3 v4 v5 w00 w0 V0 V S cur' (R2 sv sh es) ((wr.setCell ⟨fb, l.length * 4 + 1, none⟩ inkV).setCell ⟨fb, (l.length + 1) * 4 + 1, none⟩ inkV) ∧
    RowOk (PO lo ob V) ((wr.setCell ⟨fb, l.length * 4 + 1, none⟩ inkV).setCell ⟨fb, (l.length + 1) * 4 + 1, none⟩ inkV) 3 false (fb, l.length + 2) ∧
    RFuncsP (PO lo ob V) ((wr.setCell ⟨fb, l.length * 4 + 1, none⟩ inkV).setCell ⟨fb, (l.length + 1) * 4 + 1, none⟩ inkV) (.slice (some ⟨fb, 0, none⟩) l.length (l.length + 2)) l := by
  have hlen : es.length = l.length := by rw [← hes, List.length_map]
  have g2 := (h.set (R2_closed _ _ _) (by decide) (by decide) (l.length * 4 + 1) inkV).set (R2_closed _ _ _) (by decide) (by decide) ((l.length + 1) * 4 + 1) inkV
  have hs := hc.size
  refine ⟨_, g2, ⟨g2.wb.po, by simp, by simp; omega, ⟨_, g2.wb.heap, g2.wb.size⟩, fun k hk hl => ?_⟩, ⟨_, _, rfl, by unfold maxLen; omega, fun i x hi => ?_⟩⟩
  · rcases hk with hk | hk
    · cases hk
    · simp only at hk hl
      have e0 : k = l.length ∨ k = l.length + 1 := by omega
      have hb : ∀ j, l.length * 4 ≤ j → j < (l.length + 2) * 4 → cur[j]? = zF[j % 4]? := fun j h1 h2 => hc.back j (by omega) h2
      simp only [Ink]
      rw [heap_cell g2.wb.heap, heap_cell g2.wb.heap, heap_cell g2.wb.heap, heap_cell g2.wb.heap]
      rcases e0 with rfl | rfl
      · refine ⟨?_, ?_, ?_, ?_⟩
        · rw [Array.getElem?_setIfInBounds_ne (by omega), Array.getElem?_setIfInBounds_ne (by omega), hb _ (by omega) (by omega), show l.length * 4 % 4 = 0 by omega]; rfl
        · rw [Array.getElem?_setIfInBounds_ne (by omega), Array.getElem?_setIfInBounds_self_of_lt (by omega)]
        · rw [Array.getElem?_setIfInBounds_ne (by omega), Array.getElem?_setIfInBounds_ne (by omega), hb _ (by omega) (by omega), show (l.length * 4 + 2) % 4 = 2 by omega]; rfl
        · rw [Array.getElem?_setIfInBounds_ne (by omega), Array.getElem?_setIfInBounds_ne (by omega), hb _ (by omega) (by omega), show (l.length * 4 + 3) % 4 = 3 by omega]; rfl
      · refine ⟨?_, ?_, ?_, ?_⟩
        · rw [Array.getElem?_setIfInBounds_ne (by omega), Array.getElem?_setIfInBounds_ne (by omega), hb _ (by omega) (by omega), show (l.length + 1) * 4 % 4 = 0 by omega]; rfl
        · rw [Array.getElem?_setIfInBounds_self_of_lt (by simp; omega)]
        · rw [Array.getElem?_setIfInBounds_ne (by omega), Array.getElem?_setIfInBounds_ne (by omega), hb _ (by omega) (by omega), show ((l.length + 1) * 4 + 2) % 4 = 2 by omega]; rfl
        · rw [Array.getElem?_setIfInBounds_ne (by omega), Array.getElem?_setIfInBounds_ne (by omega), hb _ (by omega) (by omega), show ((l.length + 1) * 4 + 3) % 4 = 3 by omega]; rfl
  · have hil : i < l.length := (List.getElem?_eq_some_iff.1 hi).1
    obtain ⟨e, he⟩ := getElem?_lt (l := es) (k := i) (by omega)
    have hex : e.f = x := by
      have h1 : (es.map (·.f))[i]? = some e.f := by rw [List.getElem?_map, he]; rfl
      rw [hes, hi] at h1; exact (Option.some.inj h1).symm
    obtain ⟨k1, k2, k3⟩ := g2.rest.2 e (List.mem_of_getElem? he)
    have hcell : ∀ q, q < 4 → ((wr.setCell ⟨fb, l.length * 4 + 1, none⟩ inkV).setCell ⟨fb, (l.length + 1) * 4 + 1, none⟩ inkV).cell? ⟨fb, 0 + i * 4 + q, none⟩ = (fF e)[q]? := fun q hq => by
      rw [Nat.zero_add, heap_cell g2.wb.heap, Array.getElem?_setIfInBounds_ne (by omega), Array.getElem?_setIfInBounds_ne (by omega)]
      exact hc.front i e he q hq
    rw [← hex]
    exact ⟨fb, 0, e.vp, e.vl, e.vc, rfl, g2.wb.po, hcell 0 (by decide), hcell 1 (by decide), hcell 2 (by decide), hcell 3 (by decide), k1.stay px_po, k2.stay px_po, k3.stay px_po⟩
def R3 (sv : Value) (sh : List (List Int)) (fv : Value) (fs : List PFunc) (es : List BI) : (Nat → Prop) → World → Prop := fun P w => RShapesP P w sv sh ∧ RFuncsP P w fv fs ∧ ∀ e ∈ es, RText e.vs e.i.name ∧ RIntsP P w e.vp e.i.params
theorem R3_closed (sv : Value) (sh : List (List Int)) (fv : Value) (fs : List PFunc) (es : List BI) : Closed (R3 sv sh fv fs es) := fun _ _ _ _ g h => ⟨h.1.stay g, h.2.1.stay g, fun e he => ⟨(h.2.2 e he).1, (h.2.2 e he).2.stay g⟩⟩
abbrev zM : Array Value := #[eS, nS, zI]
def Lp3 (lo ob ub rb fb : Nat) (v1 v2 v3 v4 v5 : Value) (w00 w0 : World) (V0 : Nat → Value) (sv : Value) (sh : List (List Int)) (fv : Value) (fs : List PFunc) (l : List PImp) (c0 c2 c i : Nat) (wr : World) : Prop :=
  ∃ (V : Nat → Value) (S : Nat → List (Nat × Nat)) (cur : Array Value) (es : List BI), Fill lo ob ub rb fb 4 (l.length + 2) v1 v2 v3 v4 v5 w00 w0 V0 V S cur (R3 sv sh fv fs es) wr ∧ Cn S (c0 + i) c2 c ∧ es.map (·.i) = l.take i ∧ es.length = i ∧ Cont fM 3 zM (l.length + 2) es cur
theorem cont_imp {m : Nat} {es : List BI} {cur : Array Value} {e : BI} {p1 : Value} (h : Cont fM 3 zM m es cur) (hm : es.length < m) :
    Cont fM 3 zM m (es ++ [e]) ((((cur.setIfInBounds (es.length * 3) e.vs).setIfInBounds (es.length * 3 + 1) p1).setIfInBounds (es.length * 3 + 2) (.int .i64 e.i.result)).setIfInBounds (es.length * 3 + 1) e.vp) := by
  have hs := h.size
  refine h.snoc (by simp) (fun j hj => ?_) (fun q hq => ?_)
  · have n0 : es.length * 3 ≠ j := by omega
    have n1 : es.length * 3 + 1 ≠ j := by omega
    have n2 : es.length * 3 + 2 ≠ j := by omega
    simp only [Array.getElem?_setIfInBounds_ne n0, Array.getElem?_setIfInBounds_ne n1, Array.getElem?_setIfInBounds_ne n2]
  · have hq4 : q = 0 ∨ q = 1 ∨ q = 2 := by omega
    rcases hq4 with rfl | rfl | rfl
    · simp only [Nat.add_zero]; rw [Array.getElem?_setIfInBounds_ne (by omega), Array.getElem?_setIfInBounds_ne (by omega), Array.getElem?_setIfInBounds_ne (by omega), Array.getElem?_setIfInBounds_self_of_lt (by omega)]; rfl
    · rw [Array.getElem?_setIfInBounds_self_of_lt (by simp; omega)]; rfl
    · rw [Array.getElem?_setIfInBounds_ne (by omega), Array.getElem?_setIfInBounds_self_of_lt (by simp; omega)]; rfl
theorem imps_mid {lo ob ub rb fb : Nat} {v1 v2 v3 v4 v5 : Value} {w00 w0 : World} {V0 V : Nat → Value} {S : Nat → List (Nat × Nat)} {cur : Array Value} {sv : Value} {sh : List (List Int)} {fv : Value} {fs : List PFunc} {es : List BI} {l : List PImp} {wr : World}
    (h : Fill lo ob ub rb fb 4 (l.length + 2) v1 v2 v3 v4 v5 w00 w0 V0 V S cur (R3 sv sh fv fs es) wr) (hes : es.map (·.i) = l) (hll : l.length ≤ 2000000) (hc : Cont fM 3 zM (l.length + 2) es cur) :
    ∃ cur', Fill lo ob ub rb fb 4 (l.length + 2) v1 v2 v3 v4 v5 w00 w0 V0 V S cur' (R3 sv sh fv fs es) ((wr.setCell ⟨fb, l.length * 3 + 2, none⟩ inkV).setCell ⟨fb, (l.length + 1) * 3 + 2, none⟩ inkV) ∧
    RowOk (PO lo ob V) ((wr.setCell ⟨fb, l.length * 3 + 2, none⟩ inkV).setCell ⟨fb, (l.length + 1) * 3 + 2, none⟩ inkV) 4 false (fb, l.length + 2) ∧
    RImportsP (PO lo ob V) ((wr.setCell ⟨fb, l.length * 3 + 2, none⟩ inkV).setCell ⟨fb, (l.length + 1) * 3 + 2, none⟩ inkV) (.slice (some ⟨fb, 0, none⟩) l.length (l.length + 2)) l := by
  have hlen : es.length = l.length := by rw [← hes, List.length_map]
  have g2 := (h.set (R3_closed _ _ _ _ _) (by decide) (by decide) (l.length * 3 + 2) inkV).set (R3_closed _ _ _ _ _) (by decide) (by decide) ((l.length + 1) * 3 + 2) inkV
  have hs := hc.size
  refine ⟨_, g2, ⟨g2.wb.po, by simp, by simp; omega, ⟨_, g2.wb.heap, g2.wb.size⟩, fun k hk hl => ?_⟩, ⟨_, _, rfl, by unfold maxLen; omega, fun i x hi => ?_⟩⟩
  · rcases hk with hk | hk
    · cases hk
    · simp only at hk hl
      have e0 : k = l.length ∨ k = l.length + 1 := by omega
      have hb : ∀ j, l.length * 3 ≤ j → j < (l.length + 2) * 3 → cur[j]? = zM[j % 3]? := fun j h1 h2 => hc.back j (by omega) h2
      simp only [Ink]
      rw [heap_cell g2.wb.heap, heap_cell g2.wb.heap, heap_cell g2.wb.heap]
      rcases e0 with rfl | rfl
      · refine ⟨?_, ?_, ?_⟩
        · rw [Array.getElem?_setIfInBounds_ne (by omega), Array.getElem?_setIfInBounds_ne (by omega), hb _ (by omega) (by omega), show l.length * 3 % 3 = 0 by omega]; rfl
        · rw [Array.getElem?_setIfInBounds_ne (by omega), Array.getElem?_setIfInBounds_ne (by omega), hb _ (by omega) (by omega), show (l.length * 3 + 1) % 3 = 1 by omega]; rfl
        · rw [Array.getElem?_setIfInBounds_ne (by omega), Array.getElem?_setIfInBounds_self_of_lt (by omega)]
      · refine ⟨?_, ?_, ?_⟩
        · rw [Array.getElem?_setIfInBounds_ne (by omega), Array.getElem?_setIfInBounds_ne (by omega), hb _ (by omega) (by omega), show (l.length + 1) * 3 % 3 = 0 by omega]; rfl
        · rw [Array.getElem?_setIfInBounds_ne (by omega), Array.getElem?_setIfInBounds_ne (by omega), hb _ (by omega) (by omega), show ((l.length + 1) * 3 + 1) % 3 = 1 by omega]; rfl
        · rw [Array.getElem?_setIfInBounds_self_of_lt (by simp; omega)]
  · have hil : i < l.length := (List.getElem?_eq_some_iff.1 hi).1
    obtain ⟨e, he⟩ := getElem?_lt (l := es) (k := i) (by omega)
    have hex : e.i = x := by
      have h1 : (es.map (·.i))[i]? = some e.i := by rw [List.getElem?_map, he]; rfl
      rw [hes, hi] at h1; exact (Option.some.inj h1).symm
    obtain ⟨k1, k2⟩ := g2.rest.2.2 e (List.mem_of_getElem? he)
    have hcell : ∀ q, q < 3 → ((wr.setCell ⟨fb, l.length * 3 + 2, none⟩ inkV).setCell ⟨fb, (l.length + 1) * 3 + 2, none⟩ inkV).cell? ⟨fb, 0 + i * 3 + q, none⟩ = (fM e)[q]? := fun q hq => by
      rw [Nat.zero_add, heap_cell g2.wb.heap, Array.getElem?_setIfInBounds_ne (by omega), Array.getElem?_setIfInBounds_ne (by omega)]
      exact hc.front i e he q hq
    rw [← hex]
    exact ⟨fb, 0, e.vs, e.vp, rfl, g2.wb.po, hcell 0 (by decide), hcell 1 (by decide), hcell 2 (by decide), k1, k2.stay px_po⟩
end Go.Proofs.YtkgncijcnlfhiaaDoor

namespace Go.Proofs.YtkgncijcnlfhiaaDoor
set_option linter.unusedVariables false
set_option linter.unusedSimpArgs false
open Go.RowKit
abbrev zE : Array Value := #[eS, zI]
theorem fE_len : ∀ x, (fE x).length = 2 := fun _ => rfl
/-- the exports as they lie -/
theorem exps_list {w : World} {ao : Option Addr} {cap : Nat} {l : List PExp} (h : RExports w (.slice ao l.length cap) l) :
    ∃ es : List BE, es.map (·.e) = l ∧ (∀ e ∈ es, RText e.vs e.e.name) ∧ ∀ i e, es[i]? = some e → ∃ b off, ao = some ⟨b, off, none⟩ ∧ w.cell? ⟨b, off + i * 2, none⟩ = some e.vs ∧ w.cell? ⟨b, off + i * 2 + 1, none⟩ = some (.int .i64 e.e.func) := by
  obtain ⟨ao', cap', hv, hm, hc⟩ := h
  simp only [Value.slice.injEq] at hv
  obtain ⟨rfl, _, rfl⟩ := hv
  have hg : ∃ g : Nat → Value, ∀ i x, l[i]? = some x → ∃ b off, ao = some ⟨b, off, none⟩ ∧ w.cell? ⟨b, off + i * 2, none⟩ = some (g i) ∧ w.cell? ⟨b, off + i * 2 + 1, none⟩ = some (.int .i64 x.func) ∧ RText (g i) x.name := by
    have : ∀ i, ∃ v : Value, ∀ x, l[i]? = some x → ∃ b off, ao = some ⟨b, off, none⟩ ∧ w.cell? ⟨b, off + i * 2, none⟩ = some v ∧ w.cell? ⟨b, off + i * 2 + 1, none⟩ = some (.int .i64 x.func) ∧ RText v x.name := by
      intro i
      cases hx : l[i]? with
      | none => exact ⟨nS, fun x h => by cases h⟩
      | some y =>
        obtain ⟨b, off, vs, h1, h2, h3, h4⟩ := hc i y hx
        exact ⟨vs, fun x hxx => by cases hxx; exact ⟨b, off, h1, h2, h3, h4⟩⟩
    exact ⟨fun i => (this i).choose, fun i => (this i).choose_spec⟩
  obtain ⟨g, hg⟩ := hg
  refine ⟨l.mapIdx (fun i x => ⟨g i, x⟩), ?_, ?_, ?_⟩
  · apply List.ext_getElem?
    intro i
    rw [List.getElem?_map, List.getElem?_mapIdx]
    cases l[i]? <;> rfl
  · intro e he
    obtain ⟨i, hi⟩ := List.getElem?_of_mem he
    rw [List.getElem?_mapIdx, Option.map_eq_some_iff] at hi
    obtain ⟨x, hx, rfl⟩ := hi
    obtain ⟨_, _, _, _, _, h4⟩ := hg i x hx
    exact h4
  · intro i e hi
    rw [List.getElem?_mapIdx, Option.map_eq_some_iff] at hi
    obtain ⟨x, hx, rfl⟩ := hi
    obtain ⟨b, off, h1, h2, h3, _⟩ := hg i x hx
    exact ⟨b, off, h1, h2, h3⟩
theorem exps_mid {w W2 : World} {lo ob : Nat} {V : Nat → Value} {S : Nat → List (Nat × Nat)} {l : List PExp} {es : List BE} (hes : es.map (·.e) = l) (htx : ∀ e ∈ es, RText e.vs e.e.name)
    (hW : W2.heap[w.heap.size]? = some (.cells (es.flatMap fE ++ (madeCells zE ((l.length + 2) * 2)).toList.drop (es.flatMap fE).length).toArray 81 (0, 0)))
    (hG : Gr w W2) (h : OwnAt lo w ob false V S) (hlo : lo ≤ w.heap.size) (hn : l.length ≤ 2000000) :
    (∃ x, W2.cell? ⟨w.heap.size, l.length * 2 + 1, none⟩ = some x) ∧ (∃ x, W2.cell? ⟨w.heap.size, (l.length + 1) * 2 + 1, none⟩ = some x) ∧ W2.frozen? ⟨w.heap.size, l.length * 2 + 1, none⟩ = false ∧ W2.frozen? ⟨w.heap.size, (l.length + 1) * 2 + 1, none⟩ = false ∧
    W2.cell? ⟨ob, 5, none⟩ = some (V 5) ∧ Gr w ((W2.setCell ⟨w.heap.size, l.length * 2 + 1, none⟩ inkV).setCell ⟨w.heap.size, (l.length + 1) * 2 + 1, none⟩ inkV) ∧
    RowOk (PO lo ob V) ((W2.setCell ⟨w.heap.size, l.length * 2 + 1, none⟩ inkV).setCell ⟨w.heap.size, (l.length + 1) * 2 + 1, none⟩ inkV) 5 false (w.heap.size, l.length + 2) ∧
    RExportsP (PO lo ob V) ((W2.setCell ⟨w.heap.size, l.length * 2 + 1, none⟩ inkV).setCell ⟨w.heap.size, (l.length + 1) * 2 + 1, none⟩ inkV) (.slice (some ⟨w.heap.size, 0, none⟩) l.length (l.length + 2)) l := by
  have hel : es.length = l.length := by rw [← hes, List.length_map]
  have hfs := flat_size fE_len es
  rw [hel] at hfs
  have hMs : (madeCells zE ((l.length + 2) * 2)).size = (l.length + 2) * 2 := size_madeCells _ _
  have hz : ∀ j, j < (l.length + 2) * 2 → (madeCells zE ((l.length + 2) * 2))[j]? = zE[j % 2]? := fun j hj => made_at (by decide) hj
  generalize madeCells zE ((l.length + 2) * 2) = M at hW hMs hz
  have hcs := cur_size (cs := es.flatMap fE) (M := M) (by omega)
  have hcf : ∀ j, j < (es.flatMap fE).length → _ := fun j hj => cur_front (M := M) hj
  have hcb : ∀ j, (es.flatMap fE).length ≤ j → _ := fun j hj => cur_back (M := M) hj
  generalize (es.flatMap fE ++ M.toList.drop (es.flatMap fE).length).toArray = cur at hW hcs hcf hcb
  have hg4 : Gr w ((W2.setCell ⟨w.heap.size, l.length * 2 + 1, none⟩ inkV).setCell ⟨w.heap.size, (l.length + 1) * 2 + 1, none⟩ inkV) := gr_set2 hG (Nat.le_refl _)
  have hW4 := heap_set (o := (l.length + 1) * 2 + 1) (v := inkV) (heap_set (o := l.length * 2 + 1) (v := inkV) hW)
  have hP : PO lo ob V w.heap.size := h.fresh hlo (Nat.le_refl _)
  refine ⟨⟨cur[l.length * 2 + 1]'(by omega), by rw [heap_cell hW]; simp⟩, ⟨cur[(l.length + 1) * 2 + 1]'(by omega), by rw [heap_cell hW]; simp⟩, heap_frozen hW, heap_frozen hW, hG.cell (h.cell 5 (by decide)) (by simp), hg4, ⟨hP, by simp, by simp; omega, ⟨_, hW4, by simp [hcs, hMs, sZ]⟩, fun k hk hl => ?_⟩, ⟨_, _, rfl, by unfold maxLen; omega, fun i x hi => ?_⟩⟩
  · rcases hk with hk | hk
    · cases hk
    · simp only at hk hl
      have e0 : k = l.length ∨ k = l.length + 1 := by omega
      simp only [Ink]
      rw [heap_cell hW4, heap_cell hW4]
      rcases e0 with rfl | rfl
      · refine ⟨?_, ?_⟩
        · rw [Array.getElem?_setIfInBounds_ne (by omega), Array.getElem?_setIfInBounds_ne (by omega), hcb _ (by omega), hz _ (by omega), show l.length * 2 % 2 = 0 by omega]; rfl
        · rw [Array.getElem?_setIfInBounds_ne (by omega), Array.getElem?_setIfInBounds_self_of_lt (by omega)]
      · refine ⟨?_, ?_⟩
        · rw [Array.getElem?_setIfInBounds_ne (by omega), Array.getElem?_setIfInBounds_ne (by omega), hcb _ (by omega), hz _ (by omega), show (l.length + 1) * 2 % 2 = 0 by omega]; rfl
        · rw [Array.getElem?_setIfInBounds_self_of_lt (by simp; omega)]
  · have hil : i < l.length := (List.getElem?_eq_some_iff.1 hi).1
    obtain ⟨e, he⟩ := getElem?_lt (l := es) (k := i) (by omega)
    have hex : e.e = x := by
      have h1 : (es.map (·.e))[i]? = some e.e := by rw [List.getElem?_map, he]; rfl
      rw [hes, hi] at h1; exact (Option.some.inj h1).symm
    have hcell : ∀ j, j < 2 → ((W2.setCell ⟨w.heap.size, l.length * 2 + 1, none⟩ inkV).setCell ⟨w.heap.size, (l.length + 1) * 2 + 1, none⟩ inkV).cell? ⟨w.heap.size, 0 + i * 2 + j, none⟩ = (fE e)[j]? := fun j hj => by
      rw [Nat.zero_add, heap_cell hW4, Array.getElem?_setIfInBounds_ne (by omega), Array.getElem?_setIfInBounds_ne (by omega), hcf _ (by omega)]
      exact flat_at fE_len he hj
    rw [← hex]
    exact ⟨w.heap.size, 0, e.vs, rfl, hP, hcell 0 (by decide), hcell 1 (by decide), htx e (List.mem_of_getElem? he)⟩
/-- a block of nothing is none of these -/
theorem not_nil {w : World} {rb b o : Nat} {t : TypeId} {z : Int} (hr : w.heap[rb]? = some (.cells #[nS, nS, nS, nS, nS] t (0, 0))) (hc : w.cell? ⟨b, o, none⟩ = some (.int .i64 z)) : ¬ b = rb := by
  intro e
  subst e
  rw [heap_cell hr] at hc
  rcases o with _ | _ | _ | _ | _ | o <;> simp [nS] at hc
theorem rints_not {P : Nat → Prop} {w : World} {rb : Nat} {t : TypeId} {v : Value} {l : List Int} (h : RIntsP P w v l) (hr : w.heap[rb]? = some (.cells #[nS, nS, nS, nS, nS] t (0, 0))) : RIntsP (fun b => P b ∧ ¬ b = rb) w v l := by
  obtain ⟨ao, cap, hv, hm, hc⟩ := h
  refine ⟨ao, cap, hv, hm, fun i y hi => ?_⟩
  obtain ⟨b, off, h1, h2, h3⟩ := hc i y hi
  exact ⟨b, off, h1, ⟨h2, not_nil hr h3⟩, h3⟩
theorem runit_not {P : Nat → Prop} {w : World} {rb sb m c : Nat} {t : TypeId} {v2 v3 v4 v5 : Value} {u : PUnit} (hr : w.heap[rb]? = some (.cells #[nS, nS, nS, nS, nS] t (0, 0))) (hsb : ¬ sb = rb)
    (h1 : RShapesP P w (.slice (some ⟨sb, 0, none⟩) m c) u.shapes) (h2 : RIntsP P w v2 u.consts) (h3 : RFuncsP P w v3 u.funcs) (h4 : RImportsP P w v4 u.imports) (h5 : RExportsP P w v5 u.exports) :
    RUnitP (fun b => P b ∧ ¬ b = rb) w (.agg #[.slice (some ⟨sb, 0, none⟩) m c, v2, v3, v4, v5]) u := by
  refine ⟨_, _, _, _, _, rfl, ?_, rints_not h2 hr, ?_, ?_, ?_⟩
  · obtain ⟨ao, cap, hv, hm, hc⟩ := h1
    refine ⟨ao, cap, hv, hm, fun i y hi => ?_⟩
    obtain ⟨b, off, vx, k1, k2, k3, k4⟩ := hc i y hi
    simp only [Value.slice.injEq] at hv
    have e : b = sb := by have := hv.1.trans k1; simp only [Option.some.injEq, Addr.mk.injEq] at this; exact this.1.symm
    exact ⟨b, off, vx, k1, ⟨k2, e ▸ hsb⟩, k3, rints_not k4 hr⟩
  · obtain ⟨ao, cap, hv, hm, hc⟩ := h3
    refine ⟨ao, cap, hv, hm, fun i y hi => ?_⟩
    obtain ⟨b, off, vp, vl, vc, k1, k2, k3, k4, k5, k6, k7, k8, k9⟩ := hc i y hi
    obtain ⟨ao', cap', hv', hm', hc'⟩ := k9
    refine ⟨b, off, vp, vl, vc, k1, ⟨k2, not_nil hr k4⟩, k3, k4, k5, k6, rints_not k7 hr, rints_not k8 hr, ⟨ao', cap', hv', hm', fun j z hj => ?_⟩⟩
    obtain ⟨b', off', j1, j2, j3, j4⟩ := hc' j z hj
    exact ⟨b', off', j1, ⟨j2, not_nil hr j3⟩, j3, j4⟩
  · obtain ⟨ao, cap, hv, hm, hc⟩ := h4
    refine ⟨ao, cap, hv, hm, fun i y hi => ?_⟩
    obtain ⟨b, off, vs, vp, k1, k2, k3, k4, k5, k6, k7⟩ := hc i y hi
    exact ⟨b, off, vs, vp, k1, ⟨k2, not_nil hr k5⟩, k3, k4, k5, k6, rints_not k7 hr⟩
  · obtain ⟨ao, cap, hv, hm, hc⟩ := h5
    refine ⟨ao, cap, hv, hm, fun i y hi => ?_⟩
    obtain ⟨b, off, vs, k1, k2, k3, k4, k5⟩ := hc i y hi
    exact ⟨b, off, vs, k1, ⟨k2, not_nil hr k4⟩, k3, k4, k5⟩
/-- a store into the answer's box -/
theorem rb_row {lo ob ub rb : Nat} {V : Nat → Value} {S : Nat → List (Nat × Nat)} {v1 v2 v3 v4 v5 : Value} {w00 w : World} (h : UO lo ob ub rb V S v1 v2 v3 v4 v5 w00 w) {f : Nat} (hf : f < 8) {r : Nat × Nat} (hr : r ∈ S f) : ¬ r.1 = rb := by
  intro e
  obtain ⟨cs, hcs, hsz⟩ := (h.own.rows f hf r hr).cells
  have h2 := (h.own.rows f hf r hr).two
  rw [e, h.hr] at hcs
  simp only [Option.some.injEq, Obj.cells.injEq] at hcs
  have h5 : cs.size = 5 := by rw [← hcs.1]; rfl
  have ht := hcs.2.1
  have : f = 7 := by
    rcases f with _ | _ | _ | _ | _ | _ | _ | f <;> first | omega | (exact absurd ht (by decide))
  subst this
  have : sZ 7 = 5 := rfl
  rw [this] at hsz; omega
theorem OwnAt.setu {lo : Nat} {w : World} {ob : Nat} {all : Bool} {V : Nat → Value} {S : Nat → List (Nat × Nat)} {rb : Nat} {cur : Array Value} (h : OwnAt lo w ob all V S) (hP : PO lo ob V rb) (hr : w.heap[rb]? = some (.cells cur 28 (0, 0))) (hS : ∀ f, f < 8 → ∀ r ∈ S f, ¬ r.1 = rb) (o : Nat) (v : Value) : OwnAt lo (w.setCell ⟨rb, o, none⟩ v) ob all V S := by
  have hne : ∀ q, ¬ q = rb → (w.setCell ⟨rb, o, none⟩ v).heap[q]? = w.heap[q]? := fun q hq => Below.heap_setCell _ _ _ _ hq
  exact ⟨(hne ob (fun e => hP.2.1 e.symm)).trans h.box, h.low, fun f hf => ownsRow_same (h.own f hf) fun g hg => hne g (fun e => hP.2.2 f hf (e ▸ hg)), fun f hf r hr' => (h.rows f hf r hr').set (hS f hf r hr') hr (by decide)⟩
theorem UO.done {lo ob ub rb : Nat} {V V0 : Nat → Value} {S : Nat → List (Nat × Nat)} {v1 v2 v3 v4 v5 y0 y1 y2 y3 y4 : Value} {w00 w0 w : World} (h : UO lo ob ub rb V S v1 v2 v3 v4 v5 w00 w) (hf : Fr lo ob V0 V w0 w) (hrb : w0.heap.size ≤ rb) :
    OwnAt lo (put5 w rb y0 y1 y2 y3 y4) ob false V S ∧ Fr lo ob V0 V w0 (put5 w rb y0 y1 y2 y3 y4) ∧ Stay (fun b => PO lo ob V b ∧ ¬ b = rb) (PO lo ob V) w (put5 w rb y0 y1 y2 y3 y4) := by
  have hS : ∀ f, f < 8 → ∀ r ∈ S f, ¬ r.1 = rb := fun f hf r hr => rb_row h hf hr
  have o1 := h.own.setu h.pr h.hr hS 0 y0
  have k1 := heap_set (o := 0) (v := y0) h.hr
  have o2 := o1.setu h.pr k1 hS 1 y1
  have k2 := heap_set (o := 1) (v := y1) k1
  have o3 := o2.setu h.pr k2 hS 2 y2
  have k3 := heap_set (o := 2) (v := y2) k2
  have o4 := o3.setu h.pr k3 hS 3 y3
  have k4 := heap_set (o := 3) (v := y3) k3
  have o5 := o4.setu h.pr k4 hS 4 y4
  have hne : ∀ q, ¬ q = rb → (put5 w rb y0 y1 y2 y3 y4).heap[q]? = w.heap[q]? := fun q hq => by
    unfold put5
    rw [Below.heap_setCell _ _ _ _ hq, Below.heap_setCell _ _ _ _ hq, Below.heap_setCell _ _ _ _ hq, Below.heap_setCell _ _ _ _ hq, Below.heap_setCell _ _ _ _ hq]
  refine ⟨o5, ⟨by unfold put5; simpa using hf.size, fun b hb hl => ⟨(hne b (by omega)).trans (hf.stay b hb hl).1, (hf.stay b hb hl).2⟩, ?_⟩, fun b hb _ => ⟨hne b hb.2, hb.1⟩⟩
  unfold put5
  exact ((((hf.low.setCell (p := ⟨rb, 0, none⟩) h.pr.1 _).setCell (p := ⟨rb, 1, none⟩) h.pr.1 _).setCell (p := ⟨rb, 2, none⟩) h.pr.1 _).setCell (p := ⟨rb, 3, none⟩) h.pr.1 _).setCell (p := ⟨rb, 4, none⟩) h.pr.1 _
end Go.Proofs.YtkgncijcnlfhiaaDoor

