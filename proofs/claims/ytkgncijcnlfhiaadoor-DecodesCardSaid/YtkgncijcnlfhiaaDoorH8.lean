import Derived.Test.YtkgncijcnlfhiaaDoorLi
import Derived.Test.YtkgncijcnlfhiaaDoorBk3
namespace Go.Proofs.YtkgncijcnlfhiaaDoor
set_option linter.unusedVariables false
set_option linter.unusedSimpArgs false
open Go.RowKit
/-- the document's Decode: as mine reads -/
theorem decode_ref (s : ByteArray) (w : World) (hs : s.size ≤ maxLen) (hT : Tab w) : Calls Tryd.prog 21 #[.string s] w (DcR w (dec s.data.toList)) := by
  have htl : s.data.toList.length = s.size := by rw [Array.length_toList]; rfl
  have hD : dec s.data.toList = refDecU s.data.toList := (refDec_eq _).symm.trans (refDecU_eq _).symm
  rw [hD]
  unfold refDecU
  by_cases h1 : 20000 < s.size
  · rw [if_pos (by omega)]; exact decode_ref1 s w hs h1
  · rw [if_neg (by omega)]
    have hmg : magic = [75, 73, 76, 78, 1] := rfl
    by_cases h5 : s.size < 5
    · rw [if_pos (fun e => by have := congrArg List.length e; rw [List.length_take, htl, hmg] at this; simp at this; omega)]
      exact decode_ref2 s w hs h5
    · have hc : (s.extract 0 5).toList = s.data.toList.take 5 := by
        have := cut_take s 0 5 (by omega)
        simpa using this
      by_cases hm : s.data.toList.take 5 = magic
      · rw [if_neg (fun h => h hm)]
        exact decode_refL s w hT (by omega) (by omega) (by rw [hc, hm, hmg]; decide) _ rfl
      · rw [if_pos hm]
        refine decode_ref3 s w hs (by omega) (by omega) ?_
        rw [hc]
        cases hb : (s.data.toList.take 5 == [75, 73, 76, 78, 1])
        · rfl
        · exact absurd (eq_of_beq hb) hm
end Go.Proofs.YtkgncijcnlfhiaaDoor

namespace Go.Proofs.YtkgncijcnlfhiaaDoor
set_option linter.unusedVariables false
set_option linter.unusedSimpArgs false
open Go.RowKit
structure WB (lo ob : Nat) (V : Nat → Value) (w : World) (b k m : Nat) (cur : Array Value) : Prop where
  po : PO lo ob V b
  heap : w.heap[b]? = some (.cells cur (eT k) (0, 0))
  size : cur.size = m * sZ k
/-- all blocks but the box, the lists of rows and the block that is being filled -/
def PX (lo ob : Nat) (V : Nat → Value) (sb b : Nat) : Prop := PO lo ob V b ∧ ¬ b = sb
theorem WB.fr {lo ob : Nat} {V V' : Nat → Value} {w w' : World} {b k m : Nat} {cur : Array Value} (h : WB lo ob V w b k m cur) (g : Fr lo ob V V' w w') : WB lo ob V' w' b k m cur :=
  ⟨(g.stay b h.po (block_lt h.heap)).2, ((g.stay b h.po (block_lt h.heap)).1).trans h.heap, h.size⟩
theorem WB.set {lo ob : Nat} {V : Nat → Value} {w : World} {b k m : Nat} {cur : Array Value} (h : WB lo ob V w b k m cur) (o : Nat) (v : Value) : WB lo ob V (w.setCell ⟨b, o, none⟩ v) b k m (cur.setIfInBounds o v) :=
  ⟨h.po, heap_set h.heap, by simpa using h.size⟩
theorem WB.gr {lo ob : Nat} {V : Nat → Value} {w w' : World} {b k m : Nat} {cur : Array Value} (h : WB lo ob V w b k m cur) (g : Gr w w') : WB lo ob V w' b k m cur := ⟨h.po, (g.block b (block_lt h.heap) (by simp)).trans h.heap, h.size⟩
theorem WB.cell {lo ob : Nat} {V : Nat → Value} {w : World} {b k m : Nat} {cur : Array Value} (h : WB lo ob V w b k m cur) {j : Nat} (hj : j < m * sZ k) : (∃ x, w.cell? ⟨b, j, none⟩ = some x) ∧ w.frozen? ⟨b, j, none⟩ = false :=
  ⟨⟨cur[j]'(by rw [h.size]; exact hj), by rw [heap_cell h.heap]; simp⟩, heap_frozen h.heap⟩
theorem px_fr {lo ob sb : Nat} {V V' : Nat → Value} {w w' : World} (g : Fr lo ob V V' w w') : Stay (PX lo ob V sb) (PX lo ob V' sb) w w' := fun b hb hl => ⟨(g.stay b hb.1 hl).1, (g.stay b hb.1 hl).2, hb.2⟩
theorem px_set {lo ob sb o : Nat} {V : Nat → Value} {w : World} {v : Value} : Stay (PX lo ob V sb) (PX lo ob V sb) w (w.setCell ⟨sb, o, none⟩ v) := fun b hb _ => ⟨Below.heap_setCell _ _ _ _ hb.2, hb⟩
theorem px_po {lo ob sb : Nat} {V : Nat → Value} {w : World} : Stay (PX lo ob V sb) (PO lo ob V) w w := fun _ hb _ => ⟨rfl, hb.1⟩
theorem rints_at {P P' : Nat → Prop} {w : World} {b m c : Nat} {l : List Int} (h : RIntsP P w (.slice (some ⟨b, 0, none⟩) m c) l) (hb : P' b) : RIntsP P' w (.slice (some ⟨b, 0, none⟩) m c) l := by
  obtain ⟨ao, cap, hv, hm, hc⟩ := h
  refine ⟨ao, cap, hv, hm, fun i y hi => ?_⟩
  obtain ⟨b', off, h1, h2, h3⟩ := hc i y hi
  simp only [Value.slice.injEq] at hv
  have e : b' = b := by have := hv.1.trans h1; simp only [Option.some.injEq, Addr.mk.injEq] at this; exact this.1.symm
  exact ⟨b', off, h1, e ▸ hb, h3⟩
theorem RowOk.set {P : Nat → Prop} {w : World} {f : Nat} {all : Bool} {r : Nat × Nat} {sb o : Nat} {v : Value} {cur : Array Value} {t : TypeId} (h : RowOk P w f all r) (hne : ¬ r.1 = sb) (hs : w.heap[sb]? = some (.cells cur t (0, 0))) (ht : ¬ t = 3) : RowOk P (w.setCell ⟨sb, o, none⟩ v) f all r := by
  have hst : Stay (fun b => P b ∧ ¬ b = sb) P w (w.setCell ⟨sb, o, none⟩ v) := fun b hb _ => ⟨Below.heap_setCell _ _ _ _ hb.2, hb.1⟩
  refine RowOk.stay (P := fun b => P b ∧ ¬ b = sb) ⟨⟨h.here, hne⟩, h.two, h.most, h.cells, fun k hk hl => ?_⟩ hst
  have hi := h.inked k hk hl
  rcases f with _ | _ | _ | _ | _ | _ | _ | f <;> simp only [Ink] at hi ⊢
  · exact hi
  · obtain ⟨b', h1, h2, h3⟩ := hi
    exact ⟨b', h1, ⟨h2, fun e => by rw [e, hs] at h3; simp only [Option.some.injEq, Obj.cells.injEq] at h3; exact ht h3.2.1⟩, h3⟩
  · exact hi
  · exact hi
  · exact hi
  · exact hi
  · exact hi
  · obtain ⟨b', h0, h1, h4, h5, h6, h2, h3⟩ := hi
    exact ⟨b', h0, h1, h4, h5, h6, ⟨h2, fun e => by rw [e, hs] at h3; simp only [Option.some.injEq, Obj.cells.injEq] at h3; exact ht h3.2.1⟩, h3⟩
theorem eT_int : ∀ k, k < 8 → k ≠ 0 → ¬ eT k = 3 := by decide
theorem OwnAt.setw {lo : Nat} {w : World} {ob : Nat} {all : Bool} {V : Nat → Value} {S : Nat → List (Nat × Nat)} {b k m : Nat} {cur : Array Value} (h : OwnAt lo w ob all V S) (wb : WB lo ob V w b k m cur) (hk : k < 8) (hk0 : k ≠ 0) (hS : ∀ r ∈ S k, ¬ r.1 = b) (o : Nat) (v : Value) :
    OwnAt lo (w.setCell ⟨b, o, none⟩ v) ob all V S := by
  have hne : ∀ q, ¬ q = b → (w.setCell ⟨b, o, none⟩ v).heap[q]? = w.heap[q]? := fun q hq => Below.heap_setCell _ _ _ _ hq
  refine ⟨(hne ob (fun e => wb.po.2.1 e.symm)).trans h.box, h.low, fun f hf => ownsRow_same (h.own f hf) fun g hg => hne g (fun e => wb.po.2.2 f hf (e ▸ hg)), fun f hf r hr => (h.rows f hf r hr).set ?_ wb.heap (eT_int k hk hk0)⟩
  by_cases hfk : f = k
  · subst hfk; exact hS r hr
  · intro e
    obtain ⟨cs, hcs, _⟩ := (h.rows f hf r hr).cells
    rw [e, wb.heap] at hcs
    simp only [Option.some.injEq, Obj.cells.injEq] at hcs
    exact eT_ne f hf k hk hfk hcs.2.1.symm
/-- how many rows there are -/
structure Cn (S : Nat → List (Nat × Nat)) (c0 c2 c : Nat) : Prop where
  ints : (S 0).length ≤ c0
  codes : (S 2).length ≤ c2
  rest : ∀ f, f < 8 → f ≠ 0 → f ≠ 2 → (S f).length ≤ c
theorem Cn.push0 {S : Nat → List (Nat × Nat)} {c0 c2 c : Nat} {r : Nat × Nat} (h : Cn S c0 c2 c) : Cn (updS S 0 r) (c0 + 1) c2 c :=
  ⟨by simp [updS]; exact h.ints, by simp [updS]; exact h.codes, fun f hf h0 h2 => by simp only [updS, if_neg h0]; exact h.rest f hf h0 h2⟩
theorem Cn.push {S : Nat → List (Nat × Nat)} {c0 c2 c k : Nat} {r : Nat × Nat} (h : Cn S c0 c2 c) (hk0 : k ≠ 0) (hk2 : k ≠ 2) : Cn (updS S k r) c0 c2 (c + 1) :=
  ⟨by simp only [updS, if_neg (Ne.symm hk0)]; exact h.ints, by simp only [updS, if_neg (Ne.symm hk2)]; exact h.codes, fun f hf h0 h2 => by
    have := h.rest f hf h0 h2
    unfold updS; split
    · simp; omega
    · omega⟩
theorem Cn.mono {S : Nat → List (Nat × Nat)} {c0 c2 c d0 d2 d : Nat} (h : Cn S c0 c2 c) (h0 : c0 ≤ d0) (h2 : c2 ≤ d2) (hc : c ≤ d) : Cn S d0 d2 d :=
  ⟨Nat.le_trans h.ints h0, Nat.le_trans h.codes h2, fun f hf k0 k2 => Nat.le_trans (h.rest f hf k0 k2) hc⟩
/-- unit's own things: the Own, the box of u, the box of the answer -/
structure UO (lo ob ub rb : Nat) (V : Nat → Value) (S : Nat → List (Nat × Nat)) (v1 v2 v3 v4 v5 : Value) (w00 w : World) : Prop where
  own : OwnAt lo w ob false V S
  pu : PO lo ob V ub
  pr : PO lo ob V rb
  hu : w.heap[ub]? = some (.cells #[v1, v2, v3, v4, v5] 28 (0, 0))
  hr : w.heap[rb]? = some (.cells #[nS, nS, nS, nS, nS] 28 (0, 0))
  low : Below lo w00 w
  size : lo ≤ w.heap.size
theorem UO.fr {lo ob ub rb : Nat} {V V' : Nat → Value} {S S' : Nat → List (Nat × Nat)} {v1 v2 v3 v4 v5 : Value} {w00 w w' : World} (h : UO lo ob ub rb V S v1 v2 v3 v4 v5 w00 w) (ho : OwnAt lo w' ob false V' S') (g : Fr lo ob V V' w w') : UO lo ob ub rb V' S' v1 v2 v3 v4 v5 w00 w' :=
  ⟨ho, (g.stay ub h.pu (block_lt h.hu)).2, (g.stay rb h.pr (block_lt h.hr)).2, ((g.stay ub h.pu (block_lt h.hu)).1).trans h.hu, ((g.stay rb h.pr (block_lt h.hr)).1).trans h.hr, h.low.trans g.low, Nat.le_trans h.size g.size⟩
theorem UO.gr {lo ob ub rb : Nat} {V : Nat → Value} {S : Nat → List (Nat × Nat)} {v1 v2 v3 v4 v5 : Value} {w00 w w' : World} (h : UO lo ob ub rb V S v1 v2 v3 v4 v5 w00 w) (g : Gr w w') : UO lo ob ub rb V S v1 v2 v3 v4 v5 w00 w' := h.fr (h.own.gr g) (fr_gr g h.size)
theorem UO.setw {lo ob ub rb : Nat} {V : Nat → Value} {S : Nat → List (Nat × Nat)} {v1 v2 v3 v4 v5 : Value} {w00 w : World} {b k m : Nat} {cur : Array Value} (h : UO lo ob ub rb V S v1 v2 v3 v4 v5 w00 w) (wb : WB lo ob V w b k m cur) (hk : k < 7) (hk0 : k ≠ 0) (hS : ∀ r ∈ S k, ¬ r.1 = b) (o : Nat) (v : Value) :
    UO lo ob ub rb V S v1 v2 v3 v4 v5 w00 (w.setCell ⟨b, o, none⟩ v) := by
  have hty : ∀ k, k < 7 → ¬ eT k = 28 := by decide
  have hub : ¬ ub = b := fun e => by have := wb.heap; rw [← e, h.hu] at this; simp only [Option.some.injEq, Obj.cells.injEq] at this; exact hty k hk this.2.1.symm
  have hrb : ¬ rb = b := fun e => by have := wb.heap; rw [← e, h.hr] at this; simp only [Option.some.injEq, Obj.cells.injEq] at this; exact hty k hk this.2.1.symm
  exact ⟨h.own.setw wb (by omega) hk0 hS o v, h.pu, h.pr, (Below.heap_setCell _ _ _ _ hub).trans h.hu, (Below.heap_setCell _ _ _ _ hrb).trans h.hr, h.low.setCell (p := ⟨b, o, none⟩) wb.po.1 _, by simpa using h.size⟩
end Go.Proofs.YtkgncijcnlfhiaaDoor

namespace Go.Proofs.YtkgncijcnlfhiaaDoor
set_option linter.unusedVariables false
set_option linter.unusedSimpArgs false
open Go.RowKit
structure FrX (lo ob sb : Nat) (V V' : Nat → Value) (w w' : World) : Prop where
  size : w.heap.size ≤ w'.heap.size
  stay : Stay (PX lo ob V sb) (PX lo ob V' sb) w w'
  low : Below lo w w'
theorem FrX.fr {lo ob sb : Nat} {V V' V'' : Nat → Value} {w w' w'' : World} (h : FrX lo ob sb V V' w w') (k : Fr lo ob V' V'' w' w'') : FrX lo ob sb V V'' w w'' := ⟨Nat.le_trans h.size k.size, h.stay.trans (px_fr k) h.size, h.low.trans k.low⟩
theorem FrX.set {lo ob sb : Nat} {V V' : Nat → Value} {w w' : World} (h : FrX lo ob sb V V' w w') (hl : lo ≤ sb) (o : Nat) (v : Value) : FrX lo ob sb V V' w (w'.setCell ⟨sb, o, none⟩ v) := ⟨by simpa using h.size, h.stay.trans px_set h.size, h.low.setCell (p := ⟨sb, o, none⟩) hl _⟩
theorem FrX.close {lo ob sb : Nat} {V V' : Nat → Value} {w w' : World} (h : FrX lo ob sb V V' w w') (hs : w.heap.size ≤ sb) : Fr lo ob V V' w w' := ⟨h.size, fun b hb hl => ⟨(h.stay b ⟨hb, by omega⟩ hl).1, (h.stay b ⟨hb, by omega⟩ hl).2.1⟩, h.low⟩
/-- a unit, all of whose lists are such ones -/
def RUnitP (P : Nat → Prop) (w : World) (v : Value) (u : PUnit) : Prop :=
  ∃ v1 v2 v3 v4 v5, v = .agg #[v1, v2, v3, v4, v5] ∧ RShapesP P w v1 u.shapes ∧ RIntsP P w v2 u.consts ∧ RFuncsP P w v3 u.funcs ∧ RImportsP P w v4 u.imports ∧ RExportsP P w v5 u.exports
theorem RUnitP.stay {P P' : Nat → Prop} {w w' : World} {v : Value} {u : PUnit} (h : RUnitP P w v u) (g : Stay P P' w w') : RUnitP P' w' v u := by
  obtain ⟨v1, v2, v3, v4, v5, hv, h1, h2, h3, h4, h5⟩ := h
  exact ⟨v1, v2, v3, v4, v5, hv, h1.stay g, h2.stay g, h3.stay g, h4.stay g, h5.stay g⟩
def Lp1 (lo ob ub rb sb : Nat) (v1 v2 v3 v4 v5 : Value) (w00 w0 : World) (V : Nat → Value) (l : List (List Int)) (c0 c2 c i : Nat) (wr : World) : Prop :=
  ∃ (V' : Nat → Value) (S' : Nat → List (Nat × Nat)) (cur : Array Value) (es : List (Value × List Int)), UO lo ob ub rb V' S' v1 v2 v3 v4 v5 w00 wr ∧ WB lo ob V' wr sb 1 (l.length + 2) cur ∧ (∀ r ∈ S' 1, ¬ r.1 = sb) ∧ Cn S' (c0 + i) c2 c ∧ es.map (·.2) = l.take i ∧ es.length = i ∧
    (∀ e ∈ es, RIntsP (PX lo ob V' sb) wr e.1 e.2) ∧ (∀ (j : Nat) (e : Value × List Int), es[j]? = some e → cur[j]? = some e.1) ∧ FrX lo ob sb V V' w0 wr
theorem Lp1.step {lo ob ub rb sb : Nat} {v1 v2 v3 v4 v5 : Value} {w00 w0 : World} {V V' : Nat → Value} {S' : Nat → List (Nat × Nat)} {cur : Array Value} {es : List (Value × List Int)} {l : List (List Int)} {c0 c2 c i : Nat} {wr w' : World} {x : List Int} {b : Nat} {V2 : Nat → Value}
    (huo : UO lo ob ub rb V' S' v1 v2 v3 v4 v5 w00 wr) (hwb : WB lo ob V' wr sb 1 (l.length + 2) cur) (hns : ∀ r ∈ S' 1, ¬ r.1 = sb) (hcn : Cn S' (c0 + i) c2 c) (hes : es.map (·.2) = l.take i) (hlen : es.length = i)
    (hri : ∀ e ∈ es, RIntsP (PX lo ob V' sb) wr e.1 e.2) (hcur : ∀ (j : Nat) (e : Value × List Int), es[j]? = some e → cur[j]? = some e.1) (hfx : FrX lo ob sb V V' w0 wr) (hx : l[i]? = some x)
    (hb : wr.heap.size ≤ b) (hr : RIntsP (PO lo ob V2) w' (.slice (some ⟨b, 0, none⟩) x.length (x.length + 2)) x) (ho : OwnAt lo w' ob false V2 (updS S' 0 (b, x.length + 2))) (hf : Fr lo ob V' V2 wr w') :
    Lp1 lo ob ub rb sb v1 v2 v3 v4 v5 w00 w0 V l c0 c2 c (i + 1) (w'.setCell ⟨sb, i, none⟩ (.slice (some ⟨b, 0, none⟩) x.length (x.length + 2))) := by
  have hil : i < l.length := (List.getElem?_eq_some_iff.1 hx).1
  have hwb2 := hwb.fr hf
  have hns2 : ∀ r ∈ updS S' 0 (b, x.length + 2) 1, ¬ r.1 = sb := by simpa [updS] using hns
  have hbs : ¬ b = sb := by have := block_lt hwb.heap; omega
  have hbl : b < w'.heap.size := by
    obtain ⟨cs, hcs, _⟩ := (ho.rows 0 (by decide) (b, x.length + 2) (by simp [updS])).cells
    exact block_lt hcs
  have hPb : PX lo ob V2 sb b := ⟨(ho.rows 0 (by decide) (b, x.length + 2) (by simp [updS])).here, hbs⟩
  refine ⟨V2, updS S' 0 (b, x.length + 2), cur.setIfInBounds i (.slice (some ⟨b, 0, none⟩) x.length (x.length + 2)), es ++ [(.slice (some ⟨b, 0, none⟩) x.length (x.length + 2), x)], (huo.fr ho hf).setw hwb2 (by decide) (by decide) hns2 _ _, hwb2.set _ _, hns2, by rw [← Nat.add_assoc]; exact hcn.push0, ?_, by simp [hlen], ?_, ?_, (hfx.fr hf).set hwb2.po.1 _ _⟩
  · obtain ⟨h1, h2⟩ := List.getElem?_eq_some_iff.1 hx
    rw [List.map_append, hes, List.take_succ_eq_append_getElem h1, h2]; rfl
  · intro e he
    rcases List.mem_append.1 he with he | he
    · exact ((hri e he).stay (px_fr hf)).stay px_set
    · rw [List.mem_singleton.1 he]; exact (rints_at hr hPb).stay px_set
  · intro j e hj
    by_cases hji : j < i
    · rw [List.getElem?_append_left (by omega)] at hj
      rw [Array.getElem?_setIfInBounds_ne (by omega)]; exact hcur j e hj
    · have hje : j = i := by
        have := (List.getElem?_eq_some_iff.1 hj).1; simp [hlen] at this; omega
      subst hje
      rw [List.getElem?_append_right (by omega), hlen] at hj
      simp at hj; subst hj
      rw [Array.getElem?_setIfInBounds_self_of_lt (by rw [hwb.size]; simp [sZ]; omega)]
theorem heap_new (w : World) (o : Obj) : (w.alloc o).heap[w.heap.size]? = some o := by show (w.heap.push _)[w.heap.size]? = _; simp
theorem UO.new {lo ob : Nat} {V : Nat → Value} {S : Nat → List (Nat × Nat)} {v1 v2 v3 v4 v5 : Value} {w00 w : World} (h : OwnAt lo w ob false V S) (hl : Below lo w00 w) (hs : lo ≤ w.heap.size) :
    UO lo ob w.heap.size (w.heap.size + 1) V S v1 v2 v3 v4 v5 w00 ((w.alloc (.cells #[v1, v2, v3, v4, v5] 28)).alloc (.cells #[nS, nS, nS, nS, nS] 28)) ∧ Fr lo ob V V w ((w.alloc (.cells #[v1, v2, v3, v4, v5] 28)).alloc (.cells #[nS, nS, nS, nS, nS] 28)) ∧ ((w.alloc (.cells #[v1, v2, v3, v4, v5] 28)).alloc (.cells #[nS, nS, nS, nS, nS] 28)).heap.size = w.heap.size + 1 + 1 := by
  have hg := ((Gr.refl w).alloc (.cells #[v1, v2, v3, v4, v5] 28)).alloc (.cells #[nS, nS, nS, nS, nS] 28)
  refine ⟨⟨h.gr hg, h.fresh hs (Nat.le_refl _), h.fresh hs (by omega), ?_, ?_, hl.trans (fr_gr (ob := ob) (V := V) hg hs).low, Nat.le_trans hs hg.size⟩, fr_gr hg hs, by simp⟩
  · show ((w.heap.push _).push _)[w.heap.size]? = _
    simp [Array.getElem?_push]
  · show ((w.heap.push (.cells #[v1, v2, v3, v4, v5] 28)).push (.cells #[nS, nS, nS, nS, nS] 28))[w.heap.size + 1]? = _
    rw [show w.heap.size + 1 = (w.heap.push (.cells #[v1, v2, v3, v4, v5] 28)).size by simp, Array.getElem?_push_size]

theorem FrX.trans {lo ob sb : Nat} {V V' V'' : Nat → Value} {w w' w'' : World} (h : FrX lo ob sb V V' w w') (k : FrX lo ob sb V' V'' w' w'') : FrX lo ob sb V V'' w w'' := ⟨Nat.le_trans h.size k.size, h.stay.trans k.stay h.size, h.low.trans k.low⟩
/-- a block that is being filled, and all that stands beside it -/
structure Fill (lo ob ub rb fb k m : Nat) (v1 v2 v3 v4 v5 : Value) (w00 w0 : World) (V0 V : Nat → Value) (S : Nat → List (Nat × Nat)) (cur : Array Value) (R : (Nat → Prop) → World → Prop) (wr : World) : Prop where
  uo : UO lo ob ub rb V S v1 v2 v3 v4 v5 w00 wr
  wb : WB lo ob V wr fb k m cur
  ns : ∀ r ∈ S k, ¬ r.1 = fb
  rest : R (PX lo ob V fb) wr
  fx : FrX lo ob fb V0 V w0 wr
def Closed (R : (Nat → Prop) → World → Prop) : Prop := ∀ P P' w w', Stay P P' w w' → R P w → R P' w'
section
variable {lo ob ub rb fb k m : Nat} {v1 v2 v3 v4 v5 : Value} {w00 w0 : World} {V0 V : Nat → Value} {S : Nat → List (Nat × Nat)} {cur : Array Value} {R : (Nat → Prop) → World → Prop} {wr : World}
theorem Fill.set (h : Fill lo ob ub rb fb k m v1 v2 v3 v4 v5 w00 w0 V0 V S cur R wr) (hR : Closed R) (hk : k < 7) (hk0 : k ≠ 0) (o : Nat) (v : Value) : Fill lo ob ub rb fb k m v1 v2 v3 v4 v5 w00 w0 V0 V S (cur.setIfInBounds o v) R (wr.setCell ⟨fb, o, none⟩ v) :=
  ⟨h.uo.setw h.wb hk hk0 h.ns o v, h.wb.set o v, h.ns, hR _ _ _ _ px_set h.rest, h.fx.set h.wb.po.1 o v⟩
theorem Fill.fr {V' : Nat → Value} {S' : Nat → List (Nat × Nat)} {w' : World} (h : Fill lo ob ub rb fb k m v1 v2 v3 v4 v5 w00 w0 V0 V S cur R wr) (hR : Closed R) (ho : OwnAt lo w' ob false V' S') (hs : S' k = S k) (hf : Fr lo ob V V' wr w') : Fill lo ob ub rb fb k m v1 v2 v3 v4 v5 w00 w0 V0 V' S' cur R w' :=
  ⟨h.uo.fr ho hf, h.wb.fr hf, by rw [hs]; exact h.ns, hR _ _ _ _ (px_fr hf) h.rest, h.fx.fr hf⟩
theorem Fill.add {R' : (Nat → Prop) → World → Prop} (h : Fill lo ob ub rb fb k m v1 v2 v3 v4 v5 w00 w0 V0 V S cur R wr) (hr : R' (PX lo ob V fb) wr) : Fill lo ob ub rb fb k m v1 v2 v3 v4 v5 w00 w0 V0 V S cur R' wr := ⟨h.uo, h.wb, h.ns, hr, h.fx⟩
theorem Fill.cell (h : Fill lo ob ub rb fb k m v1 v2 v3 v4 v5 w00 w0 V0 V S cur R wr) {j : Nat} (hj : j < m * sZ k) : (∃ x, wr.cell? ⟨fb, j, none⟩ = some x) ∧ wr.frozen? ⟨fb, j, none⟩ = false := h.wb.cell hj
/-- it is filled: the row goes into the list -/
theorem Fill.push {w1 : World} {v' : Value} (h : Fill lo ob ub rb fb k m v1 v2 v3 v4 v5 w00 w0 V0 V S cur R wr) (hR : Closed R) (hk : k < 8) (ha : Ap lo (oT k) 1 wr (V k) w1 v' ((S k).length + 1) ((S k).map rowV ++ [rowV (fb, m)])) (hr : RowOk (PO lo ob V) wr k false (fb, m)) (h0 : w0.heap.size ≤ fb) :
    UO lo ob ub rb (upd V k v') (updS S k (fb, m)) v1 v2 v3 v4 v5 w00 (w1.setCell ⟨ob, k, none⟩ v') ∧ R (PO lo ob (upd V k v')) (w1.setCell ⟨ob, k, none⟩ v') ∧ Fr lo ob V0 (upd V k v') w0 (w1.setCell ⟨ob, k, none⟩ v') ∧ Stay (PO lo ob V) (PO lo ob (upd V k v')) wr (w1.setCell ⟨ob, k, none⟩ v') := by
  obtain ⟨k1, k2⟩ := h.uo.own.push hk ha hr h.uo.size
  exact ⟨h.uo.fr k1 k2, hR _ _ _ _ k2.stay (hR _ _ _ _ px_po h.rest), (h.fx.fr k2).close h0, k2.stay⟩
end
end Go.Proofs.YtkgncijcnlfhiaaDoor

