import Derived.Test.YtkgncijcnlfhiaaDoorBk3
import Derived.Test.YtkgncijcnlfhiaaDoorRg6
namespace Go.Proofs.YtkgncijcnlfhiaaDoor
set_option linter.unusedVariables false
set_option linter.unusedSimpArgs false
open Go.RowKit
theorem BookS.rowcell {db : Nat} {w : World} {vo : Value} {n : Int} {V : Nat → Value} {X : Nat → List Value} {ρ : Nat → BR} (h : BookS db w vo n V X ρ) (i : Nat) (h2 : 2 ≤ i) (h10 : i ≤ 10) : ∃ a c, w.cell? ⟨db, i, none⟩ = some (.slice a (X i).length c) ∧ (X i).length ≤ maxLen ∧ ∀ k y, (X i)[k]? = some y → ∃ g, a = some ⟨g, 0, none⟩ ∧ w.cell? ⟨g, k, none⟩ = some y := by
  have hr := (h.row i h2 h10).1
  obtain ⟨⟨a, c, hv⟩, hm⟩ := own_form hr
  refine ⟨a, c, ?_, hm, fun k y hk => ?_⟩
  · rw [heap_cell h.box, ← hv]
    have hc : i = 2 ∨ i = 3 ∨ i = 4 ∨ i = 5 ∨ i = 6 ∨ i = 7 ∨ i = 8 ∨ i = 9 ∨ i = 10 := by omega
    rcases hc with rfl | rfl | rfl | rfl | rfl | rfl | rfl | rfl | rfl <;> rfl
  · have hkl : k < (X i).length * 1 := by have := (List.getElem?_eq_some_iff.1 hk).1; omega
    obtain ⟨g, _, _, ⟨c', e3⟩, e4⟩ := own_at hr hkl
    rw [hv] at e3
    simp only [Value.slice.injEq] at e3
    exact ⟨g, e3.1, by rw [Nat.zero_add] at e4; rw [e4]; exact hk⟩
/-- two rows of the book, side by side -/
theorem book_two {α : Type} {db : Nat} {w : World} {vo : Value} {n : Int} {V : Nat → Value} {X : Nat → List Value} {ρ : Nat → BR} (h : BookS db w vo n V X ρ) (i j : Nat) (hi : 2 ≤ i ∧ i ≤ 10) (hj : 2 ≤ j ∧ j ≤ 10) (I : List α) (f g : α → Value) (e1 : X i = I.map f) (e2 : X j = I.map g) :
    I.length ≤ maxLen ∧ ∃ a c a' c', w.cell? ⟨db, i, none⟩ = some (.slice a I.length c) ∧ w.cell? ⟨db, j, none⟩ = some (.slice a' I.length c') ∧ ∀ k e, I[k]? = some e → ∃ b b', a = some ⟨b, 0, none⟩ ∧ a' = some ⟨b', 0, none⟩ ∧ w.cell? ⟨b, k, none⟩ = some (f e) ∧ w.cell? ⟨b', k, none⟩ = some (g e) := by
  obtain ⟨a, c, h1, h2, h3⟩ := h.rowcell i hi.1 hi.2
  obtain ⟨a', c', h1', h2', h3'⟩ := h.rowcell j hj.1 hj.2
  have l1 : (X i).length = I.length := by rw [e1, List.length_map]
  have l2 : (X j).length = I.length := by rw [e2, List.length_map]
  rw [l1] at h1 h2
  rw [l2] at h1'
  refine ⟨h2, a, c, a', c', h1, h1', fun k e he => ?_⟩
  obtain ⟨b, p1, p2⟩ := h3 k (f e) (by rw [e1, List.getElem?_map, he]; rfl)
  obtain ⟨b', p1', p2'⟩ := h3' k (g e) (by rw [e2, List.getElem?_map, he]; rfl)
  exact ⟨b, b', p1, p1', p2, p2'⟩
/-- the marks of the entries; what an entry reads: el -/
structure Sec6 (db i j : Nat) (w : World) (N : Nat) (L : Nat → Nat) (M : Nat → Int) (El : Value → Nat → Int → Nat → Prop) (a a' : Option Addr) (c c' : Nat) : Prop where
  nl : N ≤ maxLen
  ci : w.cell? ⟨db, i, none⟩ = some (.slice a N c)
  cj : w.cell? ⟨db, j, none⟩ = some (.slice a' N c')
  en : ∀ k, k < N → ∃ b b' ae ce, a = some ⟨b, 0, none⟩ ∧ a' = some ⟨b', 0, none⟩ ∧ w.cell? ⟨b, k, none⟩ = some (.slice ae (L k) ce) ∧ w.cell? ⟨b', k, none⟩ = some (.int .i64 (M k)) ∧ L k ≤ maxLen ∧ ∀ q, q < L k → ∃ eb eo, ae = some ⟨eb, eo, none⟩ ∧ El (.int .i64 eb) eo (M k) q
section
variable {db : Nat} {w : World} {vo : Value} {n : Int} {V : Nat → Value} {X : Nat → List Value} {ρ : Nat → BR}
theorem sec_i (hS : BookS db w vo n V X ρ) (hE : BookE w ρ X) : ∃ N L M a a' c c', Sec6 db 2 3 w N L M (fun b o m q => ∃ eb : Nat, b = .int .i64 eb ∧ w.cell? ⟨eb, o + q, none⟩ = some (.int .i64 m)) a a' c c' := by
  obtain ⟨I, i1, i2, i3⟩ := hE.i
  obtain ⟨hl, a, c, a', c', h1, h2, h3⟩ := book_two hS 2 3 (by decide) (by decide) I _ _ i1 i2
  refine ⟨I.length, fun k => (I[k]?.getD (.slice none 0 0, 0, 0)).2.1, fun k => (I[k]?.getD (.slice none 0 0, 0, 0)).2.2, a, a', c, c', hl, h1, h2, fun k hk => ?_⟩
  have he : I[k]? = some I[k] := List.getElem?_eq_getElem hk
  obtain ⟨b, b', p1, p2, p3, p4⟩ := h3 k _ he
  obtain ⟨ae, ce, q1, q2, q3⟩ := i3 _ (List.getElem_mem hk)
  simp only [List.length_replicate] at q1 q2
  simp only [he, Option.getD_some]
  refine ⟨b, b', ae, ce, p1, p2, p3.trans (congrArg some q1), p4, q2, fun q hq => ?_⟩
  obtain ⟨eb, eo, r1, _, r2⟩ := q3 q _ (by rw [List.getElem?_replicate, if_pos hq])
  exact ⟨eb, eo, r1, eb, rfl, r2⟩
theorem sec_c (hS : BookS db w vo n V X ρ) (hE : BookE w ρ X) : ∃ N L M a a' c c', Sec6 db 4 5 w N L M (fun b o m q => ∃ eb : Nat, b = .int .i64 eb ∧ w.cell? ⟨eb, o + q * 3, none⟩ = some (.int .i64 0) ∧ w.cell? ⟨eb, o + q * 3 + 1, none⟩ = some (.int .i64 m) ∧ w.cell? ⟨eb, o + q * 3 + 2, none⟩ = some (.int .i64 0)) a a' c c' := by
  obtain ⟨I, i1, i2, i3⟩ := hE.c
  obtain ⟨hl, a, c, a', c', h1, h2, h3⟩ := book_two hS 4 5 (by decide) (by decide) I _ _ i1 i2
  refine ⟨I.length, fun k => (I[k]?.getD (.slice none 0 0, 0, 0)).2.1, fun k => (I[k]?.getD (.slice none 0 0, 0, 0)).2.2, a, a', c, c', hl, h1, h2, fun k hk => ?_⟩
  have he : I[k]? = some I[k] := List.getElem?_eq_getElem hk
  obtain ⟨b, b', p1, p2, p3, p4⟩ := h3 k _ he
  obtain ⟨ae, ce, q1, q2, q3⟩ := i3 _ (List.getElem_mem hk)
  simp only [List.length_replicate] at q1 q2
  simp only [he, Option.getD_some]
  refine ⟨b, b', ae, ce, p1, p2, p3.trans (congrArg some q1), p4, q2, fun q hq => ?_⟩
  obtain ⟨eb, eo, r1, _, r2, r3, r4⟩ := q3 q _ (by rw [List.getElem?_replicate, if_pos hq])
  exact ⟨eb, eo, r1, eb, rfl, r2, r3, r4⟩
theorem sec_l (hS : BookS db w vo n V X ρ) (hE : BookE w ρ X) : ∃ N L M a a' c c', Sec6 db 7 10 w N L M (fun b o m q => ∃ (eb fb fo fc : Nat), b = .int .i64 eb ∧ w.cell? ⟨eb, o + q, none⟩ = some (.slice (some ⟨fb, fo, none⟩) 1 fc) ∧ w.cell? ⟨fb, fo, none⟩ = some (.int .i64 m)) a a' c c' := by
  obtain ⟨I, o1, o2, o3, o4, o5, o6⟩ := hE.o
  obtain ⟨hl, a, c, a', c', h1, h2, h3⟩ := book_two hS 7 10 (by decide) (by decide) I _ _ o2 o5
  refine ⟨I.length, fun k => (I[k]?.getD ((.slice none 0 0, .slice none 0 0, .slice none 0 0, .slice none 0 0), (0, 0, 0, 0), 0)).2.1.2.1, fun k => (I[k]?.getD ((.slice none 0 0, .slice none 0 0, .slice none 0 0, .slice none 0 0), (0, 0, 0, 0), 0)).2.2, a, a', c, c', hl, h1, h2, fun k hk => ?_⟩
  have he : I[k]? = some I[k] := List.getElem?_eq_getElem hk
  obtain ⟨b, b', p1, p2, p3, p4⟩ := h3 k _ he
  obtain ⟨ae, ce, q1, q2, q3⟩ := (o6 _ (List.getElem_mem hk)).2.1
  simp only [List.length_replicate] at q1 q2
  simp only [he, Option.getD_some]
  refine ⟨b, b', ae, ce, p1, p2, p3.trans (congrArg some q1), p4, q2, fun q hq => ?_⟩
  obtain ⟨eb, eo, vx, r1, _, r2, ⟨ax, cx, rfl, _, r3⟩⟩ := q3 q _ (by rw [List.getElem?_replicate, if_pos hq])
  obtain ⟨fb, fo, rfl, _, r4⟩ := r3 0 _ rfl
  exact ⟨eb, eo, r1, eb, fb, fo, cx, rfl, r2, r4⟩
theorem sec_f (hS : BookS db w vo n V X ρ) (hE : BookE w ρ X) : ∃ N L M a a' c c', Sec6 db 6 10 w N L M (fun b o m q => ∃ (eb : Nat) (pa la ca : Option Addr) (pc lc cc : Nat), b = .int .i64 eb ∧ w.cell? ⟨eb, o + q * 4, none⟩ = some (.slice pa 0 pc) ∧ w.cell? ⟨eb, o + q * 4 + 1, none⟩ = some (.int .i64 m) ∧ w.cell? ⟨eb, o + q * 4 + 2, none⟩ = some (.slice la 0 lc) ∧ w.cell? ⟨eb, o + q * 4 + 3, none⟩ = some (.slice ca 0 cc)) a a' c c' := by
  obtain ⟨I, o1, o2, o3, o4, o5, o6⟩ := hE.o
  obtain ⟨hl, a, c, a', c', h1, h2, h3⟩ := book_two hS 6 10 (by decide) (by decide) I _ _ o1 o5
  refine ⟨I.length, fun k => (I[k]?.getD ((.slice none 0 0, .slice none 0 0, .slice none 0 0, .slice none 0 0), (0, 0, 0, 0), 0)).2.1.1, fun k => (I[k]?.getD ((.slice none 0 0, .slice none 0 0, .slice none 0 0, .slice none 0 0), (0, 0, 0, 0), 0)).2.2, a, a', c, c', hl, h1, h2, fun k hk => ?_⟩
  have he : I[k]? = some I[k] := List.getElem?_eq_getElem hk
  obtain ⟨b, b', p1, p2, p3, p4⟩ := h3 k _ he
  obtain ⟨ae, ce, q1, q2, q3⟩ := (o6 _ (List.getElem_mem hk)).1
  simp only [List.length_replicate] at q1 q2
  simp only [he, Option.getD_some]
  refine ⟨b, b', ae, ce, p1, p2, p3.trans (congrArg some q1), p4, q2, fun q hq => ?_⟩
  obtain ⟨eb, eo, vp, vl, vc, r1, _, r2, r3, r4, r5, ⟨pa, pc, rfl, _⟩, ⟨la, lc, rfl, _⟩, ⟨ca, cc, rfl, _⟩⟩ := q3 q _ (by rw [List.getElem?_replicate, if_pos hq])
  exact ⟨eb, eo, r1, eb, pa, la, ca, pc, lc, cc, rfl, r2, r3, r4, r5⟩
theorem sec_p (hS : BookS db w vo n V X ρ) (hE : BookE w ρ X) : ∃ N L M a a' c c', Sec6 db 9 10 w N L M (fun b o m q => ∃ (eb : Nat) (pa : Option Addr) (pc : Nat), b = .int .i64 eb ∧ w.cell? ⟨eb, o + q * 3 + 1, none⟩ = some (.slice pa 0 pc) ∧ w.cell? ⟨eb, o + q * 3 + 2, none⟩ = some (.int .i64 m)) a a' c c' := by
  obtain ⟨I, o1, o2, o3, o4, o5, o6⟩ := hE.o
  obtain ⟨hl, a, c, a', c', h1, h2, h3⟩ := book_two hS 9 10 (by decide) (by decide) I _ _ o4 o5
  refine ⟨I.length, fun k => (I[k]?.getD ((.slice none 0 0, .slice none 0 0, .slice none 0 0, .slice none 0 0), (0, 0, 0, 0), 0)).2.1.2.2.2, fun k => (I[k]?.getD ((.slice none 0 0, .slice none 0 0, .slice none 0 0, .slice none 0 0), (0, 0, 0, 0), 0)).2.2, a, a', c, c', hl, h1, h2, fun k hk => ?_⟩
  have he : I[k]? = some I[k] := List.getElem?_eq_getElem hk
  obtain ⟨b, b', p1, p2, p3, p4⟩ := h3 k _ he
  obtain ⟨ae, ce, q1, q2, q3⟩ := (o6 _ (List.getElem_mem hk)).2.2.2
  simp only [List.length_replicate] at q1 q2
  simp only [he, Option.getD_some]
  refine ⟨b, b', ae, ce, p1, p2, p3.trans (congrArg some q1), p4, q2, fun q hq => ?_⟩
  obtain ⟨eb, eo, vs, vp, r1, _, r2, r3, r4, _, ⟨pa, pc, rfl, _⟩⟩ := q3 q _ (by rw [List.getElem?_replicate, if_pos hq])
  exact ⟨eb, eo, r1, eb, pa, pc, rfl, r3, r4⟩
theorem sec_x (hS : BookS db w vo n V X ρ) (hE : BookE w ρ X) : ∃ N L M a a' c c', Sec6 db 8 10 w N L M (fun b o m q => ∃ (eb : Nat), b = .int .i64 eb ∧ w.cell? ⟨eb, o + q * 2, none⟩ = some (.string ⟨#[]⟩) ∧ w.cell? ⟨eb, o + q * 2 + 1, none⟩ = some (.int .i64 m)) a a' c c' := by
  obtain ⟨I, o1, o2, o3, o4, o5, o6⟩ := hE.o
  obtain ⟨hl, a, c, a', c', h1, h2, h3⟩ := book_two hS 8 10 (by decide) (by decide) I _ _ o3 o5
  refine ⟨I.length, fun k => (I[k]?.getD ((.slice none 0 0, .slice none 0 0, .slice none 0 0, .slice none 0 0), (0, 0, 0, 0), 0)).2.1.2.2.1, fun k => (I[k]?.getD ((.slice none 0 0, .slice none 0 0, .slice none 0 0, .slice none 0 0), (0, 0, 0, 0), 0)).2.2, a, a', c, c', hl, h1, h2, fun k hk => ?_⟩
  have he : I[k]? = some I[k] := List.getElem?_eq_getElem hk
  obtain ⟨b, b', p1, p2, p3, p4⟩ := h3 k _ he
  obtain ⟨ae, ce, q1, q2, q3⟩ := (o6 _ (List.getElem_mem hk)).2.2.1
  simp only [List.length_replicate] at q1 q2
  simp only [he, Option.getD_some]
  refine ⟨b, b', ae, ce, p1, p2, p3.trans (congrArg some q1), p4, q2, fun q hq => ?_⟩
  obtain ⟨eb, eo, vs, r1, _, r2, r3, ⟨s, rfl, hs, _⟩⟩ := q3 q _ (by rw [List.getElem?_replicate, if_pos hq])
  have hse : s = ⟨#[]⟩ := by
    obtain ⟨d⟩ := s
    have h0 : d = #[] := by simpa using hs
    rw [h0]
  subst hse
  exact ⟨eb, eo, r1, eb, rfl, r2, r3⟩
end
end Go.Proofs.YtkgncijcnlfhiaaDoor

