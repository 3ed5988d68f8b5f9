import Derived.Test.YtkgncijcnlfhiaaDoorQ7
namespace Go.Proofs.YtkgncijcnlfhiaaDoor
set_option linter.unusedVariables false
set_option linter.unusedSimpArgs false
open Go.RowKit
theorem own_blk {w : World} {g : Nat} {T : TypeId} {len sz base : Nat} (h : Blk w g T (len * sz)) (hm : len ≤ maxLen) (hb : base ≤ g) : ∃ xs, w.ownsRow base T sz (.slice (some ⟨g, 0, none⟩) len len) len xs ∧ ∀ j, xs[j]? = w.cell? ⟨g, j, none⟩ := by
  obtain ⟨cur, h1, h2⟩ := h
  refine ⟨cur.toList, ⟨by rw [Array.length_toList, h2], .inr ⟨g, len, cur, rfl, hb, h1, Nat.le_refl _, hm, h2, ?_⟩⟩, fun j => ?_⟩
  · rw [List.take_of_length_le (by rw [Array.length_toList, h2]; exact Nat.le_refl _)]
  · rw [heap_cell h1, Array.getElem?_toList]
theorem flat_eq {α : Type} {f : α → List Value} {n : Nat} (hf : ∀ x, (f x).length = n) (hn : 0 < n) {es : List α} {xs : List Value} (hl : xs.length = es.length * n) (h : ∀ i e c, es[i]? = some e → c < n → xs[i * n + c]? = (f e)[c]?) : xs = es.flatMap f := by
  apply List.ext_getElem?
  intro j
  by_cases hj : j < es.length * n
  · have h1 : j / n < es.length := (Nat.div_lt_iff_lt_mul hn).2 hj
    have h2 : j % n < n := Nat.mod_lt _ hn
    have e : j = j / n * n + j % n := by rw [Nat.mul_comm]; exact (Nat.div_add_mod j n).symm
    have he : es[j / n]? = some es[j / n] := List.getElem?_eq_getElem h1
    rw [e, h _ _ _ he h2, flat_at hf he h2]
  · rw [List.getElem?_eq_none (by omega), List.getElem?_eq_none (by rw [flat_size hf]; omega)]
/-- a row of lists: where each lies -/
structure RowAt (w : World) (a b g : Nat) (T : TypeId) (len sz : Nat) (v : Value) : Prop where
  v : v = .slice (some ⟨g, 0, none⟩) len len
  lo : a ≤ g
  hi : g < b
  blk : Blk w g T (len * sz)
  len : len ≤ maxLen
/-- which block a cell reaches -/
def rch (w : World) (g o : Nat) : Option Nat := (w.cell? ⟨g, o, none⟩).bind Value.ownBlock
structure InAt (w : World) (g b o : Nat) (T : TypeId) (len sz : Nat) : Prop where
  at' : ∃ gx, w.cell? ⟨g, o, none⟩ = some (.slice (some ⟨gx, 0, none⟩) len len) ∧ g < gx ∧ gx < b ∧ Blk w gx T (len * sz) ∧ len ≤ maxLen
theorem ints_in {W w : World} {g o : Nat} {vx : Value} {x : List Int} (hc : w.cell? ⟨g, o, none⟩ = some vx) (h : RIntsG (g + 1) W vx x) (hk : Kp (g + 1) W w) : InAt w g W.heap.size o 3 x.length 1 := by
  obtain ⟨gx, rfl, h2, h3, h4⟩ := h
  obtain ⟨_, _, _, hm, _⟩ := h4
  exact ⟨gx, hc, h2, h3.lt, h3.kp hk h2, hm⟩
theorem code_in {W w : World} {g o : Nat} {vx : Value} {x : List PIns} (hc : w.cell? ⟨g, o, none⟩ = some vx) (h : RCodeG (g + 1) W vx x) (hk : Kp (g + 1) W w) : InAt w g W.heap.size o 91 x.length 3 := by
  obtain ⟨gx, rfl, h2, h3, h4⟩ := h
  obtain ⟨_, _, _, hm, _⟩ := h4
  exact ⟨gx, hc, h2, h3.lt, h3.kp hk h2, hm⟩
/-- no two cells of a row reach one block -/
def Dis (w : World) (g N : Nat) : Prop := ∀ p q b, p < N → q < N → rch w g p = some b → rch w g q = some b → p = q
theorem DL.dis {W w : World} {g N S a : Nat} (h : DL W g N S) (hk : Kp a W w) (ha : a ≤ g) (hg : g < W.heap.size) : Dis w g N := by
  intro p q b hp hq h1 h2
  by_cases e : p = q
  · exact e
  · have hc : ∀ o, w.cell? ⟨g, o, none⟩ = W.cell? ⟨g, o, none⟩ := fun o => World.cell?_of_block (hk g ha hg)
    unfold rch at h1 h2
    rw [hc] at h1 h2
    obtain ⟨x, x1, x2⟩ := Option.bind_eq_some_iff.1 h1
    obtain ⟨y, y1, y2⟩ := Option.bind_eq_some_iff.1 h2
    exact absurd y2 (h.1 p q x y b hp hq e x1 y1 x2)
theorem at_shapes {a b : Nat} {w : World} {v : Value} {l : List (List Int)} (h : Iv RShapesG a b w v l) : ∃ g, RowAt w a b g 23 l.length 1 v ∧ Dis w g (l.length * 1) ∧ ∀ i x, l[i]? = some x → InAt w g b i 3 x.length 1 := by
  obtain ⟨W, rfl, ⟨g, h1, h2, h3, h4, ⟨S, h5⟩, h6⟩, hk⟩ := h
  refine ⟨g, ⟨h1, h2, h3.lt, h3.kp hk h2, h4⟩, h5.dis hk h2 h3.lt, fun i x hi => ?_⟩
  obtain ⟨vx, c0, s0⟩ := h6 i x hi
  exact ints_in (hk.cell h2 c0) s0 (hk.mono (by omega))
theorem at_ints {a b : Nat} {w : World} {v : Value} {l : List Int} (h : Iv RIntsG a b w v l) : ∃ g, RowAt w a b g 3 l.length 1 v := by
  obtain ⟨W, rfl, ⟨g, h1, h2, h3, h4⟩, hk⟩ := h
  obtain ⟨_, _, _, hm, _⟩ := h4
  exact ⟨g, h1, h2, h3.lt, h3.kp hk h2, hm⟩
theorem at_exps {a b : Nat} {w : World} {v : Value} {l : List PExp} (h : Iv RExportsG a b w v l) : ∃ g, RowAt w a b g 81 l.length 2 v := by
  obtain ⟨W, rfl, ⟨g, h1, h2, h3, h4⟩, hk⟩ := h
  obtain ⟨_, _, _, hm, _⟩ := h4
  exact ⟨g, h1, h2, h3.lt, h3.kp hk h2, hm⟩
theorem at_funcs {a b : Nat} {w : World} {v : Value} {l : List PFunc} (h : Iv RFuncsG a b w v l) : ∃ g, RowAt w a b g 76 l.length 4 v ∧ Dis w g (l.length * 4) ∧ ∀ i x, l[i]? = some x → InAt w g b (i * 4) 3 x.params.length 1 ∧ w.cell? ⟨g, i * 4 + 1, none⟩ = some (.int .i64 x.result) ∧ InAt w g b (i * 4 + 2) 3 x.locals.length 1 ∧ InAt w g b (i * 4 + 3) 91 x.code.length 3 := by
  obtain ⟨W, rfl, ⟨g, h1, h2, h3, h4, ⟨S, h5⟩, h6⟩, hk⟩ := h
  refine ⟨g, ⟨h1, h2, h3.lt, h3.kp hk h2, h4⟩, h5.dis hk h2 h3.lt, fun i x hi => ?_⟩
  obtain ⟨vp, vl, vc, c0, c1, c2, c3, s0, s1, s2⟩ := h6 i x hi
  exact ⟨ints_in (hk.cell h2 c0) s0 (hk.mono (by omega)), hk.cell h2 c1, ints_in (hk.cell h2 c2) s1 (hk.mono (by omega)), code_in (hk.cell h2 c3) s2 (hk.mono (by omega))⟩
theorem at_imps {a b : Nat} {w : World} {v : Value} {l : List PImp} (h : Iv RImportsG a b w v l) : ∃ g, RowAt w a b g 79 l.length 3 v ∧ Dis w g (l.length * 3) ∧ ∀ i x, l[i]? = some x → (∃ s, w.cell? ⟨g, i * 3, none⟩ = some (.string s)) ∧ InAt w g b (i * 3 + 1) 3 x.params.length 1 ∧ w.cell? ⟨g, i * 3 + 2, none⟩ = some (.int .i64 x.result) := by
  obtain ⟨W, rfl, ⟨g, h1, h2, h3, h4, ⟨S, h5⟩, h6⟩, hk⟩ := h
  refine ⟨g, ⟨h1, h2, h3.lt, h3.kp hk h2, h4⟩, h5.dis hk h2 h3.lt, fun i x hi => ?_⟩
  obtain ⟨vs, vp, c0, c1, c2, ⟨s, hs, _⟩, s1⟩ := h6 i x hi
  subst hs
  exact ⟨⟨s, hk.cell h2 c0⟩, ints_in (hk.cell h2 c1) s1 (hk.mono (by omega)), hk.cell h2 c2⟩
end Go.Proofs.YtkgncijcnlfhiaaDoor

namespace Go.Proofs.YtkgncijcnlfhiaaDoor
set_option linter.unusedVariables false
set_option linter.unusedSimpArgs false
open Go.RowKit
def rg {α : Type} (n : Nat) (f : Nat → α) : List α := (List.range n).map f
theorem rg_len {α : Type} (n : Nat) (f : Nat → α) : (rg n f).length = n := by simp [rg]
theorem rg_at {α : Type} {n : Nat} {f : Nat → α} {j : Nat} {e : α} (h : (rg n f)[j]? = some e) : j < n ∧ e = f j := by
  have hj : j < n := by have := (List.getElem?_eq_some_iff.1 h).1; rw [rg_len] at this; exact this
  simp only [rg, List.getElem?_map, List.getElem?_range hj, Option.map_some, Option.some.injEq] at h
  exact ⟨hj, h.symm⟩
theorem rg_get {α : Type} {n : Nat} (f : Nat → α) {j : Nat} (hj : j < n) : (rg n f)[j]? = some (f j) := by
  simp only [rg, List.getElem?_map, List.getElem?_range hj, Option.map_some]
open Classical in
noncomputable def uRole (w : World) (b1 g1 n1 b2 g2 b3 g3 n3 b4 g4 n4 g5 : Nat) (k : Nat) : BR :=
  if k < b1 then (if k = g1 then .ls 0 0 else if h : ∃ p, p < n1 * 1 ∧ rch w g1 p = some k then .ls 5 h.choose else .no)
  else if k < b2 then (if k = g2 then .ls 1 0 else .no)
  else if k < b3 then (if k = g3 then .ls 2 0 else if h : ∃ p, p < n3 * 4 ∧ rch w g3 p = some k then .ls (if h.choose % 4 = 0 then 6 else if h.choose % 4 = 2 then 7 else 8) (h.choose / 4) else .no)
  else if k < b4 then (if k = g4 then .ls 3 0 else if h : ∃ p, p < n4 * 3 ∧ rch w g4 p = some k then .ls 9 (h.choose / 3) else .no)
  else if k = g5 then .ls 4 0 else .no
section
variable {w : World} {b1 g1 n1 b2 g2 b3 g3 n3 b4 g4 n4 g5 : Nat}
theorem role_5 {k i : Nat} (hk : k < b1) (hg : k ≠ g1) (hi : i < n1 * 1) (hr : rch w g1 i = some k) (hd : Dis w g1 (n1 * 1)) : uRole w b1 g1 n1 b2 g2 b3 g3 n3 b4 g4 n4 g5 k = .ls 5 i := by
  have hex : ∃ p, p < n1 * 1 ∧ rch w g1 p = some k := ⟨i, hi, hr⟩
  unfold uRole
  rw [if_pos hk, if_neg hg, dif_pos hex, hd _ _ k hex.choose_spec.1 hi hex.choose_spec.2 hr]
theorem role_f {k p : Nat} (h1 : ¬ k < b1) (h2 : ¬ k < b2) (hk : k < b3) (hg : k ≠ g3) (hi : p < n3 * 4) (hr : rch w g3 p = some k) (hd : Dis w g3 (n3 * 4)) : uRole w b1 g1 n1 b2 g2 b3 g3 n3 b4 g4 n4 g5 k = .ls (if p % 4 = 0 then 6 else if p % 4 = 2 then 7 else 8) (p / 4) := by
  have hex : ∃ p, p < n3 * 4 ∧ rch w g3 p = some k := ⟨p, hi, hr⟩
  unfold uRole
  rw [if_neg h1, if_neg h2, if_pos hk, if_neg hg, dif_pos hex, hd _ _ k hex.choose_spec.1 hi hex.choose_spec.2 hr]
theorem role_9 {k p : Nat} (h1 : ¬ k < b1) (h2 : ¬ k < b2) (h3 : ¬ k < b3) (hk : k < b4) (hg : k ≠ g4) (hi : p < n4 * 3) (hr : rch w g4 p = some k) (hd : Dis w g4 (n4 * 3)) : uRole w b1 g1 n1 b2 g2 b3 g3 n3 b4 g4 n4 g5 k = .ls 9 (p / 3) := by
  have hex : ∃ p, p < n4 * 3 ∧ rch w g4 p = some k := ⟨p, hi, hr⟩
  unfold uRole
  rw [if_neg h1, if_neg h2, if_neg h3, if_pos hk, if_neg hg, dif_pos hex, hd _ _ k hex.choose_spec.1 hi hex.choose_spec.2 hr]
theorem role_some {k : Nat} (h : uRole w b1 g1 n1 b2 g2 b3 g3 n3 b4 g4 n4 g5 k ≠ .no) : k = g1 ∨ (∃ p, p < n1 * 1 ∧ rch w g1 p = some k) ∨ k = g2 ∨ k = g3 ∨ (∃ p, p < n3 * 4 ∧ rch w g3 p = some k) ∨ k = g4 ∨ (∃ p, p < n4 * 3 ∧ rch w g4 p = some k) ∨ k = g5 := by
  unfold uRole at h
  by_cases a1 : k < b1
  · rw [if_pos a1] at h
    by_cases c1 : k = g1
    · exact .inl c1
    · rw [if_neg c1] at h
      by_cases d1 : ∃ p, p < n1 * 1 ∧ rch w g1 p = some k
      · exact .inr (.inl d1)
      · rw [dif_neg d1] at h; exact absurd rfl h
  · rw [if_neg a1] at h
    by_cases a2 : k < b2
    · rw [if_pos a2] at h
      by_cases c1 : k = g2
      · exact .inr (.inr (.inl c1))
      · rw [if_neg c1] at h; exact absurd rfl h
    · rw [if_neg a2] at h
      by_cases a3 : k < b3
      · rw [if_pos a3] at h
        by_cases c1 : k = g3
        · exact .inr (.inr (.inr (.inl c1)))
        · rw [if_neg c1] at h
          by_cases d1 : ∃ p, p < n3 * 4 ∧ rch w g3 p = some k
          · exact .inr (.inr (.inr (.inr (.inl d1))))
          · rw [dif_neg d1] at h; exact absurd rfl h
      · rw [if_neg a3] at h
        by_cases a4 : k < b4
        · rw [if_pos a4] at h
          by_cases c1 : k = g4
          · exact .inr (.inr (.inr (.inr (.inr (.inl c1)))))
          · rw [if_neg c1] at h
            by_cases d1 : ∃ p, p < n4 * 3 ∧ rch w g4 p = some k
            · exact .inr (.inr (.inr (.inr (.inr (.inr (.inl d1))))))
            · rw [dif_neg d1] at h; exact absurd rfl h
        · rw [if_neg a4] at h
          by_cases c1 : k = g5
          · exact .inr (.inr (.inr (.inr (.inr (.inr (.inr c1))))))
          · rw [if_neg c1] at h; exact absurd rfl h
end
theorem InAt.rch {w : World} {g b o : Nat} {T : TypeId} {len sz : Nat} (h : InAt w g b o T len sz) : ∃ gx, rch w g o = some gx ∧ w.cell? ⟨g, o, none⟩ = some (.slice (some ⟨gx, 0, none⟩) len len) ∧ g < gx ∧ gx < b ∧ Blk w gx T (len * sz) ∧ len ≤ maxLen := by
  obtain ⟨gx, h1, h2⟩ := h.at'
  exact ⟨gx, by unfold Proofs.YtkgncijcnlfhiaaDoor.rch; rw [h1]; rfl, h1, h2⟩
theorem rch_int {w : World} {g o : Nat} {x : Int} (h : w.cell? ⟨g, o, none⟩ = some (.int .i64 x)) : rch w g o = none := by unfold rch; rw [h]; rfl
theorem rch_str {w : World} {g o : Nat} {x : ByteArray} (h : w.cell? ⟨g, o, none⟩ = some (.string x)) : rch w g o = none := by unfold rch; rw [h]; rfl
theorem lens_ok {u : PUnit} (h : unitOk u = true) : u.shapes.length ≤ 20 ∧ (∀ x ∈ u.shapes, x.length ≤ 8) ∧ u.consts.length ≤ 50 ∧ u.funcs.length ≤ 30 ∧ (∀ f ∈ u.funcs, f.params.length ≤ 6 ∧ f.locals.length ≤ 10 ∧ f.code.length ≤ 200) ∧ u.imports.length ≤ 20 ∧ (∀ i ∈ u.imports, i.params.length ≤ 6) ∧ u.exports.length ≤ 20 := by
  obtain ⟨h1, h2, h3, h4, h5⟩ := unit_parts h
  simp only [shapesOk, constsOk, funcsOk, importsOk, exportsOk, wB, Bool.and_eq_true, decide_eq_true_eq, List.all_eq_true] at h1 h2 h3 h4 h5
  refine ⟨by omega, fun x hx => ?_, by omega, by omega, fun f hf => ?_, by omega, fun i hi => ?_, by omega⟩
  · have := h1.2 x hx
    simp only [shapeOk, wB, Bool.and_eq_true, decide_eq_true_eq] at this
    omega
  · have := h3.2 f hf
    simp only [funcOk, sigOk, codeOk, wB, Bool.and_eq_true, decide_eq_true_eq] at this
    omega
  · have := h4.2 i hi
    simp only [impOk, sigOk, wB, Bool.and_eq_true, decide_eq_true_eq] at this
    omega
end Go.Proofs.YtkgncijcnlfhiaaDoor

