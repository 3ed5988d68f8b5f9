import Derived.Test.YtkgncijcnlfhiaaDoorNc
import Derived.Test.YtkgncijcnlfhiaaDoorNq
import Derived.Test.YtkgncijcnlfhiaaDoorBk3
import Derived.Test.YtkgncijcnlfhiaaDoorH5
import Derived.Test.YtkgncijcnlfhiaaDoorK4
namespace Go.Proofs.YtkgncijcnlfhiaaDoor
set_option linter.unusedVariables false
set_option linter.unusedSimpArgs false
open Go.RowKit
def bRl : Rl → BR
  | .bx => .no
  | .sh => .ls 0 0
  | .co => .ls 1 0
  | .fu => .ls 2 0
  | .ex => .ls 4 0
  | .sI i => .ls 5 i
  | .fp i => .ls 6 i
  | .fl i => .ls 7 i
  | .fc i => .ls 8 i
def lRole (B N : Nat) (ρ : Nat → Rl) (k : Nat) : BR := if B ≤ k ∧ k < N then bRl (ρ k) else .no
def uOf (e : LF) : UF := ⟨e.vp, e.f.result, e.vl, e.vc, e.f.params.length, e.f.locals.length, e.f.code.length⟩
theorem joinF_funcs (N : List UInt8 → Int) : ∀ (l : List PUnit) (c f : Nat), ∀ g ∈ (joinF N c f l).2.1, ∃ u ∈ l, ∃ x ∈ u.funcs, g.params = x.params ∧ g.locals = x.locals ∧ g.code.length = x.code.length
  | [], c, f, g, h => by simp [joinF] at h
  | u :: l, c, f, g, h => by
    simp only [joinF, List.mem_append, List.mem_map] at h
    rcases h with ⟨x, hx, rfl⟩ | h
    · exact ⟨u, List.mem_cons_self, x, hx, rfl, rfl, by simp [movedF]⟩
    · obtain ⟨u', hu, x, hx, e1⟩ := joinF_funcs N l _ _ g h
      exact ⟨u', List.mem_cons_of_mem _ hu, x, hx, e1⟩
structure Lens (u : PUnit) : Prop where
  shapes : u.shapes.length ≤ 20
  shape : ∀ s ∈ u.shapes, s.length ≤ 8
  consts : u.consts.length ≤ 50
  funcs : u.funcs.length ≤ 30
  func : ∀ f ∈ u.funcs, f.params.length ≤ 6 ∧ f.locals.length ≤ 10 ∧ f.code.length ≤ 200
  exports : u.exports.length ≤ 20
theorem link_lens {l : List PUnit} {u : PUnit} (h : linkP l = .inl u) : Lens u := by
  cases l with
  | nil => simp [linkP] at h
  | cons a t =>
    unfold linkP at h
    simp only at h
    split at h
    · cases h
    · split at h
      · cases h
      · rename_i hok
        have hok := (firstU_none _ _).1 hok
        split at h
        · cases h
        · split at h
          · cases h
          · split at h
            · cases h
            · split at h
              · cases h
              · split at h
                · cases h
                · rename_i hbig
                  simp only [Sum.inl.injEq] at h
                  subst h
                  have hu : ∀ u ∈ a :: t, unitOk u = true := fun u hu => by simpa using hok u hu
                  obtain ⟨l1, l2, l3, l4, l5, l6, l7, l8⟩ := lens_ok (hu a List.mem_cons_self)
                  refine ⟨l1, l2, by simp only; omega, by simp only; omega, fun f hf => ?_, by simp only; omega⟩
                  obtain ⟨u', hu', x, hx, e1, e2, e3⟩ := joinF_funcs _ _ _ _ f hf
                  obtain ⟨k1, k2, k3, k4, k5, _⟩ := lens_ok (hu u' hu')
                  rw [e1, e2, e3]; exact k5 x hx
theorem lnk_uno {db C : Nat} {w2 : World} {v : Value} {u : PUnit} (h : LnkV C w2 v u) (hdb : db + 1 ≤ C) (hl : Lens u) :
    ∃ v1 v2 v3 v5 es1 es3, ∃ r : Nat → BR, v = .agg #[v1, v2, v3, .slice none 0 0, v5] ∧ es1.length = u.shapes.length ∧ es3.length = u.funcs.length ∧ (∀ k, r k ≠ .no → C ≤ k ∧ k < w2.heap.size) ∧ ∀ wA : World, (∀ k, C ≤ k → k < w2.heap.size → wA.heap[k]? = w2.heap[k]?) → ∀ ρ : Nat → BR, (∀ k, r k ≠ .no → ρ k = r k) → UnO db v1 v2 v3 (.slice none 0 0) v5 es1 u.consts.length es3 [] u.exports.length ρ wA := by
  obtain ⟨v1, v2, v3, v5, es1, cs, es3, es5, ρL, B, rfl, hCB, ho, rfl, hx⟩ := h
  have cv : ∀ wA : World, (∀ k, C ≤ k → k < w2.heap.size → wA.heap[k]? = w2.heap[k]?) → ∀ (ρ : Nat → BR), (∀ k, lRole B w2.heap.size ρL k ≠ .no → ρ k = lRole B w2.heap.size ρL k) → ∀ (r : Rl) (e : TypeId) (n : Nat) (vv : Value) (len : Nat) (xs : List Value), Ow ρL r w2 B e n vv len xs → bRl r ≠ .no → OwR ρ (bRl r) wA (db + 1) e n vv len xs := by
    intro wA g ρ hρ r e n vv len xs h hr
    refine ⟨ownbase (own_at_ h.1 fun k hk => g k (Nat.le_trans hCB (h.1.lt k hk).1) (h.1.lt k hk).2) (Nat.le_trans hdb hCB), fun k hk => ?_⟩
    have e1 : lRole B w2.heap.size ρL k = bRl r := by
      unfold lRole; rw [if_pos ⟨(h.1.lt k hk).1, (h.1.lt k hk).2⟩, h.2 k hk]
    rw [hρ k (by rw [e1]; exact hr), e1]
  refine ⟨v1, v2, v3, v5, es1.map (fun e => (e.1, e.2.length)), es3.map uOf, lRole B w2.heap.size ρL, rfl, by simp, by simp, fun k hk => ?_, fun wA g ρ hρ => ⟨?_, ?_, ⟨⟨_, cv wA g ρ hρ _ _ _ _ _ _ ho.o2 nofun⟩, by have := hl.consts; simp only at this ⊢; omega⟩, ?_, own_nil, ⟨es5.flatMap cX, ?_⟩⟩⟩
  · unfold lRole at hk
    by_cases e : B ≤ k ∧ k < w2.heap.size
    · exact ⟨Nat.le_trans hCB e.1, e.2⟩
    · rw [if_neg e] at hk; exact absurd rfl hk
  · intro r v T sz n hi
    cases hi with
    | sh j e h =>
      rw [List.getElem?_map, Option.map_eq_some_iff] at h
      obtain ⟨e0, he0, rfl⟩ := h
      have := hl.shape e0.2 (List.mem_map.2 ⟨e0, List.mem_of_getElem? he0, rfl⟩)
      exact ⟨⟨_, cv wA g ρ hρ _ _ _ _ _ _ (ho.o1i j e0 he0) nofun⟩, by simp only; omega⟩
    | fp j e h =>
      rw [List.getElem?_map, Option.map_eq_some_iff] at h
      obtain ⟨e0, he0, rfl⟩ := h
      have := hl.func e0.f (List.mem_map.2 ⟨e0, List.mem_of_getElem? he0, rfl⟩)
      exact ⟨⟨_, cv wA g ρ hρ _ _ _ _ _ _ (ho.o3i j e0 he0).1 nofun⟩, by simp only [uOf]; omega⟩
    | fl j e h =>
      rw [List.getElem?_map, Option.map_eq_some_iff] at h
      obtain ⟨e0, he0, rfl⟩ := h
      have := hl.func e0.f (List.mem_map.2 ⟨e0, List.mem_of_getElem? he0, rfl⟩)
      exact ⟨⟨_, cv wA g ρ hρ _ _ _ _ _ _ (ho.o3i j e0 he0).2.1 nofun⟩, by simp only [uOf]; omega⟩
    | fc j e h =>
      rw [List.getElem?_map, Option.map_eq_some_iff] at h
      obtain ⟨e0, he0, rfl⟩ := h
      have := hl.func e0.f (List.mem_map.2 ⟨e0, List.mem_of_getElem? he0, rfl⟩)
      exact ⟨⟨_, cv wA g ρ hρ _ _ _ _ _ _ (ho.o3i j e0 he0).2.2 nofun⟩, by simp only [uOf]; omega⟩
    | ip j e h => simp at h
  · have := cv wA g ρ hρ _ _ _ _ _ _ ho.o1 nofun
    simpa [bRl, Function.comp_def] using this
  · have := cv wA g ρ hρ _ _ _ _ _ _ ho.o3 nofun
    have e : (es3.map uOf).flatMap bF = es3.flatMap cF := by rw [List.flatMap_map]; rfl
    rw [e, List.length_map]; exact this
  · have := cv wA g ρ hρ _ _ _ _ _ _ ho.o5 nofun
    simpa [bRl] using this
/-- the desk; what is not its own lies behind all -/
def DkO (db n B0 : Nat) (os : List Nat) (w : World) : Prop := ∃ V X ρ vo, DkS (fun b => w.heap.size ≤ b) db n B0 os w V X ρ vo
def BkO (db n B0 : Nat) (os : List Nat) (wb : Nat) (w : World) (x : Ending) (w' : World) : Prop := x = .returned (.tuple #[]) ∧ (∃ n' B', n' ≤ n + 1000 ∧ B' ≤ B0 + 1000 ∧ DkO db n' B' os w') ∧ Below db w w' ∧ w'.heap[wb]? = w.heap[wb]?
section
variable {Z : Nat → Prop} {db n B0 : Nat} {os : List Nat} {w : World} {V : Nat → Value} {X : Nat → List Value} {ρ : Nat → BR} {vo : Value}
theorem DkS.book (h : DkS Z db n B0 os w V X ρ vo) {r : Nat → BR} {v1 v2 v3 v4 v5 : Value} {es1 : List (Value × Nat)} {n2 : Nat} {es3 : List UF} {es4 : List UI} {n5 wb : Nat} (hr : ∀ k, r k ≠ .no → Z k ∧ db < k ∧ k < w.heap.size) (hU : ∀ ρ1 : Nat → BR, (∀ k, r k ≠ .no → ρ1 k = r k) → UnO db v1 v2 v3 v4 v5 es1 n2 es3 es4 n5 ρ1 w)
    (l1 : es1.length ≤ 20) (l3 : es3.length ≤ 30) (l4 : es4.length ≤ 20) (l5 : n5 ≤ 20) (hn : n ≤ 100000) (hB : B0 ≤ 100000) (hwb : r wb = .no) (hwr : ρ wb = .no) (hwd : wb ≠ db) (hwl : wb < w.heap.size) :
    Calls Tryd.prog 22 #[.pointer (some ⟨db, 1, none⟩), .agg #[v1, v2, v3, v4, v5]] w (BkO db n B0 os wb w) := by
  obtain ⟨ρ1, hρ1⟩ : ∃ ρ1 : Nat → BR, ρ1 = fun k => if r k = .no then ρ k else r k := ⟨_, rfl⟩
  have hyes : ∀ k, r k ≠ .no → ρ1 k = r k := fun k hk => by rw [hρ1]; exact if_neg hk
  have hnoz : ∀ k, ¬ Z k → ρ1 k = ρ k := fun k hk => by
    rw [hρ1]
    refine if_pos ?_
    by_cases e : r k = .no
    · exact e
    · exact absurd (hr k e).1 hk
  have hS1 : BookS db w vo (n : Int) V X ρ1 := by
    refine ⟨h.s.box, fun i i2 i10 => ⟨(h.s.row i i2 i10).1, fun k hk => ?_⟩, fun b hb => ?_⟩
    · have e := (h.s.row i i2 i10).2 k hk
      rw [hnoz k (h.zr k (by rw [e]; nofun)), e]
    · by_cases e : r b = .no
      · refine h.s.pl b fun e2 => hb ?_
        rw [hρ1]; simp only [e, if_true]; exact e2
      · exact (hr b e).2
  have hE1 : BookE w ρ1 X := h.e.stay fun b hb _ => ⟨rfl, by show ρ1 b = .dn; rw [hnoz b (h.zr b (by rw [hb]; nofun))]; exact hb⟩
  refine (bunit_any db _ n V X ρ1 w v1 v2 v3 v4 v5 es1 n2 es3 es4 n5 B0 hS1 hE1 (hU ρ1 hyes) h.x (by omega) (by omega) (by omega)).mono ?_
  rintro x w' ⟨rfl, V', X', ρ', hS', hE', hM, hX'⟩
  have hsz := hM.size
  have hwb1 : ρ1 wb = .no := by rw [hρ1]; simp only [hwb, if_true]; exact hwr
  refine ⟨rfl, ⟨n + (es1.length + 3 * es3.length + es4.length) + 2, B0 + 4 * (es1.length + 3 * es3.length + es4.length) + 12, by omega, by omega, V', X', ρ', vo, hS', hE', hX', ?_, ?_, fun b hb => by have := (hS'.pl b hb).2; omega, by have := hS'.lt; omega, fun ob hob => ?_⟩, ⟨hM.env.1, hM.env.2.1, hM.env.2.2, hM.size, fun k hk => ?_⟩, (hM.old wb hwl hwd (.inl hwb1)).2⟩
  · refine ownsRow_same h.o fun q hq => ?_
    obtain ⟨q1, q2⟩ := h.on q hq
    exact (hM.old q (h.o.lt q hq).2 (by have := (h.o.lt q hq).1; omega) (.inl (by rw [hnoz q q2]; exact q1))).2
  · intro q hq
    obtain ⟨q1, q2⟩ := h.on q hq
    have hl := h.o.lt q hq
    have e := hM.old q hl.2 (by omega) (.inl (by rw [hnoz q q2]; exact q1))
    exact ⟨by rw [e.1, hnoz q q2]; exact q1, by omega⟩
  · obtain ⟨D, lo, V1, S1, k1, k2⟩ := (h.k ob hob).is
    have hq : ∀ b, D b → ρ' b = .no ∧ w'.heap[b]? = w.heap[b]? := fun b hb => by
      obtain ⟨q1, q2, q3, q4, q5⟩ := k2 b hb
      have e := hM.old b q1 q3 (.inl (by rw [hnoz b q5]; exact q2))
      exact ⟨by rw [e.1, hnoz b q5]; exact q2, e.2⟩
    refine ⟨D, lo, V1, S1, k1.keep fun b hb _ => (hq b hb).2, fun b hb => ?_⟩
    obtain ⟨q1, q2, q3, q4, q5⟩ := k2 b hb
    exact ⟨by omega, (hq b hb).1, q3, q4, by omega⟩
  · have hkn : ρ1 k = .no := by
      by_cases e : ρ1 k = .no
      · exact e
      · have := (hS1.pl k e).1; omega
    have hdl := hS1.lt
    exact (hM.old k (by omega) (by omega) (.inl hkn)).2
end
end Go.Proofs.YtkgncijcnlfhiaaDoor

namespace Go.Proofs.YtkgncijcnlfhiaaDoor
set_option linter.unusedVariables false
set_option linter.unusedSimpArgs false
open Go.RowKit
theorem BookS.rowcell {db : Nat} {w : World} {vo : Value} {n : Int} {V : Nat → Value} {X : Nat → List Value} {ρ : Nat → BR} (h : BookS db w vo n V X ρ) (i : Nat) (h2 : 2 ≤ i) (h10 : i ≤ 10) : ∃ a c, w.cell? ⟨db, i, none⟩ = some (.slice a (X i).length c) ∧ (X i).length ≤ maxLen ∧ ∀ k y, (X i)[k]? = some y → ∃ g, a = some ⟨g, 0, none⟩ ∧ w.cell? ⟨g, k, none⟩ = some y := by
  have hr := (h.row i h2 h10).1
  obtain ⟨⟨a, c, hv⟩, hm⟩ := own_form hr
  refine ⟨a, c, ?_, hm, fun k y hk => ?_⟩
  · rw [heap_cell h.box, ← hv]
    have hc : i = 2 ∨ i = 3 ∨ i = 4 ∨ i = 5 ∨ i = 6 ∨ i = 7 ∨ i = 8 ∨ i = 9 ∨ i = 10 := by omega
    rcases hc with rfl | rfl | rfl | rfl | rfl | rfl | rfl | rfl | rfl <;> rfl
  · have hkl : k < (X i).length * 1 := by have := (List.getElem?_eq_some_iff.1 hk).1; omega
    obtain ⟨g, _, _, ⟨c', e3⟩, e4⟩ := own_at hr hkl
    rw [hv] at e3
    simp only [Value.slice.injEq] at e3
    exact ⟨g, e3.1, by rw [Nat.zero_add] at e4; rw [e4]; exact hk⟩
/-- two rows of the book, side by side -/
theorem book_two {α : Type} {db : Nat} {w : World} {vo : Value} {n : Int} {V : Nat → Value} {X : Nat → List Value} {ρ : Nat → BR} (h : BookS db w vo n V X ρ) (i j : Nat) (hi : 2 ≤ i ∧ i ≤ 10) (hj : 2 ≤ j ∧ j ≤ 10) (I : List α) (f g : α → Value) (e1 : X i = I.map f) (e2 : X j = I.map g) :
    I.length ≤ maxLen ∧ ∃ a c a' c', w.cell? ⟨db, i, none⟩ = some (.slice a I.length c) ∧ w.cell? ⟨db, j, none⟩ = some (.slice a' I.length c') ∧ ∀ k e, I[k]? = some e → ∃ b b', a = some ⟨b, 0, none⟩ ∧ a' = some ⟨b', 0, none⟩ ∧ w.cell? ⟨b, k, none⟩ = some (f e) ∧ w.cell? ⟨b', k, none⟩ = some (g e) := by
  obtain ⟨a, c, h1, h2, h3⟩ := h.rowcell i hi.1 hi.2
  obtain ⟨a', c', h1', h2', h3'⟩ := h.rowcell j hj.1 hj.2
  have l1 : (X i).length = I.length := by rw [e1, List.length_map]
  have l2 : (X j).length = I.length := by rw [e2, List.length_map]
  rw [l1] at h1 h2
  rw [l2] at h1'
  refine ⟨h2, a, c, a', c', h1, h1', fun k e he => ?_⟩
  obtain ⟨b, p1, p2⟩ := h3 k (f e) (by rw [e1, List.getElem?_map, he]; rfl)
  obtain ⟨b', p1', p2'⟩ := h3' k (g e) (by rw [e2, List.getElem?_map, he]; rfl)
  exact ⟨b, b', p1, p1', p2, p2'⟩
/-- the marks of the entries; what an entry reads: el -/
structure Sec6 (db i j : Nat) (w : World) (N : Nat) (L : Nat → Nat) (M : Nat → Int) (El : Value → Nat → Int → Nat → Prop) (a a' : Option Addr) (c c' : Nat) : Prop where
  nl : N ≤ maxLen
  ci : w.cell? ⟨db, i, none⟩ = some (.slice a N c)
  cj : w.cell? ⟨db, j, none⟩ = some (.slice a' N c')
  en : ∀ k, k < N → ∃ b b' ae ce, a = some ⟨b, 0, none⟩ ∧ a' = some ⟨b', 0, none⟩ ∧ w.cell? ⟨b, k, none⟩ = some (.slice ae (L k) ce) ∧ w.cell? ⟨b', k, none⟩ = some (.int .i64 (M k)) ∧ L k ≤ maxLen ∧ ∀ q, q < L k → ∃ eb eo, ae = some ⟨eb, eo, none⟩ ∧ El (.int .i64 eb) eo (M k) q
section
variable {db : Nat} {w : World} {vo : Value} {n : Int} {V : Nat → Value} {X : Nat → List Value} {ρ : Nat → BR}
theorem sec_i (hS : BookS db w vo n V X ρ) (hE : BookE w ρ X) : ∃ N L M a a' c c', Sec6 db 2 3 w N L M (fun b o m q => ∃ eb : Nat, b = .int .i64 eb ∧ w.cell? ⟨eb, o + q, none⟩ = some (.int .i64 m)) a a' c c' := by
  obtain ⟨I, i1, i2, i3⟩ := hE.i
  obtain ⟨hl, a, c, a', c', h1, h2, h3⟩ := book_two hS 2 3 (by decide) (by decide) I _ _ i1 i2
  refine ⟨I.length, fun k => (I[k]?.getD (.slice none 0 0, 0, 0)).2.1, fun k => (I[k]?.getD (.slice none 0 0, 0, 0)).2.2, a, a', c, c', hl, h1, h2, fun k hk => ?_⟩
  have he : I[k]? = some I[k] := List.getElem?_eq_getElem hk
  obtain ⟨b, b', p1, p2, p3, p4⟩ := h3 k _ he
  obtain ⟨ae, ce, q1, q2, q3⟩ := i3 _ (List.getElem_mem hk)
  simp only [List.length_replicate] at q1 q2
  simp only [he, Option.getD_some]
  refine ⟨b, b', ae, ce, p1, p2, p3.trans (congrArg some q1), p4, q2, fun q hq => ?_⟩
  obtain ⟨eb, eo, r1, _, r2⟩ := q3 q _ (by rw [List.getElem?_replicate, if_pos hq])
  exact ⟨eb, eo, r1, eb, rfl, r2⟩
theorem sec_c (hS : BookS db w vo n V X ρ) (hE : BookE w ρ X) : ∃ N L M a a' c c', Sec6 db 4 5 w N L M (fun b o m q => ∃ eb : Nat, b = .int .i64 eb ∧ w.cell? ⟨eb, o + q * 3, none⟩ = some (.int .i64 0) ∧ w.cell? ⟨eb, o + q * 3 + 1, none⟩ = some (.int .i64 m) ∧ w.cell? ⟨eb, o + q * 3 + 2, none⟩ = some (.int .i64 0)) a a' c c' := by
  obtain ⟨I, i1, i2, i3⟩ := hE.c
  obtain ⟨hl, a, c, a', c', h1, h2, h3⟩ := book_two hS 4 5 (by decide) (by decide) I _ _ i1 i2
  refine ⟨I.length, fun k => (I[k]?.getD (.slice none 0 0, 0, 0)).2.1, fun k => (I[k]?.getD (.slice none 0 0, 0, 0)).2.2, a, a', c, c', hl, h1, h2, fun k hk => ?_⟩
  have he : I[k]? = some I[k] := List.getElem?_eq_getElem hk
  obtain ⟨b, b', p1, p2, p3, p4⟩ := h3 k _ he
  obtain ⟨ae, ce, q1, q2, q3⟩ := i3 _ (List.getElem_mem hk)
  simp only [List.length_replicate] at q1 q2
  simp only [he, Option.getD_some]
  refine ⟨b, b', ae, ce, p1, p2, p3.trans (congrArg some q1), p4, q2, fun q hq => ?_⟩
  obtain ⟨eb, eo, r1, _, r2, r3, r4⟩ := q3 q _ (by rw [List.getElem?_replicate, if_pos hq])
  exact ⟨eb, eo, r1, eb, rfl, r2, r3, r4⟩
theorem sec_l (hS : BookS db w vo n V X ρ) (hE : BookE w ρ X) : ∃ N L M a a' c c', Sec6 db 7 10 w N L M (fun b o m q => ∃ (eb fb fo fc : Nat), b = .int .i64 eb ∧ w.cell? ⟨eb, o + q, none⟩ = some (.slice (some ⟨fb, fo, none⟩) 1 fc) ∧ w.cell? ⟨fb, fo, none⟩ = some (.int .i64 m)) a a' c c' := by
  obtain ⟨I, o1, o2, o3, o4, o5, o6⟩ := hE.o
  obtain ⟨hl, a, c, a', c', h1, h2, h3⟩ := book_two hS 7 10 (by decide) (by decide) I _ _ o2 o5
  refine ⟨I.length, fun k => (I[k]?.getD ((.slice none 0 0, .slice none 0 0, .slice none 0 0, .slice none 0 0), (0, 0, 0, 0), 0)).2.1.2.1, fun k => (I[k]?.getD ((.slice none 0 0, .slice none 0 0, .slice none 0 0, .slice none 0 0), (0, 0, 0, 0), 0)).2.2, a, a', c, c', hl, h1, h2, fun k hk => ?_⟩
  have he : I[k]? = some I[k] := List.getElem?_eq_getElem hk
  obtain ⟨b, b', p1, p2, p3, p4⟩ := h3 k _ he
  obtain ⟨ae, ce, q1, q2, q3⟩ := (o6 _ (List.getElem_mem hk)).2.1
  simp only [List.length_replicate] at q1 q2
  simp only [he, Option.getD_some]
  refine ⟨b, b', ae, ce, p1, p2, p3.trans (congrArg some q1), p4, q2, fun q hq => ?_⟩
  obtain ⟨eb, eo, vx, r1, _, r2, ⟨ax, cx, rfl, _, r3⟩⟩ := q3 q _ (by rw [List.getElem?_replicate, if_pos hq])
  obtain ⟨fb, fo, rfl, _, r4⟩ := r3 0 _ rfl
  exact ⟨eb, eo, r1, eb, fb, fo, cx, rfl, r2, r4⟩
theorem sec_f (hS : BookS db w vo n V X ρ) (hE : BookE w ρ X) : ∃ N L M a a' c c', Sec6 db 6 10 w N L M (fun b o m q => ∃ (eb : Nat) (pa la ca : Option Addr) (pc lc cc : Nat), b = .int .i64 eb ∧ w.cell? ⟨eb, o + q * 4, none⟩ = some (.slice pa 0 pc) ∧ w.cell? ⟨eb, o + q * 4 + 1, none⟩ = some (.int .i64 m) ∧ w.cell? ⟨eb, o + q * 4 + 2, none⟩ = some (.slice la 0 lc) ∧ w.cell? ⟨eb, o + q * 4 + 3, none⟩ = some (.slice ca 0 cc)) a a' c c' := by
  obtain ⟨I, o1, o2, o3, o4, o5, o6⟩ := hE.o
  obtain ⟨hl, a, c, a', c', h1, h2, h3⟩ := book_two hS 6 10 (by decide) (by decide) I _ _ o1 o5
  refine ⟨I.length, fun k => (I[k]?.getD ((.slice none 0 0, .slice none 0 0, .slice none 0 0, .slice none 0 0), (0, 0, 0, 0), 0)).2.1.1, fun k => (I[k]?.getD ((.slice none 0 0, .slice none 0 0, .slice none 0 0, .slice none 0 0), (0, 0, 0, 0), 0)).2.2, a, a', c, c', hl, h1, h2, fun k hk => ?_⟩
  have he : I[k]? = some I[k] := List.getElem?_eq_getElem hk
  obtain ⟨b, b', p1, p2, p3, p4⟩ := h3 k _ he
  obtain ⟨ae, ce, q1, q2, q3⟩ := (o6 _ (List.getElem_mem hk)).1
  simp only [List.length_replicate] at q1 q2
  simp only [he, Option.getD_some]
  refine ⟨b, b', ae, ce, p1, p2, p3.trans (congrArg some q1), p4, q2, fun q hq => ?_⟩
  obtain ⟨eb, eo, vp, vl, vc, r1, _, r2, r3, r4, r5, ⟨pa, pc, rfl, _⟩, ⟨la, lc, rfl, _⟩, ⟨ca, cc, rfl, _⟩⟩ := q3 q _ (by rw [List.getElem?_replicate, if_pos hq])
  exact ⟨eb, eo, r1, eb, pa, la, ca, pc, lc, cc, rfl, r2, r3, r4, r5⟩
theorem sec_p (hS : BookS db w vo n V X ρ) (hE : BookE w ρ X) : ∃ N L M a a' c c', Sec6 db 9 10 w N L M (fun b o m q => ∃ (eb : Nat) (pa : Option Addr) (pc : Nat), b = .int .i64 eb ∧ w.cell? ⟨eb, o + q * 3 + 1, none⟩ = some (.slice pa 0 pc) ∧ w.cell? ⟨eb, o + q * 3 + 2, none⟩ = some (.int .i64 m)) a a' c c' := by
  obtain ⟨I, o1, o2, o3, o4, o5, o6⟩ := hE.o
  obtain ⟨hl, a, c, a', c', h1, h2, h3⟩ := book_two hS 9 10 (by decide) (by decide) I _ _ o4 o5
  refine ⟨I.length, fun k => (I[k]?.getD ((.slice none 0 0, .slice none 0 0, .slice none 0 0, .slice none 0 0), (0, 0, 0, 0), 0)).2.1.2.2.2, fun k => (I[k]?.getD ((.slice none 0 0, .slice none 0 0, .slice none 0 0, .slice none 0 0), (0, 0, 0, 0), 0)).2.2, a, a', c, c', hl, h1, h2, fun k hk => ?_⟩
  have he : I[k]? = some I[k] := List.getElem?_eq_getElem hk
  obtain ⟨b, b', p1, p2, p3, p4⟩ := h3 k _ he
  obtain ⟨ae, ce, q1, q2, q3⟩ := (o6 _ (List.getElem_mem hk)).2.2.2
  simp only [List.length_replicate] at q1 q2
  simp only [he, Option.getD_some]
  refine ⟨b, b', ae, ce, p1, p2, p3.trans (congrArg some q1), p4, q2, fun q hq => ?_⟩
  obtain ⟨eb, eo, vs, vp, r1, _, r2, r3, r4, _, ⟨pa, pc, rfl, _⟩⟩ := q3 q _ (by rw [List.getElem?_replicate, if_pos hq])
  exact ⟨eb, eo, r1, eb, pa, pc, rfl, r3, r4⟩
theorem sec_x (hS : BookS db w vo n V X ρ) (hE : BookE w ρ X) : ∃ N L M a a' c c', Sec6 db 8 10 w N L M (fun b o m q => ∃ (eb : Nat), b = .int .i64 eb ∧ w.cell? ⟨eb, o + q * 2, none⟩ = some (.string ⟨#[]⟩) ∧ w.cell? ⟨eb, o + q * 2 + 1, none⟩ = some (.int .i64 m)) a a' c c' := by
  obtain ⟨I, o1, o2, o3, o4, o5, o6⟩ := hE.o
  obtain ⟨hl, a, c, a', c', h1, h2, h3⟩ := book_two hS 8 10 (by decide) (by decide) I _ _ o3 o5
  refine ⟨I.length, fun k => (I[k]?.getD ((.slice none 0 0, .slice none 0 0, .slice none 0 0, .slice none 0 0), (0, 0, 0, 0), 0)).2.1.2.2.1, fun k => (I[k]?.getD ((.slice none 0 0, .slice none 0 0, .slice none 0 0, .slice none 0 0), (0, 0, 0, 0), 0)).2.2, a, a', c, c', hl, h1, h2, fun k hk => ?_⟩
  have he : I[k]? = some I[k] := List.getElem?_eq_getElem hk
  obtain ⟨b, b', p1, p2, p3, p4⟩ := h3 k _ he
  obtain ⟨ae, ce, q1, q2, q3⟩ := (o6 _ (List.getElem_mem hk)).2.2.1
  simp only [List.length_replicate] at q1 q2
  simp only [he, Option.getD_some]
  refine ⟨b, b', ae, ce, p1, p2, p3.trans (congrArg some q1), p4, q2, fun q hq => ?_⟩
  obtain ⟨eb, eo, vs, r1, _, r2, r3, ⟨s, rfl, hs, _⟩⟩ := q3 q _ (by rw [List.getElem?_replicate, if_pos hq])
  have hse : s = ⟨#[]⟩ := by
    obtain ⟨d⟩ := s
    have h0 : d = #[] := by simpa using hs
    rw [h0]
  subst hse
  exact ⟨eb, eo, r1, eb, rfl, r2, r3⟩
end
end Go.Proofs.YtkgncijcnlfhiaaDoor

