import Derived.Test.YtkgncijcnlfhiabGreatY3
import Derived.Maps.OwnSet
import Derived.Test.YtkgncijcnlfhiabGreatW3
import Derived.Laws.OwnMore
import Derived.Test.YtkgncijcnlfhiabGreatB2
namespace Go.Proofs.YtkgncijcnlfhiabGreat
set_option linter.unusedVariables false
set_option linter.unusedSimpArgs false
structure Wait (N : Nat) (a : Nat → Int) (n : Nat) (st : Nat → Option (List Int)) (dn : Nat → Bool) : Prop where
  hp : Hp a n
  inj : ∀ i j, i < n → j < n → a i = a j → i = j
  mem : ∀ x, (∃ i, i < n ∧ a i = x) ↔ ∃ k : Nat, x = (k : Int) ∧ (st k).isSome = true ∧ dn k = false
  lt : ∀ k, (st k).isSome = true → k < N
  seen : ∀ k, dn k = true → (st k).isSome = true
theorem Wait.empty (N : Nat) (a : Nat → Int) : Wait N a 0 (fun _ => none) (fun _ => false) :=
  ⟨fun i _ h => by omega, fun i _ h => by omega, fun x => ⟨fun ⟨i, h, _⟩ => by omega, fun ⟨k, _, h, _⟩ => by simp at h⟩, fun k h => by simp at h, fun k h => by simp at h⟩
theorem Wait.nothing {N : Nat} {a : Nat → Int} {st : Nat → Option (List Int)} {dn : Nat → Bool} (h : Wait N a 0 st dn) : leastP N st dn = none := by
  rw [leastP_none]
  intro k _
  cases hs : (st k).isSome with
  | false => rfl
  | true =>
    cases hd : dn k with
    | true => rfl
    | false =>
      obtain ⟨i, hi, _⟩ := (h.mem k).2 ⟨k, rfl, hs, hd⟩
      omega
/-- on top lies the least -/
theorem Wait.top {N : Nat} {a : Nat → Int} {n : Nat} {st : Nat → Option (List Int)} {dn : Nat → Bool} (h : Wait N a n st dn) (hn : 0 < n) : ∃ q : Nat, a 0 = q ∧ q < N ∧ (st q).isSome = true ∧ dn q = false ∧ leastP N st dn = some q := by
  obtain ⟨q, hq, hs, hd⟩ := (h.mem (a 0)).1 ⟨0, hn, rfl⟩
  refine ⟨q, hq, h.lt q hs, hs, hd, ?_⟩
  rw [leastP_some]
  refine ⟨h.lt q hs, by simp [hs, hd], ?_⟩
  intro k hk
  cases hs' : (st k).isSome with
  | false => rfl
  | true =>
    cases hd' : dn k with
    | true => rfl
    | false =>
      obtain ⟨i, hi, e⟩ := (h.mem k).2 ⟨k, rfl, hs', hd'⟩
      have := h.hp.root i hi
      omega
/-- it is taken: the others go on waiting -/
theorem Wait.pop {N : Nat} {a b : Nat → Int} {n q : Nat} {st : Nat → Option (List Int)} {dn : Nat → Bool} (h : Wait N a (n + 1) st dn) (hq : a 0 = q) (hb : Hp b n) (hs : Same (swp a 0 n) b n) :
    Wait N b n st (fun j => decide (j = q) || dn j) := by
  have hsw : ∀ i, i < n → swp a 0 n i = a (if i = 0 then n else i) := by
    intro i hi
    unfold swp
    by_cases h0 : i = 0
    · simp [h0]
    · rw [if_neg h0, if_neg (by omega), if_neg h0]
  obtain ⟨q', hq', hsq, hdq⟩ := (h.mem (a 0)).1 ⟨0, by omega, rfl⟩
  have eq : q' = q := by omega
  subst eq
  have hinj : ∀ i j, i < n → j < n → swp a 0 n i = swp a 0 n j → i = j := by
    intro i j hi hj e
    rw [hsw i hi, hsw j hj] at e
    have := h.inj _ _ (by split <;> omega) (by split <;> omega) e
    split at this <;> split at this <;> omega
  refine ⟨hb, hs.inj hinj, ?_, h.lt, ?_⟩
  · intro x
    rw [← hs.mem x]
    constructor
    · rintro ⟨i, hi, e⟩
      rw [hsw i hi] at e
      obtain ⟨k, hk, h1, h2⟩ := (h.mem x).1 ⟨_, (by split <;> omega), e⟩
      refine ⟨k, hk, h1, ?_⟩
      have hne : k ≠ q' := by
        intro hkq
        have := h.inj (if i = 0 then n else i) 0 (by split <;> omega) (by omega) (by rw [e, hk, hkq, hq])
        split at this <;> omega
      simp [hne, h2]
    · rintro ⟨k, hk, h1, h2⟩
      simp only [Bool.or_eq_false_iff, decide_eq_false_iff_not] at h2
      obtain ⟨i, hi, e⟩ := (h.mem x).2 ⟨k, hk, h1, h2.2⟩
      have hi0 : i ≠ 0 := by
        intro h0; subst h0; rw [hq] at e; exact h2.1 (by omega)
      by_cases hin : i = n
      · subst hin
        exact ⟨0, by omega, by rw [hsw 0 (by omega), if_pos rfl, e]⟩
      · exact ⟨i, by omega, by rw [hsw i (by omega), if_neg hi0, e]⟩
  · intro k hk
    simp only [Bool.or_eq_true, decide_eq_true_eq] at hk
    rcases hk with rfl | hk
    · exact hsq
    · exact h.seen k hk
/-- one more waits -/
theorem Wait.push {N : Nat} {a b : Nat → Int} {n t : Nat} {st : Nat → Option (List Int)} {dn : Nat → Bool} {s : List Int} (h : Wait N a n st dn) (ht : t < N) (hst : st t = none) (hb : Hp b (n + 1)) (hs : Same (fun k => if k = n then (t : Int) else a k) b (n + 1)) :
    Wait N b (n + 1) (fun k => if k = t then some s else st k) dn := by
  have hdt : dn t = false := by
    cases hd : dn t with
    | false => rfl
    | true => have := h.seen t hd; rw [hst] at this; cases this
  have hnt : ∀ i, i < n → a i ≠ t := by
    intro i hi e
    obtain ⟨k, hk, h1, _⟩ := (h.mem (a i)).1 ⟨i, hi, rfl⟩
    have : k = t := by omega
    subst this; rw [hst] at h1; cases h1
  refine ⟨hb, hs.inj ?_, ?_, ?_, ?_⟩
  · intro i j hi hj e
    by_cases h1 : i = n
    · by_cases h2 : j = n
      · omega
      · rw [if_pos h1, if_neg h2] at e; exact absurd e.symm (hnt j (by omega))
    · by_cases h2 : j = n
      · rw [if_neg h1, if_pos h2] at e; exact absurd e (hnt i (by omega))
      · rw [if_neg h1, if_neg h2] at e; exact h.inj i j (by omega) (by omega) e
  · intro x
    rw [← hs.mem x]
    constructor
    · rintro ⟨i, hi, e⟩
      by_cases h1 : i = n
      · simp only [if_pos h1] at e; exact ⟨t, e.symm, by simp, hdt⟩
      · simp only [if_neg h1] at e
        obtain ⟨k, hk, h2, h3⟩ := (h.mem x).1 ⟨i, by omega, e⟩
        refine ⟨k, hk, ?_, h3⟩
        split
        · rfl
        · exact h2
    · rintro ⟨k, hk, h2, h3⟩
      by_cases hkt : k = t
      · subst hkt; exact ⟨n, by omega, by simp [hk]⟩
      · simp only [if_neg hkt] at h2
        obtain ⟨i, hi, e⟩ := (h.mem x).2 ⟨k, hk, h2, h3⟩
        exact ⟨i, by omega, by rw [if_neg (by omega), e]⟩
  · intro k hk
    by_cases hkt : k = t
    · omega
    · simp only [if_neg hkt] at hk; exact h.lt k hk
  · intro k hk
    by_cases hkt : k = t
    · simp [hkt]
    · simp only [if_neg hkt]; exact h.seen k hk
end Go.Proofs.YtkgncijcnlfhiabGreat

namespace Go.Proofs.YtkgncijcnlfhiabGreat
set_option linter.unusedVariables false
set_option linter.unusedSimpArgs false
def undone : Nat → (Nat → Bool) → Nat
  | 0, _ => 0
  | n + 1, dn => undone n dn + if dn n = true then 0 else 1
theorem undone_same : ∀ (n q : Nat) (dn : Nat → Bool), n ≤ q → undone n (fun j => decide (j = q) || dn j) = undone n dn
  | 0, _, _, _ => rfl
  | n + 1, q, dn, h => by
    rw [undone, undone, undone_same n q dn (by omega)]
    have : decide (n = q) = false := by simp; omega
    simp [this]
theorem undone_less : ∀ (n q : Nat) (dn : Nat → Bool), q < n → dn q = false → undone n (fun j => decide (j = q) || dn j) + 1 = undone n dn
  | 0, _, _, h, _ => by omega
  | n + 1, q, dn, h, hd => by
    by_cases e : q = n
    · subst e
      rw [undone, undone, undone_same q q dn (by omega)]
      simp [hd]
    · have := undone_less n q dn (by omega) hd
      rw [undone, undone, ← this]
      have hn : decide (n = q) = false := by simp; omega
      simp only [hn, Bool.false_or]
      omega
/-- a look: the instruction that is wrong, or how it goes on -/
def stepP (u : PUnit) (f : PFunc) (q : Nat) (i : PIns) (s : List Int) (st : Nat → Option (List Int)) : Nat ⊕ (Nat → Option (List Int)) :=
  match doneP u f i s with
  | none => .inl q
  | some s' => comesP s' q (nextP f q i) st
theorem lookP_none {u : PUnit} {f : PFunc} {k : Nat} {st : Nat → Option (List Int)} {dn : Nat → Bool} (h : leastP f.code.length st dn = none) : lookP u f (k + 1) st dn = none := by
  rw [lookP, h]
theorem lookP_step {u : PUnit} {f : PFunc} {k q : Nat} {st : Nat → Option (List Int)} {dn : Nat → Bool} {i : PIns} {s : List Int} (h : leastP f.code.length st dn = some q) (hi : f.code[q]? = some i) (hs : st q = some s) :
    lookP u f (k + 1) st dn = match stepP u f q i s st with
      | .inl t => some t
      | .inr st' => lookP u f k st' (fun j => decide (j = q) || dn j) := by
  rw [lookP, h]
  simp only [hi, hs]
  unfold stepP
  cases doneP u f i s with
  | none => rfl
  | some s' => rfl
end Go.Proofs.YtkgncijcnlfhiabGreat

namespace Go.Proofs.YtkgncijcnlfhiabGreat
set_option linter.unusedVariables false
set_option linter.unusedSimpArgs false
open Go.RowKit Go.Maps
def valR (v : Value) : Option (DataW Value × List MemPlace) := some (.held v, [])
theorem Tryz.uMap : Tryz.prog.underlying 82 = some (.map 3 24) := by kernel_rfl
theorem Tryz.zMap (w : World) : (zeroValue 24).run Tryz.prog w = .ok (.slice none 0 0) w := by kernel_rfl
theorem Tryz.kInt : Tryz.prog.underlying 3 = some (.int .i64) := by kernel_rfl
theorem Tryz.keyed : Keyed Tryz.prog 3 := int_keyed Tryz.kInt
def keyL (k : Nat) : Lit := .int .i64 (k : Int)
theorem key_is (k : Nat) (hk : k < 1000000) : keyOf Tryz.prog 3 (.int .i64 (k : Int)) = some (keyL k) := keyOf_int_mk Tryz.kInt (WalkArith.wf_i64 (by omega))
theorem key_inj {k j : Nat} (h : keyL k = keyL j) : k = j := by
  unfold keyL at h
  injection h with _ h2
  omega
def nilV : Value := .slice none 0 0
structure MapIs (w : World) (b n : Nat) (m : Nat → Option Value) : Prop where
  is : ∃ D : DataW Value, w.ownsMap Tryz.prog 3 valR b n D ∧ ∀ k, k < 1000000 → Maps.has D (keyL k) = (m k).isSome ∧ D.atKey (keyL k) (.held nilV) = .held ((m k).getD nilV)
theorem MapIs.made (w : World) : MapIs (w.alloc (.map #[] 0)) w.heap.size 0 (fun _ => none) :=
  ⟨_, World.ownsMap_made w _ _ _, fun k _ => ⟨rfl, rfl⟩⟩
theorem MapIs.lt {w : World} {b n : Nat} {m : Nat → Option Value} (h : MapIs w b n m) : b < w.heap.size := by
  obtain ⟨D, h1, _⟩ := h.is; exact h1.lt
theorem MapIs.kept {w w' : World} {b n : Nat} {m : Nat → Option Value} (h : MapIs w b n m) (g : w'.heap[b]? = w.heap[b]?) : MapIs w' b n m := by
  obtain ⟨D, ⟨es, clock, hb, r⟩, h2⟩ := h.is
  exact ⟨D, ⟨es, clock, g.trans hb, r⟩, h2⟩
theorem MapIs.look {w : World} {b n : Nat} {m : Nat → Option Value} (h : MapIs w b n m) (k : Nat) (hk : k < 1000000) : (Instr.lookup 82 (.map (some b)) (.int .i64 (k : Int)) true).run Tryz.prog w = .ok (.tuple #[(m k).getD nilV, .bool (m k).isSome]) w := by
  obtain ⟨D, h1, h2⟩ := h.is
  obtain ⟨v, ps, hrun, hv⟩ := h1.look_ok Tryz.keyed Tryz.uMap (Tryz.zMap w) (zd := .held nilV) (zp := []) rfl (key_is k hk)
  rw [hrun, (h2 k hk).1]
  have := congrArg Prod.fst (Option.some.inj hv)
  simp only [(h2 k hk).2, DataW.held.injEq] at this
  rw [this]
theorem MapIs.look1 {w : World} {b n : Nat} {m : Nat → Option Value} (h : MapIs w b n m) (k : Nat) (hk : k < 1000000) : (Instr.lookup 82 (.map (some b)) (.int .i64 (k : Int)) false).run Tryz.prog w = .ok ((m k).getD nilV) w := by
  obtain ⟨D, h1, h2⟩ := h.is
  obtain ⟨v, ps, hrun, hv⟩ := h1.lookup Tryz.keyed Tryz.uMap (Tryz.zMap w) (zd := .held nilV) (zp := []) rfl (key_is k hk)
  rw [hrun]
  have := congrArg Prod.fst (Option.some.inj hv)
  simp only [(h2 k hk).2, DataW.held.injEq] at this
  rw [this]
theorem MapIs.store {w : World} {b n : Nat} {m : Nat → Option Value} (h : MapIs w b n m) (k : Nat) (hk : k < 1000000) (hn : n < 1000000) (v : Value) :
    ∃ w', (Instr.mapUpdate 82 (.map (some b)) (.int .i64 (k : Int)) v).run Tryz.prog w = .ok () w' ∧ MapIs w' b (n + 1) (fun j => if j = k then some v else m j) ∧ w.grownBy w' (some b) := by
  obtain ⟨D, h1, h2⟩ := h.is
  obtain ⟨w', hrun, hown, hturn⟩ := h1.store Tryz.keyed Tryz.uMap (by unfold maxLen; omega) (key_is k hk) (val := v) (d := .held v) (ps := []) rfl
  refine ⟨w', hrun, ⟨_, hown, fun j hj => ?_⟩, hturn.grown⟩
  by_cases e : j = k
  · subst e
    rw [has_put_same h1.isMap (by trivial), atKey_put_same h1.isMap (by trivial)]
    simp
  · have hne : keyL j ≠ keyL k := fun h => e (key_inj h)
    rw [has_put_other hne, atKey_put_other hne, if_neg e]
    exact h2 j hj
end Go.Proofs.YtkgncijcnlfhiabGreat

namespace Go.Proofs.YtkgncijcnlfhiabGreat
set_option linter.unusedVariables false
set_option linter.unusedSimpArgs false
open Go.RowKit
def fnL (l : List Int) (k : Nat) : Int := l.getD k 0
def swapL (l : List Int) (i j : Nat) : List Int := (l.set i (fnL l j)).set j (fnL l i)
theorem swapL_len (l : List Int) (i j : Nat) : (swapL l i j).length = l.length := by simp [swapL]
theorem fnL_swap {l : List Int} {i j : Nat} (hi : i < l.length) (hj : j < l.length) : fnL (swapL l i j) = swp (fnL l) i j := by
  funext k
  unfold fnL swapL swp
  simp only [List.getD_eq_getElem?_getD, List.getElem?_set]
  by_cases h1 : k = j
  · subst h1
    by_cases h2 : k = i
    · subst h2; simp [hi, fnL]
    · have h2' : ¬ i = k := fun e => h2 e.symm
      simp [h2, h2', hj, fnL]
  · have h1' : ¬ j = k := fun e => h1 e.symm
    by_cases h2 : k = i
    · subst h2; simp [h1, h1', hi, fnL]
    · have h2' : ¬ i = k := fun e => h2 e.symm
      simp [h1, h2, h1', h2', fnL]
theorem fnL_snoc (l : List Int) (x : Int) : fnL (l ++ [x]) = fun k => if k = l.length then x else fnL l k := by
  funext k
  unfold fnL
  simp only [List.getD_eq_getElem?_getD]
  by_cases h : k < l.length
  · rw [List.getElem?_append_left h, if_neg (by omega)]
  · rw [List.getElem?_append_right (by omega)]
    by_cases h2 : k = l.length
    · simp [h2]
    · rw [if_neg h2, List.getElem?_eq_none (by simp; omega), List.getElem?_eq_none (by omega)]
theorem fnL_take {l : List Int} {n k : Nat} (h : k < n) : fnL (l.take n) k = fnL l k := by
  unfold fnL
  simp only [List.getD_eq_getElem?_getD]
  rw [List.getElem?_take, if_pos h]
def ivL (l : List Int) : List Value := l.map fun x => Value.int .i64 x
theorem ivL_len (l : List Int) : (ivL l).length = l.length := by simp [ivL]
theorem ivL_at {l : List Int} {j : Nat} (h : j < l.length) : (ivL l)[j]? = some (.int .i64 (fnL l j)) := by
  unfold ivL fnL
  rw [List.getElem?_map, List.getD_eq_getElem?_getD, List.getElem?_eq_getElem h]; rfl
theorem ivL_set (l : List Int) (j : Nat) (x : Int) : (ivL l).set j (.int .i64 x) = ivL (l.set j x) := by
  unfold ivL; rw [List.map_set]
/-- the waiting instructions: v owns them, from B on -/
def HpRow (w : World) (B : Nat) (v : Value) (l : List Int) : Prop := w.ownsRow B 3 1 v l.length (ivL l)
theorem HpRow.form {w : World} {B : Nat} {v : Value} {l : List Int} (h : HpRow w B v l) : (∃ ao cap, v = .slice ao l.length cap) ∧ l.length ≤ maxLen := by
  obtain ⟨h1, h2⟩ := h
  rcases h2 with ⟨rfl, h3⟩ | ⟨g, cap, cur, rfl, _, _, h4, h5, _⟩
  · exact ⟨⟨none, 0, by rw [h3]⟩, by rw [h3]; decide⟩
  · exact ⟨⟨_, _, rfl⟩, by omega⟩
theorem HpRow.at {w : World} {B : Nat} {v : Value} {l : List Int} (h : HpRow w B v l) (hl : 0 < l.length) : ∃ g cap, v = .slice (some ⟨g, 0, none⟩) l.length cap ∧ B ≤ g ∧ g < w.heap.size ∧ (∀ j, j < l.length → w.cell? ⟨g, j, none⟩ = some (.int .i64 (fnL l j))) ∧ ∀ j, w.frozen? ⟨g, j, none⟩ = false := by
  have h0 := h
  obtain ⟨h1, h2⟩ := h
  rcases h2 with ⟨rfl, h3⟩ | ⟨g, cap, cur, rfl, hb, hh, h4, h5, _⟩
  · omega
  · refine ⟨g, cap, rfl, hb, (Array.getElem?_eq_some_iff.1 hh).1, fun j hj => ?_, fun j => h0.frozenAt j⟩
    rw [h0.cellAt j (by omega), ivL_at hj]
theorem HpRow.set {w : World} {B g cap : Nat} {l : List Int} (h : HpRow w B (.slice (some ⟨g, 0, none⟩) l.length cap) l) (j : Nat) (x : Int) : HpRow (w.setCell ⟨g, j, none⟩ (.int .i64 x)) B (.slice (some ⟨g, 0, none⟩) l.length cap) (l.set j x) := by
  have := (World.ownsRow.stored h j (.int .i64 x)).1
  rw [ivL_set] at this
  unfold HpRow
  rw [List.length_set]
  exact this
theorem HpRow.keep {w w' : World} {B : Nat} {v : Value} {l : List Int} (h : HpRow w B v l) (g : ∀ b, v.ownBlock = some b → w'.heap[b]? = w.heap[b]?) : HpRow w' B v l := by
  obtain ⟨h1, h2⟩ := h
  refine ⟨h1, ?_⟩
  rcases h2 with ⟨rfl, h3⟩ | ⟨k, cap, cur, rfl, hb, hh, r⟩
  · exact .inl ⟨rfl, h3⟩
  · exact .inr ⟨k, cap, cur, rfl, hb, (g k rfl).trans hh, r⟩
theorem HpRow.cut {w : World} {B g cap n : Nat} {l : List Int} (h : HpRow w B (.slice (some ⟨g, 0, none⟩) l.length cap) l) (hn : n ≤ l.length) : HpRow w B (.slice (some ⟨g, 0, none⟩) n cap) (l.take n) := by
  obtain ⟨h1, h2⟩ := h
  have hl : (l.take n).length = n := by rw [List.length_take]; omega
  unfold HpRow
  rw [hl]
  rcases h2 with ⟨h3, _⟩ | ⟨k, c, cur, he, hb, hh, h4, h5, h6, h7⟩
  · simp at h3
  · simp only [Value.slice.injEq, Option.some.injEq, Addr.mk.injEq, and_true, true_and] at he
    obtain ⟨rfl, rfl⟩ := he
    refine ⟨by rw [ivL_len, hl]; omega, .inr ⟨g, cap, cur, rfl, hb, hh, by omega, h5, h6, ?_⟩⟩
    have : ivL (l.take n) = (ivL l).take n := by unfold ivL; rw [List.map_take]
    rw [this, ← h7, List.take_take]
    congr 1; omega
end Go.Proofs.YtkgncijcnlfhiabGreat

namespace Go.Proofs.YtkgncijcnlfhiabGreat
set_option linter.unusedVariables false
set_option linter.unusedSimpArgs false
open Go.RowKit
attribute [local go_sem ↓] Go.wp_at_zero Go.wp_at_succ
def thr3 (e n a : Int) : List PanicEntry := [{ v := .iface 62 (.agg #[.int .i64 e, .int .i64 n, .int .i64 a]), recovered := false }]
theorem unless3_yes (e n a : Int) (w : World) :
    Calls Tryz.prog 64 #[.agg #[.int .i64 e, .int .i64 n, .int .i64 a], .bool true] w fun x w' => x = .returned (.tuple #[]) ∧ Gr w w' := by
  have hnot : ∀ (x : Bool) (w : World), (Op.unary .not (.bool x)).run Tryz.prog w = .ok (.bool (!x)) w := fun _ _ => rfl
  go_enter Tryz.func64, Tryz.ntmps64
  go_wp2
  go_end0
  exact ⟨rfl, (Gr.refl _).alloc _⟩
theorem unless3_no (e n a : Int) (w : World) :
    Calls Tryz.prog 64 #[.agg #[.int .i64 e, .int .i64 n, .int .i64 a], .bool false] w fun x w' => x = .panicked (thr3 e n a) ∧ Gr w w' := by
  have hnot : ∀ (x : Bool) (w : World), (Op.unary .not (.bool x)).run Tryz.prog w = .ok (.bool (!x)) w := fun _ _ => rfl
  go_enter Tryz.func64, Tryz.ntmps64
  go_wp2
  exact ⟨rfl, rfl, (Gr.refl _).alloc _⟩
/-- a number, or it gives up -/
def endsO (o : Option Int) (n a : Int) : Ending := match o with
  | none => .panicked (thr3 10 n a)
  | some k => .returned (.int .i64 k)

set_option maxRecDepth 100000 in
set_option maxHeartbeats 1000000 in
theorem top_any (s : List Int) (v : Value) (n a : Int) (w : World) (hR : RInts w v s) :
    Calls Tryz.prog 136 #[v, .agg #[.int .i64 10, .int .i64 n, .int .i64 a]] w fun x w' => x = endsO s.getLast? n a ∧ Gr w w' := by
  obtain ⟨ao, cap, rfl, hm, hc⟩ := hR
  unfold maxLen at hm
  have HC := hide hc
  clear hc
  by_cases hl : 0 < s.length
  · obtain ⟨b, off, rfl, hcell⟩ := HC.out (s.length - 1) (by omega)
    have HS : Hid (s.getLast? = some (s.getD (s.length - 1) 0)) := hide (by
      rw [List.getLast?_eq_getElem?, List.getD_eq_getElem?_getD, List.getElem?_eq_getElem (show s.length - 1 < s.length by omega)]; rfl)
    have hw1 : IntKind.i64.wrap ((s.length : Int) - 1) = ((s.length - 1 : Nat) : Int) := by rw [Go.IntWalk.i64_in _ (by omega)]; omega
    generalize s.getD (s.length - 1) 0 = y at hcell HS
    have hd : (0 : Int) < (s.length : Int) := by omega
    have hb1 : ((s.length - 1 : Nat) : Int) < (s.length : Int) := by omega
    have hcell' : ∀ w', Gr (w.alloc (.cells #[.int .i64 10, .int .i64 n, .int .i64 a] 62)) w' → w'.cell? ⟨b, off + (s.length - 1), none⟩ = some (.int .i64 y) := fun w' h => h.cell ((World.grownBy_alloc w _ none).cell hcell (by simp)) (by simp)
    clear HC hcell
    go_enter Tryz.func136, Tryz.ntmps136
    go_wp2_with ((go_at_call 64; refine (unless3_yes _ _ _ _).mono ?_; rintro e w' ⟨rfl, hg'⟩); have hc1 := hcell' w' hg')
    go_ret
    exact ⟨by rw [HS.out]; rfl, (by repeat (first | exact Gr.refl _ | assumption | refine Gr.drew ?_ | refine Gr.alloc ?_ _ | refine Gr.trans ?_ (by assumption)))⟩
  · obtain rfl : s = [] := by cases s with | nil => rfl | cons => simp at hl
    go_enter Tryz.func136, Tryz.ntmps136
    go_wp2_with ((go_at_call 64; refine (unless3_no _ _ _ _).mono ?_; rintro e w' ⟨rfl, hg'⟩))
    exact ⟨rfl, rfl, (by repeat (first | exact Gr.refl _ | assumption | refine Gr.drew ?_ | refine Gr.alloc ?_ _ | refine Gr.trans ?_ (by assumption)))⟩
end Go.Proofs.YtkgncijcnlfhiabGreat

