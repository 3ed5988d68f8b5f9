import Derived.Test.YtkgncijcnlfhiaaDoorR0
namespace Go.Proofs.YtkgncijcnlfhiaaDoor
set_option linter.unusedVariables false
set_option linter.unusedSimpArgs false
open Go.RowKit
theorem takeL {P : Program} {l : List Oper} {md : Region.Mode} {Q : Exit → Act → World → Prop} {S : World → Prop} {i : Nat} {oi : Oper} {v : Value} {fuel : Nat} {listed : Array Bool} {a : Act} {w : World} (hi : l[i]? = some oi)
    (hs : Region.noSelect l.toArray = true) (hf : Region.free md l.toArray listed i = true) (hr : (Region.ready md l.toArray listed).contains i = true)
    (hQ : ∀ c a w, Q (.panic c) (a.put oi.dst v) w → Q (.panic c) a w) (hw : Region.wanted oi (yielded l.toArray a.tmps) = true) (hy : ∀ w, S w → (execOp a.eval oi).run P w = .ok (.value v) w) (hS : S w)
    (h : wpAnyH P md l.toArray Q S fuel (listed.setIfInBounds i true) (a.put oi.dst v) w) : wpAnyH P md l.toArray Q S (fuel + 1) listed a w :=
  wpAnyH_take (by simpa using hi) hs hf hr hQ (.inl ⟨hw, hy⟩) hS h
theorem skipL {P : Program} {l : List Oper} {md : Region.Mode} {Q : Exit → Act → World → Prop} {S : World → Prop} {i : Nat} {oi : Oper} {fuel : Nat} {listed : Array Bool} {a : Act} {w : World} (hi : l[i]? = some oi)
    (hs : Region.noSelect l.toArray = true) (hf : Region.free md l.toArray listed i = true) (hr : (Region.ready md l.toArray listed).contains i = true)
    (hQ : ∀ c a w, Q (.panic c) (a.put oi.dst undef) w → Q (.panic c) a w) (hw : Region.wanted oi (yielded l.toArray a.tmps) = false) (hS : S w)
    (h : wpAnyH P md l.toArray Q S fuel (listed.setIfInBounds i true) (a.put oi.dst undef) w) : wpAnyH P md l.toArray Q S (fuel + 1) listed a w :=
  wpAnyH_take (by simpa using hi) hs hf hr hQ (.inr ⟨hw, rfl⟩) hS h
/-- one alone may come up -/
theorem aloneL {P : Program} {l : List Oper} {md : Region.Mode} {Q : Exit → Act → World → Prop} {S : World → Prop} {i : Nat} {o : Oper} {fuel : Nat} {listed : Array Bool} {a : Act} {w : World} (ho : l[i]? = some o) (hr : Region.ready md l.toArray listed = [i])
    (h : ∀ K' : Act → World → Prop, Shut (∀ a w, S w → (S w → wpAnyH P md l.toArray Q S fuel (listed.setIfInBounds i true) a w) → K' a w) → if Region.wanted o (yielded l.toArray a.tmps) = true then Oper.wp P o a w K' Q else K' (a.put o.dst undef) w) : wpAnyH P md l.toArray Q S (fuel + 1) listed a w :=
  wpAnyH_ready hr (by simp) (AllReadyH.cons (by simpa using ho) h AllReadyH.nil)
theorem want_yes {c : Bool} {A B : Prop} (hc : c = true) (h : A) : if c = true then A else B := by rw [if_pos hc]; exact h
theorem step_calls_w {ops : Array Oper} {o : Oper} {a : Act} {K : Act → World → Prop} {Q : Exit → Act → World → Prop} {E : Prop} {w : World} (hw : Region.wanted o (yielded ops a.tmps) = true) (f : FuncId) (args : Array Operand) (ats : Array TypeId)
    (ho : o.op = .call { callee := .value (.func f), args := args, argTypes := ats }) (vals : Array Value) (hv : args.map a.eval = vals) (hcf : (callFunc f vals).run Tryd.prog w = .ok (.enter f vals) w) (h : Calls Tryd.prog f vals w (fun x w' => (∃ v, x = .returned v ∧ K (a.put o.dst v) w') ∨ (∃ c, x = .panicked c ∧ Q (.panic c) a w'))) :
    if Region.wanted o (yielded ops a.tmps) = true then Oper.wp Tryd.prog o a w K Q else E := by
  rw [if_pos hw]
  unfold Oper.wp
  have he : (execOp a.eval o).run Tryd.prog w = .ok (.enter f vals) w := by
    subst hv
    simp [execOp, ho, resolve, invoke, Act.eval, go_sem]
    exact hcf
  rw [he, Oper.upon_enter]
  refine h.mono ?_
  rintro x w' (⟨v, rfl, hk⟩ | ⟨v, rfl, hk⟩)
  · exact hk
  · exact hk
end Go.Proofs.YtkgncijcnlfhiaaDoor

namespace Go.Proofs.YtkgncijcnlfhiaaDoor
set_option linter.unusedVariables false
set_option linter.unusedSimpArgs false
/-- the program's way: the names that were seen; none: one of them comes again -/
def twiceU (seen : List (List UInt8)) : List PExp → Option (List (List UInt8))
  | [] => some seen
  | e :: l => if e.name ∈ seen then none else twiceU (e.name :: seen) l
def twiceP (seen : List (List UInt8)) (k : Nat) : List PUnit → Option Nat
  | [] => none
  | u :: l => match twiceU seen u.exports with
    | none => some k
    | some s => twiceP s (k + 1) l
/-- the document's way: an export of unit m has a name that one ahead of it has, or one of those that were seen -/
def Tw (seen : List (List UInt8)) (l : List PUnit) (m : Nat) : Prop :=
  ∃ (u : PUnit) (i : Nat) (e : PExp), l[m]? = some u ∧ u.exports[i]? = some e ∧ (e.name ∈ seen ∨ (∃ (a : Nat) (u' : PUnit), a < m ∧ l[a]? = some u' ∧ ∃ e' ∈ u'.exports, e'.name = e.name) ∨ ∃ (j : Nat) (e' : PExp), j < i ∧ u.exports[j]? = some e' ∧ e'.name = e.name)
theorem twiceU_none : ∀ (exps : List PExp) (seen : List (List UInt8)), twiceU seen exps = none ↔ ∃ (i : Nat) (e : PExp), exps[i]? = some e ∧ (e.name ∈ seen ∨ ∃ (j : Nat) (e' : PExp), j < i ∧ exps[j]? = some e' ∧ e'.name = e.name)
  | [], seen => by simp [twiceU]
  | e :: l, seen => by
    by_cases h : e.name ∈ seen
    · rw [twiceU, if_pos h]
      exact ⟨fun _ => ⟨0, e, rfl, Or.inl h⟩, fun _ => rfl⟩
    · rw [twiceU, if_neg h, twiceU_none l]
      constructor
      · rintro ⟨i, e1, h1, h2⟩
        refine ⟨i + 1, e1, by simpa using h1, ?_⟩
        rcases h2 with h2 | ⟨j, e', hj, h3, h4⟩
        · rcases List.mem_cons.1 h2 with h2 | h2
          · exact Or.inr ⟨0, e, by omega, rfl, h2.symm⟩
          · exact Or.inl h2
        · exact Or.inr ⟨j + 1, e', by omega, by simpa using h3, h4⟩
      · rintro ⟨i, e1, h1, h2⟩
        cases i with
        | zero =>
          simp only [List.getElem?_cons_zero, Option.some.injEq] at h1
          subst h1
          rcases h2 with h2 | ⟨j, e', hj, _⟩
          · exact absurd h2 h
          · omega
        | succ i =>
          refine ⟨i, e1, by simpa using h1, ?_⟩
          rcases h2 with h2 | ⟨j, e', hj, h3, h4⟩
          · exact Or.inl (List.mem_cons_of_mem _ h2)
          · cases j with
            | zero =>
              simp only [List.getElem?_cons_zero, Option.some.injEq] at h3
              subst h3
              exact Or.inl (by rw [h4]; exact List.mem_cons_self)
            | succ j => exact Or.inr ⟨j, e', by omega, by simpa using h3, h4⟩
theorem twiceU_some : ∀ (exps : List PExp) (seen s : List (List UInt8)), twiceU seen exps = some s → ∀ n, n ∈ s ↔ n ∈ seen ∨ ∃ e ∈ exps, e.name = n
  | [], seen, s, h, n => by rw [twiceU] at h; cases h; simp
  | e :: l, seen, s, h, n => by
    rw [twiceU] at h
    by_cases hm : e.name ∈ seen
    · rw [if_pos hm] at h; cases h
    · rw [if_neg hm] at h
      rw [twiceU_some l _ s h n, List.mem_cons]
      constructor
      · rintro ((rfl | h1) | ⟨e1, h1, h2⟩)
        · exact Or.inr ⟨e, List.mem_cons_self, rfl⟩
        · exact Or.inl h1
        · exact Or.inr ⟨e1, List.mem_cons_of_mem _ h1, h2⟩
      · rintro (h1 | ⟨e1, h1, h2⟩)
        · exact Or.inl (Or.inr h1)
        · rcases List.mem_cons.1 h1 with rfl | h1
          · exact Or.inl (Or.inl h2.symm)
          · exact Or.inr ⟨e1, h1, h2⟩
theorem Tw_zero {seen : List (List UInt8)} {u : PUnit} {l : List PUnit} : Tw seen (u :: l) 0 ↔ twiceU seen u.exports = none := by
  rw [twiceU_none]
  constructor
  · rintro ⟨u', i, e, h1, h2, h3⟩
    simp only [List.getElem?_cons_zero, Option.some.injEq] at h1
    subst h1
    refine ⟨i, e, h2, ?_⟩
    rcases h3 with h3 | ⟨a, _, ha, _⟩ | h3
    · exact Or.inl h3
    · omega
    · exact Or.inr h3
  · rintro ⟨i, e, h2, h3⟩
    refine ⟨u, i, e, rfl, h2, ?_⟩
    rcases h3 with h3 | h3
    · exact Or.inl h3
    · exact Or.inr (Or.inr h3)
theorem Tw_succ {seen s : List (List UInt8)} {u : PUnit} {l : List PUnit} {m : Nat} (hs : twiceU seen u.exports = some s) : Tw seen (u :: l) (m + 1) ↔ Tw s l m := by
  have hm := twiceU_some _ _ _ hs
  constructor
  · rintro ⟨u1, i, e, h1, h2, h3⟩
    refine ⟨u1, i, e, by simpa using h1, h2, ?_⟩
    rcases h3 with h3 | ⟨a, u2, ha, h4, e2, h5, h6⟩ | h3
    · exact Or.inl ((hm _).2 (Or.inl h3))
    · cases a with
      | zero =>
        simp only [List.getElem?_cons_zero, Option.some.injEq] at h4
        subst h4
        exact Or.inl ((hm _).2 (Or.inr ⟨e2, h5, h6⟩))
      | succ a => exact Or.inr (Or.inl ⟨a, u2, by omega, by simpa using h4, e2, h5, h6⟩)
    · exact Or.inr (Or.inr h3)
  · rintro ⟨u1, i, e, h1, h2, h3⟩
    refine ⟨u1, i, e, by simpa using h1, h2, ?_⟩
    rcases h3 with h3 | ⟨a, u2, ha, h4, e2, h5, h6⟩ | h3
    · rcases (hm _).1 h3 with h3 | ⟨e2, h5, h6⟩
      · exact Or.inl h3
      · exact Or.inr (Or.inl ⟨0, u, by omega, rfl, e2, h5, h6⟩)
    · exact Or.inr (Or.inl ⟨a + 1, u2, by omega, by simpa using h4, e2, h5, h6⟩)
    · exact Or.inr (Or.inr h3)
theorem twiceP_none : ∀ (l : List PUnit) (seen : List (List UInt8)) (k : Nat), twiceP seen k l = none ↔ ∀ m, ¬ Tw seen l m
  | [], seen, k => by
    rw [twiceP]
    exact ⟨fun _ m ⟨u, i, e, h, _⟩ => by simp at h, fun _ => rfl⟩
  | u :: l, seen, k => by
    rw [twiceP]
    cases hs : twiceU seen u.exports with
    | none => exact ⟨fun h => (by cases h), fun h => absurd (Tw_zero.2 hs) (h 0)⟩
    | some s =>
      simp only
      rw [twiceP_none l s (k + 1)]
      constructor
      · intro h m
        cases m with
        | zero => rw [Tw_zero, hs]; simp
        | succ m => rw [Tw_succ hs]; exact h m
      · intro h m hm
        exact h (m + 1) ((Tw_succ hs).2 hm)
/-- the first unit to which it applies -/
theorem twiceP_some : ∀ (l : List PUnit) (seen : List (List UInt8)) (k q : Nat), twiceP seen k l = some q → ∃ m, q = k + m ∧ Tw seen l m ∧ ∀ m', m' < m → ¬ Tw seen l m'
  | [], seen, k, q, h => by rw [twiceP] at h; cases h
  | u :: l, seen, k, q, h => by
    rw [twiceP] at h
    cases hs : twiceU seen u.exports with
    | none =>
      rw [hs] at h
      cases h
      exact ⟨0, rfl, Tw_zero.2 hs, fun m' h => by omega⟩
    | some s =>
      rw [hs] at h
      simp only at h
      obtain ⟨m, h1, h2, h3⟩ := twiceP_some l s (k + 1) q h
      refine ⟨m + 1, by omega, (Tw_succ hs).2 h2, ?_⟩
      intro m' hm'
      cases m' with
      | zero => rw [Tw_zero, hs]; simp
      | succ m' => rw [Tw_succ hs]; exact h3 m' (by omega)
end Go.Proofs.YtkgncijcnlfhiaaDoor

namespace Go.Proofs.YtkgncijcnlfhiaaDoor
set_option linter.unusedVariables false
set_option linter.unusedSimpArgs false
def LocE (l : List PUnit) (n : List UInt8) (a b : Nat) (u : PUnit) (e : PExp) : Prop := l[a]? = some u ∧ u.exports[b]? = some e ∧ e.name = n
theorem LocE.ahead {l : List PUnit} {n : List UInt8} {a b a' b' : Nat} {u u' : PUnit} {e e' : PExp} (h : LocE l n a b u e) (h' : LocE l n a' b' u' e') (hlt : a < a' ∨ a = a' ∧ b < b') : Tw [] l a' := by
  obtain ⟨h1, h2, h3⟩ := h
  obtain ⟨k1, k2, k3⟩ := h'
  refine ⟨u', b', e', k1, k2, Or.inr ?_⟩
  rcases hlt with hlt | ⟨rfl, hlt⟩
  · exact Or.inl ⟨a, u, hlt, h1, e, List.mem_of_getElem? h2, by rw [h3, k3]⟩
  · rw [h1] at k1
    cases k1
    exact Or.inr ⟨b, e, hlt, h2, by rw [h3, k3]⟩
/-- where no name comes twice, it stands at one place -/
theorem LocE.unique {l : List PUnit} (hn : ∀ m, ¬ Tw [] l m) {n : List UInt8} {a b a' b' : Nat} {u u' : PUnit} {e e' : PExp} (h : LocE l n a b u e) (h' : LocE l n a' b' u' e') : a = a' ∧ b = b' ∧ u = u' ∧ e = e' := by
  have ha : a = a' := by
    rcases Nat.lt_trichotomy a a' with c | c | c
    · exact absurd (h.ahead h' (Or.inl c)) (hn _)
    · exact c
    · exact absurd (h'.ahead h (Or.inl c)) (hn _)
  have hb : b = b' := by
    rcases Nat.lt_trichotomy b b' with c | c | c
    · exact absurd (h.ahead h' (Or.inr ⟨ha, c⟩)) (hn _)
    · exact c
    · exact absurd (h'.ahead h (Or.inr ⟨ha.symm, c⟩)) (hn _)
  subst ha; subst hb
  have hu : u = u' := by have := h.1.symm.trans h'.1; cases this; rfl
  subst hu
  have he : e = e' := by have := h.2.1.symm.trans h'.2.1; cases this; rfl
  exact ⟨rfl, rfl, rfl, he⟩
def aheadC (l : List PUnit) (k : Nat) : Nat := ((l.take k).map fun u => u.consts.length).sum
def aheadF (l : List PUnit) (k : Nat) : Nat := ((l.take k).map fun u => u.funcs.length).sum
theorem aheadC_succ {l : List PUnit} {k : Nat} {u : PUnit} (h : l[k]? = some u) : aheadC l (k + 1) = aheadC l k + u.consts.length := by
  obtain ⟨hk, rfl⟩ := List.getElem?_eq_some_iff.1 h
  unfold aheadC; rw [List.take_succ_eq_append_getElem hk, List.map_append, List.sum_append_nat]; simp only [List.map_cons, List.map_nil, List.sum_cons, List.sum_nil, Nat.add_zero]
theorem aheadF_succ {l : List PUnit} {k : Nat} {u : PUnit} (h : l[k]? = some u) : aheadF l (k + 1) = aheadF l k + u.funcs.length := by
  obtain ⟨hk, rfl⟩ := List.getElem?_eq_some_iff.1 h
  unfold aheadF; rw [List.take_succ_eq_append_getElem hk, List.map_append, List.sum_append_nat]; simp only [List.map_cons, List.map_nil, List.sum_cons, List.sum_nil, Nat.add_zero]
/-- a number of unit u among all units: c consts and f functions stand ahead; N: the number of an exported function -/
def movedP (N : List UInt8 → Int) (u : PUnit) (c f : Nat) (i : PIns) : PIns :=
  if i.op = 0 then { i with a := if i.a < u.consts.length then c + i.a else 65535 }
  else if i.op = 13 then { i with a := if i.a < u.funcs.length then f + i.a else match u.imports[(i.a - u.funcs.length).toNat]? with
    | some g => N g.name
    | none => 65535 }
  else i
def movedF (N : List UInt8 → Int) (u : PUnit) (c f : Nat) (g : PFunc) : PFunc := { g with code := g.code.map (movedP N u c f) }
def movedE (f : Nat) (e : PExp) : PExp := { e with func := f + e.func }
/-- the units from number k on, behind c consts and f functions -/
def joinF (N : List UInt8 → Int) : Nat → Nat → List PUnit → List Int × List PFunc × List PExp
  | _, _, [] => ([], [], [])
  | c, f, u :: l =>
    let r := joinF N (c + u.consts.length) (f + u.funcs.length) l
    (u.consts ++ r.1, u.funcs.map (movedF N u c f) ++ r.2.1, u.exports.map (movedE f) ++ r.2.2)
end Go.Proofs.YtkgncijcnlfhiaaDoor

namespace Go.Proofs.YtkgncijcnlfhiaaDoor
set_option linter.unusedVariables false
set_option linter.unusedSimpArgs false
def expoU (n : List UInt8) (a : Nat) : List PExp → Nat × Nat × Int → Nat × Nat × Int
  | [], r => r
  | e :: l, r => expoU n a l (if e.name = n then (r.1 + 1, a, e.func) else r)
def expoL (n : List UInt8) : Nat → List PUnit → Nat × Nat × Int → Nat × Nat × Int
  | _, [], r => r
  | a, u :: l, r => expoL n (a + 1) l (expoU n a u.exports r)
theorem expoU_spec (n : List UInt8) (a : Nat) : ∀ (l : List PExp) (r : Nat × Nat × Int), (expoU n a l r = r ∧ ∀ e ∈ l, e.name ≠ n) ∨ (r.1 < (expoU n a l r).1 ∧ ∃ (b : Nat) (e : PExp), l[b]? = some e ∧ e.name = n ∧ (expoU n a l r).2 = (a, e.func))
  | [], r => Or.inl ⟨rfl, by simp⟩
  | e :: l, r => by
    rw [expoU]
    by_cases h : e.name = n
    · rw [if_pos h]
      rcases expoU_spec n a l (r.1 + 1, a, e.func) with ⟨h1, _⟩ | ⟨h1, b, e', h2, h3, h4⟩
      · rw [h1]; exact Or.inr ⟨by simp, 0, e, rfl, h, rfl⟩
      · exact Or.inr ⟨by simp only at h1; omega, b + 1, e', by simpa using h2, h3, h4⟩
    · rw [if_neg h]
      rcases expoU_spec n a l r with ⟨h1, h2⟩ | ⟨h1, b, e', h2, h3, h4⟩
      · refine Or.inl ⟨h1, ?_⟩
        intro x hx
        rcases List.mem_cons.1 hx with rfl | hx
        · exact h
        · exact h2 x hx
      · exact Or.inr ⟨h1, b + 1, e', by simpa using h2, h3, h4⟩
theorem expoL_spec (n : List UInt8) : ∀ (l : List PUnit) (a : Nat) (r : Nat × Nat × Int), (expoL n a l r = r ∧ ∀ u ∈ l, ∀ e ∈ u.exports, e.name ≠ n) ∨ (r.1 < (expoL n a l r).1 ∧ ∃ (m b : Nat) (u : PUnit) (e : PExp), LocE l n m b u e ∧ (expoL n a l r).2 = (a + m, e.func))
  | [], a, r => Or.inl ⟨rfl, by simp⟩
  | u :: l, a, r => by
    rw [expoL]
    rcases expoU_spec n a u.exports r with ⟨h1, h2⟩ | ⟨h1, b, e, h2, h3, h4⟩
    · rw [h1]
      rcases expoL_spec n l (a + 1) r with ⟨k1, k2⟩ | ⟨k1, m, b, v, e, k2, k3⟩
      · refine Or.inl ⟨k1, ?_⟩
        intro x hx
        rcases List.mem_cons.1 hx with rfl | hx
        · exact h2
        · exact k2 x hx
      · exact Or.inr ⟨k1, m + 1, b, v, e, ⟨by simpa using k2.1, k2.2⟩, by rw [k3]; congr 1; omega⟩
    · rcases expoL_spec n l (a + 1) (expoU n a u.exports r) with ⟨k1, k2⟩ | ⟨k1, m, b, v, e, k2, k3⟩
      · rw [k1]
        exact Or.inr ⟨h1, 0, b, u, e, ⟨rfl, h2, h3⟩, h4⟩
      · exact Or.inr ⟨by omega, m + 1, b, v, e, ⟨by simpa using k2.1, k2.2⟩, by rw [k3]; congr 1; omega⟩
/-- the program's way: each exported function, and its number -/
def tgtU (u : PUnit) (f : Nat) : List PExp → (List UInt8 → Option (PFunc × Int)) → List UInt8 → Option (PFunc × Int)
  | [], N => N
  | e :: l, N => tgtU u f l (fun n => if n = e.name then (u.funcs[e.func.toNat]?).map fun g => (g, (f : Int) + e.func) else N n)
def tgtL : Nat → List PUnit → (List UInt8 → Option (PFunc × Int)) → List UInt8 → Option (PFunc × Int)
  | _, [], N => N
  | f, u :: l, N => tgtL (f + u.funcs.length) l (tgtU u f u.exports N)
theorem tgtU_spec (u : PUnit) (f : Nat) (n : List UInt8) : ∀ (l : List PExp) (N : List UInt8 → Option (PFunc × Int)), (tgtU u f l N n = N n ∧ ∀ e ∈ l, e.name ≠ n) ∨ ∃ (b : Nat) (e : PExp), l[b]? = some e ∧ e.name = n ∧ tgtU u f l N n = (u.funcs[e.func.toNat]?).map fun g => (g, (f : Int) + e.func)
  | [], N => Or.inl ⟨rfl, by simp⟩
  | e :: l, N => by
    rw [tgtU]
    rcases tgtU_spec u f n l (fun n => if n = e.name then (u.funcs[e.func.toNat]?).map fun g => (g, (f : Int) + e.func) else N n) with ⟨h1, h2⟩ | ⟨b, e', h2, h3, h4⟩
    · rw [h1]
      by_cases h : n = e.name
      · rw [if_pos h]; exact Or.inr ⟨0, e, rfl, h.symm, rfl⟩
      · rw [if_neg h]
        refine Or.inl ⟨rfl, ?_⟩
        intro x hx
        rcases List.mem_cons.1 hx with rfl | hx
        · exact fun c => h c.symm
        · exact h2 x hx
    · exact Or.inr ⟨b + 1, e', by simpa using h2, h3, h4⟩
theorem aheadF_cons (u : PUnit) (l : List PUnit) (m : Nat) : aheadF (u :: l) (m + 1) = u.funcs.length + aheadF l m := by simp [aheadF]
theorem tgtL_spec (n : List UInt8) : ∀ (l : List PUnit) (f : Nat) (N : List UInt8 → Option (PFunc × Int)), (tgtL f l N n = N n ∧ ∀ u ∈ l, ∀ e ∈ u.exports, e.name ≠ n) ∨ ∃ (m b : Nat) (u : PUnit) (e : PExp), LocE l n m b u e ∧ tgtL f l N n = (u.funcs[e.func.toNat]?).map fun g => (g, ((f + aheadF l m : Nat) : Int) + e.func)
  | [], f, N => Or.inl ⟨rfl, by simp⟩
  | u :: l, f, N => by
    rw [tgtL]
    rcases tgtL_spec n l (f + u.funcs.length) (tgtU u f u.exports N) with ⟨k1, k2⟩ | ⟨m, b, v, e, k2, k3⟩
    · rw [k1]
      rcases tgtU_spec u f n u.exports N with ⟨h1, h2⟩ | ⟨b, e, h2, h3, h4⟩
      · refine Or.inl ⟨h1, ?_⟩
        intro x hx
        rcases List.mem_cons.1 hx with rfl | hx
        · exact h2
        · exact k2 x hx
      · exact Or.inr ⟨0, b, u, e, ⟨rfl, h2, h3⟩, by rw [h4]; simp [aheadF]⟩
    · refine Or.inr ⟨m + 1, b, v, e, ⟨by simpa using k2.1, k2.2⟩, ?_⟩
      rw [k3, aheadF_cons, Nat.add_assoc]
/-- both ways find the same -/
theorem found_same {l : List PUnit} (hn : ∀ m, ¬ Tw [] l m) (n : List UInt8) :
    ((expoL n 0 l (0, 0, 0)).1 = 0 ∧ tgtL 0 l (fun _ => none) n = none ∧ ∀ u ∈ l, ∀ e ∈ u.exports, e.name ≠ n) ∨
    (0 < (expoL n 0 l (0, 0, 0)).1 ∧ ∃ (b : Nat) (u : PUnit) (e : PExp), LocE l n (expoL n 0 l (0, 0, 0)).2.1 b u e ∧ (expoL n 0 l (0, 0, 0)).2.2 = e.func ∧
      tgtL 0 l (fun _ => none) n = (u.funcs[e.func.toNat]?).map fun g => (g, (aheadF l (expoL n 0 l (0, 0, 0)).2.1 : Int) + e.func)) := by
  rcases expoL_spec n l 0 (0, 0, 0) with ⟨h1, h2⟩ | ⟨h1, m, b, u, e, h2, h3⟩
  · refine Or.inl ⟨by rw [h1], ?_, h2⟩
    rcases tgtL_spec n l 0 (fun _ => none) with ⟨k1, _⟩ | ⟨m, b, u, e, k2, _⟩
    · exact k1
    · exact absurd k2.2.2 (h2 u (List.mem_of_getElem? k2.1) e (List.mem_of_getElem? k2.2.1))
  · refine Or.inr ⟨h1, b, u, e, ?_, by rw [h3], ?_⟩
    · rw [h3]; simpa using h2
    · rcases tgtL_spec n l 0 (fun _ => none) with ⟨_, k2⟩ | ⟨m', b', u', e', k2, k3⟩
      · exact absurd h2.2.2 (k2 u (List.mem_of_getElem? h2.1) e (List.mem_of_getElem? h2.2.1))
      · obtain ⟨rfl, rfl, rfl, rfl⟩ := h2.unique hn k2
        rw [k3, h3]; simp
end Go.Proofs.YtkgncijcnlfhiaaDoor

namespace Go.Proofs.YtkgncijcnlfhiaaDoor
set_option linter.unusedVariables false
set_option linter.unusedSimpArgs false
/-- the first unit to which it applies -/
def firstU (p : PUnit → Bool) : Nat → List PUnit → Option Nat
  | _, [] => none
  | k, u :: l => if p u = true then some k else firstU p (k + 1) l
def tgtN (l : List PUnit) (n : List UInt8) : Int := match tgtL 0 l (fun _ => none) n with
  | some (_, k) => k
  | none => 0
def alikeI (N : List UInt8 → Option (PFunc × Int)) (i : PImp) : Bool := match N i.name with
  | some (g, _) => decide (i.params = g.params ∧ i.result = g.result)
  | none => false
def linkP : List PUnit → PUnit ⊕ (Int × Nat)
  | [] => .inr (4, 0)
  | h :: t =>
    let l := h :: t
    let N := tgtL 0 l (fun _ => none)
    if 6 < l.length then .inr (4, 0)
    else match firstU (fun u => !unitOk u) 0 l with
    | some k => .inr (1, k)
    | none => match firstU (fun u => !decide (u.shapes = h.shapes)) 0 l with
    | some k => .inr (5, k)
    | none => match twiceP [] 0 l with
    | some k => .inr (6, k)
    | none => match firstU (fun u => u.imports.any fun i => !(N i.name).isSome) 0 l with
    | some k => .inr (7, k)
    | none => match firstU (fun u => u.imports.any fun i => !alikeI N i) 0 l with
    | some k => .inr (8, k)
    | none =>
      let r := joinF (tgtN l) 0 0 l
      if 30 < r.2.1.length ∨ 50 < r.1.length ∨ 20 < r.2.2.length then .inr (9, 0) else .inl ⟨h.shapes, r.1, r.2.1, [], r.2.2⟩
theorem firstU_none {p : PUnit → Bool} : ∀ (l : List PUnit) (k : Nat), firstU p k l = none ↔ ∀ u ∈ l, p u = false
  | [], k => by simp [firstU]
  | u :: l, k => by
    rw [firstU]
    cases h : p u with
    | true => simp [h]
    | false => simp [h, firstU_none l (k + 1)]
theorem firstU_some {p : PUnit → Bool} : ∀ (l : List PUnit) (k q : Nat), firstU p k l = some q ↔ ∃ m u, q = k + m ∧ l[m]? = some u ∧ p u = true ∧ ∀ m' u', m' < m → l[m']? = some u' → p u' = false
  | [], k, q => by simp [firstU]
  | u :: l, k, q => by
    rw [firstU]
    cases h : p u with
    | true =>
      simp only [if_true, Option.some.injEq]
      constructor
      · rintro rfl; exact ⟨0, u, rfl, rfl, h, fun m' u' h => by omega⟩
      · rintro ⟨m, v, h1, h2, h3, h4⟩
        cases m with
        | zero => omega
        | succ m => have := h4 0 u (by omega) rfl; rw [h] at this; cases this
    | false =>
      simp only [Bool.false_eq_true, if_false]
      rw [firstU_some l (k + 1) q]
      constructor
      · rintro ⟨m, v, h1, h2, h3, h4⟩
        refine ⟨m + 1, v, by omega, by simpa using h2, h3, ?_⟩
        intro m' u' hm hu
        cases m' with
        | zero => simp only [List.getElem?_cons_zero, Option.some.injEq] at hu; subst hu; exact h
        | succ m' => exact h4 m' u' (by omega) (by simpa using hu)
      · rintro ⟨m, v, h1, h2, h3, h4⟩
        cases m with
        | zero => simp only [List.getElem?_cons_zero, Option.some.injEq] at h2; subst h2; rw [h] at h3; cases h3
        | succ m => exact ⟨m, v, by omega, by simpa using h2, h3, fun m' u' hm hu => h4 (m' + 1) u' (by omega) (by simpa using hu)⟩
end Go.Proofs.YtkgncijcnlfhiaaDoor

