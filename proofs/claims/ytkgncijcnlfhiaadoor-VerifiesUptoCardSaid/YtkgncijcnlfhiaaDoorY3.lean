import Derived.Test.YtkgncijcnlfhiaaDoorW3
namespace Go.Proofs.YtkgncijcnlfhiaaDoor
set_option linter.unusedVariables false
set_option linter.unusedSimpArgs false
def swp (a : Nat → Int) (i j : Nat) : Nat → Int := fun k => if k = i then a j else if k = j then a i else a k
def Hp (a : Nat → Int) (n : Nat) : Prop := ∀ i, 0 < i → i < n → a ((i - 1) / 2) ≤ a i
/-- all but at place j, which may be too small -/
structure HpUp (a : Nat → Int) (n j : Nat) : Prop where
  rest : ∀ i, 0 < i → i < n → i ≠ j → a ((i - 1) / 2) ≤ a i
  over : ∀ i, 0 < i → i < n → (i - 1) / 2 = j → 0 < j → a ((j - 1) / 2) ≤ a i
/-- all but below place i, which may be too great -/
structure HpDn (a : Nat → Int) (n i : Nat) : Prop where
  rest : ∀ c, 0 < c → c < n → (c - 1) / 2 ≠ i → a ((c - 1) / 2) ≤ a c
  over : ∀ c, 0 < c → c < n → (c - 1) / 2 = i → 0 < i → a ((i - 1) / 2) ≤ a c
theorem Hp.root {a : Nat → Int} {n : Nat} (h : Hp a n) : ∀ i, i < n → a 0 ≤ a i := by
  intro i
  induction i using Nat.strongRecOn with
  | _ i ih =>
    intro hi
    by_cases h0 : i = 0
    · subst h0; exact Int.le_refl _
    · exact Int.le_trans (ih ((i - 1) / 2) (by omega) (by omega)) (h i (by omega) hi)
/-- the same numbers, each once -/
structure Same (a b : Nat → Int) (n : Nat) : Prop where
  mem : ∀ x, (∃ i, i < n ∧ a i = x) ↔ ∃ i, i < n ∧ b i = x
  inj : (∀ i j, i < n → j < n → a i = a j → i = j) → ∀ i j, i < n → j < n → b i = b j → i = j
theorem Same.refl (a : Nat → Int) (n : Nat) : Same a a n := ⟨fun _ => Iff.rfl, fun h => h⟩
theorem Same.trans {a b c : Nat → Int} {n : Nat} (h : Same a b n) (k : Same b c n) : Same a c n := ⟨fun x => (h.mem x).trans (k.mem x), fun hi => k.inj (h.inj hi)⟩
def sg (i j k : Nat) : Nat := if k = i then j else if k = j then i else k
theorem swp_sg (a : Nat → Int) (i j k : Nat) : swp a i j k = a (sg i j k) := by unfold swp sg; split <;> (try split) <;> rfl
theorem swp_same {a : Nat → Int} {n i j : Nat} (hi : i < n) (hj : j < n) : Same a (swp a i j) n := by
  refine ⟨fun x => ⟨?_, ?_⟩, fun hin p q hp hq h => ?_⟩
  · rintro ⟨k, hk, rfl⟩
    by_cases h1 : k = i
    · refine ⟨j, hj, ?_⟩; unfold swp; split
      · rename_i e; rw [h1, e]
      · simp [h1]
    · by_cases h2 : k = j
      · exact ⟨i, hi, by unfold swp; simp [h2]⟩
      · exact ⟨k, hk, by unfold swp; simp [h1, h2]⟩
  · rintro ⟨k, hk, rfl⟩
    unfold swp; split
    · exact ⟨j, hj, rfl⟩
    · split
      · exact ⟨i, hi, rfl⟩
      · exact ⟨k, hk, rfl⟩
  · rw [swp_sg, swp_sg] at h
    have := hin (sg i j p) (sg i j q) (by unfold sg; split <;> (try split) <;> omega) (by unfold sg; split <;> (try split) <;> omega) h
    unfold sg at this
    split at this <;> split at this <;> (try split at this) <;> (try split at this) <;> omega
/-- up: a step, or it is a heap -/
theorem HpUp.stop {a : Nat → Int} {n j : Nat} (h : HpUp a n j) (hs : j = 0 ∨ a ((j - 1) / 2) ≤ a j) : Hp a n := by
  intro i h0 hi
  by_cases hij : i = j
  · subst hij
    rcases hs with e | e
    · omega
    · exact e
  · exact h.rest i h0 hi hij
theorem HpUp.step {a : Nat → Int} {n j : Nat} (h : HpUp a n j) (hj : j < n) (h0 : 0 < j) (hl : a j < a ((j - 1) / 2)) : HpUp (swp a ((j - 1) / 2) j) n ((j - 1) / 2) := by
  generalize hp : (j - 1) / 2 = p at h hl ⊢
  have hpj : p < j := by omega
  refine ⟨fun i i0 i1 i2 => ?_, fun i i0 i1 i2 i3 => ?_⟩
  · unfold swp
    by_cases e1 : (i - 1) / 2 = p
    · rw [if_pos e1, if_neg i2]
      by_cases e2 : i = j
      · rw [if_pos e2]; omega
      · rw [if_neg e2]
        have := h.rest i i0 i1 e2
        rw [e1] at this; omega
    · rw [if_neg e1, if_neg i2]
      by_cases e2 : (i - 1) / 2 = j
      · rw [if_pos e2, if_neg (by omega)]
        have := h.over i i0 i1 e2 h0
        rw [hp] at this; exact this
      · rw [if_neg e2]
        by_cases e3 : i = j
        · subst e3; omega
        · rw [if_neg e3]; exact h.rest i i0 i1 e3
  · unfold swp
    have hpp : (p - 1) / 2 ≠ p := by omega
    have hppj : (p - 1) / 2 ≠ j := by omega
    rw [if_neg hpp, if_neg hppj]
    have h1 := h.rest p i3 (by omega) (by omega)
    rw [if_neg (show ¬ i = p by omega)]
    by_cases e2 : i = j
    · rw [if_pos e2]; exact h1
    · rw [if_neg e2]
      have := h.rest i i0 i1 e2
      rw [i2] at this; omega
/-- down: it is a heap, or a step to the lesser child -/
theorem HpDn.stop {a : Nat → Int} {n i : Nat} (h : HpDn a n i) (hs : ∀ c, 0 < c → c < n → (c - 1) / 2 = i → a i ≤ a c) : Hp a n := by
  intro c h0 hc
  by_cases e : (c - 1) / 2 = i
  · rw [e]; exact hs c h0 hc e
  · exact h.rest c h0 hc e
theorem HpDn.step {a : Nat → Int} {n i c : Nat} (h : HpDn a n i) (hc0 : 0 < c) (hc : c < n) (hci : (c - 1) / 2 = i) (hl : a c < a i) (hm : ∀ d, 0 < d → d < n → (d - 1) / 2 = i → a c ≤ a d) : HpDn (swp a i c) n c := by
  have hic : i < c := by omega
  refine ⟨fun d d0 d1 d2 => ?_, fun d d0 d1 d2 d3 => ?_⟩
  · unfold swp
    by_cases e1 : (d - 1) / 2 = i
    · rw [if_pos e1, if_neg (show ¬ d = i by omega)]
      by_cases e2 : d = c
      · rw [if_pos e2]; omega
      · rw [if_neg e2]; exact hm d d0 d1 e1
    · rw [if_neg e1, if_neg d2]
      by_cases e2 : d = i
      · rw [if_pos e2]
        subst e2
        have := h.over c hc0 hc hci d0
        exact this
      · rw [if_neg e2]
        by_cases e3 : d = c
        · subst e3; exact absurd hci e1
        · rw [if_neg e3]; exact h.rest d d0 d1 e1
  · unfold swp
    rw [if_pos hci, if_neg (show ¬ d = i by omega), if_neg (show ¬ d = c by omega)]
    have := h.rest d d0 d1 (by omega)
    rw [d2] at this; exact this
/-- what is pushed stands at the end: all but it is a heap -/
theorem Hp.push {a : Nat → Int} {n : Nat} (h : Hp a n) (x : Int) : HpUp (fun k => if k = n then x else a k) (n + 1) n := by
  refine ⟨fun i i0 i1 i2 => ?_, fun i i0 i1 i2 i3 => by omega⟩
  rw [if_neg (show ¬ (i - 1) / 2 = n by omega), if_neg i2]
  exact h i i0 (by omega)
/-- the first and the last are swapped: all but below the first is a heap -/
theorem Hp.pop {a : Nat → Int} {n : Nat} (h : Hp a (n + 1)) : HpDn (swp a 0 n) n 0 := by
  refine ⟨fun c c0 c1 c2 => ?_, fun c c0 c1 c2 c3 => by omega⟩
  unfold swp
  rw [if_neg c2, if_neg (show ¬ (c - 1) / 2 = n by omega), if_neg (show ¬ c = 0 by omega), if_neg (show ¬ c = n by omega)]
  exact h c c0 (by omega)
end Go.Proofs.YtkgncijcnlfhiaaDoor

namespace Go.Proofs.YtkgncijcnlfhiaaDoor
set_option linter.unusedVariables false
set_option linter.unusedSimpArgs false
/-- of kind -1: any, the one that was taken -/
def effP (u : PUnit) (f : PFunc) (i : PIns) : Option (List Int × List Int) :=
  let slots := f.params ++ f.locals
  let shape : Option (List Int) := if 1 ≤ i.a then u.shapes[(i.a - 1).toNat]? else none
  if i.op = 0 then (if i.a < u.consts.length then some ([], [0]) else none)
  else if i.op = 1 then some ([], [0])
  else if i.op = 2 then slots[i.a.toNat]?.map fun k => ([], [k])
  else if i.op = 3 then slots[i.a.toNat]?.map fun k => ([k], [])
  else if i.op = 4 then some ([-1], [])
  else if i.op = 5 then some ([-1], [-1, -1])
  else if i.op = 6 ∨ i.op = 7 ∨ i.op = 8 ∨ i.op = 9 ∨ i.op = 10 then some ([0, 0], [0])
  else if i.op = 11 then (if i.a < f.code.length then some ([], []) else none)
  else if i.op = 12 then (if i.a < f.code.length then some ([0], []) else none)
  else if i.op = 13 then
    (match u.funcs[i.a.toNat]? with
    | some g => some (g.params, [g.result])
    | none => u.imports[i.a.toNat - u.funcs.length]?.map fun g => (g.params, [g.result]))
  else if i.op = 14 then some ([f.result], [])
  else if i.op = 15 then shape.map fun s => (s, [i.a])
  else if i.op = 16 then shape.bind fun s => s[i.b.toNat]?.map fun k => ([i.a], [k])
  else if i.op = 17 then shape.bind fun s => s[i.b.toNat]?.map fun k => ([i.a, k], [])
  else if i.op = 18 then shape.map fun _ => ([], [i.a])
  else if i.op = 19 then shape.map fun _ => ([i.a], [0])
  else if i.op = 20 then some ([0], [])
  else none
/-- does what lies on top fit? -/
def fitsP : List Int → List Int → Bool
  | [], [] => true
  | t :: ts, s :: ss => (decide (t < 0) || decide (t = s)) && fitsP ts ss
  | _, _ => false
/-- what was taken as any -/
def anyP : List Int → List Int → Int
  | t :: ts, s :: ss => if t < 0 then s else anyP ts ss
  | _, _ => 0
/-- the stack behind an instruction; none: it is wrong -/
def doneP (u : PUnit) (f : PFunc) (i : PIns) (stack : List Int) : Option (List Int) :=
  match effP u f i with
  | none => none
  | some (ts, ps) =>
    if stack.length < ts.length then none
    else if fitsP ts (stack.drop (stack.length - ts.length)) = false then none
    else
      let out := stack.take (stack.length - ts.length) ++ ps.map fun p => if p < 0 then anyP ts (stack.drop (stack.length - ts.length)) else p
      if out.length ≤ 20 ∧ (i.op ≠ 14 ∨ stack.length = ts.length) then some out else none
/-- which may come next; none: the one behind the last -/
def nextP (f : PFunc) (q : Nat) (i : PIns) : List (Option Nat) :=
  let behind := if q + 1 < f.code.length then some (q + 1) else none
  if i.op = 11 then [some i.a.toNat] else if i.op = 14 then [] else if i.op = 12 then [behind, some i.a.toNat] else [behind]
/-- they are come to -/
def comesP (s : List Int) (q : Nat) : List (Option Nat) → (Nat → Option (List Int)) → Nat ⊕ (Nat → Option (List Int))
  | [], st => .inr st
  | none :: _, _ => .inl q
  | some t :: l, st =>
    match st t with
    | some s0 => if s0 = s then comesP s q l st else .inl t
    | none => comesP s q l (fun k => if k = t then some s else st k)
/-- the least that was come to and not looked at -/
def leastP (n : Nat) (st : Nat → Option (List Int)) (dn : Nat → Bool) : Option Nat := (List.range n).find? fun k => (st k).isSome && !dn k
/-- the instruction that is wrong -/
def lookP (u : PUnit) (f : PFunc) : Nat → (Nat → Option (List Int)) → (Nat → Bool) → Option Nat
  | 0, _, _ => none
  | k + 1, st, dn =>
    match leastP f.code.length st dn with
    | none => none
    | some q =>
      match f.code[q]?, st q with
      | some i, some s =>
        match doneP u f i s with
        | none => some q
        | some s' =>
          match comesP s' q (nextP f q i) st with
          | .inl t => some t
          | .inr st' => lookP u f k st' (fun j => decide (j = q) || dn j)
      | _, _ => none
def wrongP (u : PUnit) (f : PFunc) : Option Nat := lookP u f (f.code.length + 1) (fun k => if k = 0 then some [] else none) (fun _ => false)
/-- the functions, one behind the other -/
def funcsP (u : PUnit) : Nat → List PFunc → Int × Nat × Nat
  | _, [] => (0, 0, 0)
  | k, f :: l => match wrongP u f with
    | some q => (10, k, q)
    | none => funcsP u (k + 1) l
def verifyP (u : PUnit) : Int × Nat × Nat := if unitOk u then funcsP u 0 u.funcs else (1, 0, 0)
theorem leastP_some {n : Nat} {st : Nat → Option (List Int)} {dn : Nat → Bool} {q : Nat} : leastP n st dn = some q ↔ q < n ∧ ((st q).isSome && !dn q) = true ∧ ∀ k, k < q → ((st k).isSome && !dn k) = false := by
  unfold leastP
  rw [List.find?_range_eq_some]
  constructor
  · rintro ⟨h1, h2, h3⟩
    exact ⟨by simpa using h2, h1, fun k hk => by
      have h4 : (!((st k).isSome && !dn k)) = true := h3 k hk
      rwa [Bool.not_eq_true'] at h4⟩
  · rintro ⟨h1, h2, h3⟩
    exact ⟨h2, by simpa using h1, fun k hk => by
      show (!((st k).isSome && !dn k)) = true
      rw [Bool.not_eq_true']; exact h3 k hk⟩
theorem leastP_none {n : Nat} {st : Nat → Option (List Int)} {dn : Nat → Bool} : leastP n st dn = none ↔ ∀ k, k < n → ((st k).isSome && !dn k) = false := by
  unfold leastP
  rw [List.find?_eq_none]
  constructor
  · intro h k hk
    have := h k (List.mem_range.2 hk)
    simpa using this
  · intro h k hk
    have := h k (List.mem_range.1 hk)
    simpa using this
end Go.Proofs.YtkgncijcnlfhiaaDoor

namespace Go.Proofs.YtkgncijcnlfhiaaDoor
set_option linter.unusedVariables false
set_option linter.unusedSimpArgs false
def effQ (u : PUnit) (f : PFunc) (i : PIns) (stack : List Int) : Option (List Int × List Int) :=
  if i.op = 4 then stack.getLast?.map fun k => ([k], [])
  else if i.op = 5 then stack.getLast?.map fun k => ([k], [k, k])
  else effP u f i
def doneQ (u : PUnit) (f : PFunc) (i : PIns) (stack : List Int) : Option (List Int) :=
  match effQ u f i stack with
  | none => none
  | some (ts, ps) =>
    if stack.length < ts.length ∨ stack.drop (stack.length - ts.length) ≠ ts then none
    else if i.op = 14 then (if stack.length = ts.length then some (stack.take (stack.length - ts.length) ++ ps) else none)
    else if (stack.take (stack.length - ts.length) ++ ps).length ≤ 20 then some (stack.take (stack.length - ts.length) ++ ps) else none
theorem fitsP_eq : ∀ (ts s : List Int), (∀ t ∈ ts, 0 ≤ t) → fitsP ts s = decide (s = ts)
  | [], [], _ => by simp [fitsP]
  | [], _ :: _, _ => by simp [fitsP]
  | _ :: _, [], _ => by simp [fitsP]
  | t :: ts, s :: ss, h => by
    have ht : ¬ t < 0 := by have := h t (by simp); omega
    rw [fitsP, fitsP_eq ts ss (fun x hx => h x (by simp [hx]))]
    rw [Bool.eq_iff_iff]
    simp only [Bool.and_eq_true, Bool.or_eq_true, decide_eq_true_eq, ht, false_or, List.cons.injEq]
    exact ⟨fun h => ⟨h.1.symm, h.2⟩, fun h => ⟨h.1.symm, h.2⟩⟩
theorem puts_eq (a : Int) : ∀ (ps : List Int), (∀ p ∈ ps, 0 ≤ p) → (ps.map fun p => if p < 0 then a else p) = ps
  | [], _ => rfl
  | p :: ps, h => by
    have hp : ¬ p < 0 := by have := h p (by simp); omega
    rw [List.map_cons, if_neg hp, puts_eq a ps (fun x hx => h x (by simp [hx]))]
theorem last_split {s : List Int} {k : Int} (h : s.getLast? = some k) : ∃ t, s = t ++ [k] := List.getLast?_eq_some_iff.1 h
/-- only what was taken is asked for; what Ret leaves is nothing -/
theorem effP_ret {u : PUnit} {f : PFunc} {i : PIns} {ts ps : List Int} (h : i.op = 14) (he : effP u f i = some (ts, ps)) : ts = [f.result] ∧ ps = [] := by
  unfold effP at he
  simp [h] at he
  exact ⟨he.1.symm, he.2⟩
theorem doneQ_eq {u : PUnit} {f : PFunc} {i : PIns} (s : List Int) (hn : ∀ ts ps, effP u f i = some (ts, ps) → i.op ≠ 4 → i.op ≠ 5 → (∀ t ∈ ts, 0 ≤ t) ∧ (∀ p ∈ ps, 0 ≤ p)) : doneQ u f i s = doneP u f i s := by
  by_cases h4 : i.op = 4
  · have hP : effP u f i = some ([-1], []) := by unfold effP; simp [h4]
    unfold doneQ doneP effQ
    rw [hP, if_pos h4]
    cases hl : s.getLast? with
    | none => rw [List.getLast?_eq_none_iff] at hl; subst hl; simp
    | some k =>
      obtain ⟨t, rfl⟩ := last_split hl
      simp [fitsP, h4]
  · by_cases h5 : i.op = 5
    · have hP : effP u f i = some ([-1], [-1, -1]) := by unfold effP; simp [h5]
      unfold doneQ doneP effQ
      rw [hP, if_neg h4, if_pos h5]
      cases hl : s.getLast? with
      | none => rw [List.getLast?_eq_none_iff] at hl; subst hl; simp
      | some k =>
        obtain ⟨t, rfl⟩ := last_split hl
        simp [fitsP, anyP, h5]
    · unfold doneQ doneP effQ
      rw [if_neg h4, if_neg h5]
      cases hP : effP u f i with
      | none => rfl
      | some p =>
        obtain ⟨ts, ps⟩ := p
        obtain ⟨h1, h2⟩ := hn ts ps hP h4 h5
        simp only
        rw [fitsP_eq ts _ h1, puts_eq _ ps h2]
        by_cases hl : s.length < ts.length
        · rw [if_pos hl, if_pos (Or.inl hl)]
        · rw [if_neg hl]
          by_cases hd : s.drop (s.length - ts.length) = ts
          · have c1 : ¬ (s.length < ts.length ∨ s.drop (s.length - ts.length) ≠ ts) := fun h => h.elim hl (fun h => h hd)
            have c2 : ¬ (decide (s.drop (s.length - ts.length) = ts) = false) := by simp [hd]
            rw [if_neg c1, if_neg c2]
            by_cases h14 : i.op = 14
            · obtain ⟨e1, e2⟩ := effP_ret h14 hP
              rw [if_pos h14]
              by_cases hs : s.length = ts.length
              · rw [if_pos hs, if_pos ⟨by rw [hs, e2]; simp, Or.inr hs⟩]
              · have c3 : ¬ ((s.take (s.length - ts.length) ++ ps).length ≤ 20 ∧ (i.op ≠ 14 ∨ s.length = ts.length)) := fun h => h.2.elim (fun h => h h14) hs
                rw [if_neg hs, if_neg c3]
            · rw [if_neg h14]
              simp [h14]
          · have c4 : decide (s.drop (s.length - ts.length) = ts) = false := by simp [hd]
            rw [if_pos (Or.inr hd), if_pos c4]
/-- of a well formed unit no kind is below 0 -/
theorem inB_nn {n k : Int} (h : inB n k = true) : 0 ≤ k := by unfold inB wB at h; simp at h; exact h.1
theorem allB_nn {n : Int} {l : List Int} (h : l.all (inB n) = true) : ∀ k ∈ l, 0 ≤ k := fun k hk => inB_nn (List.all_eq_true.1 h k hk)
theorem sig_nn {ps : List Int} {r n : Int} (h : sigOk ps r n = true) : (∀ k ∈ ps, 0 ≤ k) ∧ 0 ≤ r := by
  unfold sigOk at h; simp only [Bool.and_eq_true] at h
  exact ⟨allB_nn h.2.1, inB_nn h.2.2⟩
theorem func_nn {f : PFunc} {n : Int} (h : funcOk n f = true) : (∀ k ∈ f.params, 0 ≤ k) ∧ 0 ≤ f.result ∧ (∀ k ∈ f.locals, 0 ≤ k) ∧ f.code.all insOk = true ∧ 1 ≤ f.code.length := by
  unfold funcOk codeOk at h; simp only [Bool.and_eq_true] at h
  have h1 := sig_nn h.1
  have h2 := h.2.2.2.1
  unfold wB at h2; simp at h2
  exact ⟨h1.1, h1.2, allB_nn h.2.2.1, h.2.2.2.2, by omega⟩
theorem get_mem {α : Type} {l : List α} {k : Nat} {x : α} (h : l[k]? = some x) : x ∈ l := List.mem_of_getElem? h
theorem eff_nn {u : PUnit} {f : PFunc} {i : PIns} (hu : unitOk u = true) (hf : f ∈ u.funcs) : ∀ ts ps, effP u f i = some (ts, ps) → i.op ≠ 4 → i.op ≠ 5 → (∀ t ∈ ts, 0 ≤ t) ∧ (∀ p ∈ ps, 0 ≤ p) := by
  intro ts ps he n4 n5
  unfold unitOk shapesOk funcsOk importsOk at hu
  simp only [Bool.and_eq_true] at hu
  obtain ⟨⟨-, hsh⟩, -, ⟨-, hfs⟩, ⟨-, him⟩, -⟩ := hu
  have hF : ∀ g ∈ u.funcs, (∀ k ∈ g.params, 0 ≤ k) ∧ 0 ≤ g.result ∧ (∀ k ∈ g.locals, 0 ≤ k) ∧ g.code.all insOk = true ∧ 1 ≤ g.code.length := fun g hg => func_nn (List.all_eq_true.1 hfs g hg)
  have hI : ∀ g ∈ u.imports, (∀ k ∈ g.params, 0 ≤ k) ∧ 0 ≤ g.result := by
    intro g hg
    have := List.all_eq_true.1 him g hg
    unfold impOk at this; simp only [Bool.and_eq_true] at this
    exact sig_nn this.2
  have hS : ∀ (k : Nat) s, u.shapes[k]? = some s → ∀ x ∈ s, 0 ≤ x := by
    intro k s h
    have := List.all_eq_true.1 hsh s (get_mem h)
    unfold shapeOk at this; simp only [Bool.and_eq_true] at this
    exact allB_nn this.2
  have hsl : ∀ (k : Nat) x, (f.params ++ f.locals)[k]? = some x → 0 ≤ x := by
    intro k x h
    rcases List.mem_append.1 (get_mem h) with h | h
    · exact (hF f hf).1 x h
    · exact (hF f hf).2.2.1 x h
  have hshape : ∀ s, (if 1 ≤ i.a then u.shapes[(i.a - 1).toNat]? else none) = some s → 0 ≤ i.a ∧ ∀ x ∈ s, 0 ≤ x := by
    intro s h
    by_cases ha : 1 ≤ i.a
    · rw [if_pos ha] at h; exact ⟨by omega, hS _ s h⟩
    · rw [if_neg ha] at h; cases h
  unfold effP at he
  generalize hsE : (if 1 ≤ i.a then u.shapes[(i.a - 1).toNat]? else none) = S at he hshape
  by_cases c0 : i.op = 0
  · rw [if_pos c0] at he
    split at he
    · cases he; simp
    · cases he
  rw [if_neg c0] at he
  by_cases c1 : i.op = 1
  · rw [if_pos c1] at he
    cases he; simp
  rw [if_neg c1] at he
  by_cases c2 : i.op = 2
  · rw [if_pos c2] at he
    rw [Option.map_eq_some_iff] at he; obtain ⟨k, hk, e⟩ := he; cases e; simpa using hsl _ _ hk
  rw [if_neg c2] at he
  by_cases c3 : i.op = 3
  · rw [if_pos c3] at he
    rw [Option.map_eq_some_iff] at he; obtain ⟨k, hk, e⟩ := he; cases e; simpa using hsl _ _ hk
  rw [if_neg c3] at he
  by_cases c4 : i.op = 4
  · rw [if_pos c4] at he
    exact absurd c4 n4
  rw [if_neg c4] at he
  by_cases c5 : i.op = 5
  · rw [if_pos c5] at he
    exact absurd c5 n5
  rw [if_neg c5] at he
  by_cases c6 : i.op = 6 ∨ i.op = 7 ∨ i.op = 8 ∨ i.op = 9 ∨ i.op = 10
  · rw [if_pos c6] at he
    cases he; simp
  rw [if_neg c6] at he
  by_cases c7 : i.op = 11
  · rw [if_pos c7] at he
    split at he
    · cases he; simp
    · cases he
  rw [if_neg c7] at he
  by_cases c8 : i.op = 12
  · rw [if_pos c8] at he
    split at he
    · cases he; simp
    · cases he
  rw [if_neg c8] at he
  by_cases c9 : i.op = 13
  · rw [if_pos c9] at he
    split at he
    · rename_i g hg
      cases he
      have := hF g (get_mem hg)
      exact ⟨this.1, by simpa using this.2.1⟩
    · rw [Option.map_eq_some_iff] at he; obtain ⟨g, hg, e⟩ := he; cases e
      have := hI g (get_mem hg)
      exact ⟨this.1, by simpa using this.2⟩
  rw [if_neg c9] at he
  by_cases c10 : i.op = 14
  · rw [if_pos c10] at he
    cases he; simpa using (hF f hf).2.1
  rw [if_neg c10] at he
  by_cases c11 : i.op = 15
  · rw [if_pos c11] at he
    rw [Option.map_eq_some_iff] at he; obtain ⟨s, hs, e⟩ := he; cases e
    obtain ⟨ha, hx⟩ := hshape _ hs
    exact ⟨hx, by simpa using ha⟩
  rw [if_neg c11] at he
  by_cases c12 : i.op = 16
  · rw [if_pos c12] at he
    rw [Option.bind_eq_some_iff] at he; obtain ⟨s, hs, he⟩ := he
    rw [Option.map_eq_some_iff] at he; obtain ⟨k, hk, e⟩ := he; cases e
    obtain ⟨ha, hx⟩ := hshape _ hs
    exact ⟨by simpa using ha, by simpa using hx k (get_mem hk)⟩
  rw [if_neg c12] at he
  by_cases c13 : i.op = 17
  · rw [if_pos c13] at he
    rw [Option.bind_eq_some_iff] at he; obtain ⟨s, hs, he⟩ := he
    rw [Option.map_eq_some_iff] at he; obtain ⟨k, hk, e⟩ := he; cases e
    obtain ⟨ha, hx⟩ := hshape _ hs
    have := hx k (get_mem hk)
    refine ⟨?_, by simp⟩
    intro t ht; simp at ht; rcases ht with rfl | rfl <;> assumption
  rw [if_neg c13] at he
  by_cases c14 : i.op = 18
  · rw [if_pos c14] at he
    rw [Option.map_eq_some_iff] at he; obtain ⟨s, hs, e⟩ := he; cases e
    obtain ⟨ha, hx⟩ := hshape _ hs
    exact ⟨by simp, by simpa using ha⟩
  rw [if_neg c14] at he
  by_cases c15 : i.op = 19
  · rw [if_pos c15] at he
    rw [Option.map_eq_some_iff] at he; obtain ⟨s, hs, e⟩ := he; cases e
    obtain ⟨ha, hx⟩ := hshape _ hs
    exact ⟨by simpa using ha, by simp⟩
  rw [if_neg c15] at he
  by_cases c16 : i.op = 20
  · rw [if_pos c16] at he
    cases he; simp
  rw [if_neg c16] at he
  cases he
end Go.Proofs.YtkgncijcnlfhiaaDoor

