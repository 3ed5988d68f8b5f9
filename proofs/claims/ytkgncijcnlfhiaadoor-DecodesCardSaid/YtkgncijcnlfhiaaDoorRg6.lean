import Derived.Test.YtkgncijcnlfhiaaDoorW3
namespace Go.Proofs.YtkgncijcnlfhiaaDoor
set_option linter.unusedVariables false
set_option linter.unusedSimpArgs false
open Go.RowKit
theorem takeL {P : Program} {l : List Oper} {md : Region.Mode} {Q : Exit → Act → World → Prop} {S : World → Prop} {i : Nat} {oi : Oper} {v : Value} {fuel : Nat} {listed : Array Bool} {a : Act} {w : World} (hi : l[i]? = some oi)
    (hs : Region.noSelect l.toArray = true) (hf : Region.free md l.toArray listed i = true) (hr : (Region.ready md l.toArray listed).contains i = true)
    (hQ : ∀ c a w, Q (.panic c) (a.put oi.dst v) w → Q (.panic c) a w) (hw : Region.wanted oi (yielded l.toArray a.tmps) = true) (hy : ∀ w, S w → (execOp a.eval oi).run P w = .ok (.value v) w) (hS : S w)
    (h : wpAnyH P md l.toArray Q S fuel (listed.setIfInBounds i true) (a.put oi.dst v) w) : wpAnyH P md l.toArray Q S (fuel + 1) listed a w :=
  wpAnyH_take (by simpa using hi) hs hf hr hQ (.inl ⟨hw, hy⟩) hS h
/-- one alone may come up -/
theorem aloneL {P : Program} {l : List Oper} {md : Region.Mode} {Q : Exit → Act → World → Prop} {S : World → Prop} {i : Nat} {o : Oper} {fuel : Nat} {listed : Array Bool} {a : Act} {w : World} (ho : l[i]? = some o) (hr : Region.ready md l.toArray listed = [i])
    (h : ∀ K' : Act → World → Prop, Shut (∀ a w, S w → (S w → wpAnyH P md l.toArray Q S fuel (listed.setIfInBounds i true) a w) → K' a w) → if Region.wanted o (yielded l.toArray a.tmps) = true then Oper.wp P o a w K' Q else K' (a.put o.dst undef) w) : wpAnyH P md l.toArray Q S (fuel + 1) listed a w :=
  wpAnyH_ready hr (by simp) (AllReadyH.cons (by simpa using ho) h AllReadyH.nil)
theorem want_yes {c : Bool} {A B : Prop} (hc : c = true) (h : A) : if c = true then A else B := by rw [if_pos hc]; exact h
theorem step_calls_w {ops : Array Oper} {o : Oper} {a : Act} {K : Act → World → Prop} {Q : Exit → Act → World → Prop} {E : Prop} {w : World} (hw : Region.wanted o (yielded ops a.tmps) = true) (f : FuncId) (args : Array Operand) (ats : Array TypeId)
    (ho : o.op = .call { callee := .value (.func f), args := args, argTypes := ats }) (vals : Array Value) (hv : args.map a.eval = vals) (hcf : (callFunc f vals).run Tryd.prog w = .ok (.enter f vals) w) (h : Calls Tryd.prog f vals w (fun x w' => (∃ v, x = .returned v ∧ K (a.put o.dst v) w') ∨ (∃ c, x = .panicked c ∧ Q (.panic c) a w'))) :
    if Region.wanted o (yielded ops a.tmps) = true then Oper.wp Tryd.prog o a w K Q else E := by
  rw [if_pos hw]
  unfold Oper.wp
  have he : (execOp a.eval o).run Tryd.prog w = .ok (.enter f vals) w := by
    subst hv
    simp [execOp, ho, resolve, invoke, Act.eval, go_sem]
    exact hcf
  rw [he, Oper.upon_enter]
  refine h.mono ?_
  rintro x w' (⟨v, rfl, hk⟩ | ⟨v, rfl, hk⟩)
  · exact hk
  · exact hk
end Go.Proofs.YtkgncijcnlfhiaaDoor

namespace Go.Proofs.YtkgncijcnlfhiaaDoor
set_option linter.unusedVariables false
set_option linter.unusedSimpArgs false
open Go.RowKit
section
variable {P : Program} {ops : Array Oper} {Q : Exit → Act → World → Prop} {md : Region.Mode} {S : World → Prop}
inductive Waits (md : Region.Mode) (ops : Array Oper) (listed : Array Bool) (i : Nat) : Nat → Prop
  | one {z : Nat} {oz : Oper} (hz : ops[z]? = some oz) (hi : ∃ e ∈ oz.after, Region.binds md e = true ∧ e.on = i) (hl : listed.getD i true = false) : Waits md ops listed i z
  | more {z d : Nat} {oz : Oper} (hz : ops[z]? = some oz) (hi : ∃ e ∈ oz.after, Region.binds md e = true ∧ e.on = d) (hl : listed.getD d true = false) (h : Waits md ops listed i d) : Waits md ops listed i z
theorem not_ready {listed : Array Bool} {z d : Nat} {oz : Oper} (hz : ops[z]? = some oz) (hi : ∃ e ∈ oz.after, Region.binds md e = true ∧ e.on = d) (hl : listed.getD d true = false) : ¬ z ∈ Region.ready md ops listed := fun hr => by
  obtain ⟨_, o, ho, hall⟩ := mem_ready.1 hr
  rw [hz] at ho
  cases ho
  obtain ⟨e, he, hb, rfl⟩ := hi
  have h1 := hall e he hb
  rcases Nat.lt_or_ge e.on listed.size with h' | h'
  · simp [h'] at hl h1; rw [hl] at h1; cases h1
  · simp [Array.getElem?_eq_none h'] at h1
theorem Waits.not_ready {listed : Array Bool} {i z : Nat} (h : Waits md ops listed i z) : ¬ z ∈ Region.ready md ops listed := by
  cases h with
  | one hz hi hl => exact Go.Proofs.YtkgncijcnlfhiaaDoor.not_ready hz hi hl
  | more hz hi hl _ => exact Go.Proofs.YtkgncijcnlfhiaaDoor.not_ready hz hi hl
theorem Waits.list {listed : Array Bool} {i z j : Nat} (hj : j ∈ Region.ready md ops listed) (hji : j ≠ i) (h : Waits md ops listed i z) : Waits md ops (listed.setIfInBounds j true) i z := by
  induction h with
  | one hz hi hl => exact .one hz hi (by rw [getD_set_ne true hji]; exact hl)
  | @more z d oz hz hi hl h ih =>
    have hjd : j ≠ d := fun e => h.not_ready (e ▸ hj)
    exact .more hz hi (by rw [getD_set_ne true hjd]; exact hl) ih
end
section
variable {P : Program} {l : List Oper} {md : Region.Mode} {Q : Exit → Act → World → Prop} {S : World → Prop}
/-- number z waits for number i, by a way of at most so many -/
def ywaits (md : Region.Mode) (l : List Oper) (listed : Array Bool) (i : Nat) : Nat → Nat → Bool
  | 0, _ => false
  | n + 1, z => match l[z]? with
    | some oz => oz.after.toList.any fun e => Region.binds md e && (!listed.getD e.on true && (Nat.beq e.on i || ywaits md l listed i n e.on))
    | none => false
theorem ywaits_spec {listed : Array Bool} {i : Nat} : ∀ {n z : Nat}, ywaits md l listed i n z = true → Waits md l.toArray listed i z
  | 0, z, h => by cases h
  | n + 1, z, h => by
    unfold ywaits at h
    cases hz : l[z]? with
    | none => rw [hz] at h; cases h
    | some oz =>
      rw [hz] at h
      simp only [List.any_eq_true, Bool.and_eq_true, Bool.or_eq_true, Bool.not_eq_true', Nat.beq_eq] at h
      obtain ⟨e, he, h1, h2, h3⟩ := h
      have he' : e ∈ oz.after := by simpa using he
      rcases h3 with h3 | h3
      · exact .one (by simpa using hz) ⟨e, he', h1, h3⟩ (h3 ▸ h2)
      · exact .more (by simpa using hz) ⟨e, he', h1, rfl⟩ h2 (ywaits_spec h3)
end
end Go.Proofs.YtkgncijcnlfhiaaDoor

namespace Go.Proofs.YtkgncijcnlfhiaaDoor
set_option linter.unusedVariables false
set_option linter.unusedSimpArgs false
open Go.RowKit
section
variable {P : Program} {ops : Array Oper} {Q : Exit → Act → World → Prop} {md : Region.Mode} {S : World → Prop}
def wpAnyS (P : Program) (md : Region.Mode) (ops : Array Oper) (Q : Exit → Act → World → Prop) (S : World → Prop) (zs : List Nat) : Nat → Array Bool → Act → World → Prop
  | 0, listed, a, w => Region.ready md ops listed = [] ∧ Q .normal a w
  | fuel + 1, listed, a, w =>
    (Region.ready md ops listed = [] → Q .normal a w) ∧
    ∀ i ∈ Region.ready md ops listed, wpOp P ops Q i (fun a' w' => (zs.contains i = false → S w') ∧ wpAnyS P md ops Q S zs fuel (listed.setIfInBounds i true) a' w') a w
theorem wpAny_of_s {zs : List Nat} : ∀ (fuel : Nat) (listed : Array Bool) (a : Act) (w : World), wpAnyS P md ops Q S zs fuel listed a w → wpAny P md ops Q fuel listed a w
  | 0, _, _, _, h => h
  | fuel + 1, _, _, _, h => ⟨h.1, fun i hi => wpOp_mono (fun a' w' h' => wpAny_of_s fuel _ a' w' h'.2) (h.2 i hi)⟩
theorem wpAnyS_first {zs : List Nat} {i : Nat} {oi : Oper} {v : Value} (hi : ops[i]? = some oi) (hsel : ∀ (j : Nat) (o : Oper) cs b, ops[j]? = some o → o.op ≠ .select cs b)
    (hQ : ∀ c a w, Q (.panic c) (a.put oi.dst v) w → Q (.panic c) a w) :
    ∀ (fuel : Nat) (listed : Array Bool) (a : Act) (w : World), (∀ z, zs.contains z = true → Waits md ops listed i z) →
      (∀ j oj, ops[j]? = some oj → j ≠ i → listed.getD j true = false → (∀ e ∈ oj.after, Region.binds md e = true → e.on ≠ i) → oi.apart ops oj = true) →
      i ∈ Region.ready md ops listed → YieldsIf P ops S oi v a → S w →
      wpAnyS P md ops Q S zs fuel (listed.setIfInBounds i true) (a.put oi.dst v) w → wpAnyS P md ops Q S zs (fuel + 1) listed a w := by
  intro fuel
  induction fuel with
  | zero =>
    intro listed a w hw _ hr hy hS H
    refine ⟨fun h => (by rw [h] at hr; cases hr), fun j hj => ?_⟩
    by_cases hji : j = i
    · subst hji; exact hy.wpOp hi hS ⟨fun _ => hS, H⟩
    · have := ready_mono hj hji
      rw [H.1] at this
      cases this
  | succ fuel ih =>
    intro listed a w hw hfree hr hy hS H
    refine ⟨fun h => (by rw [h] at hr; cases hr), fun j hj => ?_⟩
    by_cases hji : j = i
    · subst hji; exact hy.wpOp hi hS ⟨fun _ => hS, H⟩
    · have h1 := H.2 j (ready_mono hj hji)
      obtain ⟨hjun, oj, hoj, hall⟩ := mem_ready.1 hj
      have hnot : ∀ e ∈ oj.after, Region.binds md e = true → e.on ≠ i := fun e he hb heq => by
        have h1 := hall e he hb
        have h0 := (mem_ready.1 hr).1
        rw [heq] at h1
        rcases Nat.lt_or_ge i listed.size with h' | h'
        · simp [h'] at h0 h1; rw [h0] at h1; cases h1
        · simp [Array.getElem?_eq_none h'] at h1
      have hjz : zs.contains j = false := by
        cases e : zs.contains j with
        | false => rfl
        | true => exact absurd hj (hw j e).not_ready
      have h2 := wpOp_putIf hoj (hfree j oj hoj hji hjun hnot) (fun cs b => hsel i oi cs b hi) (fun cs b => hsel j oj cs b hoj) hQ hy h1
      have hfree' : ∀ k ok, ops[k]? = some ok → k ≠ i → (listed.setIfInBounds j true).getD k true = false →
          (∀ e ∈ ok.after, Region.binds md e = true → e.on ≠ i) → oi.apart ops ok = true := fun k ok hk hki hun hno => by
        refine hfree k ok hk hki ?_ hno
        by_cases hjk : j = k
        · subst hjk; exact hjun
        · rw [getD_set_ne true hjk] at hun; exact hun
      refine wpOp_mono (fun a' w' h3 => ⟨h3.2.1, ih (listed.setIfInBounds j true) a' w' (fun z hz => (hw z hz).list hj hji) hfree' (ready_mono hr (Ne.symm hji)) h3.1 (h3.2.1 hjz) ?_⟩) h2
      rw [Array.setIfInBounds_comm _ _ hji]
      exact h3.2.2
end
section
variable {P : Program} {l : List Oper} {md : Region.Mode} {Q : Exit → Act → World → Prop} {S : World → Prop}
theorem takeS {zs : List Nat} {i : Nat} {oi : Oper} {v : Value} {fuel : Nat} {listed : Array Bool} {a : Act} {w : World} (hi : l[i]? = some oi) (hzw : (zs.all fun z => ywaits md l listed i 20 z) = true)
    (hs : Region.noSelect l.toArray = true) (hf : Region.free md l.toArray listed i = true) (hr : (Region.ready md l.toArray listed).contains i = true)
    (hQ : ∀ c a w, Q (.panic c) (a.put oi.dst v) w → Q (.panic c) a w) (hw : Region.wanted oi (yielded l.toArray a.tmps) = true) (hy : ∀ w, S w → (execOp a.eval oi).run P w = .ok (.value v) w) (hS : S w)
    (h : wpAnyS P md l.toArray Q S zs fuel (listed.setIfInBounds i true) (a.put oi.dst v) w) : wpAnyS P md l.toArray Q S zs (fuel + 1) listed a w :=
  wpAnyS_first (by simpa using hi) (Region.noSelect_spec hs) hQ fuel listed a w (fun z hz => ywaits_spec (List.all_eq_true.1 hzw z (by simpa using hz))) (Region.free_spec (by simpa using hi) hf) (by simpa using hr) (.inl ⟨hw, hy⟩) hS h
theorem aloneS {zs : List Nat} {i : Nat} {o : Oper} {fuel : Nat} {listed : Array Bool} {a : Act} {w : World} (ho : l[i]? = some o) (hr : Region.ready md l.toArray listed = [i])
    (h : ∀ K' : Act → World → Prop, Shut (∀ a w, (zs.contains i = false → S w) → wpAnyS P md l.toArray Q S zs fuel (listed.setIfInBounds i true) a w → K' a w) → if Region.wanted o (yielded l.toArray a.tmps) = true then Oper.wp P o a w K' Q else K' (a.put o.dst undef) w) : wpAnyS P md l.toArray Q S zs (fuel + 1) listed a w := by
  refine ⟨fun h0 => absurd (hr ▸ h0) (by simp), hr ▸ fun j hj => ?_⟩
  obtain rfl : j = i := by simpa using hj
  exact wpOp_step (by simpa using ho) (fun K' hK => h K' (fun a w hS hW => hK a w ⟨hS, hW⟩))
theorem doneS {zs : List Nat} {listed : Array Bool} {a : Act} {w : World} (hr : Region.ready md l.toArray listed = []) (h : Q .normal a w) : ∀ fuel, wpAnyS P md l.toArray Q S zs fuel listed a w
  | 0 => ⟨hr, h⟩
  | _ + 1 => ⟨fun _ => h, by rw [hr]; simp⟩
theorem wp_region_s (zs : List Nat) {id : Nat} {a : Act} {w : World} (hm : P.follows .mixedOrders = true) (hS : S w.drew)
    (h : S w.drew → wpAnyS P .any l.toArray Q S zs l.toArray.size (Array.replicate l.toArray.size false) a w.drew) : (Code.region id l.toArray true).wp P Q a w :=
  wp_region_any hm (wpAny_of_s _ _ _ _ (h hS))
end
end Go.Proofs.YtkgncijcnlfhiaaDoor

