import Derived.Test.YtkgncijcnlfhiaaQ4
namespace Go.Proofs.Ytkgncijcnlfhiaa
set_option linter.unusedVariables false
set_option linter.unusedSimpArgs false
/- what was written is read -/
def Fwd {α : Type} (f : List UInt8 → Option (α × List UInt8)) (g : α → List UInt8) (Q : α → Prop) : Prop := ∀ y r, Q y → f (g y ++ r) = some (y, r)

theorem unzig_zig {x : Int} : unzig (zig x) = x := by
  unfold unzig zig; split
  · rw [if_pos (by omega)]; omega
  · rw [if_neg (by omega)]; omega
def Fit (x : Int) : Prop := -9223372036854775808 ≤ x ∧ x ≤ 9223372036854775807
def Whole (x : Int) : Prop := 0 ≤ x ∧ x ≤ 9223372036854775807
theorem signed_fwd : Fwd rdSigned encSigned Fit := by
  intro y r h
  unfold rdSigned encSigned
  rw [num_fwd r (zig_lt h.1 h.2)]
  simp [unzig_zig]
theorem whole_fwd : Fwd rdWhole encWhole Whole := by
  intro y r h
  unfold rdWhole encWhole
  have h1 := h.1
  have h2 := h.2
  rw [num_fwd r (by omega)]
  simp only
  rw [if_pos (by omega)]
  simp; omega
theorem text_fwd : Fwd rdText encText (fun s => s.length < 18446744073709551616) := by
  intro y r h
  unfold rdText encText
  rw [List.append_assoc, num_fwd _ h]
  exact take_fwd y r
theorem rdN_fwd {α : Type} {f : List UInt8 → Option (α × List UInt8)} {g : α → List UInt8} {Q : α → Prop} (hf : Fwd f g Q) : ∀ (ys : List α) (r : List UInt8), (∀ y ∈ ys, Q y) → rdN f ys.length (ys.flatMap g ++ r) = some (ys, r)
  | [], r, _ => rfl
  | y :: ys, r, h => by
    have h1 := hf y (ys.flatMap g ++ r) (h y List.mem_cons_self)
    have h2 := rdN_fwd hf ys r (fun z hz => h z (List.mem_cons_of_mem _ hz))
    simp only [List.flatMap_cons, List.length_cons, List.append_assoc]
    unfold rdN
    rw [h1]
    simp only [h2]
theorem flat_ge {α : Type} {g : α → List UInt8} (hg : ∀ y, 1 ≤ (g y).length) : ∀ ys : List α, ys.length ≤ (ys.flatMap g).length
  | [] => by simp
  | y :: ys => by
    have := flat_ge hg ys
    have := hg y
    simp only [List.flatMap_cons, List.length_cons, List.length_append]; omega
theorem list_fwd {α : Type} {f : List UInt8 → Option (α × List UInt8)} {g : α → List UInt8} {Q : α → Prop} (hf : Fwd f g Q) (hg : ∀ y, 1 ≤ (g y).length) : Fwd (rdList f) (encs g) (fun ys => ys.length < 18446744073709551616 ∧ ∀ y ∈ ys, Q y) := by
  intro ys r h
  unfold rdList encs
  rw [List.append_assoc, num_fwd _ h.1]
  simp only
  rw [if_pos (by have := flat_ge hg ys; simp only [List.length_append]; omega)]
  exact rdN_fwd hf ys r h.2
theorem num_ge (n : Nat) : 1 ≤ (num n).length := (numF_len 10 n).2
theorem kinds_fwd : Fwd rdKinds encKinds (fun ys => ys.length < 18446744073709551616 ∧ ∀ y ∈ ys, Whole y) := list_fwd whole_fwd (fun y => num_ge _)
theorem imp_fwd : Fwd rdImp encImp (fun i => i.name.length < 18446744073709551616 ∧ (i.params.length < 18446744073709551616 ∧ ∀ y ∈ i.params, Whole y) ∧ Whole i.result) := by
  intro y r h
  unfold rdImp encImp
  rw [List.append_assoc, text_fwd _ _ h.1]
  simp only
  rw [List.append_assoc, kinds_fwd _ _ h.2.1]
  simp only
  have := whole_fwd y.result r h.2.2
  unfold encWhole at this
  rw [this]
theorem exp_fwd : Fwd rdExp encExp (fun e => e.name.length < 18446744073709551616 ∧ Whole e.func) := by
  intro y r h
  unfold rdExp encExp
  rw [List.append_assoc, text_fwd _ _ h.1]
  simp only
  have := whole_fwd y.func r h.2
  unfold encWhole at this
  rw [this]
end Go.Proofs.Ytkgncijcnlfhiaa
namespace Go.Proofs.Ytkgncijcnlfhiaa
set_option linter.unusedVariables false
set_option linter.unusedSimpArgs false

theorem ins_fwd : Fwd rdIns encIns (fun i => insOk i = true) := by
  intro y r h
  unfold insOk at h
  simp only [Bool.and_eq_true] at h
  obtain ⟨h1, h2, h3⟩ := h
  have h1' : 0 ≤ y.op ∧ y.op ≤ 20 := by simpa [wB] using h1
  have hb : (((UInt8.ofNat y.op.toNat).toNat : Nat) : Int) = y.op := (byte_op h1'.1 h1'.2).symm
  unfold rdIns encIns
  simp only [List.cons_append, rdByte, hb]
  rw [if_pos h1]
  by_cases e1 : y.op = 1
  · rw [if_pos e1, if_pos e1]
    rw [if_pos e1] at h2
    have h2' : -2147483648 ≤ y.a ∧ y.a ≤ 2147483647 := by simpa [wB] using h2
    have hN : operandsN y.op = 1 := by rw [e1]; decide
    have h3' : y.b = 0 := by rw [hN] at h3; simpa [operandOk] using h3
    have hs := signed_fwd y.a r ⟨by omega, by omega⟩
    unfold encSigned at hs
    rw [hs]
    simp only
    rw [← h3']
  · rw [if_neg e1, if_neg e1]
    rw [if_neg e1] at h2
    rcases operandsN_cases y.op with hN | hN | hN
    · rw [if_pos hN]
      have h2' : y.a = 0 := by rw [hN] at h2; simpa [operandOk] using h2
      have h3' : y.b = 0 := by rw [hN] at h3; simpa [operandOk] using h3
      simp only [hN]
      simp
      cases y; simp_all
    · rw [if_neg (by omega)]
      have h2' : 0 ≤ y.a ∧ y.a ≤ 65535 := by rw [hN] at h2; simpa [operandOk, wB] using h2
      have h3' : y.b = 0 := by rw [hN] at h3; simpa [operandOk] using h3
      have hs := whole_fwd y.a r ⟨by omega, by omega⟩
      unfold encWhole at hs
      simp only [hN]
      simp only [show (1 : Int) ≤ 1 by decide, show ¬ (2 : Int) ≤ 1 by decide, if_true, if_false, List.append_nil, hs]
      rw [← h3']
    · rw [if_neg (by omega)]
      have h2' : 0 ≤ y.a ∧ y.a ≤ 65535 := by rw [hN] at h2; simpa [operandOk, wB] using h2
      have h3' : 0 ≤ y.b ∧ y.b ≤ 65535 := by rw [hN] at h3; simpa [operandOk, wB] using h3
      have hs := whole_fwd y.a (num y.b.toNat ++ r) ⟨by omega, by omega⟩
      have hs2 := whole_fwd y.b r ⟨by omega, by omega⟩
      unfold encWhole at hs hs2
      simp only [hN]
      simp only [show (1 : Int) ≤ 2 by decide, show (2 : Int) ≤ 2 by decide, if_true, List.append_assoc, hs, show ¬ (2 : Int) = 1 by decide, if_false, hs2]

theorem inB_whole {n : Int} (hn : n ≤ 1000000) {x : Int} (h : inB n x = true) : Whole x := by
  have : 0 ≤ x ∧ x ≤ n := by simpa [inB, wB] using h
  exact ⟨this.1, by omega⟩
theorem all_whole {n : Int} (hn : n ≤ 1000000) {l : List Int} (h : l.all (inB n) = true) : ∀ y ∈ l, Whole y := fun y hy => inB_whole hn (List.all_eq_true.1 h y hy)
theorem wB_le {n l m : Int} (h : wB n l m = true) : l ≤ n ∧ n ≤ m := by simpa [wB] using h
theorem func_fwd {n : Int} (hn : n ≤ 1000000) : Fwd rdFunc encFunc (fun f => funcOk n f = true) := by
  intro y r h
  unfold funcOk sigOk codeOk at h
  simp only [Bool.and_eq_true] at h
  obtain ⟨⟨p1, p2, p3⟩, l1, l2, c1, c2⟩ := h
  have q1 := wB_le p1
  have q2 := wB_le l1
  have q3 := wB_le c1
  unfold rdFunc encFunc
  rw [List.append_assoc, kinds_fwd _ _ ⟨by omega, all_whole hn p2⟩]
  simp only
  rw [List.append_assoc, kinds_fwd _ _ ⟨by omega, all_whole hn l2⟩]
  simp only
  have hs := whole_fwd y.result (encs encIns y.code ++ r) (inB_whole hn p3)
  unfold encWhole at hs
  rw [List.append_assoc, hs]
  simp only
  rw [list_fwd ins_fwd (fun i => by unfold encIns; simp) y.code r ⟨by omega, fun i hi => List.all_eq_true.1 c2 i hi⟩]
end Go.Proofs.Ytkgncijcnlfhiaa
namespace Go.Proofs.Ytkgncijcnlfhiaa
set_option linter.unusedVariables false
set_option linter.unusedSimpArgs false

theorem body_fwd {α : Type} {f : List UInt8 → Option (List α × List UInt8)} {g : List α → List UInt8} {Q : List α → Prop} (hf : Fwd f g Q) {y : List α} (hy : Q y) : rdBody f (g y) = some y := by
  have h := hf y [] hy
  rw [List.append_nil] at h
  unfold rdBody; rw [h]
theorem unit_parts {u : PUnit} (h : unitOk u = true) : shapesOk u.shapes = true ∧ constsOk u.consts = true ∧ funcsOk u.funcs u.shapes.length = true ∧ importsOk u.imports u.shapes.length = true ∧ exportsOk u.exports u.funcs.length = true := by
  unfold unitOk at h
  simp only [Bool.and_eq_true] at h
  obtain ⟨h1, h2, h3, h4, h5⟩ := h
  exact ⟨h1, h2, h3, h4, h5⟩
structure Bodies (u : PUnit) : Prop where
  b1 : rdBody (rdList rdKinds) (body1 u) = some u.shapes
  b2 : rdBody (rdList rdSigned) (body2 u) = some u.consts
  b3 : rdBody (rdList rdFunc) (body3 u) = some u.funcs
  b4 : rdBody (rdList rdImp) (body4 u) = some u.imports
  b5 : rdBody (rdList rdExp) (body5 u) = some u.exports
theorem unit_bodies {u : PUnit} (h : unitOk u = true) (hF : Fits u) : Bodies u := by
  obtain ⟨h1, h2, h3, h4, h5⟩ := unit_parts h
  have k2 := wB_le h2
  unfold shapesOk at h1
  unfold funcsOk at h3
  unfold importsOk at h4
  unfold exportsOk at h5
  simp only [Bool.and_eq_true] at h1 h3 h4 h5
  have k1 := wB_le h1.1
  have k3 := wB_le h3.1
  have k4 := wB_le h4.1
  have k5 := wB_le h5.1
  refine ⟨?_, ?_, ?_, ?_, ?_⟩
  · refine body_fwd (list_fwd kinds_fwd (fun y => by unfold encKinds; exact encs_pos)) ⟨by omega, fun y hy => ?_⟩
    have h := List.all_eq_true.1 h1.2 y hy
    unfold shapeOk at h
    simp only [Bool.and_eq_true] at h
    have := wB_le h.1
    exact ⟨by omega, all_whole (by omega) h.2⟩
  · exact body_fwd (list_fwd signed_fwd (fun y => num_ge _)) ⟨by omega, fun y hy => hF y hy⟩
  · refine body_fwd (list_fwd (func_fwd (n := u.shapes.length) (by omega)) (fun y => ?_)) ⟨by omega, fun y hy => List.all_eq_true.1 h3.2 y hy⟩
    unfold encFunc; have : 1 ≤ (encKinds y.params).length := by unfold encKinds; exact encs_pos
    simp only [List.length_append]; omega
  · refine body_fwd (list_fwd imp_fwd (fun y => ?_)) ⟨by omega, fun y hy => ?_⟩
    · unfold encImp encText; have := num_ge y.name.length; simp only [List.length_append]; omega
    · have h := List.all_eq_true.1 h4.2 y hy
      unfold impOk nameOk sigOk at h
      simp only [Bool.and_eq_true] at h
      have q1 := wB_le h.1
      have q2 := wB_le h.2.1
      exact ⟨by omega, ⟨by omega, all_whole (by omega) h.2.2.1⟩, inB_whole (by omega) h.2.2.2⟩
  · refine body_fwd (list_fwd exp_fwd (fun y => ?_)) ⟨by omega, fun y hy => ?_⟩
    · unfold encExp encText; have := num_ge y.name.length; simp only [List.length_append]; omega
    · have h := List.all_eq_true.1 h5.2 y hy
      unfold expOk nameOk at h
      simp only [Bool.and_eq_true] at h
      have q1 := wB_le h.1
      have q2 := wB_le h.2
      exact ⟨by omega, ⟨by omega, by omega⟩⟩
theorem sect_body_len (n : Nat) (b : List UInt8) : b.length ≤ (sect n b).length := by unfold sect; simp only [List.length_append]; omega

theorem dec_tail {u : PUnit} (h : unitOk u = true) (hF : Fits u) (z : List UInt8) (hl : (enc u ++ z).length ≤ 20000) : dec (enc u ++ z) = if z = [] then .inl u else .inr (2, (enc u).length) := by
  obtain ⟨b1, b2, b3, b4, b5⟩ := unit_bodies h hF
  obtain ⟨o1, o2, o3, o4, o5⟩ := unit_parts h
  have e : enc u ++ z = magic ++ (sect 1 (body1 u) ++ (sect 2 (body2 u) ++ (sect 3 (body3 u) ++ (sect 4 (body4 u) ++ (sect 5 (body5 u) ++ z))))) := by
    unfold enc enc4 enc3 enc2 enc1; simp only [List.append_assoc]
  have l1 := sect_body_len 1 (body1 u)
  have l2 := sect_body_len 2 (body2 u)
  have l3 := sect_body_len 3 (body3 u)
  have l4 := sect_body_len 4 (body4 u)
  have l5 := sect_body_len 5 (body5 u)
  have hl' := hl
  rw [e] at hl'
  simp only [List.length_append] at hl'
  have hp : pl (enc u ++ z) z = (enc u).length := by unfold pl; simp
  have hd : (enc u ++ z).drop 5 = sect 1 (body1 u) ++ (sect 2 (body2 u) ++ (sect 3 (body3 u) ++ (sect 4 (body4 u) ++ (sect 5 (body5 u) ++ z)))) := by rw [e]; rfl
  have ht : (enc u ++ z).take 5 = magic := by rw [e]; rfl
  unfold dec
  rw [if_neg (by omega), if_neg (by rw [ht]; simp), hd, sect_fwd (by decide) (by omega) b1]
  simp only [o1]
  rw [if_neg (by decide), sect_fwd (by decide) (by omega) b2]
  simp only [o2]
  rw [if_neg (by decide), sect_fwd (by decide) (by omega) b3]
  simp only [o3]
  rw [if_neg (by decide), sect_fwd (by decide) (by omega) b4]
  simp only [o4]
  rw [if_neg (by decide), sect_fwd (by decide) (by omega) b5]
  simp only [o5]
  rw [if_neg (by decide), hp]
end Go.Proofs.Ytkgncijcnlfhiaa
namespace Go.Proofs.Ytkgncijcnlfhiaa
set_option linter.unusedVariables false
set_option linter.unusedSimpArgs false

theorem sect_cut {α : Type} {n : Nat} {f : List UInt8 → Option (List α × List UInt8)} {g : List α → List UInt8} (hf : Inv f g) (hn : n < 256) {b : List UInt8} (hb : (sect n b).length < 18446744073709551616) {k : Nat} (hk : k < (sect n b).length) : rdSect n f ((sect n b).take k) = none := by
  cases h : rdSect n f ((sect n b).take k) with
  | none => rfl
  | some p =>
    exfalso
    obtain ⟨y, r'⟩ := p
    obtain ⟨e, _⟩ := sect_inv hf h
    have l1 := sect_body_len n b
    have l2 := sect_body_len n (g y)
    have l3 := congrArg List.length e
    rw [List.length_take, List.length_append] at l3
    have h1 := open_fwd (n := n) b [] hn (by omega)
    have h2 := open_fwd (n := n) (g y) (r' ++ (sect n b).drop k) hn (by omega)
    rw [← List.append_assoc, ← e, List.take_append_drop] at h2
    rw [List.append_nil, h2] at h1
    simp only [Option.some.injEq, Prod.mk.injEq, List.append_eq_nil_iff, List.drop_eq_nil_iff] at h1
    omega
theorem inr_place {a b : Nat} (h : a = b) : (Sum.inr ((2 : Int), a) : PUnit ⊕ (Int × Nat)) = .inr (2, b) := by rw [h]
theorem take_in {S R : List UInt8} {k : Nat} (h : k < S.length) : (S ++ R).take k = S.take k := List.take_append_of_le_length (by omega)
theorem take_over {S R : List UInt8} {k : Nat} (h : S.length ≤ k) : (S ++ R).take k = S ++ R.take (k - S.length) := by
  rw [List.take_append, List.take_of_length_le h]

def cutPlace (u : PUnit) (k : Nat) : Nat :=
  if k < 5 then 0 else if k < (enc1 u).length then 5 else if k < (enc2 u).length then (enc1 u).length else if k < (enc3 u).length then (enc2 u).length else if k < (enc4 u).length then (enc3 u).length else (enc4 u).length

theorem dec_cut {u : PUnit} (h : unitOk u = true) (hF : Fits u) (hl : (enc u).length ≤ 20000) {k : Nat} (hk : k < (enc u).length) : dec ((enc u).take k) = .inr (2, cutPlace u k) := by
  obtain ⟨b1, b2, b3, b4, b5⟩ := unit_bodies h hF
  obtain ⟨o1, o2, o3, o4, o5⟩ := unit_parts h
  have e : enc u = magic ++ (sect 1 (body1 u) ++ (sect 2 (body2 u) ++ (sect 3 (body3 u) ++ (sect 4 (body4 u) ++ sect 5 (body5 u))))) := by
    unfold enc enc4 enc3 enc2 enc1; simp only [List.append_assoc]
  have l1 := sect_body_len 1 (body1 u)
  have l2 := sect_body_len 2 (body2 u)
  have l3 := sect_body_len 3 (body3 u)
  have l4 := sect_body_len 4 (body4 u)
  have l5 := sect_body_len 5 (body5 u)
  have hm : magic.length = 5 := rfl
  have n1 : (enc1 u).length = 5 + (sect 1 (body1 u)).length := by unfold enc1; rw [List.length_append, hm]
  have n2 : (enc2 u).length = (enc1 u).length + (sect 2 (body2 u)).length := by unfold enc2; rw [List.length_append]
  have n3 : (enc3 u).length = (enc2 u).length + (sect 3 (body3 u)).length := by unfold enc3; rw [List.length_append]
  have n4 : (enc4 u).length = (enc3 u).length + (sect 4 (body4 u)).length := by unfold enc4; rw [List.length_append]
  have n5 : (enc u).length = (enc4 u).length + (sect 5 (body5 u)).length := by unfold enc; rw [List.length_append]
  have hlt : ((enc u).take k).length = k := by rw [List.length_take]; omega
  unfold cutPlace
  unfold dec
  rw [hlt, if_neg (by omega)]
  by_cases c0 : k < 5
  · rw [if_pos c0, if_pos]
    intro h5
    have := congrArg List.length h5
    rw [List.length_take, hlt, hm] at this
    omega
  rw [if_neg c0]
  have ht : ((enc u).take k).take 5 = magic := by
    rw [List.take_take, e, show min 5 k = 5 by omega]; rfl
  have hd : ((enc u).take k).drop 5 = (sect 1 (body1 u) ++ (sect 2 (body2 u) ++ (sect 3 (body3 u) ++ (sect 4 (body4 u) ++ sect 5 (body5 u))))).take (k - 5) := by
    rw [List.drop_take, e]; rfl
  have hpl : ∀ r : List UInt8, pl ((enc u).take k) r = k - r.length := fun r => by unfold pl; rw [hlt]
  rw [if_neg (by rw [ht]; simp), hd]
  by_cases c1 : k < (enc1 u).length
  · rw [if_pos c1, take_in (by omega), sect_cut (list_inv kinds_inv) (by decide) (by omega) (by omega)]
  rw [if_neg c1, take_over (by omega), sect_fwd (by decide) (by omega) b1]
  simp only [o1]
  rw [if_neg (by decide)]
  by_cases c2 : k < (enc2 u).length
  · rw [if_pos c2, take_in (by omega), sect_cut (list_inv signed_inv) (by decide) (by omega) (by omega)]
    simp only [hpl, List.length_take]
    exact inr_place (by omega)
  rw [if_neg c2, take_over (by omega), sect_fwd (by decide) (by omega) b2]
  simp only [o2]
  rw [if_neg (by decide)]
  by_cases c3 : k < (enc3 u).length
  · rw [if_pos c3, take_in (by omega), sect_cut (list_inv func_inv) (by decide) (by omega) (by omega)]
    simp only [hpl, List.length_take]
    exact inr_place (by omega)
  rw [if_neg c3, take_over (by omega), sect_fwd (by decide) (by omega) b3]
  simp only [o3]
  rw [if_neg (by decide)]
  by_cases c4 : k < (enc4 u).length
  · rw [if_pos c4, take_in (by omega), sect_cut (list_inv imp_inv) (by decide) (by omega) (by omega)]
    simp only [hpl, List.length_take]
    exact inr_place (by omega)
  rw [if_neg c4, take_over (by omega), sect_fwd (by decide) (by omega) b4]
  simp only [o4]
  rw [if_neg (by decide), sect_cut (list_inv exp_inv) (by decide) (by omega) (by omega)]
  simp only [hpl, List.length_take]
  exact inr_place (by omega)
theorem cutPlace_le {u : PUnit} {k : Nat} (hk : k < (enc u).length) : cutPlace u k ≤ k ∧ (k < 5 ↔ cutPlace u k = 0) := by
  have n1 := enc4_len u
  have e1 : 5 ≤ (enc1 u).length := by unfold enc1; rw [List.length_append]; show 5 ≤ 5 + _; omega
  have e2 : (enc1 u).length ≤ (enc2 u).length := by unfold enc2; rw [List.length_append]; omega
  have e3 : (enc2 u).length ≤ (enc3 u).length := by unfold enc3; rw [List.length_append]; omega
  have e4 : (enc3 u).length ≤ (enc4 u).length := by unfold enc4; rw [List.length_append]; omega
  unfold cutPlace
  repeat' split
  all_goals omega
theorem cutPlace_mono {u : PUnit} {j k : Nat} (hjk : j ≤ k) : cutPlace u j ≤ cutPlace u k := by
  have e1 : 5 ≤ (enc1 u).length := by unfold enc1; rw [List.length_append]; show 5 ≤ 5 + _; omega
  have e2 : (enc1 u).length ≤ (enc2 u).length := by unfold enc2; rw [List.length_append]; omega
  have e3 : (enc2 u).length ≤ (enc3 u).length := by unfold enc3; rw [List.length_append]; omega
  have e4 : (enc3 u).length ≤ (enc4 u).length := by unfold enc4; rw [List.length_append]; omega
  unfold cutPlace
  repeat' split
  all_goals omega
end Go.Proofs.Ytkgncijcnlfhiaa
