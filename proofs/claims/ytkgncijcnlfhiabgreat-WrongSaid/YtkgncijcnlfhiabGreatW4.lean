import Derived.Test.YtkgncijcnlfhiabGreatQ2
import Derived.Test.YtkgncijcnlfhiabGreatY2
import Derived.Test.YtkgncijcnlfhiabGreatB2
namespace Go.Proofs.YtkgncijcnlfhiabGreat
set_option linter.unusedVariables false
set_option linter.unusedSimpArgs false

theorem bool_ne {b : Bool} (h : ¬ b = false) : b = true := by cases b <;> simp_all

structure Parts (t : List UInt8) (u : PUnit) (r1 r2 r3 r4 : List UInt8) : Prop where
  len : t.length ≤ 20000
  head : t.take 5 = magic
  s1 : rdSect 1 (rdList rdKinds) (t.drop 5) = some (u.shapes, r1)
  o1 : shapesOk u.shapes = true
  s2 : rdSect 2 (rdList rdSigned) r1 = some (u.consts, r2)
  o2 : constsOk u.consts = true
  s3 : rdSect 3 (rdList rdFunc) r2 = some (u.funcs, r3)
  o3 : funcsOk u.funcs u.shapes.length = true
  s4 : rdSect 4 (rdList rdImp) r3 = some (u.imports, r4)
  o4 : importsOk u.imports u.shapes.length = true
  s5 : rdSect 5 (rdList rdExp) r4 = some (u.exports, [])
  o5 : exportsOk u.exports u.funcs.length = true

theorem dec_parts {t : List UInt8} {u : PUnit} (h : dec t = .inl u) : ∃ r1 r2 r3 r4, Parts t u r1 r2 r3 r4 := by
  unfold dec at h
  by_cases h1 : 20000 < t.length
  · rw [if_pos h1] at h; cases h
  rw [if_neg h1] at h
  by_cases h2 : t.take 5 ≠ magic
  · rw [if_pos h2] at h; cases h
  rw [if_neg h2] at h
  have h2' : t.take 5 = magic := Classical.byContradiction h2
  cases s1 : rdSect 1 (rdList rdKinds) (t.drop 5) with
  | none => rw [s1] at h; cases h
  | some p1 =>
  obtain ⟨sh, r1⟩ := p1
  rw [s1] at h
  simp only at h
  by_cases o1 : shapesOk sh = false
  · rw [if_pos o1] at h; cases h
  rw [if_neg o1] at h
  cases s2 : rdSect 2 (rdList rdSigned) r1 with
  | none => rw [s2] at h; cases h
  | some p2 =>
  obtain ⟨cs, r2⟩ := p2
  rw [s2] at h
  simp only at h
  by_cases o2 : constsOk cs = false
  · rw [if_pos o2] at h; cases h
  rw [if_neg o2] at h
  cases s3 : rdSect 3 (rdList rdFunc) r2 with
  | none => rw [s3] at h; cases h
  | some p3 =>
  obtain ⟨fs, r3⟩ := p3
  rw [s3] at h
  simp only at h
  by_cases o3 : funcsOk fs sh.length = false
  · rw [if_pos o3] at h; cases h
  rw [if_neg o3] at h
  cases s4 : rdSect 4 (rdList rdImp) r3 with
  | none => rw [s4] at h; cases h
  | some p4 =>
  obtain ⟨im, r4⟩ := p4
  rw [s4] at h
  simp only at h
  by_cases o4 : importsOk im sh.length = false
  · rw [if_pos o4] at h; cases h
  rw [if_neg o4] at h
  cases s5 : rdSect 5 (rdList rdExp) r4 with
  | none => rw [s5] at h; cases h
  | some p5 =>
  obtain ⟨ex, r5⟩ := p5
  rw [s5] at h
  simp only at h
  by_cases o5 : exportsOk ex fs.length = false
  · rw [if_pos o5] at h; cases h
  rw [if_neg o5] at h
  by_cases h6 : r5 = []
  · rw [if_pos h6] at h
    simp only [Sum.inl.injEq] at h
    subst h
    subst h6
    exact ⟨r1, r2, r3, r4, by omega, h2', s1, bool_ne o1, s2, bool_ne o2, s3, bool_ne o3, s4, bool_ne o4, s5, bool_ne o5⟩
  · rw [if_neg h6] at h; cases h

theorem rdN_all {α : Type} {f : List UInt8 → Option (α × List UInt8)} {Q : α → Prop} (hf : ∀ r y r', f r = some (y, r') → Q y) : ∀ (n : Nat) (r : List UInt8) (ys : List α) (r' : List UInt8), rdN f n r = some (ys, r') → ∀ y ∈ ys, Q y
  | 0, r, ys, r', h => by
    simp only [rdN, Option.some.injEq, Prod.mk.injEq] at h
    rw [← h.1]; simp
  | n + 1, r, ys, r', h => by
    simp only [rdN] at h
    cases h1 : f r with
    | none => rw [h1] at h; cases h
    | some p =>
      obtain ⟨y, r1⟩ := p
      rw [h1] at h
      simp only at h
      cases h2 : rdN f n r1 with
      | none => rw [h2] at h; cases h
      | some q =>
        obtain ⟨zs, r2⟩ := q
        rw [h2] at h
        simp only [Option.some.injEq, Prod.mk.injEq] at h
        rw [← h.1]
        intro z hz
        rcases List.mem_cons.1 hz with rfl | hz
        · exact hf _ _ _ h1
        · exact rdN_all hf n r1 zs r2 h2 z hz
theorem rdSigned_fits : ∀ r y r', rdSigned r = some (y, r') → -9223372036854775808 ≤ y ∧ y ≤ 9223372036854775807 := by
  intro r y r' h
  unfold rdSigned at h
  cases hn : rdNum 0 0 r with
  | none => rw [hn] at h; cases h
  | some p =>
    obtain ⟨n, r1⟩ := p
    rw [hn] at h
    simp only [Option.map_some, Option.some.injEq, Prod.mk.injEq] at h
    rw [← h.1]
    exact unzig_fits (rdNum_lt r 0 0 (by decide) (by decide) n r1 hn)
theorem body_fits {b : List UInt8} {cs : List Int} (h : rdBody (rdList rdSigned) b = some cs) : ∀ x ∈ cs, -9223372036854775808 ≤ x ∧ x ≤ 9223372036854775807 := by
  unfold rdBody at h
  split at h
  · rename_i y heq
    simp only [Option.some.injEq] at h
    subst h
    unfold rdList at heq
    cases hn : rdNum 0 0 b with
    | none => rw [hn] at heq; cases heq
    | some p =>
      obtain ⟨n, r1⟩ := p
      rw [hn] at heq
      simp only at heq
      split at heq
      · exact rdN_all rdSigned_fits n r1 _ _ heq
      · cases heq
  · cases h

theorem parts_enc {t : List UInt8} {u : PUnit} {r1 r2 r3 r4 : List UInt8} (P : Parts t u r1 r2 r3 r4) :
    unitOk u = true ∧ Fits u ∧ t = enc u ∧ r4 = sect 5 (body5 u) ∧ t = enc4 u ++ r4 ∧ r3 = sect 4 (body4 u) ++ r4 ∧ r2 = sect 3 (body3 u) ++ r3 ∧ r1 = sect 2 (body2 u) ++ r2 ∧ t.drop 5 = sect 1 (body1 u) ++ r1 ∧
    rdBody (rdList rdKinds) (body1 u) = some u.shapes ∧ rdBody (rdList rdSigned) (body2 u) = some u.consts ∧ rdBody (rdList rdFunc) (body3 u) = some u.funcs ∧ rdBody (rdList rdImp) (body4 u) = some u.imports := by
  obtain ⟨e1, b1⟩ := sect_inv (list_inv kinds_inv) P.s1
  obtain ⟨e2, b2⟩ := sect_inv (list_inv signed_inv) P.s2
  obtain ⟨e3, b3⟩ := sect_inv (list_inv func_inv) P.s3
  obtain ⟨e4, b4⟩ := sect_inv (list_inv imp_inv) P.s4
  obtain ⟨e5, b5⟩ := sect_inv (list_inv exp_inv) P.s5
  have ht : t = magic ++ t.drop 5 := by rw [← P.head, List.take_append_drop]
  rw [List.append_nil] at e5
  have ht4 : t = enc4 u ++ r4 := by
    rw [ht, e1, e2, e3, e4]
    unfold enc4 enc3 enc2 enc1 body1 body2 body3 body4
    simp only [List.append_assoc]
  refine ⟨?_, body_fits b2, ?_, e5, ht4, e4, e3, e2, e1, b1, b2, b3, b4⟩
  · unfold unitOk; rw [P.o1, P.o2, P.o3, P.o4, P.o5]; rfl
  · conv => lhs; rw [ht4, e5]
    rfl
theorem sect_len (n : Nat) (b : List UInt8) (hb : 1 ≤ b.length) : 7 ≤ (sect n b).length := by
  have := (numF_len 10 b.length).2
  unfold sect num; simp only [List.length_append, leK_len, List.length_cons, List.length_nil]; omega
theorem enc4_len (u : PUnit) : 33 ≤ (enc4 u).length := by
  have h1 := sect_len 1 (body1 u) encs_pos
  have h2 := sect_len 2 (body2 u) encs_pos
  have h3 := sect_len 3 (body3 u) encs_pos
  have h4 := sect_len 4 (body4 u) encs_pos
  unfold enc4 enc3 enc2 enc1; simp only [List.length_append]
  have : magic.length = 5 := rfl
  omega

theorem dec_ok {t : List UInt8} {u : PUnit} (h : dec t = .inl u) : unitOk u = true ∧ Fits u ∧ enc u = t ∧ t.length ≤ 20000 ∧ 40 ≤ t.length := by
  obtain ⟨r1, r2, r3, r4, P⟩ := dec_parts h
  obtain ⟨h1, h2, h3, h4, h5, _⟩ := parts_enc P
  have L := enc4_len u
  have L5 := sect_len 5 (body5 u) encs_pos
  have Lt : t.length = (enc4 u).length + (sect 5 (body5 u)).length := by conv => lhs; rw [h5, h4, List.length_append]
  exact ⟨h1, h2, h3.symm, P.len, by omega⟩
end Go.Proofs.YtkgncijcnlfhiabGreat

namespace Go.Proofs.YtkgncijcnlfhiabGreat
set_option linter.unusedVariables false
set_option linter.unusedSimpArgs false
def Fwd {α : Type} (f : List UInt8 → Option (α × List UInt8)) (g : α → List UInt8) (Q : α → Prop) : Prop := ∀ y r, Q y → f (g y ++ r) = some (y, r)

theorem unzig_zig {x : Int} : unzig (zig x) = x := by
  unfold unzig zig; split
  · rw [if_pos (by omega)]; omega
  · rw [if_neg (by omega)]; omega
def Fit (x : Int) : Prop := -9223372036854775808 ≤ x ∧ x ≤ 9223372036854775807
def Whole (x : Int) : Prop := 0 ≤ x ∧ x ≤ 9223372036854775807
theorem signed_fwd : Fwd rdSigned encSigned Fit := by
  intro y r h
  unfold rdSigned encSigned
  rw [num_fwd r (zig_lt h.1 h.2)]
  simp [unzig_zig]
theorem whole_fwd : Fwd rdWhole encWhole Whole := by
  intro y r h
  unfold rdWhole encWhole
  have h1 := h.1
  have h2 := h.2
  rw [num_fwd r (by omega)]
  simp only
  rw [if_pos (by omega)]
  simp; omega
theorem text_fwd : Fwd rdText encText (fun s => s.length < 18446744073709551616) := by
  intro y r h
  unfold rdText encText
  rw [List.append_assoc, num_fwd _ h]
  exact take_fwd y r
theorem rdN_fwd {α : Type} {f : List UInt8 → Option (α × List UInt8)} {g : α → List UInt8} {Q : α → Prop} (hf : Fwd f g Q) : ∀ (ys : List α) (r : List UInt8), (∀ y ∈ ys, Q y) → rdN f ys.length (ys.flatMap g ++ r) = some (ys, r)
  | [], r, _ => rfl
  | y :: ys, r, h => by
    have h1 := hf y (ys.flatMap g ++ r) (h y List.mem_cons_self)
    have h2 := rdN_fwd hf ys r (fun z hz => h z (List.mem_cons_of_mem _ hz))
    simp only [List.flatMap_cons, List.length_cons, List.append_assoc]
    unfold rdN
    rw [h1]
    simp only [h2]
theorem flat_ge {α : Type} {g : α → List UInt8} (hg : ∀ y, 1 ≤ (g y).length) : ∀ ys : List α, ys.length ≤ (ys.flatMap g).length
  | [] => by simp
  | y :: ys => by
    have := flat_ge hg ys
    have := hg y
    simp only [List.flatMap_cons, List.length_cons, List.length_append]; omega
theorem list_fwd {α : Type} {f : List UInt8 → Option (α × List UInt8)} {g : α → List UInt8} {Q : α → Prop} (hf : Fwd f g Q) (hg : ∀ y, 1 ≤ (g y).length) : Fwd (rdList f) (encs g) (fun ys => ys.length < 18446744073709551616 ∧ ∀ y ∈ ys, Q y) := by
  intro ys r h
  unfold rdList encs
  rw [List.append_assoc, num_fwd _ h.1]
  simp only
  rw [if_pos (by have := flat_ge hg ys; simp only [List.length_append]; omega)]
  exact rdN_fwd hf ys r h.2
theorem num_ge (n : Nat) : 1 ≤ (num n).length := (numF_len 10 n).2
theorem kinds_fwd : Fwd rdKinds encKinds (fun ys => ys.length < 18446744073709551616 ∧ ∀ y ∈ ys, Whole y) := list_fwd whole_fwd (fun y => num_ge _)
theorem imp_fwd : Fwd rdImp encImp (fun i => i.name.length < 18446744073709551616 ∧ (i.params.length < 18446744073709551616 ∧ ∀ y ∈ i.params, Whole y) ∧ Whole i.result) := by
  intro y r h
  unfold rdImp encImp
  rw [List.append_assoc, text_fwd _ _ h.1]
  simp only
  rw [List.append_assoc, kinds_fwd _ _ h.2.1]
  simp only
  have := whole_fwd y.result r h.2.2
  unfold encWhole at this
  rw [this]
theorem exp_fwd : Fwd rdExp encExp (fun e => e.name.length < 18446744073709551616 ∧ Whole e.func) := by
  intro y r h
  unfold rdExp encExp
  rw [List.append_assoc, text_fwd _ _ h.1]
  simp only
  have := whole_fwd y.func r h.2
  unfold encWhole at this
  rw [this]
end Go.Proofs.YtkgncijcnlfhiabGreat

namespace Go.Proofs.YtkgncijcnlfhiabGreat
set_option linter.unusedVariables false
set_option linter.unusedSimpArgs false

theorem ins_fwd : Fwd rdIns encIns (fun i => insOk i = true) := by
  intro y r h
  unfold insOk at h
  simp only [Bool.and_eq_true] at h
  obtain ⟨h1, h2, h3⟩ := h
  have h1' : 0 ≤ y.op ∧ y.op ≤ 20 := by simpa [wB] using h1
  have hb : (((UInt8.ofNat y.op.toNat).toNat : Nat) : Int) = y.op := (byte_op h1'.1 h1'.2).symm
  unfold rdIns encIns
  simp only [List.cons_append, rdByte, hb]
  rw [if_pos h1]
  by_cases e1 : y.op = 1
  · rw [if_pos e1, if_pos e1]
    rw [if_pos e1] at h2
    have h2' : -2147483648 ≤ y.a ∧ y.a ≤ 2147483647 := by simpa [wB] using h2
    have hN : operandsN y.op = 1 := by rw [e1]; decide
    have h3' : y.b = 0 := by rw [hN] at h3; simpa [operandOk] using h3
    have hs := signed_fwd y.a r ⟨by omega, by omega⟩
    unfold encSigned at hs
    rw [hs]
    simp only
    rw [← h3']
  · rw [if_neg e1, if_neg e1]
    rw [if_neg e1] at h2
    rcases operandsN_cases y.op with hN | hN | hN
    · rw [if_pos hN]
      have h2' : y.a = 0 := by rw [hN] at h2; simpa [operandOk] using h2
      have h3' : y.b = 0 := by rw [hN] at h3; simpa [operandOk] using h3
      simp only [hN]
      simp
      cases y; simp_all
    · rw [if_neg (by omega)]
      have h2' : 0 ≤ y.a ∧ y.a ≤ 65535 := by rw [hN] at h2; simpa [operandOk, wB] using h2
      have h3' : y.b = 0 := by rw [hN] at h3; simpa [operandOk] using h3
      have hs := whole_fwd y.a r ⟨by omega, by omega⟩
      unfold encWhole at hs
      simp only [hN]
      simp only [show (1 : Int) ≤ 1 by decide, show ¬ (2 : Int) ≤ 1 by decide, if_true, if_false, List.append_nil, hs]
      rw [← h3']
    · rw [if_neg (by omega)]
      have h2' : 0 ≤ y.a ∧ y.a ≤ 65535 := by rw [hN] at h2; simpa [operandOk, wB] using h2
      have h3' : 0 ≤ y.b ∧ y.b ≤ 65535 := by rw [hN] at h3; simpa [operandOk, wB] using h3
      have hs := whole_fwd y.a (num y.b.toNat ++ r) ⟨by omega, by omega⟩
      have hs2 := whole_fwd y.b r ⟨by omega, by omega⟩
      unfold encWhole at hs hs2
      simp only [hN]
      simp only [show (1 : Int) ≤ 2 by decide, show (2 : Int) ≤ 2 by decide, if_true, List.append_assoc, hs, show ¬ (2 : Int) = 1 by decide, if_false, hs2]

theorem inB_whole {n : Int} (hn : n ≤ 1000000) {x : Int} (h : inB n x = true) : Whole x := by
  have : 0 ≤ x ∧ x ≤ n := by simpa [inB, wB] using h
  exact ⟨this.1, by omega⟩
theorem all_whole {n : Int} (hn : n ≤ 1000000) {l : List Int} (h : l.all (inB n) = true) : ∀ y ∈ l, Whole y := fun y hy => inB_whole hn (List.all_eq_true.1 h y hy)
theorem wB_le {n l m : Int} (h : wB n l m = true) : l ≤ n ∧ n ≤ m := by simpa [wB] using h
theorem func_fwd {n : Int} (hn : n ≤ 1000000) : Fwd rdFunc encFunc (fun f => funcOk n f = true) := by
  intro y r h
  unfold funcOk sigOk codeOk at h
  simp only [Bool.and_eq_true] at h
  obtain ⟨⟨p1, p2, p3⟩, l1, l2, c1, c2⟩ := h
  have q1 := wB_le p1
  have q2 := wB_le l1
  have q3 := wB_le c1
  unfold rdFunc encFunc
  rw [List.append_assoc, kinds_fwd _ _ ⟨by omega, all_whole hn p2⟩]
  simp only
  rw [List.append_assoc, kinds_fwd _ _ ⟨by omega, all_whole hn l2⟩]
  simp only
  have hs := whole_fwd y.result (encs encIns y.code ++ r) (inB_whole hn p3)
  unfold encWhole at hs
  rw [List.append_assoc, hs]
  simp only
  rw [list_fwd ins_fwd (fun i => by unfold encIns; simp) y.code r ⟨by omega, fun i hi => List.all_eq_true.1 c2 i hi⟩]
end Go.Proofs.YtkgncijcnlfhiabGreat

namespace Go.Proofs.YtkgncijcnlfhiabGreat
set_option linter.unusedVariables false
set_option linter.unusedSimpArgs false

theorem body_fwd {α : Type} {f : List UInt8 → Option (List α × List UInt8)} {g : List α → List UInt8} {Q : List α → Prop} (hf : Fwd f g Q) {y : List α} (hy : Q y) : rdBody f (g y) = some y := by
  have h := hf y [] hy
  rw [List.append_nil] at h
  unfold rdBody; rw [h]
theorem unit_parts {u : PUnit} (h : unitOk u = true) : shapesOk u.shapes = true ∧ constsOk u.consts = true ∧ funcsOk u.funcs u.shapes.length = true ∧ importsOk u.imports u.shapes.length = true ∧ exportsOk u.exports u.funcs.length = true := by
  unfold unitOk at h
  simp only [Bool.and_eq_true] at h
  obtain ⟨h1, h2, h3, h4, h5⟩ := h
  exact ⟨h1, h2, h3, h4, h5⟩
structure Bodies (u : PUnit) : Prop where
  b1 : rdBody (rdList rdKinds) (body1 u) = some u.shapes
  b2 : rdBody (rdList rdSigned) (body2 u) = some u.consts
  b3 : rdBody (rdList rdFunc) (body3 u) = some u.funcs
  b4 : rdBody (rdList rdImp) (body4 u) = some u.imports
  b5 : rdBody (rdList rdExp) (body5 u) = some u.exports
theorem unit_bodies {u : PUnit} (h : unitOk u = true) (hF : Fits u) : Bodies u := by
  obtain ⟨h1, h2, h3, h4, h5⟩ := unit_parts h
  have k2 := wB_le h2
  unfold shapesOk at h1
  unfold funcsOk at h3
  unfold importsOk at h4
  unfold exportsOk at h5
  simp only [Bool.and_eq_true] at h1 h3 h4 h5
  have k1 := wB_le h1.1
  have k3 := wB_le h3.1
  have k4 := wB_le h4.1
  have k5 := wB_le h5.1
  refine ⟨?_, ?_, ?_, ?_, ?_⟩
  · refine body_fwd (list_fwd kinds_fwd (fun y => by unfold encKinds; exact encs_pos)) ⟨by omega, fun y hy => ?_⟩
    have h := List.all_eq_true.1 h1.2 y hy
    unfold shapeOk at h
    simp only [Bool.and_eq_true] at h
    have := wB_le h.1
    exact ⟨by omega, all_whole (by omega) h.2⟩
  · exact body_fwd (list_fwd signed_fwd (fun y => num_ge _)) ⟨by omega, fun y hy => hF y hy⟩
  · refine body_fwd (list_fwd (func_fwd (n := u.shapes.length) (by omega)) (fun y => ?_)) ⟨by omega, fun y hy => List.all_eq_true.1 h3.2 y hy⟩
    unfold encFunc; have : 1 ≤ (encKinds y.params).length := by unfold encKinds; exact encs_pos
    simp only [List.length_append]; omega
  · refine body_fwd (list_fwd imp_fwd (fun y => ?_)) ⟨by omega, fun y hy => ?_⟩
    · unfold encImp encText; have := num_ge y.name.length; simp only [List.length_append]; omega
    · have h := List.all_eq_true.1 h4.2 y hy
      unfold impOk nameOk sigOk at h
      simp only [Bool.and_eq_true] at h
      have q1 := wB_le h.1
      have q2 := wB_le h.2.1
      exact ⟨by omega, ⟨by omega, all_whole (by omega) h.2.2.1⟩, inB_whole (by omega) h.2.2.2⟩
  · refine body_fwd (list_fwd exp_fwd (fun y => ?_)) ⟨by omega, fun y hy => ?_⟩
    · unfold encExp encText; have := num_ge y.name.length; simp only [List.length_append]; omega
    · have h := List.all_eq_true.1 h5.2 y hy
      unfold expOk nameOk at h
      simp only [Bool.and_eq_true] at h
      have q1 := wB_le h.1
      have q2 := wB_le h.2
      exact ⟨by omega, ⟨by omega, by omega⟩⟩
theorem sect_body_len (n : Nat) (b : List UInt8) : b.length ≤ (sect n b).length := by unfold sect; simp only [List.length_append]; omega

theorem dec_tail {u : PUnit} (h : unitOk u = true) (hF : Fits u) (z : List UInt8) (hl : (enc u ++ z).length ≤ 20000) : dec (enc u ++ z) = if z = [] then .inl u else .inr (2, (enc u).length) := by
  obtain ⟨b1, b2, b3, b4, b5⟩ := unit_bodies h hF
  obtain ⟨o1, o2, o3, o4, o5⟩ := unit_parts h
  have e : enc u ++ z = magic ++ (sect 1 (body1 u) ++ (sect 2 (body2 u) ++ (sect 3 (body3 u) ++ (sect 4 (body4 u) ++ (sect 5 (body5 u) ++ z))))) := by
    unfold enc enc4 enc3 enc2 enc1; simp only [List.append_assoc]
  have l1 := sect_body_len 1 (body1 u)
  have l2 := sect_body_len 2 (body2 u)
  have l3 := sect_body_len 3 (body3 u)
  have l4 := sect_body_len 4 (body4 u)
  have l5 := sect_body_len 5 (body5 u)
  have hl' := hl
  rw [e] at hl'
  simp only [List.length_append] at hl'
  have hp : pl (enc u ++ z) z = (enc u).length := by unfold pl; simp
  have hd : (enc u ++ z).drop 5 = sect 1 (body1 u) ++ (sect 2 (body2 u) ++ (sect 3 (body3 u) ++ (sect 4 (body4 u) ++ (sect 5 (body5 u) ++ z)))) := by rw [e]; rfl
  have ht : (enc u ++ z).take 5 = magic := by rw [e]; rfl
  unfold dec
  rw [if_neg (by omega), if_neg (by rw [ht]; simp), hd, sect_fwd (by decide) (by omega) b1]
  simp only [o1]
  rw [if_neg (by decide), sect_fwd (by decide) (by omega) b2]
  simp only [o2]
  rw [if_neg (by decide), sect_fwd (by decide) (by omega) b3]
  simp only [o3]
  rw [if_neg (by decide), sect_fwd (by decide) (by omega) b4]
  simp only [o4]
  rw [if_neg (by decide), sect_fwd (by decide) (by omega) b5]
  simp only [o5]
  rw [if_neg (by decide), hp]
end Go.Proofs.YtkgncijcnlfhiabGreat

namespace Go.Proofs.YtkgncijcnlfhiabGreat
set_option linter.unusedVariables false
set_option linter.unusedSimpArgs false
def iOp (o a : Int) : PIns := ⟨o, a, 0⟩
def leadC : Nat → List PIns
  | 0 => []
  | n + 1 => leadC n ++ [iOp 1 (n : Int), iOp 20 0]
def tailC (k q w : Nat) : List PIns := match w with
  | 0 => [iOp 1 1, iOp 6 0, iOp 14 0]
  | 1 => [iOp 1 1, ⟨16, 1, 0⟩, iOp 14 0]
  | 2 => [iOp 18 1, iOp 14 0]
  | 3 => [iOp 1 1, iOp 12 (200 + (q : Int)), iOp 1 1, iOp 14 0]
  | 4 => [iOp 1 1, iOp 4 0]
  | 5 => [iOp 1 1, iOp 13 (7 + (q : Int)), iOp 14 0]
  | 6 => [iOp 1 1, iOp 12 (k : Int), iOp 1 2, iOp 1 1, iOp 14 0]
  | 7 => [iOp 18 1, ⟨16, 1, 2⟩, iOp 14 0]
  | _ => [iOp 1 1, iOp 11 (k : Int), iOp 14 0]
def mainN : List UInt8 := [109, 97, 105, 110]
def goodF : PFunc := ⟨[], 0, [], [iOp 1 3, iOp 14 0]⟩
def progU (c : List PIns) : PUnit := ⟨[[0, 1]], [], [⟨[], 0, [], c⟩], [], [⟨mainN, 0⟩]⟩
def goodU : PUnit := progU [iOp 1 3, iOp 14 0]
def badC (n w q : Nat) : List PIns := leadC n ++ tailC (2 * n) q w
def badU (n w q : Nat) : PUnit := ⟨[[0, 1]], [], [goodF, ⟨[], 0, [], badC n w q⟩], [], [⟨mainN, 0⟩]⟩
def atW (n w : Nat) : Nat := if w = 6 then 2 * n + 4 else if w = 8 then 2 * n else 2 * n + 1
def bodies (u : PUnit) : Nat := (body1 u).length + (body2 u).length + (body3 u).length + (body4 u).length + (body5 u).length
def factW (n w q : Nat) : Bool := unitOk (badU n w q) && decide (bodies (badU n w q) ≤ 1000) && decide (verifyP (badU n w q) = (10, 1, atW n w)) && (match linkP [badU n w q] with
  | .inl u => decide (verifyP u = (10, 1, atW n w))
  | .inr _ => false)
theorem wrong_facts : ∀ n : Fin 6, ∀ w : Fin 9, ∀ q : Fin 9, factW n.val w.val q.val = true := by decide +kernel
theorem good_fact : verifyP goodU = (0, 0, 0) := by decide +kernel
theorem sect_le (n : Nat) (b : List UInt8) : (sect n b).length ≤ b.length + 16 := by
  unfold sect
  have h1 := num_len b.length
  have h2 : (leK (crc b) 4).length = 4 := by simp [leK]
  simp only [List.length_append, List.length_cons, List.length_nil, h2]
  omega
theorem enc_le (u : PUnit) : (enc u).length ≤ bodies u + 85 := by
  unfold enc enc4 enc3 enc2 enc1 bodies
  have h1 := sect_le 1 (body1 u)
  have h2 := sect_le 2 (body2 u)
  have h3 := sect_le 3 (body3 u)
  have h4 := sect_le 4 (body4 u)
  have h5 := sect_le 5 (body5 u)
  have hm : magic.length = 5 := rfl
  simp only [List.length_append, hm]
  omega
structure BadF (n w q : Nat) : Prop where
  ok : unitOk (badU n w q) = true
  len : (enc (badU n w q)).length ≤ 10000
  vfy : verifyP (badU n w q) = (10, 1, atW n w)
  lnk : ∃ u, linkP [badU n w q] = .inl u ∧ verifyP u = (10, 1, atW n w)
  fit : Fits (badU n w q)
  dec : dec (enc (badU n w q)) = .inl (badU n w q)
  ge : 40 ≤ (enc (badU n w q)).length
theorem bad_facts {n w q : Nat} (hn : n < 6) (hw : w < 9) (hq : q < 9) : BadF n w q := by
  have h := wrong_facts ⟨n, hn⟩ ⟨w, hw⟩ ⟨q, hq⟩
  simp only [factW, Bool.and_eq_true, decide_eq_true_eq] at h
  obtain ⟨⟨⟨h1, h2⟩, h3⟩, h4⟩ := h
  have hl : (enc (badU n w q)).length ≤ 10000 := by have := enc_le (badU n w q); omega
  have hf : Fits (badU n w q) := by intro x hx; simp [badU] at hx
  have hd := dec_tail h1 hf [] (by simp; omega)
  rw [List.append_nil, if_pos rfl] at hd
  refine ⟨h1, hl, h3, ?_, hf, hd, (dec_ok hd).2.2.2.2⟩
  cases hk : linkP [badU n w q] with
  | inl u => rw [hk] at h4; exact ⟨u, rfl, by simpa using h4⟩
  | inr r => rw [hk] at h4; simp at h4
end Go.Proofs.YtkgncijcnlfhiabGreat

namespace Go.Proofs.YtkgncijcnlfhiabGreat
set_option linter.unusedVariables false
set_option linter.unusedSimpArgs false
open Go.RowKit
attribute [local go_sem ↓] Go.wp_at_zero Go.wp_at_succ

set_option maxHeartbeats 1000000 in
theorem shapes_any (l : List (List Int)) (v : Value) (e a : Int) (w : World) (hR : RShapes w v l) :
    Calls Tryz.prog 52 #[v, .agg #[.int .i64 e, .int .i64 0, .int .i64 a]] w fun x w' =>
      x = ends (shapesOk l) e a ∧ Gr w w' := by
  obtain ⟨ao, cap, rfl, hm, hc⟩ := hR
  unfold maxLen at hm
  have HC := hide hc
  clear hc
  obtain ⟨he, hn, ha⟩ := cells_box w e a
  unfold shapesOk
  cases hb : wB l.length 0 20
  · go_enter Tryz.func52, Tryz.ntmps52
    go_wp2
    go_region_with (first | (go_at_call 99; refine (within_any _ _ _ _).mono ?_; rintro e w' ⟨rfl, rfl⟩) | (go_at_call 64; refine (unless_no _ _ _).mono ?_; rintro e w' ⟨rfl, hg'⟩; refine left_region ?_))
    all_goals exact ⟨rfl, rfl, (by repeat (first | exact Gr.refl _ | assumption | refine Gr.drew ?_ | refine Gr.alloc ?_ _ | refine Gr.trans ?_ (by assumption)))⟩
  · go_enter Tryz.func52, Tryz.ntmps52
    go_wp2
    go_region_held3 (fun w' => w'.cell? ⟨w.heap.size, 0, none⟩ = some (.int .i64 e) ∧ w'.cell? ⟨w.heap.size, 1, none⟩ = some (.int .i64 0) ∧ w'.cell? ⟨w.heap.size, 2, none⟩ = some (.int .i64 a)) (first | go_keep | exact ⟨hg'.cell (by assumption) (by simp), hg'.cell (by assumption) (by simp), hg'.cell (by assumption) (by simp)⟩) (first | (go_at_call 99; refine (within_any _ _ _ _).mono ?_; rintro e w' ⟨rfl, rfl⟩) | (go_at_call 64; refine (unless_yes _ _ _).mono ?_; rintro e w' ⟨rfl, hg'⟩))
    have he1 := hg'.cell he (by simp)
    have hn1 := hg'.cell hn (by simp)
    have ha1 := hg'.cell ha (by simp)
    have hg0 : Gr w w' := (by repeat (first | exact Gr.refl _ | assumption | refine Gr.drew ?_ | refine Gr.alloc ?_ _ | refine Gr.trans ?_ (by assumption)))
    clear hg' he hn ha
    go_wp2
    go_loopw [13] (fun i wr => ∃ k : Nat, k ≤ l.length ∧ i = .int .i64 k ∧ (l.take k).all (shapeOk l.length) = true ∧ wr.cell? ⟨w.heap.size, 0, none⟩ = some (.int .i64 e) ∧ wr.cell? ⟨w.heap.size, 1, none⟩ = some (.int .i64 0) ∧ wr.cell? ⟨w.heap.size, 2, none⟩ = some (.int .i64 a) ∧ Gr w wr) (fun i _ => l.length - (intOf i).toNat)
    case atStart => exact ⟨0, Nat.zero_le _, rfl, by simp, he1, hn1, ha1, hg0⟩
    case round =>
      clear he1 hn1 ha1 hg0
      obtain ⟨k, hk, rfl, hall, he, hn, ha, hg⟩ := hrel
      have HA := hide hall
      clear hall
      by_cases hlt : k < l.length
      · obtain ⟨x, hx⟩ := getElem?_lt hlt
        obtain ⟨b, off, vx, hao, hcell, hRx⟩ := HC.out k x hx
        subst hao
        have hcell' := hg.cell hcell (by simp)
        have hmx := hRx.choose_spec.choose_spec.2.1
        unfold maxLen at hmx
        obtain ⟨ax, cx, rfl⟩ := hRx.shape
        have HRX := hide (hRx.gr hg)
        have HX := hide hx
        clear hx hRx hcell
        cases hbx : wB x.length 1 8
        · have HF : Hid (l.all (shapeOk l.length) = false) := hide (all_false_at HX.out (by simp [shapeOk, hbx]))
          go_wp2
          go_region_with (first | (go_at_call 99; refine (within_any _ _ _ _).mono ?_; rintro e w' ⟨rfl, rfl⟩) | (go_at_call 64; refine (unless_no _ _ _).mono ?_; rintro e w' ⟨rfl, hg'⟩; refine left_region ?_))
          all_goals exact ⟨rfl, by rw [HF.out]; rfl, (by repeat (first | exact Gr.refl _ | assumption | refine Gr.drew ?_ | refine Gr.alloc ?_ _ | refine Gr.trans ?_ (by assumption)))⟩
        · cases hkx : x.all (inB l.length)
          · have HF : Hid (l.all (shapeOk l.length) = false) := hide (all_false_at HX.out (by simp [shapeOk, hkx]))
            have HK := hide hkx
            clear hkx
            go_wp2
            go_region_held3 (fun w' => w'.cell? ⟨w.heap.size, 0, none⟩ = some (.int .i64 e) ∧ w'.cell? ⟨w.heap.size, 1, none⟩ = some (.int .i64 0) ∧ w'.cell? ⟨w.heap.size, 2, none⟩ = some (.int .i64 a)) (first | go_keep | exact ⟨hg'.cell (by assumption) (by simp), hg'.cell (by assumption) (by simp), hg'.cell (by assumption) (by simp)⟩) (first | (go_at_call 99; refine (within_any _ _ _ _).mono ?_; rintro e w' ⟨rfl, rfl⟩) | (go_at_call 64; refine (unless_yes _ _ _).mono ?_; rintro e w' ⟨rfl, hg'⟩))
            have he1 := hg'.cell he (by simp)
            have hn1 := hg'.cell hn (by simp)
            have ha1 := hg'.cell ha (by simp)
            go_wp2_with (first | (go_at_call 100; refine (no_of (kinds_any x _ l.length e a _ (by exact HRX.out.gr (by repeat (first | exact Gr.refl _ | assumption | refine Gr.drew ?_ | refine Gr.alloc ?_ _ | refine Gr.trans ?_ (by assumption))))) HK.out).mono ?_; rintro e w2 ⟨rfl, hg2⟩))
            exact ⟨rfl, by rw [HF.out]; rfl, (by repeat (first | exact Gr.refl _ | assumption | refine Gr.drew ?_ | refine Gr.alloc ?_ _ | refine Gr.trans ?_ (by assumption)))⟩
          · have HT : Hid ((l.take (k + 1)).all (shapeOk l.length) = true) := hide (by rw [all_take_succ HX.out, HA.out]; simp [shapeOk, hbx, hkx])
            have HK := hide hkx
            clear hkx
            go_wp2
            go_region_held3 (fun w' => w'.cell? ⟨w.heap.size, 0, none⟩ = some (.int .i64 e) ∧ w'.cell? ⟨w.heap.size, 1, none⟩ = some (.int .i64 0) ∧ w'.cell? ⟨w.heap.size, 2, none⟩ = some (.int .i64 a)) (first | go_keep | exact ⟨hg'.cell (by assumption) (by simp), hg'.cell (by assumption) (by simp), hg'.cell (by assumption) (by simp)⟩) (first | (go_at_call 99; refine (within_any _ _ _ _).mono ?_; rintro e w' ⟨rfl, rfl⟩) | (go_at_call 64; refine (unless_yes _ _ _).mono ?_; rintro e w' ⟨rfl, hg'⟩))
            have he1 := hg'.cell he (by simp)
            have hn1 := hg'.cell hn (by simp)
            have ha1 := hg'.cell ha (by simp)
            go_wp2_with (first | (go_at_call 100; refine (yes_of (kinds_any x _ l.length e a _ (by exact HRX.out.gr (by repeat (first | exact Gr.refl _ | assumption | refine Gr.drew ?_ | refine Gr.alloc ?_ _ | refine Gr.trans ?_ (by assumption))))) HK.out).mono ?_; rintro e w2 ⟨rfl, hg2⟩))
            go_roundw
            case rel => exact ⟨k + 1, by omega, by go_num, HT.out, hg2.cell he1 (by simp), hg2.cell hn1 (by simp), hg2.cell ha1 (by simp), (by repeat (first | exact Gr.refl _ | assumption | refine Gr.drew ?_ | refine Gr.alloc ?_ _ | refine Gr.trans ?_ (by assumption)))⟩
            case measure => simp [intOf]; omega
      · go_wp2
        go_end0
        exact ⟨by rw [all_end HA.out hlt]; rfl, hg⟩

end Go.Proofs.YtkgncijcnlfhiabGreat

