import Derived.Test.YtkgncijcnlfhiaaQ2
namespace Go.Proofs.Ytkgncijcnlfhiaa
set_option linter.unusedVariables false
set_option linter.unusedSimpArgs false

theorem bool_ne {b : Bool} (h : ¬ b = false) : b = true := by cases b <;> simp_all

structure Parts (t : List UInt8) (u : PUnit) (r1 r2 r3 r4 : List UInt8) : Prop where
  len : t.length ≤ 20000
  head : t.take 5 = magic
  s1 : rdSect 1 (rdList rdKinds) (t.drop 5) = some (u.shapes, r1)
  o1 : shapesOk u.shapes = true
  s2 : rdSect 2 (rdList rdSigned) r1 = some (u.consts, r2)
  o2 : constsOk u.consts = true
  s3 : rdSect 3 (rdList rdFunc) r2 = some (u.funcs, r3)
  o3 : funcsOk u.funcs u.shapes.length = true
  s4 : rdSect 4 (rdList rdImp) r3 = some (u.imports, r4)
  o4 : importsOk u.imports u.shapes.length = true
  s5 : rdSect 5 (rdList rdExp) r4 = some (u.exports, [])
  o5 : exportsOk u.exports u.funcs.length = true

theorem dec_parts {t : List UInt8} {u : PUnit} (h : dec t = .inl u) : ∃ r1 r2 r3 r4, Parts t u r1 r2 r3 r4 := by
  unfold dec at h
  by_cases h1 : 20000 < t.length
  · rw [if_pos h1] at h; cases h
  rw [if_neg h1] at h
  by_cases h2 : t.take 5 ≠ magic
  · rw [if_pos h2] at h; cases h
  rw [if_neg h2] at h
  have h2' : t.take 5 = magic := Classical.byContradiction h2
  cases s1 : rdSect 1 (rdList rdKinds) (t.drop 5) with
  | none => rw [s1] at h; cases h
  | some p1 =>
  obtain ⟨sh, r1⟩ := p1
  rw [s1] at h
  simp only at h
  by_cases o1 : shapesOk sh = false
  · rw [if_pos o1] at h; cases h
  rw [if_neg o1] at h
  cases s2 : rdSect 2 (rdList rdSigned) r1 with
  | none => rw [s2] at h; cases h
  | some p2 =>
  obtain ⟨cs, r2⟩ := p2
  rw [s2] at h
  simp only at h
  by_cases o2 : constsOk cs = false
  · rw [if_pos o2] at h; cases h
  rw [if_neg o2] at h
  cases s3 : rdSect 3 (rdList rdFunc) r2 with
  | none => rw [s3] at h; cases h
  | some p3 =>
  obtain ⟨fs, r3⟩ := p3
  rw [s3] at h
  simp only at h
  by_cases o3 : funcsOk fs sh.length = false
  · rw [if_pos o3] at h; cases h
  rw [if_neg o3] at h
  cases s4 : rdSect 4 (rdList rdImp) r3 with
  | none => rw [s4] at h; cases h
  | some p4 =>
  obtain ⟨im, r4⟩ := p4
  rw [s4] at h
  simp only at h
  by_cases o4 : importsOk im sh.length = false
  · rw [if_pos o4] at h; cases h
  rw [if_neg o4] at h
  cases s5 : rdSect 5 (rdList rdExp) r4 with
  | none => rw [s5] at h; cases h
  | some p5 =>
  obtain ⟨ex, r5⟩ := p5
  rw [s5] at h
  simp only at h
  by_cases o5 : exportsOk ex fs.length = false
  · rw [if_pos o5] at h; cases h
  rw [if_neg o5] at h
  by_cases h6 : r5 = []
  · rw [if_pos h6] at h
    simp only [Sum.inl.injEq] at h
    subst h
    subst h6
    exact ⟨r1, r2, r3, r4, by omega, h2', s1, bool_ne o1, s2, bool_ne o2, s3, bool_ne o3, s4, bool_ne o4, s5, bool_ne o5⟩
  · rw [if_neg h6] at h; cases h

theorem rdN_all {α : Type} {f : List UInt8 → Option (α × List UInt8)} {Q : α → Prop} (hf : ∀ r y r', f r = some (y, r') → Q y) : ∀ (n : Nat) (r : List UInt8) (ys : List α) (r' : List UInt8), rdN f n r = some (ys, r') → ∀ y ∈ ys, Q y
  | 0, r, ys, r', h => by
    simp only [rdN, Option.some.injEq, Prod.mk.injEq] at h
    rw [← h.1]; simp
  | n + 1, r, ys, r', h => by
    simp only [rdN] at h
    cases h1 : f r with
    | none => rw [h1] at h; cases h
    | some p =>
      obtain ⟨y, r1⟩ := p
      rw [h1] at h
      simp only at h
      cases h2 : rdN f n r1 with
      | none => rw [h2] at h; cases h
      | some q =>
        obtain ⟨zs, r2⟩ := q
        rw [h2] at h
        simp only [Option.some.injEq, Prod.mk.injEq] at h
        rw [← h.1]
        intro z hz
        rcases List.mem_cons.1 hz with rfl | hz
        · exact hf _ _ _ h1
        · exact rdN_all hf n r1 zs r2 h2 z hz
theorem rdSigned_fits : ∀ r y r', rdSigned r = some (y, r') → -9223372036854775808 ≤ y ∧ y ≤ 9223372036854775807 := by
  intro r y r' h
  unfold rdSigned at h
  cases hn : rdNum 0 0 r with
  | none => rw [hn] at h; cases h
  | some p =>
    obtain ⟨n, r1⟩ := p
    rw [hn] at h
    simp only [Option.map_some, Option.some.injEq, Prod.mk.injEq] at h
    rw [← h.1]
    exact unzig_fits (rdNum_lt r 0 0 (by decide) (by decide) n r1 hn)
theorem body_fits {b : List UInt8} {cs : List Int} (h : rdBody (rdList rdSigned) b = some cs) : ∀ x ∈ cs, -9223372036854775808 ≤ x ∧ x ≤ 9223372036854775807 := by
  unfold rdBody at h
  split at h
  · rename_i y heq
    simp only [Option.some.injEq] at h
    subst h
    unfold rdList at heq
    cases hn : rdNum 0 0 b with
    | none => rw [hn] at heq; cases heq
    | some p =>
      obtain ⟨n, r1⟩ := p
      rw [hn] at heq
      simp only at heq
      split at heq
      · exact rdN_all rdSigned_fits n r1 _ _ heq
      · cases heq
  · cases h

theorem parts_enc {t : List UInt8} {u : PUnit} {r1 r2 r3 r4 : List UInt8} (P : Parts t u r1 r2 r3 r4) :
    unitOk u = true ∧ Fits u ∧ t = enc u ∧ r4 = sect 5 (body5 u) ∧ t = enc4 u ++ r4 ∧ r3 = sect 4 (body4 u) ++ r4 ∧ r2 = sect 3 (body3 u) ++ r3 ∧ r1 = sect 2 (body2 u) ++ r2 ∧ t.drop 5 = sect 1 (body1 u) ++ r1 ∧
    rdBody (rdList rdKinds) (body1 u) = some u.shapes ∧ rdBody (rdList rdSigned) (body2 u) = some u.consts ∧ rdBody (rdList rdFunc) (body3 u) = some u.funcs ∧ rdBody (rdList rdImp) (body4 u) = some u.imports := by
  obtain ⟨e1, b1⟩ := sect_inv (list_inv kinds_inv) P.s1
  obtain ⟨e2, b2⟩ := sect_inv (list_inv signed_inv) P.s2
  obtain ⟨e3, b3⟩ := sect_inv (list_inv func_inv) P.s3
  obtain ⟨e4, b4⟩ := sect_inv (list_inv imp_inv) P.s4
  obtain ⟨e5, b5⟩ := sect_inv (list_inv exp_inv) P.s5
  have ht : t = magic ++ t.drop 5 := by rw [← P.head, List.take_append_drop]
  rw [List.append_nil] at e5
  have ht4 : t = enc4 u ++ r4 := by
    rw [ht, e1, e2, e3, e4]
    unfold enc4 enc3 enc2 enc1 body1 body2 body3 body4
    simp only [List.append_assoc]
  refine ⟨?_, body_fits b2, ?_, e5, ht4, e4, e3, e2, e1, b1, b2, b3, b4⟩
  · unfold unitOk; rw [P.o1, P.o2, P.o3, P.o4, P.o5]; rfl
  · conv => lhs; rw [ht4, e5]
    rfl
theorem sect_len (n : Nat) (b : List UInt8) (hb : 1 ≤ b.length) : 7 ≤ (sect n b).length := by
  have := (numF_len 10 b.length).2
  unfold sect num; simp only [List.length_append, leK_len, List.length_cons, List.length_nil]; omega
theorem enc4_len (u : PUnit) : 33 ≤ (enc4 u).length := by
  have h1 := sect_len 1 (body1 u) encs_pos
  have h2 := sect_len 2 (body2 u) encs_pos
  have h3 := sect_len 3 (body3 u) encs_pos
  have h4 := sect_len 4 (body4 u) encs_pos
  unfold enc4 enc3 enc2 enc1; simp only [List.length_append]
  have : magic.length = 5 := rfl
  omega

/-- a unit's bytes, the check of whose last section is another: refused at that section -/
theorem dec_flip {t t' : List UInt8} {u : PUnit} (h : dec t = .inl u) (hl : t'.length = t.length) (hp : t'.take (t.length - 4) = t.take (t.length - 4)) (hne : t' ≠ t) : dec t' = .inr (2, (enc4 u).length) ∧ 33 ≤ (enc4 u).length ∧ (enc4 u).length + 6 < t.length := by
  obtain ⟨r1, r2, r3, r4, P⟩ := dec_parts h
  obtain ⟨_, _, ht, e5, ht4, e4, e3, e2, e1, b1, b2, b3, b4⟩ := parts_enc P
  have L := enc4_len u
  have L5 := sect_len 5 (body5 u) encs_pos
  have Lt : t.length = (enc4 u).length + (sect 5 (body5 u)).length := by conv => lhs; rw [ht4, e5, List.length_append]
  have P1 := P.len
  refine ⟨?_, L, by omega⟩
  -- t' is t but for its last four bytes
  obtain ⟨c, hc⟩ : ∃ c, t' = enc4 u ++ ([UInt8.ofNat 5] ++ num (body5 u).length ++ body5 u ++ c) ∧ c.length = 4 := by
    refine ⟨t'.drop (t.length - 4), ?_, by rw [List.length_drop]; omega⟩
    have h1 : t.take (t.length - 4) = enc4 u ++ ([UInt8.ofNat 5] ++ num (body5 u).length ++ body5 u) := by
      have e : t = (enc4 u ++ ([UInt8.ofNat 5] ++ num (body5 u).length ++ body5 u)) ++ leK (crc (body5 u)) 4 := by
        conv => lhs; rw [ht4, e5]
        unfold sect; simp only [List.append_assoc]
      have hlen : t.length - 4 = (enc4 u ++ ([UInt8.ofNat 5] ++ num (body5 u).length ++ body5 u)).length := by
        have := congrArg List.length e
        rw [List.length_append, leK_len] at this; omega
      rw [hlen]; conv => lhs; rw [e]
      rw [List.take_left']; rfl
    conv => lhs; rw [← List.take_append_drop (t.length - 4) t', hp, h1]
    simp only [List.append_assoc]
  obtain ⟨ht', hcl⟩ := hc
  have hcne : c ≠ leK (crc (body5 u)) 4 := by
    intro e; apply hne
    rw [ht', e, ht4, e5]; unfold sect; rfl
  have hb5 : (body5 u).length < 18446744073709551616 := by
    have : (body5 u).length ≤ (sect 5 (body5 u)).length := by unfold sect; simp only [List.length_append]; omega
    omega
  have hb : ∀ n b, (sect n b).length ≤ t.length → b.length < 18446744073709551616 := by
    intro n b hh
    have : b.length ≤ (sect n b).length := by unfold sect; simp only [List.length_append]; omega
    omega
  have l1 : (sect 1 (body1 u)).length ≤ t.length := by have : (sect 1 (body1 u)).length ≤ (enc4 u).length := by { unfold enc4 enc3 enc2 enc1; simp only [List.length_append]; omega }; omega
  have l2 : (sect 2 (body2 u)).length ≤ t.length := by have : (sect 2 (body2 u)).length ≤ (enc4 u).length := by { unfold enc4 enc3 enc2 enc1; simp only [List.length_append]; omega }; omega
  have l3 : (sect 3 (body3 u)).length ≤ t.length := by have : (sect 3 (body3 u)).length ≤ (enc4 u).length := by { unfold enc4 enc3 enc2 enc1; simp only [List.length_append]; omega }; omega
  have l4 : (sect 4 (body4 u)).length ≤ t.length := by have : (sect 4 (body4 u)).length ≤ (enc4 u).length := by { unfold enc4 enc3 enc2 enc1; simp only [List.length_append]; omega }; omega
  generalize hx : [UInt8.ofNat 5] ++ num (body5 u).length ++ body5 u ++ c = x at ht'
  have hbad : rdSect 5 (rdList rdExp) x = none := by
    unfold rdSect; rw [← hx, open_bad (body5 u) c (by decide) hb5 hcl hcne]
  have hshape : t' = magic ++ (sect 1 (body1 u) ++ (sect 2 (body2 u) ++ (sect 3 (body3 u) ++ (sect 4 (body4 u) ++ x)))) := by
    rw [ht']; unfold enc4 enc3 enc2 enc1; simp only [List.append_assoc]
  have hhead : t'.take 5 = magic := by rw [hshape]; rfl
  have hdrop : t'.drop 5 = sect 1 (body1 u) ++ (sect 2 (body2 u) ++ (sect 3 (body3 u) ++ (sect 4 (body4 u) ++ x))) := by rw [hshape]; rfl
  have hpl : pl t' x = (enc4 u).length := by
    unfold pl; rw [ht', List.length_append]; omega
  unfold dec
  rw [if_neg (by omega), if_neg (fun hh => hh hhead), hdrop, sect_fwd (by decide) (hb _ _ l1) b1]
  simp only
  rw [if_neg (by rw [P.o1]; simp), sect_fwd (by decide) (hb _ _ l2) b2]
  simp only
  rw [if_neg (by rw [P.o2]; simp), sect_fwd (by decide) (hb _ _ l3) b3]
  simp only
  rw [if_neg (by rw [P.o3]; simp), sect_fwd (by decide) (hb _ _ l4) b4]
  simp only
  rw [if_neg (by rw [P.o4]; simp), hbad]
  simp only [hpl]

theorem dec_ok {t : List UInt8} {u : PUnit} (h : dec t = .inl u) : unitOk u = true ∧ Fits u ∧ enc u = t ∧ t.length ≤ 20000 ∧ 40 ≤ t.length := by
  obtain ⟨r1, r2, r3, r4, P⟩ := dec_parts h
  obtain ⟨h1, h2, h3, h4, h5, _⟩ := parts_enc P
  have L := enc4_len u
  have L5 := sect_len 5 (body5 u) encs_pos
  have Lt : t.length = (enc4 u).length + (sect 5 (body5 u)).length := by conv => lhs; rw [h5, h4, List.length_append]
  exact ⟨h1, h2, h3.symm, P.len, by omega⟩
end Go.Proofs.Ytkgncijcnlfhiaa
