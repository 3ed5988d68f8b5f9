import Derived.Test.YtkgncijcnlfhiaaDoorQ1
namespace Go.Proofs.YtkgncijcnlfhiaaDoor
set_option linter.unusedVariables false
set_option linter.unusedSimpArgs false

theorem numF_fwd : ∀ (j k v m : Nat) (r : List UInt8), j + k = 10 → v < 2 ^ (7 * k) → v + m * 2 ^ (7 * k) < 18446744073709551616 → (k ≠ 0 → m ≠ 0) → rdNum k v (numF j m ++ r) = some (v + m * 2 ^ (7 * k), r)
  | 0, k, v, m, r, hjk, hv, hlt, hm => by
    have hk : k = 10 := by omega
    subst hk
    have h1 : m ≠ 0 := hm (by decide)
    have h2 : 1 * 2 ^ (7 * 10) ≤ m * 2 ^ (7 * 10) := Nat.mul_le_mul_right _ (by omega)
    omega
  | j + 1, k, v, m, r, hjk, hv, hlt, hm => by
    by_cases hs : m < 128
    · rw [numF_small hs]
      have hb : (UInt8.ofNat m).toNat = m := by rw [UInt8.toNat_ofNat']; omega
      show rdNum k v (UInt8.ofNat m :: r) = _
      unfold rdNum
      rw [hb, Nat.mod_eq_of_lt hs, if_pos (by omega), if_pos hs, if_pos]
      by_cases h0 : k = 0
      · exact .inr h0
      · exact .inl (hm h0)
    · rw [numF_big hs]
      have hb : (UInt8.ofNat (m % 128 + 128)).toNat = m % 128 + 128 := by rw [UInt8.toNat_ofNat']; omega
      show rdNum k v (UInt8.ofNat (m % 128 + 128) :: (numF j (m / 128) ++ r)) = _
      unfold rdNum
      have hl : (m % 128 + 128) % 128 = m % 128 := by omega
      have hle : m % 128 * 2 ^ (7 * k) ≤ m * 2 ^ (7 * k) := Nat.mul_le_mul_right _ (by omega)
      rw [hb, hl, if_pos (by omega), if_neg (by omega)]
      have hp : 2 ^ (7 * (k + 1)) = 2 ^ (7 * k) * 128 := by rw [show 7 * (k + 1) = 7 * k + 7 by omega, Nat.pow_add]
      have h2 : m % 128 * 2 ^ (7 * k) ≤ 127 * 2 ^ (7 * k) := Nat.mul_le_mul_right _ (by omega)
      have e : v + m % 128 * 2 ^ (7 * k) + m / 128 * 2 ^ (7 * (k + 1)) = v + m * 2 ^ (7 * k) := by
        rw [hp, show m / 128 * (2 ^ (7 * k) * 128) = (128 * (m / 128)) * 2 ^ (7 * k) by rw [Nat.mul_comm (2 ^ (7 * k)) 128, ← Nat.mul_assoc, Nat.mul_comm (m / 128) 128], Nat.add_assoc, ← Nat.add_mul, show m % 128 + 128 * (m / 128) = m by omega]
      rw [numF_fwd j (k + 1) _ (m / 128) r (by omega) (by rw [hp]; omega) (by rw [e]; exact hlt) (by intro; omega), e]
theorem num_fwd {n : Nat} (r : List UInt8) (h : n < 18446744073709551616) : rdNum 0 0 (num n ++ r) = some (n, r) := by
  have := numF_fwd 10 0 0 n r rfl (by decide) (by simpa using h) (by simp)
  unfold num; simpa using this
theorem take_fwd (b r : List UInt8) : rdTake b.length (b ++ r) = some (b, r) := by simp [rdTake]
theorem leK_cons (c j : Nat) : leK c (j + 1) = UInt8.ofNat (c % 256) :: leK (c / 256) j := by
  unfold leK
  rw [List.range_succ_eq_map, List.map_cons, List.map_map]
  congr 1
  · simp
  · apply List.map_congr_left
    intro i _
    simp only [Function.comp, Nat.succ_eq_add_one]
    rw [Nat.pow_succ, Nat.mul_comm, Nat.div_div_eq_div_mul]
theorem sum_fwd : ∀ (j c : Nat) (r : List UInt8), rdSum j c (leK c j ++ r) = some r
  | 0, c, r => by simp [rdSum, leK]
  | j + 1, c, r => by
    rw [leK_cons]
    show rdSum (j + 1) c (UInt8.ofNat (c % 256) :: (leK (c / 256) j ++ r)) = _
    simp only [rdSum, rdByte]
    rw [if_pos (by rw [UInt8.toNat_ofNat']; omega)]
    exact sum_fwd j (c / 256) r
theorem sum_inv : ∀ (j c : Nat) (r r' : List UInt8), rdSum j c r = some r' → r = leK c j ++ r'
  | 0, c, r, r', h => by simp only [rdSum, Option.some.injEq] at h; rw [h]; simp [leK]
  | j + 1, c, [], r', h => by simp [rdSum, rdByte] at h
  | j + 1, c, b :: r, r', h => by
    simp only [rdSum, rdByte] at h
    split at h
    · rename_i hb
      rw [leK_cons, ← hb, UInt8.ofNat_toNat, sum_inv j _ r r' h]; rfl
    · cases h
theorem open_inv {n : Nat} {r b r' : List UInt8} (h : rdOpen n r = some (b, r')) : r = sect n b ++ r' := by
  cases r with
  | nil => simp [rdOpen, rdByte] at h
  | cons x r1 =>
    simp only [rdOpen, rdByte] at h
    by_cases hx : x.toNat = n
    · rw [if_pos hx] at h
      cases hn : rdNum 0 0 r1 with
      | none => rw [hn] at h; cases h
      | some p =>
        obtain ⟨k, r2⟩ := p
        rw [hn] at h
        simp only at h
        cases ht : rdTake k r2 with
        | none => rw [ht] at h; cases h
        | some q =>
          obtain ⟨y, r3⟩ := q
          rw [ht] at h
          simp only at h
          cases hs : rdSum 4 (crc y) r3 with
          | none => rw [hs] at h; cases h
          | some r4 =>
            rw [hs] at h
            simp only [Option.some.injEq, Prod.mk.injEq] at h
            obtain ⟨t1, t2⟩ := take_inv ht
            rw [num_inv hn, t1, sum_inv 4 _ r3 r4 hs, ← h.1, ← h.2, ← t2, ← hx]
            unfold sect
            rw [UInt8.ofNat_toNat]; simp only [List.append_assoc, List.cons_append, List.nil_append]
    · rw [if_neg hx] at h; cases h
theorem open_fwd {n : Nat} (b r : List UInt8) (hn : n < 256) (hb : b.length < 18446744073709551616) : rdOpen n (sect n b ++ r) = some (b, r) := by
  have e : sect n b ++ r = UInt8.ofNat n :: (num b.length ++ (b ++ (leK (crc b) 4 ++ r))) := by unfold sect; simp only [List.append_assoc, List.cons_append, List.nil_append]
  rw [e]
  simp only [rdOpen, rdByte]
  rw [if_pos (by rw [UInt8.toNat_ofNat']; omega), num_fwd _ hb]
  simp only [take_fwd, sum_fwd]
def rdBody {α : Type} (f : List UInt8 → Option (List α × List UInt8)) (b : List UInt8) : Option (List α) := match f b with
  | some (y, []) => some y
  | _ => none
/-- a section, with the list that it holds -/
def rdSect {α : Type} (n : Nat) (f : List UInt8 → Option (List α × List UInt8)) (r : List UInt8) : Option (List α × List UInt8) := match rdOpen n r with
  | none => none
  | some (b, r') => match rdBody f b with
    | none => none
    | some y => some (y, r')
theorem sect_inv {α : Type} {n : Nat} {f : List UInt8 → Option (List α × List UInt8)} {g : List α → List UInt8} (hf : Inv f g) {r r' : List UInt8} {y : List α} (h : rdSect n f r = some (y, r')) : r = sect n (g y) ++ r' ∧ rdBody f (g y) = some y := by
  unfold rdSect at h
  cases ho : rdOpen n r with
  | none => rw [ho] at h; cases h
  | some p =>
    obtain ⟨b, r1⟩ := p
    rw [ho] at h
    simp only at h
    cases hb : rdBody f b with
    | none => rw [hb] at h; cases h
    | some z =>
      rw [hb] at h
      simp only [Option.some.injEq, Prod.mk.injEq] at h
      obtain ⟨rfl, rfl⟩ := h
      have hfb : f b = some (z, []) := by
        unfold rdBody at hb
        split at hb
        · rename_i y' heq; simp only [Option.some.injEq] at hb; rw [heq, hb]
        · cases hb
      have e := hf b z [] hfb
      rw [List.append_nil] at e
      rw [← e]
      exact ⟨open_inv ho, hb⟩
theorem sect_fwd {α : Type} {n : Nat} {f : List UInt8 → Option (List α × List UInt8)} {b r : List UInt8} {y : List α} (hn : n < 256) (hb : b.length < 18446744073709551616) (hf : rdBody f b = some y) : rdSect n f (sect n b ++ r) = some (y, r) := by
  unfold rdSect; rw [open_fwd b r hn hb]; simp only [hf]

def pl (t r : List UInt8) : Nat := t.length - r.length
/-- Decode, plain: the unit, or the error and its place -/
def dec (t : List UInt8) : PUnit ⊕ (Int × Nat) :=
  if 20000 < t.length then .inr (3, 0)
  else if t.take 5 ≠ magic then .inr (2, 0)
  else match rdSect 1 (rdList rdKinds) (t.drop 5) with
    | none => .inr (2, 5)
    | some (sh, r1) => if shapesOk sh = false then .inr (2, 5) else match rdSect 2 (rdList rdSigned) r1 with
      | none => .inr (2, pl t r1)
      | some (cs, r2) => if constsOk cs = false then .inr (2, pl t r1) else match rdSect 3 (rdList rdFunc) r2 with
        | none => .inr (2, pl t r2)
        | some (fs, r3) => if funcsOk fs sh.length = false then .inr (2, pl t r2) else match rdSect 4 (rdList rdImp) r3 with
          | none => .inr (2, pl t r3)
          | some (im, r4) => if importsOk im sh.length = false then .inr (2, pl t r3) else match rdSect 5 (rdList rdExp) r4 with
            | none => .inr (2, pl t r4)
            | some (ex, r5) => if exportsOk ex fs.length = false then .inr (2, pl t r4) else if r5 = [] then .inl ⟨sh, cs, fs, im, ex⟩ else .inr (2, pl t r5)
end Go.Proofs.YtkgncijcnlfhiaaDoor

namespace Go.Proofs.YtkgncijcnlfhiaaDoor
set_option linter.unusedVariables false
set_option linter.unusedSimpArgs false

theorem bool_ne {b : Bool} (h : ¬ b = false) : b = true := by cases b <;> simp_all

structure Parts (t : List UInt8) (u : PUnit) (r1 r2 r3 r4 : List UInt8) : Prop where
  len : t.length ≤ 20000
  head : t.take 5 = magic
  s1 : rdSect 1 (rdList rdKinds) (t.drop 5) = some (u.shapes, r1)
  o1 : shapesOk u.shapes = true
  s2 : rdSect 2 (rdList rdSigned) r1 = some (u.consts, r2)
  o2 : constsOk u.consts = true
  s3 : rdSect 3 (rdList rdFunc) r2 = some (u.funcs, r3)
  o3 : funcsOk u.funcs u.shapes.length = true
  s4 : rdSect 4 (rdList rdImp) r3 = some (u.imports, r4)
  o4 : importsOk u.imports u.shapes.length = true
  s5 : rdSect 5 (rdList rdExp) r4 = some (u.exports, [])
  o5 : exportsOk u.exports u.funcs.length = true

theorem dec_parts {t : List UInt8} {u : PUnit} (h : dec t = .inl u) : ∃ r1 r2 r3 r4, Parts t u r1 r2 r3 r4 := by
  unfold dec at h
  by_cases h1 : 20000 < t.length
  · rw [if_pos h1] at h; cases h
  rw [if_neg h1] at h
  by_cases h2 : t.take 5 ≠ magic
  · rw [if_pos h2] at h; cases h
  rw [if_neg h2] at h
  have h2' : t.take 5 = magic := Classical.byContradiction h2
  cases s1 : rdSect 1 (rdList rdKinds) (t.drop 5) with
  | none => rw [s1] at h; cases h
  | some p1 =>
  obtain ⟨sh, r1⟩ := p1
  rw [s1] at h
  simp only at h
  by_cases o1 : shapesOk sh = false
  · rw [if_pos o1] at h; cases h
  rw [if_neg o1] at h
  cases s2 : rdSect 2 (rdList rdSigned) r1 with
  | none => rw [s2] at h; cases h
  | some p2 =>
  obtain ⟨cs, r2⟩ := p2
  rw [s2] at h
  simp only at h
  by_cases o2 : constsOk cs = false
  · rw [if_pos o2] at h; cases h
  rw [if_neg o2] at h
  cases s3 : rdSect 3 (rdList rdFunc) r2 with
  | none => rw [s3] at h; cases h
  | some p3 =>
  obtain ⟨fs, r3⟩ := p3
  rw [s3] at h
  simp only at h
  by_cases o3 : funcsOk fs sh.length = false
  · rw [if_pos o3] at h; cases h
  rw [if_neg o3] at h
  cases s4 : rdSect 4 (rdList rdImp) r3 with
  | none => rw [s4] at h; cases h
  | some p4 =>
  obtain ⟨im, r4⟩ := p4
  rw [s4] at h
  simp only at h
  by_cases o4 : importsOk im sh.length = false
  · rw [if_pos o4] at h; cases h
  rw [if_neg o4] at h
  cases s5 : rdSect 5 (rdList rdExp) r4 with
  | none => rw [s5] at h; cases h
  | some p5 =>
  obtain ⟨ex, r5⟩ := p5
  rw [s5] at h
  simp only at h
  by_cases o5 : exportsOk ex fs.length = false
  · rw [if_pos o5] at h; cases h
  rw [if_neg o5] at h
  by_cases h6 : r5 = []
  · rw [if_pos h6] at h
    simp only [Sum.inl.injEq] at h
    subst h
    subst h6
    exact ⟨r1, r2, r3, r4, by omega, h2', s1, bool_ne o1, s2, bool_ne o2, s3, bool_ne o3, s4, bool_ne o4, s5, bool_ne o5⟩
  · rw [if_neg h6] at h; cases h

theorem rdN_all {α : Type} {f : List UInt8 → Option (α × List UInt8)} {Q : α → Prop} (hf : ∀ r y r', f r = some (y, r') → Q y) : ∀ (n : Nat) (r : List UInt8) (ys : List α) (r' : List UInt8), rdN f n r = some (ys, r') → ∀ y ∈ ys, Q y
  | 0, r, ys, r', h => by
    simp only [rdN, Option.some.injEq, Prod.mk.injEq] at h
    rw [← h.1]; simp
  | n + 1, r, ys, r', h => by
    simp only [rdN] at h
    cases h1 : f r with
    | none => rw [h1] at h; cases h
    | some p =>
      obtain ⟨y, r1⟩ := p
      rw [h1] at h
      simp only at h
      cases h2 : rdN f n r1 with
      | none => rw [h2] at h; cases h
      | some q =>
        obtain ⟨zs, r2⟩ := q
        rw [h2] at h
        simp only [Option.some.injEq, Prod.mk.injEq] at h
        rw [← h.1]
        intro z hz
        rcases List.mem_cons.1 hz with rfl | hz
        · exact hf _ _ _ h1
        · exact rdN_all hf n r1 zs r2 h2 z hz
theorem rdSigned_fits : ∀ r y r', rdSigned r = some (y, r') → -9223372036854775808 ≤ y ∧ y ≤ 9223372036854775807 := by
  intro r y r' h
  unfold rdSigned at h
  cases hn : rdNum 0 0 r with
  | none => rw [hn] at h; cases h
  | some p =>
    obtain ⟨n, r1⟩ := p
    rw [hn] at h
    simp only [Option.map_some, Option.some.injEq, Prod.mk.injEq] at h
    rw [← h.1]
    exact unzig_fits (rdNum_lt r 0 0 (by decide) (by decide) n r1 hn)
theorem body_fits {b : List UInt8} {cs : List Int} (h : rdBody (rdList rdSigned) b = some cs) : ∀ x ∈ cs, -9223372036854775808 ≤ x ∧ x ≤ 9223372036854775807 := by
  unfold rdBody at h
  split at h
  · rename_i y heq
    simp only [Option.some.injEq] at h
    subst h
    unfold rdList at heq
    cases hn : rdNum 0 0 b with
    | none => rw [hn] at heq; cases heq
    | some p =>
      obtain ⟨n, r1⟩ := p
      rw [hn] at heq
      simp only at heq
      split at heq
      · exact rdN_all rdSigned_fits n r1 _ _ heq
      · cases heq
  · cases h

theorem parts_enc {t : List UInt8} {u : PUnit} {r1 r2 r3 r4 : List UInt8} (P : Parts t u r1 r2 r3 r4) :
    unitOk u = true ∧ Fits u ∧ t = enc u ∧ r4 = sect 5 (body5 u) ∧ t = enc4 u ++ r4 ∧ r3 = sect 4 (body4 u) ++ r4 ∧ r2 = sect 3 (body3 u) ++ r3 ∧ r1 = sect 2 (body2 u) ++ r2 ∧ t.drop 5 = sect 1 (body1 u) ++ r1 ∧
    rdBody (rdList rdKinds) (body1 u) = some u.shapes ∧ rdBody (rdList rdSigned) (body2 u) = some u.consts ∧ rdBody (rdList rdFunc) (body3 u) = some u.funcs ∧ rdBody (rdList rdImp) (body4 u) = some u.imports := by
  obtain ⟨e1, b1⟩ := sect_inv (list_inv kinds_inv) P.s1
  obtain ⟨e2, b2⟩ := sect_inv (list_inv signed_inv) P.s2
  obtain ⟨e3, b3⟩ := sect_inv (list_inv func_inv) P.s3
  obtain ⟨e4, b4⟩ := sect_inv (list_inv imp_inv) P.s4
  obtain ⟨e5, b5⟩ := sect_inv (list_inv exp_inv) P.s5
  have ht : t = magic ++ t.drop 5 := by rw [← P.head, List.take_append_drop]
  rw [List.append_nil] at e5
  have ht4 : t = enc4 u ++ r4 := by
    rw [ht, e1, e2, e3, e4]
    unfold enc4 enc3 enc2 enc1 body1 body2 body3 body4
    simp only [List.append_assoc]
  refine ⟨?_, body_fits b2, ?_, e5, ht4, e4, e3, e2, e1, b1, b2, b3, b4⟩
  · unfold unitOk; rw [P.o1, P.o2, P.o3, P.o4, P.o5]; rfl
  · conv => lhs; rw [ht4, e5]
    rfl
theorem sect_len (n : Nat) (b : List UInt8) (hb : 1 ≤ b.length) : 7 ≤ (sect n b).length := by
  have := (numF_len 10 b.length).2
  unfold sect num; simp only [List.length_append, leK_len, List.length_cons, List.length_nil]; omega
theorem enc4_len (u : PUnit) : 33 ≤ (enc4 u).length := by
  have h1 := sect_len 1 (body1 u) encs_pos
  have h2 := sect_len 2 (body2 u) encs_pos
  have h3 := sect_len 3 (body3 u) encs_pos
  have h4 := sect_len 4 (body4 u) encs_pos
  unfold enc4 enc3 enc2 enc1; simp only [List.length_append]
  have : magic.length = 5 := rfl
  omega

theorem dec_ok {t : List UInt8} {u : PUnit} (h : dec t = .inl u) : unitOk u = true ∧ Fits u ∧ enc u = t ∧ t.length ≤ 20000 ∧ 40 ≤ t.length := by
  obtain ⟨r1, r2, r3, r4, P⟩ := dec_parts h
  obtain ⟨h1, h2, h3, h4, h5, _⟩ := parts_enc P
  have L := enc4_len u
  have L5 := sect_len 5 (body5 u) encs_pos
  have Lt : t.length = (enc4 u).length + (sect 5 (body5 u)).length := by conv => lhs; rw [h5, h4, List.length_append]
  exact ⟨h1, h2, h3.symm, P.len, by omega⟩
end Go.Proofs.YtkgncijcnlfhiaaDoor

