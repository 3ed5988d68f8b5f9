import Derived.Test.YtkgncijcnlfhiaaQ1
namespace Go.Proofs.Ytkgncijcnlfhiaa
set_option linter.unusedVariables false
set_option linter.unusedSimpArgs false

theorem numF_fwd : ∀ (j k v m : Nat) (r : List UInt8), j + k = 10 → v < 2 ^ (7 * k) → v + m * 2 ^ (7 * k) < 18446744073709551616 → (k ≠ 0 → m ≠ 0) → rdNum k v (numF j m ++ r) = some (v + m * 2 ^ (7 * k), r)
  | 0, k, v, m, r, hjk, hv, hlt, hm => by
    have hk : k = 10 := by omega
    subst hk
    have h1 : m ≠ 0 := hm (by decide)
    have h2 : 1 * 2 ^ (7 * 10) ≤ m * 2 ^ (7 * 10) := Nat.mul_le_mul_right _ (by omega)
    omega
  | j + 1, k, v, m, r, hjk, hv, hlt, hm => by
    by_cases hs : m < 128
    · rw [numF_small hs]
      have hb : (UInt8.ofNat m).toNat = m := by rw [UInt8.toNat_ofNat']; omega
      show rdNum k v (UInt8.ofNat m :: r) = _
      unfold rdNum
      rw [hb, Nat.mod_eq_of_lt hs, if_pos (by omega), if_pos hs, if_pos]
      by_cases h0 : k = 0
      · exact .inr h0
      · exact .inl (hm h0)
    · rw [numF_big hs]
      have hb : (UInt8.ofNat (m % 128 + 128)).toNat = m % 128 + 128 := by rw [UInt8.toNat_ofNat']; omega
      show rdNum k v (UInt8.ofNat (m % 128 + 128) :: (numF j (m / 128) ++ r)) = _
      unfold rdNum
      have hl : (m % 128 + 128) % 128 = m % 128 := by omega
      have hle : m % 128 * 2 ^ (7 * k) ≤ m * 2 ^ (7 * k) := Nat.mul_le_mul_right _ (by omega)
      rw [hb, hl, if_pos (by omega), if_neg (by omega)]
      have hp : 2 ^ (7 * (k + 1)) = 2 ^ (7 * k) * 128 := by rw [show 7 * (k + 1) = 7 * k + 7 by omega, Nat.pow_add]
      have h2 : m % 128 * 2 ^ (7 * k) ≤ 127 * 2 ^ (7 * k) := Nat.mul_le_mul_right _ (by omega)
      have e : v + m % 128 * 2 ^ (7 * k) + m / 128 * 2 ^ (7 * (k + 1)) = v + m * 2 ^ (7 * k) := by
        rw [hp, show m / 128 * (2 ^ (7 * k) * 128) = (128 * (m / 128)) * 2 ^ (7 * k) by rw [Nat.mul_comm (2 ^ (7 * k)) 128, ← Nat.mul_assoc, Nat.mul_comm (m / 128) 128], Nat.add_assoc, ← Nat.add_mul, show m % 128 + 128 * (m / 128) = m by omega]
      rw [numF_fwd j (k + 1) _ (m / 128) r (by omega) (by rw [hp]; omega) (by rw [e]; exact hlt) (by intro; omega), e]
theorem num_fwd {n : Nat} (r : List UInt8) (h : n < 18446744073709551616) : rdNum 0 0 (num n ++ r) = some (n, r) := by
  have := numF_fwd 10 0 0 n r rfl (by decide) (by simpa using h) (by simp)
  unfold num; simpa using this
theorem take_fwd (b r : List UInt8) : rdTake b.length (b ++ r) = some (b, r) := by simp [rdTake]
theorem leK_cons (c j : Nat) : leK c (j + 1) = UInt8.ofNat (c % 256) :: leK (c / 256) j := by
  unfold leK
  rw [List.range_succ_eq_map, List.map_cons, List.map_map]
  congr 1
  · simp
  · apply List.map_congr_left
    intro i _
    simp only [Function.comp, Nat.succ_eq_add_one]
    rw [Nat.pow_succ, Nat.mul_comm, Nat.div_div_eq_div_mul]
theorem sum_fwd : ∀ (j c : Nat) (r : List UInt8), rdSum j c (leK c j ++ r) = some r
  | 0, c, r => by simp [rdSum, leK]
  | j + 1, c, r => by
    rw [leK_cons]
    show rdSum (j + 1) c (UInt8.ofNat (c % 256) :: (leK (c / 256) j ++ r)) = _
    simp only [rdSum, rdByte]
    rw [if_pos (by rw [UInt8.toNat_ofNat']; omega)]
    exact sum_fwd j (c / 256) r
theorem sum_inv : ∀ (j c : Nat) (r r' : List UInt8), rdSum j c r = some r' → r = leK c j ++ r'
  | 0, c, r, r', h => by simp only [rdSum, Option.some.injEq] at h; rw [h]; simp [leK]
  | j + 1, c, [], r', h => by simp [rdSum, rdByte] at h
  | j + 1, c, b :: r, r', h => by
    simp only [rdSum, rdByte] at h
    split at h
    · rename_i hb
      rw [leK_cons, ← hb, UInt8.ofNat_toNat, sum_inv j _ r r' h]; rfl
    · cases h
theorem open_inv {n : Nat} {r b r' : List UInt8} (h : rdOpen n r = some (b, r')) : r = sect n b ++ r' := by
  cases r with
  | nil => simp [rdOpen, rdByte] at h
  | cons x r1 =>
    simp only [rdOpen, rdByte] at h
    by_cases hx : x.toNat = n
    · rw [if_pos hx] at h
      cases hn : rdNum 0 0 r1 with
      | none => rw [hn] at h; cases h
      | some p =>
        obtain ⟨k, r2⟩ := p
        rw [hn] at h
        simp only at h
        cases ht : rdTake k r2 with
        | none => rw [ht] at h; cases h
        | some q =>
          obtain ⟨y, r3⟩ := q
          rw [ht] at h
          simp only at h
          cases hs : rdSum 4 (crc y) r3 with
          | none => rw [hs] at h; cases h
          | some r4 =>
            rw [hs] at h
            simp only [Option.some.injEq, Prod.mk.injEq] at h
            obtain ⟨t1, t2⟩ := take_inv ht
            rw [num_inv hn, t1, sum_inv 4 _ r3 r4 hs, ← h.1, ← h.2, ← t2, ← hx]
            unfold sect
            rw [UInt8.ofNat_toNat]; simp only [List.append_assoc, List.cons_append, List.nil_append]
    · rw [if_neg hx] at h; cases h
theorem open_fwd {n : Nat} (b r : List UInt8) (hn : n < 256) (hb : b.length < 18446744073709551616) : rdOpen n (sect n b ++ r) = some (b, r) := by
  have e : sect n b ++ r = UInt8.ofNat n :: (num b.length ++ (b ++ (leK (crc b) 4 ++ r))) := by unfold sect; simp only [List.append_assoc, List.cons_append, List.nil_append]
  rw [e]
  simp only [rdOpen, rdByte]
  rw [if_pos (by rw [UInt8.toNat_ofNat']; omega), num_fwd _ hb]
  simp only [take_fwd, sum_fwd]
theorem open_bad {n : Nat} (b c : List UInt8) (hn : n < 256) (hb : b.length < 18446744073709551616) (hl : c.length = 4) (hc : c ≠ leK (crc b) 4) : rdOpen n ([UInt8.ofNat n] ++ num b.length ++ b ++ c) = none := by
  have e : [UInt8.ofNat n] ++ num b.length ++ b ++ c = UInt8.ofNat n :: (num b.length ++ (b ++ c)) := by simp only [List.append_assoc, List.cons_append, List.nil_append]
  rw [e]
  simp only [rdOpen, rdByte]
  rw [if_pos (by rw [UInt8.toNat_ofNat']; omega), num_fwd _ hb]
  simp only [take_fwd]
  cases hs : rdSum 4 (crc b) c with
  | none => rfl
  | some r' =>
    exfalso
    have h := sum_inv 4 _ c r' hs
    have h2 : r' = [] := by
      have := congrArg List.length h
      rw [List.length_append, leK_len, hl] at this
      exact List.eq_nil_of_length_eq_zero (by omega)
    rw [h2, List.append_nil] at h
    exact hc h

def rdBody {α : Type} (f : List UInt8 → Option (List α × List UInt8)) (b : List UInt8) : Option (List α) := match f b with
  | some (y, []) => some y
  | _ => none
/-- a section, with the list that it holds -/
def rdSect {α : Type} (n : Nat) (f : List UInt8 → Option (List α × List UInt8)) (r : List UInt8) : Option (List α × List UInt8) := match rdOpen n r with
  | none => none
  | some (b, r') => match rdBody f b with
    | none => none
    | some y => some (y, r')
theorem sect_inv {α : Type} {n : Nat} {f : List UInt8 → Option (List α × List UInt8)} {g : List α → List UInt8} (hf : Inv f g) {r r' : List UInt8} {y : List α} (h : rdSect n f r = some (y, r')) : r = sect n (g y) ++ r' ∧ rdBody f (g y) = some y := by
  unfold rdSect at h
  cases ho : rdOpen n r with
  | none => rw [ho] at h; cases h
  | some p =>
    obtain ⟨b, r1⟩ := p
    rw [ho] at h
    simp only at h
    cases hb : rdBody f b with
    | none => rw [hb] at h; cases h
    | some z =>
      rw [hb] at h
      simp only [Option.some.injEq, Prod.mk.injEq] at h
      obtain ⟨rfl, rfl⟩ := h
      have hfb : f b = some (z, []) := by
        unfold rdBody at hb
        split at hb
        · rename_i y' heq; simp only [Option.some.injEq] at hb; rw [heq, hb]
        · cases hb
      have e := hf b z [] hfb
      rw [List.append_nil] at e
      rw [← e]
      exact ⟨open_inv ho, hb⟩
theorem sect_fwd {α : Type} {n : Nat} {f : List UInt8 → Option (List α × List UInt8)} {b r : List UInt8} {y : List α} (hn : n < 256) (hb : b.length < 18446744073709551616) (hf : rdBody f b = some y) : rdSect n f (sect n b ++ r) = some (y, r) := by
  unfold rdSect; rw [open_fwd b r hn hb]; simp only [hf]

def pl (t r : List UInt8) : Nat := t.length - r.length
/-- Decode, plain: the unit, or the error and its place -/
def dec (t : List UInt8) : PUnit ⊕ (Int × Nat) :=
  if 20000 < t.length then .inr (3, 0)
  else if t.take 5 ≠ magic then .inr (2, 0)
  else match rdSect 1 (rdList rdKinds) (t.drop 5) with
    | none => .inr (2, 5)
    | some (sh, r1) => if shapesOk sh = false then .inr (2, 5) else match rdSect 2 (rdList rdSigned) r1 with
      | none => .inr (2, pl t r1)
      | some (cs, r2) => if constsOk cs = false then .inr (2, pl t r1) else match rdSect 3 (rdList rdFunc) r2 with
        | none => .inr (2, pl t r2)
        | some (fs, r3) => if funcsOk fs sh.length = false then .inr (2, pl t r2) else match rdSect 4 (rdList rdImp) r3 with
          | none => .inr (2, pl t r3)
          | some (im, r4) => if importsOk im sh.length = false then .inr (2, pl t r3) else match rdSect 5 (rdList rdExp) r4 with
            | none => .inr (2, pl t r4)
            | some (ex, r5) => if exportsOk ex fs.length = false then .inr (2, pl t r4) else if r5 = [] then .inl ⟨sh, cs, fs, im, ex⟩ else .inr (2, pl t r5)
end Go.Proofs.Ytkgncijcnlfhiaa
