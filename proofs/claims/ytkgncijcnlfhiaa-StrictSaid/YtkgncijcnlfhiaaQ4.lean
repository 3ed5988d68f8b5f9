import Derived.Test.YtkgncijcnlfhiaaQ3
namespace Go.Proofs.Ytkgncijcnlfhiaa
set_option linter.unusedVariables false
set_option linter.unusedSimpArgs false

theorem dec_err {t : List UInt8} {e : Int} {p : Nat} (h : dec t = .inr (e, p)) : (e = 2 ∧ p ≤ t.length) ∨ (e = 3 ∧ p = 0 ∧ 20000 < t.length) := by
  unfold dec at h
  by_cases h1 : 20000 < t.length
  · rw [if_pos h1] at h
    simp only [Sum.inr.injEq, Prod.mk.injEq] at h
    exact .inr ⟨h.1.symm, h.2.symm, h1⟩
  rw [if_neg h1] at h
  left
  by_cases h2 : t.take 5 ≠ magic
  · rw [if_pos h2] at h
    simp only [Sum.inr.injEq, Prod.mk.injEq] at h
    exact ⟨h.1.symm, by omega⟩
  rw [if_neg h2] at h
  have h2' : t.take 5 = magic := Classical.byContradiction h2
  have h5 : 5 ≤ t.length := by
    have h3 := congrArg List.length h2'
    rw [List.length_take] at h3
    have : magic.length = 5 := rfl
    omega
  have hpl : ∀ r, pl t r ≤ t.length := fun r => by unfold pl; omega
  repeat (split at h <;> try (simp only [Sum.inr.injEq, Prod.mk.injEq] at h; exact ⟨h.1.symm, by have := hpl; have := h.2; subst this; first | omega | exact hpl _⟩))
  all_goals cases h

theorem dec_magic : dec [75, 73, 76, 78, 1] = .inr (2, 5) := by rfl
end Go.Proofs.Ytkgncijcnlfhiaa
