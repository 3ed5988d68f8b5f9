import Derived.Test.YtkgncijcnlfhiaaM8
namespace Go.Proofs.Ytkgncijcnlfhiaa
set_option linter.unusedVariables false
set_option linter.unusedSimpArgs false
open Go.RowKit
attribute [local go_sem ↓] Go.wp_at_zero Go.wp_at_succ
theorem gr_drewN {w w' : World} (h : Gr w w') (n : Nat) : Gr w (w'.drewN n) := ⟨h.os, h.tape, h.output, h.size, h.block⟩
set_option maxRecDepth 100000 in
set_option maxHeartbeats 1000000 in
theorem same_ints (va vb : Value) (l : List Int) (w : World) (ha : RInts w va l) (hb : RInts w vb l) :
    Calls Try.prog 16 #[va, vb] w fun x w' => x = .returned (.bool true) ∧ Gr w w' := by
  have HA := hide ha
  have HBb := hide hb
  obtain ⟨a1, c1, rfl, hm, _⟩ := ha
  obtain ⟨a2, c2, rfl, _, _⟩ := hb
  unfold maxLen at hm
  go_enter Try.func16, Try.ntmps16
  go_wp2_with fail
  go_loopw [5] (fun i wr => ∃ k : Nat, i = .int .i64 k ∧ k ≤ l.length ∧ Gr w wr) (fun i _ => l.length - (intOf i).toNat)
  case atStart => exact ⟨0, rfl, Nat.zero_le _, Gr.refl _⟩
  case round =>
    obtain ⟨k, rfl, hk, hg⟩ := hrel
    by_cases hlt : k < l.length
    · obtain ⟨a1', c1', h1e, _, hc1⟩ := HA.out
      obtain ⟨a2', c2', h2e, _, hc2⟩ := HBb.out
      simp only [Value.slice.injEq, true_and] at h1e h2e
      obtain ⟨b1, o1, rfl, hx1⟩ := hc1 k hlt
      obtain ⟨b2, o2, rfl, hx2⟩ := hc2 k hlt
      obtain ⟨rfl, rfl⟩ := h1e
      obtain ⟨rfl, rfl⟩ := h2e
      have hy1 := hg.cell hx1 (by simp)
      have hy2 := hg.cell hx2 (by simp)
      generalize l.getD k 0 = x at hy1 hy2 hx1 hx2
      have HG := hide hg
      clear hc1 hc2 hx1 hx2 hg HA HBb
      go_wp2_with fail
      go_quiet (fail)
      go_wp2_with fail
      exact ⟨⟨k + 1, by simp, hlt, gr_drewN HG.out _⟩, by simp [intOf]; omega⟩
    · have hkk : k = l.length := by omega
      subst hkk
      have HG := hide hg
      clear hg
      go_wp2_with fail
      go_ret
      exact ⟨rfl, HG.out⟩
end Go.Proofs.Ytkgncijcnlfhiaa
