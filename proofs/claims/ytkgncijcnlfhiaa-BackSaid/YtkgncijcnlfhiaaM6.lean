import Derived.Test.YtkgncijcnlfhiaaM5
import Derived.Deep.AppendLies
namespace Go.Proofs.Ytkgncijcnlfhiaa
set_option linter.unusedVariables false
set_option linter.unusedSimpArgs false
open Go.RowKit
attribute [local go_sem ↓] Go.wp_at_zero Go.wp_at_succ
theorem one_byte (w : World) (q : Nat) (hq : q < 256) : (convert 37 9 (.slice (some ⟨w.heap.size, 0, none⟩) 1 1)).run Try.prog (w.alloc (.cells #[.int .u8 (q : Int)] 5)) = .ok (.string ⟨#[UInt8.ofNat q]⟩) (w.alloc (.cells #[.int .u8 (q : Int)] 5)) := by
  have h := run_convert_bytes_back (P := Try.prog) (w.alloc (.cells #[.int .u8 (q : Int)] 5)) 37 9 5 ⟨w.heap.size, 0, none⟩ 1 [UInt8.ofNat q] Try.underlying37 Try.underlying5 Try.underlying9 (by
    intro j hj
    have hj0 : j = 0 := by simp at hj; omega
    subst hj0
    have e : (⟨w.heap.size, 0, none⟩ : Addr).add 0 = ⟨w.heap.size, 0, none⟩ := by simp [Addr.add]
    rw [e]
    have e2 : (UInt8.ofNat q).toNat = q := by rw [UInt8.toNat_ofNat']; exact Nat.mod_eq_of_lt hq
    simp [go_sem]; try omega)
  exact h

set_option maxRecDepth 100000 in
set_option maxHeartbeats 2000000 in
theorem mname_any (mb : Nat) (r : List Int) (w : World) (h : MkR w mb r) :
    Calls Try.prog 21 #[.pointer (some ⟨mb, 0, none⟩)] w fun x w' => ∃ s : ByteArray, x = .returned (.string s) ∧ (1 ≤ s.size ∧ s.size ≤ 4) ∧ (∃ r', MkR w' mb r') ∧ Gc mb w w' := by
  have HM := hide h
  have hq := mpick_lt (r := r) (n := 3) (by decide)
  have HN : ∀ V : World, Hid (MkR V mb r → Calls Try.prog 17 #[.pointer (some ⟨mb, 0, none⟩), .int .i64 3] V fun x w' => x = .returned (.int .i64 (mpick r 3)) ∧ MkR w' mb r.tail ∧ Gc mb V w') := fun V => hide (next_any mb r _ (by decide) (by decide) V)
  generalize mpick r 3 = q at hq HN
  have hq2 := mpick_lt (r := r.tail) (n := 256) (by decide)
  have HN2 : ∀ V : World, Hid (MkR V mb r.tail → Calls Try.prog 17 #[.pointer (some ⟨mb, 0, none⟩), .int .i64 256] V fun x w' => x = .returned (.int .i64 (mpick r.tail 256)) ∧ MkR w' mb r.tail.tail ∧ Gc mb V w') := fun V => hide (next_any mb r.tail _ (by decide) (by decide) V)
  obtain ⟨y, hy⟩ : ∃ y : Nat, mpick r.tail 256 = y := ⟨(mpick r.tail 256).toNat, by omega⟩
  rw [hy] at hq2 HN2
  have hy256 : y < 256 := by omega
  clear h hy
  have hw8 : IntKind.u8.wrap (y : Int) = (y : Int) := by rw [IntKind.wrap_u8]; omega
  have hob := fun V : World => one_byte V y hy256
  have hcase : q = 0 ∨ q = 1 ∨ q = 2 := by omega
  rcases hcase with rfl | rfl | rfl
  all_goals
    go_enter Try.func21, Try.ntmps21
    go_wp2_with fail
    refine ((HN w).out HM.out).mono ?_
    rintro x w1 ⟨rfl, hm1, hg1⟩
    have HM1 := hide hm1
    have HG1 := hide hg1
    clear hm1 hg1
    go_wp2_with fail
    go_region_with (first | (go_at_call 17; refine ((HN2 _).out (by exact HM1.out)).mono ?_; rintro x w2 ⟨rfl, hm2, hg2⟩))
    all_goals go_wp2_with fail
    all_goals go_ret
    all_goals exact ⟨_, rfl, ⟨Nat.le_of_ble_eq_true rfl, Nat.le_of_ble_eq_true rfl⟩, ⟨_, hm2.gr ((Gr.refl _).alloc _)⟩, Gc.trans_ HG1.out (Gc.trans_ (Gr.drew (Gr.refl w1)).toGc (Gc.trans_ hg2 ((Gr.refl w2).alloc _).toGc))⟩
end Go.Proofs.Ytkgncijcnlfhiaa
