import Derived.Test.YtkgncijcnlfhiaaT3
import Derived.Lib.BufferWrite
import Derived.Lib.UnsafeStr
import Derived.Lib.Strings
import Derived.Lib.Hide
namespace Go.Proofs.Ytkgncijcnlfhiaa
set_option linter.unusedVariables false
set_option linter.unusedSimpArgs false
open Go.RowKit

theorem below_Gr {w w' : World} (h : Below w.heap.size w w') : Gr w w' := ⟨h.os, h.tape, h.output, h.size, fun k hk _ => h.block k hk⟩
theorem Try.cells5 : Try.prog.cellsOf 5 = 1 := by kernel_rfl

set_option maxRecDepth 100000 in
set_option maxHeartbeats 2000000 in
theorem clone_any (s : ByteArray) (w : World) (hs : s.size ≤ 1000000) :
    Calls Try.prog 82 #[.string s] w fun x w' => x = .returned (.string s) ∧ Gr w w' := by
  by_cases h0 : s.size = 0
  · have h00 : ((s.size : Int) == 0) = true := by rw [h0]; rfl
    have HE : Hid (s = ⟨#[]⟩) := hide (ByteArray.ext (Array.eq_empty_of_size_eq_zero h0))
    clear h0
    go_enter Try.func82, Try.ntmps82
    go_wp2
    go_ret
    exact ⟨by rw [HE.out]; rfl, Gr.refl _⟩
  · obtain ⟨i0, hi, hz0, hz1, hz2⟩ := info_parts Try.info5
    -- the new row, under a name
    obtain ⟨M, hM⟩ : ∃ M, M = madeCells (Value.int .u8 0).cells (((s.size : Nat) : Int).toNat * i0.size) := ⟨_, rfl⟩
    have hMs : M.size = s.size := by rw [hM, size_madeCells, hz1]; simp
    have hmk : ∀ V : World, (Instr.makeSlice 37 (.int .i64 (s.size : Int)) (.int .i64 (s.size : Int))).run Try.prog V = .ok (.slice (some ⟨V.heap.size, 0, none⟩) s.size s.size) (V.alloc (.cells M 5)) := by
      intro V
      have h := run_make (P := Try.prog) V 37 5 i0 (.int .u8 0) Try.underlying37 hi hz0 .i64 .i64 (s.size : Int) (s.size : Int) (by omega) (by omega) (by rw [hz2]; omega) (by omega)
      rw [← hM] at h
      simpa using h
    clear hM
    have hcopy := Go.Lib.run_copy_row_string (P := Try.prog) (w.alloc (.cells M 5)) 37 9 3 5 w.heap.size 0 s.size s.size s M 5 Try.underlying37 (by rw [hi]; simp [hz1]) (heap_alloc_new w _) (Nat.le_refl _) (by omega)
    obtain ⟨Y, hY⟩ : ∃ Y, Y = (M.toList.take 0 ++ Go.Lib.byteCells s.data.toList ++ M.toList.drop (0 + s.size)).toArray := ⟨_, rfl⟩
    rw [← hY] at hcopy
    have hYl : Y.toList = Go.Lib.byteCells s.data.toList := by
      rw [hY, List.toList_toArray, List.take_zero, List.nil_append, List.drop_of_length_le (by rw [Array.length_toList]; omega), List.append_nil]
    have hYs : Y.size = s.size := by rw [← Array.length_toList, hYl, Go.Lib.byteCells_length, ← Go.Lib.size_eq]
    have hrow : ((w.alloc (.cells M 5)).setRow w.heap.size Y).heap[w.heap.size]? = some (.cells Y 5 (0, 0)) := setRow_heap _ _ M _ 5 (0, 0) (heap_alloc_new w _)
    have hne : s.data.toList ≠ [] := fun e => h0 (by rw [Go.Lib.size_eq, e]; rfl)
    have hstr := Go.Lib.run_unsafeString_row (P := Try.prog) ((w.alloc (.cells M 5)).setRow w.heap.size Y) 134 3 9 5 Try.underlying134 Try.cells5 w.heap.size Y.size (by unfold World.shape?; rw [hrow]) s.data.toList hne (by rw [← Go.Lib.size_eq]; omega) (by rw [← Go.Lib.size_eq]; omega)
      (fun j x hx => Go.Lib.cells_of_row hrow Y.size j _ (by rw [List.take_of_length_le (by rw [Array.length_toList]; exact Nat.le_refl _), hYl]; simp [Go.Lib.byteCells, hx]))
    rw [← Go.Lib.size_eq] at hstr
    clear hY
    have h00 : ((s.size : Int) == 0) = false := by rw [beq_eq_false_iff_ne]; omega
    have hpos : 0 < s.size := by omega
    go_enter Try.func82, Try.ntmps82
    go_wp2
    go_ret
    have b1 : Below w.heap.size w (w.alloc (.cells M 5)) := (Below.refl _ w).alloc (Nat.le_refl _) _
    have b2 : Below w.heap.size (w.alloc (.cells M 5)) ((w.alloc (.cells M 5)).setRow w.heap.size Y) := ⟨rfl, rfl, rfl, by simp, fun k hk => setRow_other _ _ _ _ (by omega)⟩
    exact ⟨rfl, below_Gr (Go.Lib.below_freeze (b1.trans b2) (p := ⟨w.heap.size, 0, none⟩) (Nat.le_refl _) _)⟩

set_option maxRecDepth 100000 in
set_option maxHeartbeats 1000000 in
theorem text_read (cb : Nat) (r : List UInt8) (e a : Int) (w : World) (hc : Cur w cb r e a) :
    Calls Try.prog 73 #[.pointer (some ⟨cb, 0, none⟩)] w (Rds cb e a w (fun _ v (y : List UInt8) => v = .string ⟨y.toArray⟩) (rdText r)) := by
  have HC := hide hc
  clear hc
  go_enter Try.func73, Try.ntmps73
  go_wp2_with fail
  refine (number_any cb r e a _ HC.out).mono ?_
  intro x w1 h
  cases hn : rdNum 0 0 r with
  | none =>
    obtain ⟨rfl, hg⟩ := h.none_ hn
    exact ⟨rfl, by unfold rdText; rw [hn]; exact ⟨rfl, hg⟩⟩
  | some p =>
    obtain ⟨n, r'⟩ := p
    obtain ⟨v, rfl, rfl, hcur, hg⟩ := h.some_ hn
    have hlt := rdNum_lt r 0 0 (by simp) (by decide) n r' hn
    have HE : Hid (rdText r = rdTake n r') := hide (by unfold rdText; rw [hn])
    have H1 := hide hcur
    have H2 := hide hg
    clear h hcur hg hn
    go_wp2_with fail
    refine (take_any cb r' e a n hlt _ H1.out).mono ?_
    intro x w2 h
    cases ht : rdTake n r' with
    | none =>
      obtain ⟨rfl, hg⟩ := h.none_ ht
      exact ⟨rfl, by rw [HE.out, ht]; exact ⟨rfl, H2.out.trans hg⟩⟩
    | some q =>
      obtain ⟨y, r2⟩ := q
      obtain ⟨v, rfl, rfl, hcur, hg⟩ := h.some_ ht
      have HE2 : Hid (rdText r = some (y, r2)) := hide (by rw [HE.out, ht])
      have hyl : (⟨y.toArray⟩ : ByteArray).size ≤ 1000000 := by
        have h6 := H1.out.2.1
        unfold rdTake at ht
        split at ht
        · simp only [Option.some.injEq, Prod.mk.injEq] at ht
          obtain ⟨rfl, _⟩ := ht
          show (List.toArray _).size ≤ _
          simp; omega
        · cases ht
      have H3 := hide hcur
      have H4 := hide (H2.out.trans hg)
      clear h hcur hg ht
      go_wp2_with fail
      have hCl : Calls Try.prog 81 #[.string ⟨y.toArray⟩] w2 fun x w' => x = .returned (.string ⟨y.toArray⟩) ∧ Gr w2 w' := by
        go_enter Try.func81, Try.ntmps81
        go_wp2_with (go_at_call 82; refine (clone_any _ _ hyl).mono ?_; rintro x w3 ⟨rfl, hg3⟩)
        go_ret
        exact ⟨rfl, hg3⟩
      refine hCl.mono ?_
      rintro x w3 ⟨rfl, hg3⟩
      go_wp2
      go_ret
      rw [HE2.out]
      exact ⟨_, rfl, rfl, H3.out.gr hg3, H4.out.trans hg3.toGc⟩
end Go.Proofs.Ytkgncijcnlfhiaa
