import Derived.Test.YtkgncijcnlfhiaaDoorV0
namespace Go.Proofs.YtkgncijcnlfhiaaDoor
set_option linter.unusedVariables false
set_option linter.unusedSimpArgs false
open Go.RowKit
attribute [local go_sem ↓] Go.wp_at_zero Go.wp_at_succ

theorem new_row (w : World) (M : Array Value) (t : TypeId) (j : Nat) (hj : j < M.size) : (∃ x, (w.alloc (.cells M t)).cell? ⟨w.heap.size, j, none⟩ = some x) ∧ (w.alloc (.cells M t)).frozen? ⟨w.heap.size, j, none⟩ = false := by
  have h := heap_alloc_new w (.cells M t)
  refine ⟨⟨M[j], ?_⟩, ?_⟩
  · rw [cell_of_row _ w.heap.size j M t (0, 0) h]; simp [hj]
  · unfold World.frozen?; rw [h]; simp
theorem row_keep {w w' : World} {g n : Nat} (h : ∀ j, j < n → (∃ x, w.cell? ⟨g, j, none⟩ = some x) ∧ w.frozen? ⟨g, j, none⟩ = false) (k : Kp g w w') (hg : g < w.heap.size) : ∀ j, j < n → (∃ x, w'.cell? ⟨g, j, none⟩ = some x) ∧ w'.frozen? ⟨g, j, none⟩ = false := by
  intro j hj
  obtain ⟨⟨x, hx⟩, hz⟩ := h j hj
  exact ⟨⟨x, k.cell (Nat.le_refl _) hx⟩, (World.frozen?_of_block (a := ⟨g, j, none⟩) (k g (Nat.le_refl _) hg)).trans hz⟩
theorem row_set {w : World} {g n o : Nat} {v : Value} (h : ∀ j, j < n → (∃ x, w.cell? ⟨g, j, none⟩ = some x) ∧ w.frozen? ⟨g, j, none⟩ = false) : ∀ j, j < n → (∃ x, (w.setCell ⟨g, o, none⟩ v).cell? ⟨g, j, none⟩ = some x) ∧ (w.setCell ⟨g, o, none⟩ v).frozen? ⟨g, j, none⟩ = false := by
  intro j hj
  obtain ⟨⟨x, hx⟩, hz⟩ := h j hj
  refine ⟨?_, by rw [World.frozen?_setCell]; exact hz⟩
  by_cases e : o = j
  · subst e; exact ⟨v, World.cell?_setCell_same w _ _ hx⟩
  · exact ⟨x, (World.cell?_setCell_other w _ _ _ (by intro h; simp only [Addr.mk.injEq] at h; exact e h.2.1)).trans hx⟩
theorem cell_set_ne {w : World} {g o j : Nat} {v : Value} (h : ¬ o = j) : (w.setCell ⟨g, o, none⟩ v).cell? ⟨g, j, none⟩ = w.cell? ⟨g, j, none⟩ :=
  World.cell?_setCell_other w _ _ _ (by intro e; simp only [Addr.mk.injEq] at e; exact h e.2.1)
theorem cur_set {w : World} {cb g o : Nat} {v : Value} {r : List UInt8} {e a : Int} (h : Cur w cb r e a) (hne : ¬ g = cb) : Cur (w.setCell ⟨g, o, none⟩ v) cb r e a := by
  obtain ⟨⟨s, h0, h1⟩, h2, h3, h4, h5, h6⟩ := h
  have hc : ∀ q, (w.setCell ⟨g, o, none⟩ v).cell? ⟨cb, q, none⟩ = w.cell? ⟨cb, q, none⟩ := fun q => World.cell?_setCell_other w _ _ _ (by intro e; simp only [Addr.mk.injEq] at e; exact hne e.1)
  exact ⟨⟨s, (hc 0).trans h0, h1⟩, h2, (hc 1).trans h3, (hc 3).trans h4, by rw [World.frozen?_setCell]; exact h5, (hc 2).trans h6⟩
theorem gc_new {cb : Nat} {w w' : World} (h : Gc cb w w') {g o : Nat} {v : Value} (hg : w.heap.size ≤ g) : Gc cb w (w'.setCell ⟨g, o, none⟩ v) :=
  ⟨h.os, h.tape, h.output, by simpa using h.size, fun i hi hne => by rw [Below.heap_setCell _ _ _ _ (by show i ≠ g; omega)]; exact h.block i hi hne⟩
theorem snoc_at {α : Type} {ys : List α} {y z : α} {j : Nat} (h : (ys ++ [y])[j]? = some z) : (ys[j]? = some z ∧ j < ys.length) ∨ (j = ys.length ∧ z = y) := by
  by_cases hj : j < ys.length
  · left; rw [List.getElem?_append_left hj] at h; exact ⟨h, hj⟩
  · right
    rw [List.getElem?_append_right (by omega)] at h
    by_cases e : j - ys.length = 0
    · rw [e] at h; simp at h; exact ⟨by omega, h.symm⟩
    · rw [List.getElem?_eq_none (by simp; omega)] at h; cases h


theorem Tryd.rinfo_rlist_whole : (Tryd.prog.info? 3).map (fun i => (i.zero, i.size, i.bytes)) = some (some (Value.int .i64 0), 1, 8) := by kernel_rfl

set_option maxRecDepth 100000 in
set_option maxHeartbeats 2000000 in
theorem rlist_whole (cb B : Nat) (r : List UInt8) (e a : Int) (w : World) (hc : Cur w cb r e a) (hb : cb < B) (hB : B ≤ w.heap.size) :
    Calls Tryd.prog 129 #[.pointer (some ⟨cb, 0, none⟩), .func (.func 130) #[] #[]] w (Rds cb e a w (fun w' v (y : List Int) => RIntsG B w' v y) (rdList rdWhole r)) := by
  have HC := hide hc
  clear hc
  go_enter Tryd.func129, Tryd.ntmps129
  go_wp2_with fail
  refine (number_any cb r e a _ HC.out).mono ?_
  intro x w1 h
  cases hn : rdNum 0 0 r with
  | none =>
    obtain ⟨rfl, hg⟩ := h.none_ hn
    exact ⟨rfl, by unfold rdList; rw [hn]; exact ⟨rfl, hg⟩⟩
  | some p =>
    obtain ⟨n, r1⟩ := p
    obtain ⟨v, rfl, rfl, hcur, hg⟩ := h.some_ hn
    have HG1 := hide hg
    have HC1 := hide hcur
    obtain ⟨⟨s, h0, hs⟩, hl, h1, h2, hz, hj⟩ := hcur
    have hsz : s.size = r1.length := by rw [← hs, Array.length_toList]; rfl
    have hss : s.size ≤ 1000000 := by omega
    have hwr : IntKind.u64.wrap (s.size : Int) = s.size := Go.IntWalk.u64_in _ (by omega)
    by_cases hle : n ≤ r1.length
    · have HE : Hid (rdList rdWhole r = rdN rdWhole n r1) := hide (by unfold rdList; rw [hn]; simp only [if_pos hle])
      have hd : (n : Int) ≤ (s.size : Int) := by omega
      have hn6 : n ≤ 1000000 := by omega
      clear h hg hn hs hl hz hsz hle
      go_wp2
      go_region_held3 (fun w' => w'.cell? ⟨cb, 0, none⟩ = some (.string s) ∧ w'.cell? ⟨cb, 1, none⟩ = some (.int .i64 e) ∧ w'.cell? ⟨cb, 3, none⟩ = some (.int .i64 a) ∧ w'.cell? ⟨cb, 2, none⟩ = some (.int .i64 0)) (first | go_keep | (refine ⟨?_, ?_, ?_, ?_⟩ <;> exact hg'.cell (by assumption) (by simp))) (first | (go_at_call 76; refine (unless_yes _ _ _).mono ?_; rintro e w' ⟨rfl, hg'⟩))
      have HC2 := hide (HC1.out.gr (Gr.trans (Gr.drew (Gr.refl w1)) hg'))
      have HG2 := hide (HG1.out.trans (Gr.trans (Gr.drew (Gr.refl w1)) hg').toGc)
      clear hg' h0 h1 h2 hj HC1 HG1 hss hwr hd
      obtain ⟨i0, hi, hz0, hz1, hz2⟩ := info_parts Tryd.rinfo_rlist_whole
      obtain ⟨M, hM⟩ : ∃ M, M = madeCells (Value.int .i64 0).cells ((n : Int).toNat * i0.size) := ⟨_, rfl⟩
      have hMs : M.size = n * 1 := by rw [hM, size_madeCells, hz1]; simp
      have hmk : ∀ V : World, (Instr.makeSlice 23 (.int .u64 (n : Int)) (.int .u64 (n : Int))).run Tryd.prog V = .ok (.slice (some ⟨V.heap.size, 0, none⟩) n n) (V.alloc (.cells M 3)) := by
        intro V
        have h := run_make (P := Tryd.prog) V 23 3 i0 (Value.int .i64 0) Tryd.underlying23 hi hz0 .u64 .u64 (n : Int) (n : Int) (by omega) (by omega) (by rw [hz2]; omega) (by omega)
        rw [← hM] at h
        simpa using h
      have HM := hide hMs
      clear hM hMs hi hz0 hz1 hz2
      go_wp2
      have hgB : B ≤ w'.heap.size := Nat.le_trans hB HG2.out.size
      have hgW : w.heap.size ≤ w'.heap.size := HG2.out.size
      go_loopw [27] (fun i wr => ∃ (k : Nat) (ys : List Int) (rk : List UInt8), k ≤ n ∧ i = .int .i64 k ∧ ys.length = k ∧ Cur wr cb rk e a ∧ Gc cb w wr ∧ rdN rdWhole n r1 = glue ys (rdN rdWhole (n - k) rk) ∧ w'.heap.size < wr.heap.size ∧ (Blk wr w'.heap.size 3 (n * 1)) ∧ (∀ j, j < n * 1 → (∃ x, wr.cell? ⟨w'.heap.size, j, none⟩ = some x) ∧ wr.frozen? ⟨w'.heap.size, j, none⟩ = false) ∧ ∀ j y, ys[j]? = some y → wr.cell? ⟨w'.heap.size, j, none⟩ = some (.int .i64 y)) (fun i _ => n - (intOf i).toNat)
      case atStart =>
        have HBN : Blk (w'.alloc (.cells M 3)) w'.heap.size 3 (n * 1) := by have := Blk.new w' M 3; rw [HM.out] at this; exact this
        refine ⟨0, [], r1, Nat.zero_le _, rfl, rfl, HC2.out.gr ((Gr.refl _).alloc _), HG2.out.trans ((Gr.refl _).alloc _).toGc, by rw [glue_nil]; rfl, by simp, HBN, fun j hj => ?_, fun j y hy => by simp at hy⟩
        exact new_row w' M 3 j (by rw [HM.out]; exact hj)
      case round =>
        obtain ⟨k, ys, rk, hk, rfl, hyl, hcur, hgc, hrd, hsz, hblk, hrow, hel⟩ := hrel
        have HBk := hide hblk
        clear hblk
        have HN := hide hrd
        have HEl := hide hel
        have HRow := hide hrow
        have HG3 := hide hgc
        have HC3 := hide hcur
        have hYL := hide hyl
        clear hrd hel hrow hgc hcur HC2 HG2 hyl hmk
        by_cases hlt : k < n
        · obtain ⟨m, hm⟩ : ∃ m, n - k = m + 1 := ⟨n - k - 1, by omega⟩
          have HMM := hide hm
          clear hm
          go_wp2_with fail
          refine (whole_read cb rk e a _ HC3.out).mono ?_
          intro x w4 h
          cases hf : rdWhole rk with
          | none =>
            obtain ⟨rfl, hg⟩ := h.none_ hf
            exact ⟨rfl, by rw [HE.out, HN.out, HMM.out, glue_none hf]; exact ⟨rfl, HG3.out.trans hg⟩⟩
          | some p =>
            obtain ⟨y, r4⟩ := p
            obtain ⟨v, rfl, hy, hcur, hg⟩ := h.some_ hf
            have HN2 : Hid (rdN rdWhole n r1 = glue (ys ++ [y]) (rdN rdWhole (n - (k + 1)) r4)) := hide (by rw [HN.out, HMM.out, glue_some hf, show n - (k + 1) = m by have := HMM.out; omega])
            have hkp : Kp (w'.heap.size) wr w4 := hg.kp (by omega)
            have hsz4 : w'.heap.size < w4.heap.size := Nat.lt_of_lt_of_le hsz hg.size
            have HRow4 : Hid (∀ j, j < n * 1 → (∃ x, w4.cell? ⟨w'.heap.size, j, none⟩ = some x) ∧ w4.frozen? ⟨w'.heap.size, j, none⟩ = false) := hide (row_keep HRow.out hkp hsz)
            have HB4 := hide (HBk.out.kp hkp (Nat.le_refl _))
            have HC4 := hide hcur
            have HG4 := hide (HG3.out.trans hg)
            have HKP := hide hkp
            have HY := hide hy
            clear h hf hcur hkp
            have hv := HY.out
            subst hv
            obtain ⟨⟨x0, hx0⟩, hz0⟩ := HRow4.out k (by omega)
            have hkn : (0 : Int) ≤ (k : Int) := by omega
            have hkn2 : (k : Int) < (n : Int) := by omega
            clear hg
            go_wp2
            go_roundw
            case rel =>
              have hyl := hYL.out
              refine ⟨k + 1, ys ++ [y], r4, by omega, by go_num, by simp [hyl], cur_set HC4.out (by omega), gc_new HG4.out hgW, HN2.out, by simpa using hsz4, HB4.out.set, row_set HRow4.out, fun j z hj => ?_⟩
              rcases snoc_at hj with ⟨h1, h2⟩ | ⟨h1, h2⟩
              · rw [cell_set_ne (by omega)]; exact HKP.out.cell (Nat.le_refl _) (HEl.out j z h1)
              · subst h1; subst h2; rw [hyl]; exact World.cell?_setCell_same _ _ _ hx0
            case measure => simp [intOf]; omega
        · have hk2 : k = n := by omega
          subst hk2
          have HFin : Hid (rdList rdWhole r = some (ys, rk)) := hide (by rw [HE.out, HN.out, Nat.sub_self, glue_end])
          go_wp2
          go_ret
          rw [HFin.out]
          refine ⟨_, rfl, ?_, HC3.out, HG3.out⟩
          have hyl := hYL.out
          show RIntsG B wr (.slice (some ⟨w'.heap.size, 0, none⟩) k k) ys
          refine ⟨w'.heap.size, by rw [hyl], hgB, by rw [hyl]; exact HBk.out, some ⟨w'.heap.size, 0, none⟩, k, by rw [hyl], by unfold maxLen; omega, fun i y hi => ?_⟩
          have hq := HEl.out i y hi
          exact ⟨w'.heap.size, 0, rfl, hgB, by rw [Nat.zero_add]; exact hq⟩
    · have HE : Hid (rdList rdWhole r = none) := hide (by unfold rdList; rw [hn]; simp only [if_neg hle])
      have hd : decide (n ≤ s.size) = false := by rw [decide_eq_false_iff_not]; omega
      clear h hg hn hs hl hz hsz hle
      go_wp2
      go_region_with (first | (go_at_call 76; refine (unless_no _ _ _).mono ?_; rintro e w' ⟨rfl, hg'⟩; refine left_region ?_))
      all_goals exact ⟨rfl, by rw [HE.out]; exact ⟨rfl, HG1.out.trans (Gr.trans (Gr.drew (Gr.refl w1)) hg').toGc⟩⟩


theorem Tryd.rinfo_rlist_signed : (Tryd.prog.info? 3).map (fun i => (i.zero, i.size, i.bytes)) = some (some (Value.int .i64 0), 1, 8) := by kernel_rfl

set_option maxRecDepth 100000 in
set_option maxHeartbeats 2000000 in
theorem rlist_signed (cb B : Nat) (r : List UInt8) (e a : Int) (w : World) (hc : Cur w cb r e a) (hb : cb < B) (hB : B ≤ w.heap.size) :
    Calls Tryd.prog 129 #[.pointer (some ⟨cb, 0, none⟩), .func (.func 82) #[] #[]] w (Rds cb e a w (fun w' v (y : List Int) => RIntsG B w' v y) (rdList rdSigned r)) := by
  have HC := hide hc
  clear hc
  go_enter Tryd.func129, Tryd.ntmps129
  go_wp2_with fail
  refine (number_any cb r e a _ HC.out).mono ?_
  intro x w1 h
  cases hn : rdNum 0 0 r with
  | none =>
    obtain ⟨rfl, hg⟩ := h.none_ hn
    exact ⟨rfl, by unfold rdList; rw [hn]; exact ⟨rfl, hg⟩⟩
  | some p =>
    obtain ⟨n, r1⟩ := p
    obtain ⟨v, rfl, rfl, hcur, hg⟩ := h.some_ hn
    have HG1 := hide hg
    have HC1 := hide hcur
    obtain ⟨⟨s, h0, hs⟩, hl, h1, h2, hz, hj⟩ := hcur
    have hsz : s.size = r1.length := by rw [← hs, Array.length_toList]; rfl
    have hss : s.size ≤ 1000000 := by omega
    have hwr : IntKind.u64.wrap (s.size : Int) = s.size := Go.IntWalk.u64_in _ (by omega)
    by_cases hle : n ≤ r1.length
    · have HE : Hid (rdList rdSigned r = rdN rdSigned n r1) := hide (by unfold rdList; rw [hn]; simp only [if_pos hle])
      have hd : (n : Int) ≤ (s.size : Int) := by omega
      have hn6 : n ≤ 1000000 := by omega
      clear h hg hn hs hl hz hsz hle
      go_wp2
      go_region_held3 (fun w' => w'.cell? ⟨cb, 0, none⟩ = some (.string s) ∧ w'.cell? ⟨cb, 1, none⟩ = some (.int .i64 e) ∧ w'.cell? ⟨cb, 3, none⟩ = some (.int .i64 a) ∧ w'.cell? ⟨cb, 2, none⟩ = some (.int .i64 0)) (first | go_keep | (refine ⟨?_, ?_, ?_, ?_⟩ <;> exact hg'.cell (by assumption) (by simp))) (first | (go_at_call 76; refine (unless_yes _ _ _).mono ?_; rintro e w' ⟨rfl, hg'⟩))
      have HC2 := hide (HC1.out.gr (Gr.trans (Gr.drew (Gr.refl w1)) hg'))
      have HG2 := hide (HG1.out.trans (Gr.trans (Gr.drew (Gr.refl w1)) hg').toGc)
      clear hg' h0 h1 h2 hj HC1 HG1 hss hwr hd
      obtain ⟨i0, hi, hz0, hz1, hz2⟩ := info_parts Tryd.rinfo_rlist_signed
      obtain ⟨M, hM⟩ : ∃ M, M = madeCells (Value.int .i64 0).cells ((n : Int).toNat * i0.size) := ⟨_, rfl⟩
      have hMs : M.size = n * 1 := by rw [hM, size_madeCells, hz1]; simp
      have hmk : ∀ V : World, (Instr.makeSlice 23 (.int .u64 (n : Int)) (.int .u64 (n : Int))).run Tryd.prog V = .ok (.slice (some ⟨V.heap.size, 0, none⟩) n n) (V.alloc (.cells M 3)) := by
        intro V
        have h := run_make (P := Tryd.prog) V 23 3 i0 (Value.int .i64 0) Tryd.underlying23 hi hz0 .u64 .u64 (n : Int) (n : Int) (by omega) (by omega) (by rw [hz2]; omega) (by omega)
        rw [← hM] at h
        simpa using h
      have HM := hide hMs
      clear hM hMs hi hz0 hz1 hz2
      go_wp2
      have hgB : B ≤ w'.heap.size := Nat.le_trans hB HG2.out.size
      have hgW : w.heap.size ≤ w'.heap.size := HG2.out.size
      go_loopw [27] (fun i wr => ∃ (k : Nat) (ys : List Int) (rk : List UInt8), k ≤ n ∧ i = .int .i64 k ∧ ys.length = k ∧ Cur wr cb rk e a ∧ Gc cb w wr ∧ rdN rdSigned n r1 = glue ys (rdN rdSigned (n - k) rk) ∧ w'.heap.size < wr.heap.size ∧ (Blk wr w'.heap.size 3 (n * 1)) ∧ (∀ j, j < n * 1 → (∃ x, wr.cell? ⟨w'.heap.size, j, none⟩ = some x) ∧ wr.frozen? ⟨w'.heap.size, j, none⟩ = false) ∧ ∀ j y, ys[j]? = some y → wr.cell? ⟨w'.heap.size, j, none⟩ = some (.int .i64 y)) (fun i _ => n - (intOf i).toNat)
      case atStart =>
        have HBN : Blk (w'.alloc (.cells M 3)) w'.heap.size 3 (n * 1) := by have := Blk.new w' M 3; rw [HM.out] at this; exact this
        refine ⟨0, [], r1, Nat.zero_le _, rfl, rfl, HC2.out.gr ((Gr.refl _).alloc _), HG2.out.trans ((Gr.refl _).alloc _).toGc, by rw [glue_nil]; rfl, by simp, HBN, fun j hj => ?_, fun j y hy => by simp at hy⟩
        exact new_row w' M 3 j (by rw [HM.out]; exact hj)
      case round =>
        obtain ⟨k, ys, rk, hk, rfl, hyl, hcur, hgc, hrd, hsz, hblk, hrow, hel⟩ := hrel
        have HBk := hide hblk
        clear hblk
        have HN := hide hrd
        have HEl := hide hel
        have HRow := hide hrow
        have HG3 := hide hgc
        have HC3 := hide hcur
        have hYL := hide hyl
        clear hrd hel hrow hgc hcur HC2 HG2 hyl hmk
        by_cases hlt : k < n
        · obtain ⟨m, hm⟩ : ∃ m, n - k = m + 1 := ⟨n - k - 1, by omega⟩
          have HMM := hide hm
          clear hm
          go_wp2_with fail
          refine (signed_read cb rk e a _ HC3.out).mono ?_
          intro x w4 h
          cases hf : rdSigned rk with
          | none =>
            obtain ⟨rfl, hg⟩ := h.none_ hf
            exact ⟨rfl, by rw [HE.out, HN.out, HMM.out, glue_none hf]; exact ⟨rfl, HG3.out.trans hg⟩⟩
          | some p =>
            obtain ⟨y, r4⟩ := p
            obtain ⟨v, rfl, hy, hcur, hg⟩ := h.some_ hf
            have HN2 : Hid (rdN rdSigned n r1 = glue (ys ++ [y]) (rdN rdSigned (n - (k + 1)) r4)) := hide (by rw [HN.out, HMM.out, glue_some hf, show n - (k + 1) = m by have := HMM.out; omega])
            have hkp : Kp (w'.heap.size) wr w4 := hg.kp (by omega)
            have hsz4 : w'.heap.size < w4.heap.size := Nat.lt_of_lt_of_le hsz hg.size
            have HRow4 : Hid (∀ j, j < n * 1 → (∃ x, w4.cell? ⟨w'.heap.size, j, none⟩ = some x) ∧ w4.frozen? ⟨w'.heap.size, j, none⟩ = false) := hide (row_keep HRow.out hkp hsz)
            have HB4 := hide (HBk.out.kp hkp (Nat.le_refl _))
            have HC4 := hide hcur
            have HG4 := hide (HG3.out.trans hg)
            have HKP := hide hkp
            have HY := hide hy
            clear h hf hcur hkp
            have hv := HY.out
            subst hv
            obtain ⟨⟨x0, hx0⟩, hz0⟩ := HRow4.out k (by omega)
            have hkn : (0 : Int) ≤ (k : Int) := by omega
            have hkn2 : (k : Int) < (n : Int) := by omega
            clear hg
            go_wp2
            go_roundw
            case rel =>
              have hyl := hYL.out
              refine ⟨k + 1, ys ++ [y], r4, by omega, by go_num, by simp [hyl], cur_set HC4.out (by omega), gc_new HG4.out hgW, HN2.out, by simpa using hsz4, HB4.out.set, row_set HRow4.out, fun j z hj => ?_⟩
              rcases snoc_at hj with ⟨h1, h2⟩ | ⟨h1, h2⟩
              · rw [cell_set_ne (by omega)]; exact HKP.out.cell (Nat.le_refl _) (HEl.out j z h1)
              · subst h1; subst h2; rw [hyl]; exact World.cell?_setCell_same _ _ _ hx0
            case measure => simp [intOf]; omega
        · have hk2 : k = n := by omega
          subst hk2
          have HFin : Hid (rdList rdSigned r = some (ys, rk)) := hide (by rw [HE.out, HN.out, Nat.sub_self, glue_end])
          go_wp2
          go_ret
          rw [HFin.out]
          refine ⟨_, rfl, ?_, HC3.out, HG3.out⟩
          have hyl := hYL.out
          show RIntsG B wr (.slice (some ⟨w'.heap.size, 0, none⟩) k k) ys
          refine ⟨w'.heap.size, by rw [hyl], hgB, by rw [hyl]; exact HBk.out, some ⟨w'.heap.size, 0, none⟩, k, by rw [hyl], by unfold maxLen; omega, fun i y hi => ?_⟩
          have hq := HEl.out i y hi
          exact ⟨w'.heap.size, 0, rfl, hgB, by rw [Nat.zero_add]; exact hq⟩
    · have HE : Hid (rdList rdSigned r = none) := hide (by unfold rdList; rw [hn]; simp only [if_neg hle])
      have hd : decide (n ≤ s.size) = false := by rw [decide_eq_false_iff_not]; omega
      clear h hg hn hs hl hz hsz hle
      go_wp2
      go_region_with (first | (go_at_call 76; refine (unless_no _ _ _).mono ?_; rintro e w' ⟨rfl, hg'⟩; refine left_region ?_))
      all_goals exact ⟨rfl, by rw [HE.out]; exact ⟨rfl, HG1.out.trans (Gr.trans (Gr.drew (Gr.refl w1)) hg').toGc⟩⟩

def rdKinds (r : List UInt8) : Option (List Int × List UInt8) := rdList rdWhole r
theorem kinds_read (cb B : Nat) (r : List UInt8) (e a : Int) (w : World) (hc : Cur w cb r e a) (hb : cb < B) (hB : B ≤ w.heap.size) :
    Calls Tryd.prog 79 #[.pointer (some ⟨cb, 0, none⟩)] w (Rds cb e a w (fun w' v (y : List Int) => RIntsG B w' v y) (rdKinds r)) := by
  have HC := hide hc
  clear hc
  go_enter Tryd.func79, Tryd.ntmps79
  go_wp2_with fail
  refine (rlist_whole cb B r e a _ HC.out hb hB).mono ?_
  intro x w1 h
  cases hn : rdKinds r with
  | none =>
    obtain ⟨rfl, hg⟩ := h.none_ hn
    exact ⟨rfl, by rw [hn]; exact ⟨rfl, hg⟩⟩
  | some p =>
    obtain ⟨y, r1⟩ := p
    obtain ⟨v, rfl, hy, hcur, hg⟩ := h.some_ hn
    have H1 := hide hy
    have H2 := hide hcur
    have H3 := hide hg
    have H4 := hide hn
    clear h hy hcur hg hn
    go_wp2
    go_ret
    rw [H4.out]
    exact ⟨_, rfl, H1.out, H2.out, H3.out⟩
end Go.Proofs.YtkgncijcnlfhiaaDoor

