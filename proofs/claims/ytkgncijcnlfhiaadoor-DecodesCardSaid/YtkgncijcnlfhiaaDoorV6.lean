import Derived.Test.YtkgncijcnlfhiaaDoorV5
namespace Go.Proofs.YtkgncijcnlfhiaaDoor
set_option linter.unusedVariables false
set_option linter.unusedSimpArgs false
open Go.RowKit
attribute [local go_sem ↓] Go.wp_at_zero Go.wp_at_succ


theorem Tryd.rinfo_rlist_func : (Tryd.prog.info? 76).map (fun i => (i.zero, i.size, i.bytes)) = some (some (Value.agg #[.slice none 0 0, .int .i64 0, .slice none 0 0, .slice none 0 0]), 4, 80) := by kernel_rfl

set_option maxRecDepth 100000 in
set_option maxHeartbeats 2000000 in
theorem rlist_func (cb B : Nat) (r : List UInt8) (e a : Int) (w : World) (hc : Cur w cb r e a) (hb : cb < B) (hB : B ≤ w.heap.size) :
    Calls Tryd.prog 134 #[.pointer (some ⟨cb, 0, none⟩), .func (.func 85) #[] #[]] w (Rds cb e a w (fun w' v (y : List PFunc) => RFuncsG B w' v y) (rdList rdFunc r)) := by
  have HC := hide hc
  clear hc
  go_enter Tryd.func134, Tryd.ntmps134
  go_wp2_with fail
  refine (number_any cb r e a _ HC.out).mono ?_
  intro x w1 h
  cases hn : rdNum 0 0 r with
  | none =>
    obtain ⟨rfl, hg⟩ := h.none_ hn
    exact ⟨rfl, by unfold rdList; rw [hn]; exact ⟨rfl, hg⟩⟩
  | some p =>
    obtain ⟨n, r1⟩ := p
    obtain ⟨v, rfl, rfl, hcur, hg⟩ := h.some_ hn
    have HG1 := hide hg
    have HC1 := hide hcur
    obtain ⟨⟨s, h0, hs⟩, hl, h1, h2, hz, hj⟩ := hcur
    have hsz : s.size = r1.length := by rw [← hs, Array.length_toList]; rfl
    have hss : s.size ≤ 1000000 := by omega
    have hwr : IntKind.u64.wrap (s.size : Int) = s.size := Go.IntWalk.u64_in _ (by omega)
    by_cases hle : n ≤ r1.length
    · have HE : Hid (rdList rdFunc r = rdN rdFunc n r1) := hide (by unfold rdList; rw [hn]; simp only [if_pos hle])
      have hd : (n : Int) ≤ (s.size : Int) := by omega
      have hn6 : n ≤ 1000000 := by omega
      clear h hg hn hs hl hz hsz hle
      go_wp2
      go_region_held3 (fun w' => w'.cell? ⟨cb, 0, none⟩ = some (.string s) ∧ w'.cell? ⟨cb, 1, none⟩ = some (.int .i64 e) ∧ w'.cell? ⟨cb, 3, none⟩ = some (.int .i64 a) ∧ w'.cell? ⟨cb, 2, none⟩ = some (.int .i64 0)) (first | go_keep | (refine ⟨?_, ?_, ?_, ?_⟩ <;> exact hg'.cell (by assumption) (by simp))) (first | (go_at_call 76; refine (unless_yes _ _ _).mono ?_; rintro e w' ⟨rfl, hg'⟩))
      have HC2 := hide (HC1.out.gr (Gr.trans (Gr.drew (Gr.refl w1)) hg'))
      have HG2 := hide (HG1.out.trans (Gr.trans (Gr.drew (Gr.refl w1)) hg').toGc)
      clear hg' h0 h1 h2 hj HC1 HG1 hss hwr hd
      obtain ⟨i0, hi, hz0, hz1, hz2⟩ := info_parts Tryd.rinfo_rlist_func
      obtain ⟨M, hM⟩ : ∃ M, M = madeCells (Value.agg #[.slice none 0 0, .int .i64 0, .slice none 0 0, .slice none 0 0]).cells ((n : Int).toNat * i0.size) := ⟨_, rfl⟩
      have hMs : M.size = n * 4 := by rw [hM, size_madeCells, hz1]; simp
      have hmk : ∀ V : World, (Instr.makeSlice 24 (.int .u64 (n : Int)) (.int .u64 (n : Int))).run Tryd.prog V = .ok (.slice (some ⟨V.heap.size, 0, none⟩) n n) (V.alloc (.cells M 76)) := by
        intro V
        have h := run_make (P := Tryd.prog) V 24 76 i0 (Value.agg #[.slice none 0 0, .int .i64 0, .slice none 0 0, .slice none 0 0]) Tryd.underlying24 hi hz0 .u64 .u64 (n : Int) (n : Int) (by omega) (by omega) (by rw [hz2]; omega) (by omega)
        rw [← hM] at h
        simpa using h
      have HM := hide hMs
      have HDL : ∀ (V : World) (S : Nat), Hid (DL (V.alloc (.cells M 76)) V.heap.size (n * 4) S) := fun V S => hide (by rw [hM]; exact DL.new V _ _ _ _ _ (by simp [Value.cells, Value.ownBlock]) (by simp [Value.cells]))
      clear hM hMs hi hz0 hz1 hz2
      go_wp2
      have hgB : B ≤ w'.heap.size := Nat.le_trans hB HG2.out.size
      have hgW : w.heap.size ≤ w'.heap.size := HG2.out.size
      go_loopw [27] (fun i wr => ∃ (k : Nat) (ys : List PFunc) (rk : List UInt8), k ≤ n ∧ i = .int .i64 k ∧ ys.length = k ∧ Cur wr cb rk e a ∧ Gc cb w wr ∧ rdN rdFunc n r1 = glue ys (rdN rdFunc (n - k) rk) ∧ w'.heap.size < wr.heap.size ∧ (Blk wr w'.heap.size 76 (n * 4) ∧ DL wr w'.heap.size (n * 4) wr.heap.size) ∧ (∀ j, j < n * 4 → (∃ x, wr.cell? ⟨w'.heap.size, j, none⟩ = some x) ∧ wr.frozen? ⟨w'.heap.size, j, none⟩ = false) ∧ ∀ j y, ys[j]? = some y → (∃ vp vl vc, wr.cell? ⟨w'.heap.size, j * 4, none⟩ = some vp ∧ wr.cell? ⟨w'.heap.size, j * 4 + 1, none⟩ = some (.int .i64 y.result) ∧ wr.cell? ⟨w'.heap.size, j * 4 + 2, none⟩ = some vl ∧ wr.cell? ⟨w'.heap.size, j * 4 + 3, none⟩ = some vc ∧ RIntsG (w'.heap.size + 1) wr vp y.params ∧ RIntsG (w'.heap.size + 1) wr vl y.locals ∧ RCodeG (w'.heap.size + 1) wr vc y.code)) (fun i _ => n - (intOf i).toNat)
      case atStart =>
        have HBN : Blk (w'.alloc (.cells M 76)) w'.heap.size 76 (n * 4) := by have := Blk.new w' M 76; rw [HM.out] at this; exact this
        refine ⟨0, [], r1, Nat.zero_le _, rfl, rfl, HC2.out.gr ((Gr.refl _).alloc _), HG2.out.trans ((Gr.refl _).alloc _).toGc, by rw [glue_nil]; rfl, by simp, ⟨HBN, by have := (HDL w' (w'.heap.size + 1)).out; simpa using this⟩, fun j hj => ?_, fun j y hy => by simp at hy⟩
        exact new_row w' M 76 j (by rw [HM.out]; exact hj)
      case round =>
        obtain ⟨k, ys, rk, hk, rfl, hyl, hcur, hgc, hrd, hsz, hblk, hrow, hel⟩ := hrel
        have HBk := hide hblk
        clear hblk
        have HN := hide hrd
        have HEl := hide hel
        have HRow := hide hrow
        have HG3 := hide hgc
        have HC3 := hide hcur
        have hYL := hide hyl
        clear hrd hel hrow hgc hcur HC2 HG2 hyl hmk
        by_cases hlt : k < n
        · obtain ⟨m, hm⟩ : ∃ m, n - k = m + 1 := ⟨n - k - 1, by omega⟩
          have HMM := hide hm
          clear hm
          go_wp2_with fail
          refine (func_read cb wr.heap.size rk e a _ HC3.out (by omega) (Nat.le_refl _)).mono ?_
          intro x w4 h
          cases hf : rdFunc rk with
          | none =>
            obtain ⟨rfl, hg⟩ := h.none_ hf
            exact ⟨rfl, by rw [HE.out, HN.out, HMM.out, glue_none hf]; exact ⟨rfl, HG3.out.trans hg⟩⟩
          | some p =>
            obtain ⟨y, r4⟩ := p
            obtain ⟨v, rfl, hy, hcur, hg⟩ := h.some_ hf
            have HN2 : Hid (rdN rdFunc n r1 = glue (ys ++ [y]) (rdN rdFunc (n - (k + 1)) r4)) := hide (by rw [HN.out, HMM.out, glue_some hf, show n - (k + 1) = m by have := HMM.out; omega])
            have hkp : Kp (w'.heap.size) wr w4 := hg.kp (by omega)
            have hsz4 : w'.heap.size < w4.heap.size := Nat.lt_of_lt_of_le hsz hg.size
            have HRow4 : Hid (∀ j, j < n * 4 → (∃ x, w4.cell? ⟨w'.heap.size, j, none⟩ = some x) ∧ w4.frozen? ⟨w'.heap.size, j, none⟩ = false) := hide (row_keep HRow.out hkp hsz)
            have HB4 := hide (HBk.out.1.kp hkp (Nat.le_refl _))
            have HD4 := hide (HBk.out.2.kp hkp (Nat.le_refl _) hsz (Nat.le_refl _))
            have HC4 := hide hcur
            have HG4 := hide (HG3.out.trans hg)
            have HKP := hide hkp
            have HY := hide hy
            clear h hf hcur hkp
            obtain ⟨vp, vl, vc, z1, z2, hv, hp, hl, hcd, hB1, hB2, hqp, hql⟩ := HY.out
            obtain ⟨pp, cp, hpp⟩ := hp.shape
            obtain ⟨pl, cl, hpl⟩ := hl.shape
            obtain ⟨pc, cc, hpc⟩ := hcd.shape
            subst hpp; subst hpl; subst hpc; subst hv
            have HP := hide hp
            have HL := hide hl
            have HCD := hide hcd
            have hz2w : z2 < w4.heap.size := by
              obtain ⟨gq, _, hq2, hq3, _⟩ := hcd
              have := hq3.lt
              omega
            have HPL := hide hqp
            have HLL := hide hql
            clear hp hl hcd hqp hql
            obtain ⟨⟨x0, hx0⟩, hz0⟩ := HRow4.out (k * 4) (by omega)
            obtain ⟨⟨x1, hx1⟩, hz1⟩ := HRow4.out (k * 4 + 1) (by omega)
            obtain ⟨⟨x2, hx2⟩, hz2⟩ := HRow4.out (k * 4 + 2) (by omega)
            obtain ⟨⟨x3, hx3⟩, hz3⟩ := HRow4.out (k * 4 + 3) (by omega)
            have hkn : (0 : Int) ≤ (k : Int) := by omega
            have hkn2 : (k : Int) < (n : Int) := by omega
            have hg4s := hg.size
            clear hg hy
            go_wp2
            go_roundw
            case rel =>
              have hyl := hYL.out
              refine ⟨k + 1, ys ++ [y], r4, by omega, by go_num, by simp [hyl], cur_set (cur_set (cur_set (cur_set (HC4.out) (by omega)) (by omega)) (by omega)) (by omega), gc_new (gc_new (gc_new (gc_new (HG4.out) hgW) hgW) hgW) hgW, HN2.out, by simpa using hsz4, ⟨((((HB4.out).set).set).set).set, by simpa using ((((HD4.out).set (S' := z1) (fun b hb => ⟨(HP.out.at hb).1, HPL.out b hb⟩) (by first | exact Nat.le_refl _ | omega) ⟨_, hx0⟩).set (S' := z1) (fun b hb => by simp [Value.ownBlock] at hb) (by first | exact Nat.le_refl _ | omega) ⟨_, (cell_set_ne (by omega)).trans (hx1)⟩).set (S' := z2) (fun b hb => ⟨(HL.out.at hb).1, HLL.out b hb⟩) (by first | exact Nat.le_refl _ | omega) ⟨_, (cell_set_ne (by omega)).trans ((cell_set_ne (by omega)).trans (hx2))⟩).set (S' := w4.heap.size) (fun b hb => HCD.out.at hb) (by first | exact Nat.le_refl _ | omega) ⟨_, (cell_set_ne (by omega)).trans ((cell_set_ne (by omega)).trans ((cell_set_ne (by omega)).trans (hx3)))⟩⟩, row_set (row_set (row_set (row_set (HRow4.out)))), fun j z hj => ?_⟩
              rcases snoc_at hj with ⟨h1, h2⟩ | ⟨h1, h2⟩
              · obtain ⟨vp, vl, vc, q0, q1, q2, q3, s1, s2, s3⟩ := HEl.out j z h1
                exact ⟨vp, vl, vc, by rw [cell_set_ne (by omega), cell_set_ne (by omega), cell_set_ne (by omega), cell_set_ne (by omega)]; exact HKP.out.cell (Nat.le_refl _) q0, by rw [cell_set_ne (by omega), cell_set_ne (by omega), cell_set_ne (by omega), cell_set_ne (by omega)]; exact HKP.out.cell (Nat.le_refl _) q1, by rw [cell_set_ne (by omega), cell_set_ne (by omega), cell_set_ne (by omega), cell_set_ne (by omega)]; exact HKP.out.cell (Nat.le_refl _) q2, by rw [cell_set_ne (by omega), cell_set_ne (by omega), cell_set_ne (by omega), cell_set_ne (by omega)]; exact HKP.out.cell (Nat.le_refl _) q3, ((((s1.kp (HKP.out.mono (by omega))).kp (Kp.set _ (by omega))).kp (Kp.set _ (by omega))).kp (Kp.set _ (by omega))).kp (Kp.set _ (by omega)), ((((s2.kp (HKP.out.mono (by omega))).kp (Kp.set _ (by omega))).kp (Kp.set _ (by omega))).kp (Kp.set _ (by omega))).kp (Kp.set _ (by omega)), ((((s3.kp (HKP.out.mono (by omega))).kp (Kp.set _ (by omega))).kp (Kp.set _ (by omega))).kp (Kp.set _ (by omega))).kp (Kp.set _ (by omega))⟩
              · subst h1; subst h2; rw [hyl]
                exact ⟨_, _, _, by rw [cell_set_ne (by omega), cell_set_ne (by omega), cell_set_ne (by omega)]; exact World.cell?_setCell_same _ _ _ (hx0), by rw [cell_set_ne (by omega), cell_set_ne (by omega)]; exact World.cell?_setCell_same _ _ _ ((cell_set_ne (by omega)).trans (hx1)), by rw [cell_set_ne (by omega)]; exact World.cell?_setCell_same _ _ _ ((cell_set_ne (by omega)).trans ((cell_set_ne (by omega)).trans (hx2))), by exact World.cell?_setCell_same _ _ _ ((cell_set_ne (by omega)).trans ((cell_set_ne (by omega)).trans ((cell_set_ne (by omega)).trans (hx3)))), ((((HP.out.mono (by omega)).kp (Kp.set _ (by omega))).kp (Kp.set _ (by omega))).kp (Kp.set _ (by omega))).kp (Kp.set _ (by omega)), ((((HL.out.mono (by omega)).kp (Kp.set _ (by omega))).kp (Kp.set _ (by omega))).kp (Kp.set _ (by omega))).kp (Kp.set _ (by omega)), ((((HCD.out.mono (by omega)).kp (Kp.set _ (by omega))).kp (Kp.set _ (by omega))).kp (Kp.set _ (by omega))).kp (Kp.set _ (by omega))⟩
            case measure => simp [intOf]; omega
        · have hk2 : k = n := by omega
          subst hk2
          have HFin : Hid (rdList rdFunc r = some (ys, rk)) := hide (by rw [HE.out, HN.out, Nat.sub_self, glue_end])
          go_wp2
          go_ret
          rw [HFin.out]
          refine ⟨_, rfl, ?_, HC3.out, HG3.out⟩
          have hyl := hYL.out
          show RFuncsG B wr (.slice (some ⟨w'.heap.size, 0, none⟩) k k) ys
          exact ⟨w'.heap.size, by rw [hyl], hgB, by rw [hyl]; exact HBk.out.1, by unfold maxLen; omega, ⟨_, by rw [hyl]; exact HBk.out.2⟩, HEl.out⟩
    · have HE : Hid (rdList rdFunc r = none) := hide (by unfold rdList; rw [hn]; simp only [if_neg hle])
      have hd : decide (n ≤ s.size) = false := by rw [decide_eq_false_iff_not]; omega
      clear h hg hn hs hl hz hsz hle
      go_wp2
      go_region_with (first | (go_at_call 76; refine (unless_no _ _ _).mono ?_; rintro e w' ⟨rfl, hg'⟩; refine left_region ?_))
      all_goals exact ⟨rfl, by rw [HE.out]; exact ⟨rfl, HG1.out.trans (Gr.trans (Gr.drew (Gr.refl w1)) hg').toGc⟩⟩


theorem Tryd.rinfo_rlist_imp : (Tryd.prog.info? 79).map (fun i => (i.zero, i.size, i.bytes)) = some (some (Value.agg #[.string ⟨#[]⟩, .slice none 0 0, .int .i64 0]), 3, 48) := by kernel_rfl

set_option maxRecDepth 100000 in
set_option maxHeartbeats 2000000 in
theorem rlist_imp (cb B : Nat) (r : List UInt8) (e a : Int) (w : World) (hc : Cur w cb r e a) (hb : cb < B) (hB : B ≤ w.heap.size) :
    Calls Tryd.prog 139 #[.pointer (some ⟨cb, 0, none⟩), .func (.func 88) #[] #[]] w (Rds cb e a w (fun w' v (y : List PImp) => RImportsG B w' v y) (rdList rdImp r)) := by
  have HC := hide hc
  clear hc
  go_enter Tryd.func139, Tryd.ntmps139
  go_wp2_with fail
  refine (number_any cb r e a _ HC.out).mono ?_
  intro x w1 h
  cases hn : rdNum 0 0 r with
  | none =>
    obtain ⟨rfl, hg⟩ := h.none_ hn
    exact ⟨rfl, by unfold rdList; rw [hn]; exact ⟨rfl, hg⟩⟩
  | some p =>
    obtain ⟨n, r1⟩ := p
    obtain ⟨v, rfl, rfl, hcur, hg⟩ := h.some_ hn
    have HG1 := hide hg
    have HC1 := hide hcur
    obtain ⟨⟨s, h0, hs⟩, hl, h1, h2, hz, hj⟩ := hcur
    have hsz : s.size = r1.length := by rw [← hs, Array.length_toList]; rfl
    have hss : s.size ≤ 1000000 := by omega
    have hwr : IntKind.u64.wrap (s.size : Int) = s.size := Go.IntWalk.u64_in _ (by omega)
    by_cases hle : n ≤ r1.length
    · have HE : Hid (rdList rdImp r = rdN rdImp n r1) := hide (by unfold rdList; rw [hn]; simp only [if_pos hle])
      have hd : (n : Int) ≤ (s.size : Int) := by omega
      have hn6 : n ≤ 1000000 := by omega
      clear h hg hn hs hl hz hsz hle
      go_wp2
      go_region_held3 (fun w' => w'.cell? ⟨cb, 0, none⟩ = some (.string s) ∧ w'.cell? ⟨cb, 1, none⟩ = some (.int .i64 e) ∧ w'.cell? ⟨cb, 3, none⟩ = some (.int .i64 a) ∧ w'.cell? ⟨cb, 2, none⟩ = some (.int .i64 0)) (first | go_keep | (refine ⟨?_, ?_, ?_, ?_⟩ <;> exact hg'.cell (by assumption) (by simp))) (first | (go_at_call 76; refine (unless_yes _ _ _).mono ?_; rintro e w' ⟨rfl, hg'⟩))
      have HC2 := hide (HC1.out.gr (Gr.trans (Gr.drew (Gr.refl w1)) hg'))
      have HG2 := hide (HG1.out.trans (Gr.trans (Gr.drew (Gr.refl w1)) hg').toGc)
      clear hg' h0 h1 h2 hj HC1 HG1 hss hwr hd
      obtain ⟨i0, hi, hz0, hz1, hz2⟩ := info_parts Tryd.rinfo_rlist_imp
      obtain ⟨M, hM⟩ : ∃ M, M = madeCells (Value.agg #[.string ⟨#[]⟩, .slice none 0 0, .int .i64 0]).cells ((n : Int).toNat * i0.size) := ⟨_, rfl⟩
      have hMs : M.size = n * 3 := by rw [hM, size_madeCells, hz1]; simp
      have hmk : ∀ V : World, (Instr.makeSlice 25 (.int .u64 (n : Int)) (.int .u64 (n : Int))).run Tryd.prog V = .ok (.slice (some ⟨V.heap.size, 0, none⟩) n n) (V.alloc (.cells M 79)) := by
        intro V
        have h := run_make (P := Tryd.prog) V 25 79 i0 (Value.agg #[.string ⟨#[]⟩, .slice none 0 0, .int .i64 0]) Tryd.underlying25 hi hz0 .u64 .u64 (n : Int) (n : Int) (by omega) (by omega) (by rw [hz2]; omega) (by omega)
        rw [← hM] at h
        simpa using h
      have HM := hide hMs
      have HDL : ∀ (V : World) (S : Nat), Hid (DL (V.alloc (.cells M 79)) V.heap.size (n * 3) S) := fun V S => hide (by rw [hM]; exact DL.new V _ _ _ _ _ (by simp [Value.cells, Value.ownBlock]) (by simp [Value.cells]))
      clear hM hMs hi hz0 hz1 hz2
      go_wp2
      have hgB : B ≤ w'.heap.size := Nat.le_trans hB HG2.out.size
      have hgW : w.heap.size ≤ w'.heap.size := HG2.out.size
      go_loopw [27] (fun i wr => ∃ (k : Nat) (ys : List PImp) (rk : List UInt8), k ≤ n ∧ i = .int .i64 k ∧ ys.length = k ∧ Cur wr cb rk e a ∧ Gc cb w wr ∧ rdN rdImp n r1 = glue ys (rdN rdImp (n - k) rk) ∧ w'.heap.size < wr.heap.size ∧ (Blk wr w'.heap.size 79 (n * 3) ∧ DL wr w'.heap.size (n * 3) wr.heap.size) ∧ (∀ j, j < n * 3 → (∃ x, wr.cell? ⟨w'.heap.size, j, none⟩ = some x) ∧ wr.frozen? ⟨w'.heap.size, j, none⟩ = false) ∧ ∀ j y, ys[j]? = some y → (∃ vs vp, wr.cell? ⟨w'.heap.size, j * 3, none⟩ = some vs ∧ wr.cell? ⟨w'.heap.size, j * 3 + 1, none⟩ = some vp ∧ wr.cell? ⟨w'.heap.size, j * 3 + 2, none⟩ = some (.int .i64 y.result) ∧ RText vs y.name ∧ RIntsG (w'.heap.size + 1) wr vp y.params)) (fun i _ => n - (intOf i).toNat)
      case atStart =>
        have HBN : Blk (w'.alloc (.cells M 79)) w'.heap.size 79 (n * 3) := by have := Blk.new w' M 79; rw [HM.out] at this; exact this
        refine ⟨0, [], r1, Nat.zero_le _, rfl, rfl, HC2.out.gr ((Gr.refl _).alloc _), HG2.out.trans ((Gr.refl _).alloc _).toGc, by rw [glue_nil]; rfl, by simp, ⟨HBN, by have := (HDL w' (w'.heap.size + 1)).out; simpa using this⟩, fun j hj => ?_, fun j y hy => by simp at hy⟩
        exact new_row w' M 79 j (by rw [HM.out]; exact hj)
      case round =>
        obtain ⟨k, ys, rk, hk, rfl, hyl, hcur, hgc, hrd, hsz, hblk, hrow, hel⟩ := hrel
        have HBk := hide hblk
        clear hblk
        have HN := hide hrd
        have HEl := hide hel
        have HRow := hide hrow
        have HG3 := hide hgc
        have HC3 := hide hcur
        have hYL := hide hyl
        clear hrd hel hrow hgc hcur HC2 HG2 hyl hmk
        by_cases hlt : k < n
        · obtain ⟨m, hm⟩ : ∃ m, n - k = m + 1 := ⟨n - k - 1, by omega⟩
          have HMM := hide hm
          clear hm
          go_wp2_with fail
          refine (imp_read cb wr.heap.size rk e a _ HC3.out (by omega) (Nat.le_refl _)).mono ?_
          intro x w4 h
          cases hf : rdImp rk with
          | none =>
            obtain ⟨rfl, hg⟩ := h.none_ hf
            exact ⟨rfl, by rw [HE.out, HN.out, HMM.out, glue_none hf]; exact ⟨rfl, HG3.out.trans hg⟩⟩
          | some p =>
            obtain ⟨y, r4⟩ := p
            obtain ⟨v, rfl, hy, hcur, hg⟩ := h.some_ hf
            have HN2 : Hid (rdN rdImp n r1 = glue (ys ++ [y]) (rdN rdImp (n - (k + 1)) r4)) := hide (by rw [HN.out, HMM.out, glue_some hf, show n - (k + 1) = m by have := HMM.out; omega])
            have hkp : Kp (w'.heap.size) wr w4 := hg.kp (by omega)
            have hsz4 : w'.heap.size < w4.heap.size := Nat.lt_of_lt_of_le hsz hg.size
            have HRow4 : Hid (∀ j, j < n * 3 → (∃ x, w4.cell? ⟨w'.heap.size, j, none⟩ = some x) ∧ w4.frozen? ⟨w'.heap.size, j, none⟩ = false) := hide (row_keep HRow.out hkp hsz)
            have HB4 := hide (HBk.out.1.kp hkp (Nat.le_refl _))
            have HD4 := hide (HBk.out.2.kp hkp (Nat.le_refl _) hsz (Nat.le_refl _))
            have HC4 := hide hcur
            have HG4 := hide (HG3.out.trans hg)
            have HKP := hide hkp
            have HY := hide hy
            clear h hf hcur hkp
            obtain ⟨vs, vp, hv, ht, hp⟩ := HY.out
            obtain ⟨pp, cp, hpp⟩ := hp.shape
            have HT := hide ht
            obtain ⟨st, hst, hst2, hst3⟩ := ht
            subst hpp; subst hst; subst hv
            have HP := hide hp
            clear hp hst2 hst3
            obtain ⟨⟨x0, hx0⟩, hz0⟩ := HRow4.out (k * 3) (by omega)
            obtain ⟨⟨x1, hx1⟩, hz1⟩ := HRow4.out (k * 3 + 1) (by omega)
            obtain ⟨⟨x2, hx2⟩, hz2⟩ := HRow4.out (k * 3 + 2) (by omega)
            have hkn : (0 : Int) ≤ (k : Int) := by omega
            have hkn2 : (k : Int) < (n : Int) := by omega
            have hg4s := hg.size
            clear hg hy
            go_wp2
            go_roundw
            case rel =>
              have hyl := hYL.out
              refine ⟨k + 1, ys ++ [y], r4, by omega, by go_num, by simp [hyl], cur_set (cur_set (cur_set (HC4.out) (by omega)) (by omega)) (by omega), gc_new (gc_new (gc_new (HG4.out) hgW) hgW) hgW, HN2.out, by simpa using hsz4, ⟨(((HB4.out).set).set).set, by simpa using (((HD4.out).set (S' := wr.heap.size) (fun b hb => by simp [Value.ownBlock] at hb) (by first | exact Nat.le_refl _ | omega) ⟨_, hx0⟩).set (S' := w4.heap.size) (fun b hb => HP.out.at hb) (by first | exact Nat.le_refl _ | omega) ⟨_, (cell_set_ne (by omega)).trans (hx1)⟩).set (S' := w4.heap.size) (fun b hb => by simp [Value.ownBlock] at hb) (by first | exact Nat.le_refl _ | omega) ⟨_, (cell_set_ne (by omega)).trans ((cell_set_ne (by omega)).trans (hx2))⟩⟩, row_set (row_set (row_set (HRow4.out))), fun j z hj => ?_⟩
              rcases snoc_at hj with ⟨h1, h2⟩ | ⟨h1, h2⟩
              · obtain ⟨vs, vp, q0, q1, q2, s0, s1⟩ := HEl.out j z h1
                exact ⟨vs, vp, by rw [cell_set_ne (by omega), cell_set_ne (by omega), cell_set_ne (by omega)]; exact HKP.out.cell (Nat.le_refl _) q0, by rw [cell_set_ne (by omega), cell_set_ne (by omega), cell_set_ne (by omega)]; exact HKP.out.cell (Nat.le_refl _) q1, by rw [cell_set_ne (by omega), cell_set_ne (by omega), cell_set_ne (by omega)]; exact HKP.out.cell (Nat.le_refl _) q2, s0, (((s1.kp (HKP.out.mono (by omega))).kp (Kp.set _ (by omega))).kp (Kp.set _ (by omega))).kp (Kp.set _ (by omega))⟩
              · subst h1; subst h2; rw [hyl]
                exact ⟨_, _, by rw [cell_set_ne (by omega), cell_set_ne (by omega)]; exact World.cell?_setCell_same _ _ _ (hx0), by rw [cell_set_ne (by omega)]; exact World.cell?_setCell_same _ _ _ ((cell_set_ne (by omega)).trans (hx1)), by exact World.cell?_setCell_same _ _ _ ((cell_set_ne (by omega)).trans ((cell_set_ne (by omega)).trans (hx2))), HT.out, (((HP.out.mono (by omega)).kp (Kp.set _ (by omega))).kp (Kp.set _ (by omega))).kp (Kp.set _ (by omega))⟩
            case measure => simp [intOf]; omega
        · have hk2 : k = n := by omega
          subst hk2
          have HFin : Hid (rdList rdImp r = some (ys, rk)) := hide (by rw [HE.out, HN.out, Nat.sub_self, glue_end])
          go_wp2
          go_ret
          rw [HFin.out]
          refine ⟨_, rfl, ?_, HC3.out, HG3.out⟩
          have hyl := hYL.out
          show RImportsG B wr (.slice (some ⟨w'.heap.size, 0, none⟩) k k) ys
          exact ⟨w'.heap.size, by rw [hyl], hgB, by rw [hyl]; exact HBk.out.1, by unfold maxLen; omega, ⟨_, by rw [hyl]; exact HBk.out.2⟩, HEl.out⟩
    · have HE : Hid (rdList rdImp r = none) := hide (by unfold rdList; rw [hn]; simp only [if_neg hle])
      have hd : decide (n ≤ s.size) = false := by rw [decide_eq_false_iff_not]; omega
      clear h hg hn hs hl hz hsz hle
      go_wp2
      go_region_with (first | (go_at_call 76; refine (unless_no _ _ _).mono ?_; rintro e w' ⟨rfl, hg'⟩; refine left_region ?_))
      all_goals exact ⟨rfl, by rw [HE.out]; exact ⟨rfl, HG1.out.trans (Gr.trans (Gr.drew (Gr.refl w1)) hg').toGc⟩⟩


theorem Tryd.rinfo_rlist_exp : (Tryd.prog.info? 81).map (fun i => (i.zero, i.size, i.bytes)) = some (some (Value.agg #[.string ⟨#[]⟩, .int .i64 0]), 2, 24) := by kernel_rfl

set_option maxRecDepth 100000 in
set_option maxHeartbeats 2000000 in
theorem rlist_exp (cb B : Nat) (r : List UInt8) (e a : Int) (w : World) (hc : Cur w cb r e a) (hb : cb < B) (hB : B ≤ w.heap.size) :
    Calls Tryd.prog 142 #[.pointer (some ⟨cb, 0, none⟩), .func (.func 91) #[] #[]] w (Rds cb e a w (fun w' v (y : List PExp) => RExportsG B w' v y) (rdList rdExp r)) := by
  have HC := hide hc
  clear hc
  go_enter Tryd.func142, Tryd.ntmps142
  go_wp2_with fail
  refine (number_any cb r e a _ HC.out).mono ?_
  intro x w1 h
  cases hn : rdNum 0 0 r with
  | none =>
    obtain ⟨rfl, hg⟩ := h.none_ hn
    exact ⟨rfl, by unfold rdList; rw [hn]; exact ⟨rfl, hg⟩⟩
  | some p =>
    obtain ⟨n, r1⟩ := p
    obtain ⟨v, rfl, rfl, hcur, hg⟩ := h.some_ hn
    have HG1 := hide hg
    have HC1 := hide hcur
    obtain ⟨⟨s, h0, hs⟩, hl, h1, h2, hz, hj⟩ := hcur
    have hsz : s.size = r1.length := by rw [← hs, Array.length_toList]; rfl
    have hss : s.size ≤ 1000000 := by omega
    have hwr : IntKind.u64.wrap (s.size : Int) = s.size := Go.IntWalk.u64_in _ (by omega)
    by_cases hle : n ≤ r1.length
    · have HE : Hid (rdList rdExp r = rdN rdExp n r1) := hide (by unfold rdList; rw [hn]; simp only [if_pos hle])
      have hd : (n : Int) ≤ (s.size : Int) := by omega
      have hn6 : n ≤ 1000000 := by omega
      clear h hg hn hs hl hz hsz hle
      go_wp2
      go_region_held3 (fun w' => w'.cell? ⟨cb, 0, none⟩ = some (.string s) ∧ w'.cell? ⟨cb, 1, none⟩ = some (.int .i64 e) ∧ w'.cell? ⟨cb, 3, none⟩ = some (.int .i64 a) ∧ w'.cell? ⟨cb, 2, none⟩ = some (.int .i64 0)) (first | go_keep | (refine ⟨?_, ?_, ?_, ?_⟩ <;> exact hg'.cell (by assumption) (by simp))) (first | (go_at_call 76; refine (unless_yes _ _ _).mono ?_; rintro e w' ⟨rfl, hg'⟩))
      have HC2 := hide (HC1.out.gr (Gr.trans (Gr.drew (Gr.refl w1)) hg'))
      have HG2 := hide (HG1.out.trans (Gr.trans (Gr.drew (Gr.refl w1)) hg').toGc)
      clear hg' h0 h1 h2 hj HC1 HG1 hss hwr hd
      obtain ⟨i0, hi, hz0, hz1, hz2⟩ := info_parts Tryd.rinfo_rlist_exp
      obtain ⟨M, hM⟩ : ∃ M, M = madeCells (Value.agg #[.string ⟨#[]⟩, .int .i64 0]).cells ((n : Int).toNat * i0.size) := ⟨_, rfl⟩
      have hMs : M.size = n * 2 := by rw [hM, size_madeCells, hz1]; simp
      have hmk : ∀ V : World, (Instr.makeSlice 26 (.int .u64 (n : Int)) (.int .u64 (n : Int))).run Tryd.prog V = .ok (.slice (some ⟨V.heap.size, 0, none⟩) n n) (V.alloc (.cells M 81)) := by
        intro V
        have h := run_make (P := Tryd.prog) V 26 81 i0 (Value.agg #[.string ⟨#[]⟩, .int .i64 0]) Tryd.underlying26 hi hz0 .u64 .u64 (n : Int) (n : Int) (by omega) (by omega) (by rw [hz2]; omega) (by omega)
        rw [← hM] at h
        simpa using h
      have HM := hide hMs
      clear hM hMs hi hz0 hz1 hz2
      go_wp2
      have hgB : B ≤ w'.heap.size := Nat.le_trans hB HG2.out.size
      have hgW : w.heap.size ≤ w'.heap.size := HG2.out.size
      go_loopw [27] (fun i wr => ∃ (k : Nat) (ys : List PExp) (rk : List UInt8), k ≤ n ∧ i = .int .i64 k ∧ ys.length = k ∧ Cur wr cb rk e a ∧ Gc cb w wr ∧ rdN rdExp n r1 = glue ys (rdN rdExp (n - k) rk) ∧ w'.heap.size < wr.heap.size ∧ (Blk wr w'.heap.size 81 (n * 2)) ∧ (∀ j, j < n * 2 → (∃ x, wr.cell? ⟨w'.heap.size, j, none⟩ = some x) ∧ wr.frozen? ⟨w'.heap.size, j, none⟩ = false) ∧ ∀ j y, ys[j]? = some y → (∃ vs, wr.cell? ⟨w'.heap.size, j * 2, none⟩ = some vs ∧ wr.cell? ⟨w'.heap.size, j * 2 + 1, none⟩ = some (.int .i64 y.func) ∧ RText vs y.name)) (fun i _ => n - (intOf i).toNat)
      case atStart =>
        have HBN : Blk (w'.alloc (.cells M 81)) w'.heap.size 81 (n * 2) := by have := Blk.new w' M 81; rw [HM.out] at this; exact this
        refine ⟨0, [], r1, Nat.zero_le _, rfl, rfl, HC2.out.gr ((Gr.refl _).alloc _), HG2.out.trans ((Gr.refl _).alloc _).toGc, by rw [glue_nil]; rfl, by simp, HBN, fun j hj => ?_, fun j y hy => by simp at hy⟩
        exact new_row w' M 81 j (by rw [HM.out]; exact hj)
      case round =>
        obtain ⟨k, ys, rk, hk, rfl, hyl, hcur, hgc, hrd, hsz, hblk, hrow, hel⟩ := hrel
        have HBk := hide hblk
        clear hblk
        have HN := hide hrd
        have HEl := hide hel
        have HRow := hide hrow
        have HG3 := hide hgc
        have HC3 := hide hcur
        have hYL := hide hyl
        clear hrd hel hrow hgc hcur HC2 HG2 hyl hmk
        by_cases hlt : k < n
        · obtain ⟨m, hm⟩ : ∃ m, n - k = m + 1 := ⟨n - k - 1, by omega⟩
          have HMM := hide hm
          clear hm
          go_wp2_with fail
          refine (exp_read cb (w'.heap.size + 1) rk e a _ HC3.out (by omega) (by omega)).mono ?_
          intro x w4 h
          cases hf : rdExp rk with
          | none =>
            obtain ⟨rfl, hg⟩ := h.none_ hf
            exact ⟨rfl, by rw [HE.out, HN.out, HMM.out, glue_none hf]; exact ⟨rfl, HG3.out.trans hg⟩⟩
          | some p =>
            obtain ⟨y, r4⟩ := p
            obtain ⟨v, rfl, hy, hcur, hg⟩ := h.some_ hf
            have HN2 : Hid (rdN rdExp n r1 = glue (ys ++ [y]) (rdN rdExp (n - (k + 1)) r4)) := hide (by rw [HN.out, HMM.out, glue_some hf, show n - (k + 1) = m by have := HMM.out; omega])
            have hkp : Kp (w'.heap.size) wr w4 := hg.kp (by omega)
            have hsz4 : w'.heap.size < w4.heap.size := Nat.lt_of_lt_of_le hsz hg.size
            have HRow4 : Hid (∀ j, j < n * 2 → (∃ x, w4.cell? ⟨w'.heap.size, j, none⟩ = some x) ∧ w4.frozen? ⟨w'.heap.size, j, none⟩ = false) := hide (row_keep HRow.out hkp hsz)
            have HB4 := hide (HBk.out.kp hkp (Nat.le_refl _))
            have HC4 := hide hcur
            have HG4 := hide (HG3.out.trans hg)
            have HKP := hide hkp
            have HY := hide hy
            clear h hf hcur hkp
            obtain ⟨vs, hv, ht⟩ := HY.out
            have HT := hide ht
            obtain ⟨st, hst, hst2, hst3⟩ := ht
            subst hst; subst hv
            clear hst2 hst3
            obtain ⟨⟨x0, hx0⟩, hz0⟩ := HRow4.out (k * 2) (by omega)
            obtain ⟨⟨x1, hx1⟩, hz1⟩ := HRow4.out (k * 2 + 1) (by omega)
            have hkn : (0 : Int) ≤ (k : Int) := by omega
            have hkn2 : (k : Int) < (n : Int) := by omega
            have hg4s := hg.size
            clear hg hy
            go_wp2
            go_roundw
            case rel =>
              have hyl := hYL.out
              refine ⟨k + 1, ys ++ [y], r4, by omega, by go_num, by simp [hyl], cur_set (cur_set (HC4.out) (by omega)) (by omega), gc_new (gc_new (HG4.out) hgW) hgW, HN2.out, by simpa using hsz4, ((HB4.out).set).set, row_set (row_set (HRow4.out)), fun j z hj => ?_⟩
              rcases snoc_at hj with ⟨h1, h2⟩ | ⟨h1, h2⟩
              · obtain ⟨vs, q0, q1, s0⟩ := HEl.out j z h1
                exact ⟨vs, by rw [cell_set_ne (by omega), cell_set_ne (by omega)]; exact HKP.out.cell (Nat.le_refl _) q0, by rw [cell_set_ne (by omega), cell_set_ne (by omega)]; exact HKP.out.cell (Nat.le_refl _) q1, s0⟩
              · subst h1; subst h2; rw [hyl]
                exact ⟨_, by rw [cell_set_ne (by omega)]; exact World.cell?_setCell_same _ _ _ (hx0), by exact World.cell?_setCell_same _ _ _ ((cell_set_ne (by omega)).trans (hx1)), HT.out⟩
            case measure => simp [intOf]; omega
        · have hk2 : k = n := by omega
          subst hk2
          have HFin : Hid (rdList rdExp r = some (ys, rk)) := hide (by rw [HE.out, HN.out, Nat.sub_self, glue_end])
          go_wp2
          go_ret
          rw [HFin.out]
          refine ⟨_, rfl, ?_, HC3.out, HG3.out⟩
          have hyl := hYL.out
          show RExportsG B wr (.slice (some ⟨w'.heap.size, 0, none⟩) k k) ys
          refine ⟨w'.heap.size, by rw [hyl], hgB, by rw [hyl]; exact HBk.out, some ⟨w'.heap.size, 0, none⟩, k, by rw [hyl], by unfold maxLen; omega, fun i y hi => ?_⟩
          have hq := HEl.out i y hi
          obtain ⟨vs, q0, q1, s0⟩ := hq
          exact ⟨w'.heap.size, 0, vs, rfl, hgB, by rw [Nat.zero_add]; exact q0, by rw [Nat.zero_add]; exact q1, s0⟩
    · have HE : Hid (rdList rdExp r = none) := hide (by unfold rdList; rw [hn]; simp only [if_neg hle])
      have hd : decide (n ≤ s.size) = false := by rw [decide_eq_false_iff_not]; omega
      clear h hg hn hs hl hz hsz hle
      go_wp2
      go_region_with (first | (go_at_call 76; refine (unless_no _ _ _).mono ?_; rintro e w' ⟨rfl, hg'⟩; refine left_region ?_))
      all_goals exact ⟨rfl, by rw [HE.out]; exact ⟨rfl, HG1.out.trans (Gr.trans (Gr.drew (Gr.refl w1)) hg').toGc⟩⟩
end Go.Proofs.YtkgncijcnlfhiaaDoor

