import Derived.Test.YtkgncijcnlfhiaaDoorR1b
namespace Go.Proofs.YtkgncijcnlfhiaaDoor
set_option linter.unusedVariables false
set_option linter.unusedSimpArgs false
open Go.RowKit
attribute [local go_sem ↓] Go.wp_at_zero Go.wp_at_succ

set_option maxRecDepth 100000 in
set_option maxHeartbeats 2000000 in
theorem sect_consts : SaidSect 81 82 2 2 RIntsG (rdList rdSigned) := by
  intro sb B t p w hS hb hB
  have hsl : sb < w.heap.size := World.block_lt_of_cell? w _ hS.2.2.2.1
  have HS := hide hS
  clear hS
  go_enter Tryd.func81, Tryd.ntmps81
  go_wp2_with fail
  obtain ⟨q0, q1, q2, z0, z1, z2⟩ := why_box w
  have hg0 : Gr w (w.alloc (.cells #[.int .i64 0, .int .i64 0, .int .i64 0] 83)) := Gr.alloc (Gr.refl w) _
  have hs0 : (w.alloc (.cells #[.int .i64 0, .int .i64 0, .int .i64 0] 83)).heap.size = w.heap.size + 1 := by simp
  refine (open_any sb t p 2 (by omega) _ (HS.out.gc (cb := w.heap.size) hg0.toGc (by omega))).mono ?_
  generalize (w.alloc (.cells #[.int .i64 0, .int .i64 0, .int .i64 0] 83)) = W0 at q0 q1 q2 z0 z1 z2 hg0 hs0 ⊢
  intro x w1 h
  cases ho : rdOpen 2 (t.drop p) with
  | none =>
    rw [ho] at h
    obtain ⟨rfl, hg⟩ := h
    exact ⟨rfl, by unfold rdSect; rw [ho]; exact ⟨rfl, Gc.trans_ hg0.toGc hg⟩⟩
  | some q =>
    obtain ⟨body, r⟩ := q
    rw [ho] at h
    obtain ⟨nb, rfl, hnb, hnb2, hcur, hsec, hg⟩ := h
    have HE : Hid (rdSect 2 (rdList rdSigned) (t.drop p) = match rdBody (rdList rdSigned) body with
      | none => none
      | some y => some (y, r)) := hide (by unfold rdSect; rw [ho]; cases hb : rdBody (rdList rdSigned) body <;> simp only [hb])
    have p0 := hg.box (show ¬ w.heap.size = sb by omega) q0
    have p1 := hg.box (show ¬ w.heap.size = sb by omega) q1
    have p2 := hg.box (show ¬ w.heap.size = sb by omega) q2
    have y0 := hg.boxz (show ¬ w.heap.size = sb by omega) q0 z0
    have y1 := hg.boxz (show ¬ w.heap.size = sb by omega) q1 z1
    have y2 := hg.boxz (show ¬ w.heap.size = sb by omega) q2 z2
    have HG := hide (Gc.trans_ (hg0.toGc (cb := sb)) hg)
    have hs1 : w.heap.size < w1.heap.size := by have := hg.size; omega
    have HC := hide hcur
    have HSec := hide hsec
    clear ho q0 q1 q2 z0 z1 z2 hg hg0 hcur hsec HS
    go_wp2_with fail
    refine (rlist_signed nb w1.heap.size body 2 p _ HC.out hnb2 (Nat.le_refl _)).mono ?_
    intro x w2 h
    cases hl : rdList rdSigned body with
    | none =>
      obtain ⟨rfl, hg2⟩ := h.none_ hl
      exact ⟨rfl, by rw [HE.out]; simp only [rdBody, hl]; exact ⟨rfl, HG.out.over hg2 (by omega)⟩⟩
    | some q =>
      obtain ⟨y, r2⟩ := q
      obtain ⟨v, rfl, hy, hcur2, hg2⟩ := h.some_ hl
      obtain ⟨a1, c1, rfl⟩ := hy.shape
      have HY := hide hy
      have HL := hide hl
      have m0 := hg2.box (show ¬ w.heap.size = nb by omega) p0
      have m1 := hg2.box (show ¬ w.heap.size = nb by omega) p1
      have m2 := hg2.box (show ¬ w.heap.size = nb by omega) p2
      have n0 := hg2.boxz (show ¬ w.heap.size = nb by omega) p0 y0
      have n1 := hg2.boxz (show ¬ w.heap.size = nb by omega) p1 y1
      have n2 := hg2.boxz (show ¬ w.heap.size = nb by omega) p2 y2
      have HG2 := hide (HG.out.over hg2 (by omega))
      have HSec2 := hide (HSec.out.gc hg2 (by omega))
      have hs2 : w1.heap.size ≤ w2.heap.size := hg2.size
      obtain ⟨⟨s, e0, es⟩, el, e1, e2, ez, e3⟩ := hcur2
      clear h hl hy hg2 p0 p1 p2 y0 y1 y2 HC HSec HG ez el
      by_cases hr2 : r2 = []
      · have hse : s = ⟨#[]⟩ := by
          have : s.data.toList = [] := es.trans hr2
          cases s with | mk d => simp at this; rw [this]
        subst hse
        have HF : Hid (rdSect 2 (rdList rdSigned) (t.drop p) = some (y, r)) := hide (by rw [HE.out]; simp only [rdBody, HL.out, hr2])
        clear es hr2 HE HL
        go_wp2
        go_region_held3 (fun w' => w'.cell? ⟨nb, 0, none⟩ = some (.string ⟨#[]⟩) ∧ w'.cell? ⟨nb, 1, none⟩ = some (.int .i64 2) ∧ w'.cell? ⟨nb, 3, none⟩ = some (.int .i64 (p : Int)) ∧ w'.cell? ⟨nb, 2, none⟩ = some (.int .i64 0)) (first | go_keep | (refine ⟨?_, ?_, ?_, ?_⟩ <;> exact hg'.cell (by assumption) (by simp))) (first | (go_at_call 76; refine (unless_yes _ _ _).mono ?_; rintro e w' ⟨rfl, hg'⟩))
        have hgx := Gr.trans (Gr.drew (Gr.refl _)) hg'
        have k0 := hgx.cell m0 (by simp)
        have k1 := hgx.cell m1 (by simp)
        have k2 := hgx.cell m2 (by simp)
        have f0 := gr_frozen hgx m0 n0
        have f1 := gr_frozen hgx m1 n1
        have f2 := gr_frozen hgx m2 n2
        have g1 := hgx.cell e1 (by simp)
        have g2 := hgx.cell e2 (by simp)
        have g3 := hgx.cell e3 (by simp)
        have HY3 := hide (HY.out.kp hgx.kp)
        have HG3 := hide (Gc.trans_ HG2.out hgx.toGc)
        have HSec3 := hide (HSec2.out.gc (hgx.toGc (cb := nb)) (by omega))
        have hn : ¬ w.heap.size = nb := by omega
        have hn' : ¬ nb = w.heap.size := by omega
        have hs3 : w1.heap.size ≤ w'.heap.size := Nat.le_trans hs2 hgx.size
        clear hg' hgx m0 m1 m2 n0 n1 n2 e0 e1 e2 e3 HY HG2 HSec2
        generalize w' = W3 at k0 k1 k2 f0 f1 f2 g1 g2 g3 HY3 HG3 HSec3 hs3 ⊢
        go_wp2
        go_region_held3 (fun w' => w'.cell? ⟨nb, 1, none⟩ = some (.int .i64 2) ∧ w'.cell? ⟨nb, 3, none⟩ = some (.int .i64 (p : Int)) ∧ w'.cell? ⟨nb, 2, none⟩ = some (.int .i64 0)) (go_keep) (fail)
        have t0 : (((W3.setCell ⟨w.heap.size, 0, none⟩ (.int .i64 2)).setCell ⟨w.heap.size, 1, none⟩ (.int .i64 0)).setCell ⟨w.heap.size, 2, none⟩ (.int .i64 (p : Int))).drew.cell? ⟨w.heap.size, 0, none⟩ = some (.int .i64 2) := (cell_set_ne (w := ((W3.setCell ⟨w.heap.size, 0, none⟩ (.int .i64 2)).setCell ⟨w.heap.size, 1, none⟩ (.int .i64 0))) (by omega)).trans ((cell_set_ne (w := (W3.setCell ⟨w.heap.size, 0, none⟩ (.int .i64 2))) (by omega)).trans (World.cell?_setCell_same W3 _ _ k0))
        have t1 : (((W3.setCell ⟨w.heap.size, 0, none⟩ (.int .i64 2)).setCell ⟨w.heap.size, 1, none⟩ (.int .i64 0)).setCell ⟨w.heap.size, 2, none⟩ (.int .i64 (p : Int))).drew.cell? ⟨w.heap.size, 1, none⟩ = some (.int .i64 0) := (cell_set_ne (w := ((W3.setCell ⟨w.heap.size, 0, none⟩ (.int .i64 2)).setCell ⟨w.heap.size, 1, none⟩ (.int .i64 0))) (by omega)).trans (World.cell?_setCell_same (W3.setCell ⟨w.heap.size, 0, none⟩ (.int .i64 2)) _ _ ((cell_set_ne (by omega)).trans k1))
        have t2 : (((W3.setCell ⟨w.heap.size, 0, none⟩ (.int .i64 2)).setCell ⟨w.heap.size, 1, none⟩ (.int .i64 0)).setCell ⟨w.heap.size, 2, none⟩ (.int .i64 (p : Int))).drew.cell? ⟨w.heap.size, 2, none⟩ = some (.int .i64 (p : Int)) := World.cell?_setCell_same ((W3.setCell ⟨w.heap.size, 0, none⟩ (.int .i64 2)).setCell ⟨w.heap.size, 1, none⟩ (.int .i64 0)) _ _ ((cell_set_ne (w := (W3.setCell ⟨w.heap.size, 0, none⟩ (.int .i64 2))) (by omega)).trans ((cell_set_ne (by omega)).trans k2))
        have HY4 : Hid (RIntsG B (((W3.setCell ⟨w.heap.size, 0, none⟩ (.int .i64 2)).setCell ⟨w.heap.size, 1, none⟩ (.int .i64 0)).setCell ⟨w.heap.size, 2, none⟩ (.int .i64 (p : Int))).drew (.slice a1 y.length c1) y) := hide (((((HY3.out.kp (kp_set (o := 0) (v := .int .i64 2) hs1)).kp (kp_set (o := 1) (v := .int .i64 0) hs1)).kp (kp_set (o := 2) (v := .int .i64 (p : Int)) hs1)).kp (Gr.drew (Gr.refl _)).kp).mono (by omega))
        have HSec4 : Hid (Sec (((W3.setCell ⟨w.heap.size, 0, none⟩ (.int .i64 2)).setCell ⟨w.heap.size, 1, none⟩ (.int .i64 0)).setCell ⟨w.heap.size, 2, none⟩ (.int .i64 (p : Int))).drew sb t (t.length - r.length)) := hide (((((HSec3.out.set (g := w.heap.size) (o := 0) (v := .int .i64 2) (by omega)).set (g := w.heap.size) (o := 1) (v := .int .i64 0) (by omega)).set (g := w.heap.size) (o := 2) (v := .int .i64 (p : Int)) (by omega))).gc (cb := w.heap.size) (Gr.drew (Gr.refl _)).toGc (by omega))
        have HG4 := hide (gc_new3 (v := .int .i64 2) (v' := .int .i64 0) (v2 := .int .i64 (p : Int)) HG3.out (Nat.le_refl _))
        generalize (((W3.setCell ⟨w.heap.size, 0, none⟩ (.int .i64 2)).setCell ⟨w.heap.size, 1, none⟩ (.int .i64 0)).setCell ⟨w.heap.size, 2, none⟩ (.int .i64 (p : Int))).drew = W4 at t0 t1 t2 HY4 HSec4 HG4 ⊢
        clear k0 k1 k2 f0 f1 f2 g1 g2 g3 HY3 HG3 HSec3
        go_wp2
        exact bodyPost_ret (v := .tuple #[.slice a1 y.length c1, .agg #[.int .i64 2, .int .i64 0, .int .i64 (p : Int)]]) (by simp [results, Tryd.results81, go_sem, t0, t1, t2]) rfl (by rw [HF.out]; exact ⟨_, rfl, HY4.out, HSec4.out, HG4.out⟩)
      · have hbl : s.toList.isEmpty = false := by
          rw [ByteArray.toList_eq, es]
          cases r2 with
          | nil => exact absurd rfl hr2
          | cons b l => rfl
        have HF : Hid (rdSect 2 (rdList rdSigned) (t.drop p) = none) := hide (by
          rw [HE.out]; cases r2 with
          | nil => exact absurd rfl hr2
          | cons b l => simp only [rdBody, HL.out])
        clear es hr2 HE HL
        go_wp2
        go_region_with (first | (go_at_call 76; refine (unless_no _ _ _).mono ?_; rintro e w' ⟨rfl, hg'⟩; refine left_region ?_))
        all_goals exact ⟨rfl, by rw [HF.out]; exact ⟨rfl, HG2.out.trans (Gr.trans (Gr.drew (Gr.refl w2)) hg').toGc⟩⟩

set_option maxRecDepth 100000 in
set_option maxHeartbeats 2000000 in
theorem sect_funcs : SaidSect 84 85 3 3 RFuncsG (rdList rdFunc) := by
  intro sb B t p w hS hb hB
  have hsl : sb < w.heap.size := World.block_lt_of_cell? w _ hS.2.2.2.1
  have HS := hide hS
  clear hS
  go_enter Tryd.func84, Tryd.ntmps84
  go_wp2_with fail
  obtain ⟨q0, q1, q2, z0, z1, z2⟩ := why_box w
  have hg0 : Gr w (w.alloc (.cells #[.int .i64 0, .int .i64 0, .int .i64 0] 83)) := Gr.alloc (Gr.refl w) _
  have hs0 : (w.alloc (.cells #[.int .i64 0, .int .i64 0, .int .i64 0] 83)).heap.size = w.heap.size + 1 := by simp
  refine (open_any sb t p 3 (by omega) _ (HS.out.gc (cb := w.heap.size) hg0.toGc (by omega))).mono ?_
  generalize (w.alloc (.cells #[.int .i64 0, .int .i64 0, .int .i64 0] 83)) = W0 at q0 q1 q2 z0 z1 z2 hg0 hs0 ⊢
  intro x w1 h
  cases ho : rdOpen 3 (t.drop p) with
  | none =>
    rw [ho] at h
    obtain ⟨rfl, hg⟩ := h
    exact ⟨rfl, by unfold rdSect; rw [ho]; exact ⟨rfl, Gc.trans_ hg0.toGc hg⟩⟩
  | some q =>
    obtain ⟨body, r⟩ := q
    rw [ho] at h
    obtain ⟨nb, rfl, hnb, hnb2, hcur, hsec, hg⟩ := h
    have HE : Hid (rdSect 3 (rdList rdFunc) (t.drop p) = match rdBody (rdList rdFunc) body with
      | none => none
      | some y => some (y, r)) := hide (by unfold rdSect; rw [ho]; cases hb : rdBody (rdList rdFunc) body <;> simp only [hb])
    have p0 := hg.box (show ¬ w.heap.size = sb by omega) q0
    have p1 := hg.box (show ¬ w.heap.size = sb by omega) q1
    have p2 := hg.box (show ¬ w.heap.size = sb by omega) q2
    have y0 := hg.boxz (show ¬ w.heap.size = sb by omega) q0 z0
    have y1 := hg.boxz (show ¬ w.heap.size = sb by omega) q1 z1
    have y2 := hg.boxz (show ¬ w.heap.size = sb by omega) q2 z2
    have HG := hide (Gc.trans_ (hg0.toGc (cb := sb)) hg)
    have hs1 : w.heap.size < w1.heap.size := by have := hg.size; omega
    have HC := hide hcur
    have HSec := hide hsec
    clear ho q0 q1 q2 z0 z1 z2 hg hg0 hcur hsec HS
    go_wp2_with fail
    refine (rlist_func nb w1.heap.size body 2 p _ HC.out hnb2 (Nat.le_refl _)).mono ?_
    intro x w2 h
    cases hl : rdList rdFunc body with
    | none =>
      obtain ⟨rfl, hg2⟩ := h.none_ hl
      exact ⟨rfl, by rw [HE.out]; simp only [rdBody, hl]; exact ⟨rfl, HG.out.over hg2 (by omega)⟩⟩
    | some q =>
      obtain ⟨y, r2⟩ := q
      obtain ⟨v, rfl, hy, hcur2, hg2⟩ := h.some_ hl
      obtain ⟨a1, c1, rfl⟩ := hy.shape
      have HY := hide hy
      have HL := hide hl
      have m0 := hg2.box (show ¬ w.heap.size = nb by omega) p0
      have m1 := hg2.box (show ¬ w.heap.size = nb by omega) p1
      have m2 := hg2.box (show ¬ w.heap.size = nb by omega) p2
      have n0 := hg2.boxz (show ¬ w.heap.size = nb by omega) p0 y0
      have n1 := hg2.boxz (show ¬ w.heap.size = nb by omega) p1 y1
      have n2 := hg2.boxz (show ¬ w.heap.size = nb by omega) p2 y2
      have HG2 := hide (HG.out.over hg2 (by omega))
      have HSec2 := hide (HSec.out.gc hg2 (by omega))
      have hs2 : w1.heap.size ≤ w2.heap.size := hg2.size
      obtain ⟨⟨s, e0, es⟩, el, e1, e2, ez, e3⟩ := hcur2
      clear h hl hy hg2 p0 p1 p2 y0 y1 y2 HC HSec HG ez el
      by_cases hr2 : r2 = []
      · have hse : s = ⟨#[]⟩ := by
          have : s.data.toList = [] := es.trans hr2
          cases s with | mk d => simp at this; rw [this]
        subst hse
        have HF : Hid (rdSect 3 (rdList rdFunc) (t.drop p) = some (y, r)) := hide (by rw [HE.out]; simp only [rdBody, HL.out, hr2])
        clear es hr2 HE HL
        go_wp2
        go_region_held3 (fun w' => w'.cell? ⟨nb, 0, none⟩ = some (.string ⟨#[]⟩) ∧ w'.cell? ⟨nb, 1, none⟩ = some (.int .i64 2) ∧ w'.cell? ⟨nb, 3, none⟩ = some (.int .i64 (p : Int)) ∧ w'.cell? ⟨nb, 2, none⟩ = some (.int .i64 0)) (first | go_keep | (refine ⟨?_, ?_, ?_, ?_⟩ <;> exact hg'.cell (by assumption) (by simp))) (first | (go_at_call 76; refine (unless_yes _ _ _).mono ?_; rintro e w' ⟨rfl, hg'⟩))
        have hgx := Gr.trans (Gr.drew (Gr.refl _)) hg'
        have k0 := hgx.cell m0 (by simp)
        have k1 := hgx.cell m1 (by simp)
        have k2 := hgx.cell m2 (by simp)
        have f0 := gr_frozen hgx m0 n0
        have f1 := gr_frozen hgx m1 n1
        have f2 := gr_frozen hgx m2 n2
        have g1 := hgx.cell e1 (by simp)
        have g2 := hgx.cell e2 (by simp)
        have g3 := hgx.cell e3 (by simp)
        have HY3 := hide (HY.out.kp hgx.kp)
        have HG3 := hide (Gc.trans_ HG2.out hgx.toGc)
        have HSec3 := hide (HSec2.out.gc (hgx.toGc (cb := nb)) (by omega))
        have hn : ¬ w.heap.size = nb := by omega
        have hn' : ¬ nb = w.heap.size := by omega
        have hs3 : w1.heap.size ≤ w'.heap.size := Nat.le_trans hs2 hgx.size
        clear hg' hgx m0 m1 m2 n0 n1 n2 e0 e1 e2 e3 HY HG2 HSec2
        generalize w' = W3 at k0 k1 k2 f0 f1 f2 g1 g2 g3 HY3 HG3 HSec3 hs3 ⊢
        go_wp2
        go_region_held3 (fun w' => w'.cell? ⟨nb, 1, none⟩ = some (.int .i64 2) ∧ w'.cell? ⟨nb, 3, none⟩ = some (.int .i64 (p : Int)) ∧ w'.cell? ⟨nb, 2, none⟩ = some (.int .i64 0)) (go_keep) (fail)
        have t0 : (((W3.setCell ⟨w.heap.size, 0, none⟩ (.int .i64 2)).setCell ⟨w.heap.size, 1, none⟩ (.int .i64 0)).setCell ⟨w.heap.size, 2, none⟩ (.int .i64 (p : Int))).drew.cell? ⟨w.heap.size, 0, none⟩ = some (.int .i64 2) := (cell_set_ne (w := ((W3.setCell ⟨w.heap.size, 0, none⟩ (.int .i64 2)).setCell ⟨w.heap.size, 1, none⟩ (.int .i64 0))) (by omega)).trans ((cell_set_ne (w := (W3.setCell ⟨w.heap.size, 0, none⟩ (.int .i64 2))) (by omega)).trans (World.cell?_setCell_same W3 _ _ k0))
        have t1 : (((W3.setCell ⟨w.heap.size, 0, none⟩ (.int .i64 2)).setCell ⟨w.heap.size, 1, none⟩ (.int .i64 0)).setCell ⟨w.heap.size, 2, none⟩ (.int .i64 (p : Int))).drew.cell? ⟨w.heap.size, 1, none⟩ = some (.int .i64 0) := (cell_set_ne (w := ((W3.setCell ⟨w.heap.size, 0, none⟩ (.int .i64 2)).setCell ⟨w.heap.size, 1, none⟩ (.int .i64 0))) (by omega)).trans (World.cell?_setCell_same (W3.setCell ⟨w.heap.size, 0, none⟩ (.int .i64 2)) _ _ ((cell_set_ne (by omega)).trans k1))
        have t2 : (((W3.setCell ⟨w.heap.size, 0, none⟩ (.int .i64 2)).setCell ⟨w.heap.size, 1, none⟩ (.int .i64 0)).setCell ⟨w.heap.size, 2, none⟩ (.int .i64 (p : Int))).drew.cell? ⟨w.heap.size, 2, none⟩ = some (.int .i64 (p : Int)) := World.cell?_setCell_same ((W3.setCell ⟨w.heap.size, 0, none⟩ (.int .i64 2)).setCell ⟨w.heap.size, 1, none⟩ (.int .i64 0)) _ _ ((cell_set_ne (w := (W3.setCell ⟨w.heap.size, 0, none⟩ (.int .i64 2))) (by omega)).trans ((cell_set_ne (by omega)).trans k2))
        have HY4 : Hid (RFuncsG B (((W3.setCell ⟨w.heap.size, 0, none⟩ (.int .i64 2)).setCell ⟨w.heap.size, 1, none⟩ (.int .i64 0)).setCell ⟨w.heap.size, 2, none⟩ (.int .i64 (p : Int))).drew (.slice a1 y.length c1) y) := hide (((((HY3.out.kp (kp_set (o := 0) (v := .int .i64 2) hs1)).kp (kp_set (o := 1) (v := .int .i64 0) hs1)).kp (kp_set (o := 2) (v := .int .i64 (p : Int)) hs1)).kp (Gr.drew (Gr.refl _)).kp).mono (by omega))
        have HSec4 : Hid (Sec (((W3.setCell ⟨w.heap.size, 0, none⟩ (.int .i64 2)).setCell ⟨w.heap.size, 1, none⟩ (.int .i64 0)).setCell ⟨w.heap.size, 2, none⟩ (.int .i64 (p : Int))).drew sb t (t.length - r.length)) := hide (((((HSec3.out.set (g := w.heap.size) (o := 0) (v := .int .i64 2) (by omega)).set (g := w.heap.size) (o := 1) (v := .int .i64 0) (by omega)).set (g := w.heap.size) (o := 2) (v := .int .i64 (p : Int)) (by omega))).gc (cb := w.heap.size) (Gr.drew (Gr.refl _)).toGc (by omega))
        have HG4 := hide (gc_new3 (v := .int .i64 2) (v' := .int .i64 0) (v2 := .int .i64 (p : Int)) HG3.out (Nat.le_refl _))
        generalize (((W3.setCell ⟨w.heap.size, 0, none⟩ (.int .i64 2)).setCell ⟨w.heap.size, 1, none⟩ (.int .i64 0)).setCell ⟨w.heap.size, 2, none⟩ (.int .i64 (p : Int))).drew = W4 at t0 t1 t2 HY4 HSec4 HG4 ⊢
        clear k0 k1 k2 f0 f1 f2 g1 g2 g3 HY3 HG3 HSec3
        go_wp2
        exact bodyPost_ret (v := .tuple #[.slice a1 y.length c1, .agg #[.int .i64 2, .int .i64 0, .int .i64 (p : Int)]]) (by simp [results, Tryd.results84, go_sem, t0, t1, t2]) rfl (by rw [HF.out]; exact ⟨_, rfl, HY4.out, HSec4.out, HG4.out⟩)
      · have hbl : s.toList.isEmpty = false := by
          rw [ByteArray.toList_eq, es]
          cases r2 with
          | nil => exact absurd rfl hr2
          | cons b l => rfl
        have HF : Hid (rdSect 3 (rdList rdFunc) (t.drop p) = none) := hide (by
          rw [HE.out]; cases r2 with
          | nil => exact absurd rfl hr2
          | cons b l => simp only [rdBody, HL.out])
        clear es hr2 HE HL
        go_wp2
        go_region_with (first | (go_at_call 76; refine (unless_no _ _ _).mono ?_; rintro e w' ⟨rfl, hg'⟩; refine left_region ?_))
        all_goals exact ⟨rfl, by rw [HF.out]; exact ⟨rfl, HG2.out.trans (Gr.trans (Gr.drew (Gr.refl w2)) hg').toGc⟩⟩

set_option maxRecDepth 100000 in
set_option maxHeartbeats 2000000 in
theorem sect_imps : SaidSect 87 88 4 4 RImportsG (rdList rdImp) := by
  intro sb B t p w hS hb hB
  have hsl : sb < w.heap.size := World.block_lt_of_cell? w _ hS.2.2.2.1
  have HS := hide hS
  clear hS
  go_enter Tryd.func87, Tryd.ntmps87
  go_wp2_with fail
  obtain ⟨q0, q1, q2, z0, z1, z2⟩ := why_box w
  have hg0 : Gr w (w.alloc (.cells #[.int .i64 0, .int .i64 0, .int .i64 0] 83)) := Gr.alloc (Gr.refl w) _
  have hs0 : (w.alloc (.cells #[.int .i64 0, .int .i64 0, .int .i64 0] 83)).heap.size = w.heap.size + 1 := by simp
  refine (open_any sb t p 4 (by omega) _ (HS.out.gc (cb := w.heap.size) hg0.toGc (by omega))).mono ?_
  generalize (w.alloc (.cells #[.int .i64 0, .int .i64 0, .int .i64 0] 83)) = W0 at q0 q1 q2 z0 z1 z2 hg0 hs0 ⊢
  intro x w1 h
  cases ho : rdOpen 4 (t.drop p) with
  | none =>
    rw [ho] at h
    obtain ⟨rfl, hg⟩ := h
    exact ⟨rfl, by unfold rdSect; rw [ho]; exact ⟨rfl, Gc.trans_ hg0.toGc hg⟩⟩
  | some q =>
    obtain ⟨body, r⟩ := q
    rw [ho] at h
    obtain ⟨nb, rfl, hnb, hnb2, hcur, hsec, hg⟩ := h
    have HE : Hid (rdSect 4 (rdList rdImp) (t.drop p) = match rdBody (rdList rdImp) body with
      | none => none
      | some y => some (y, r)) := hide (by unfold rdSect; rw [ho]; cases hb : rdBody (rdList rdImp) body <;> simp only [hb])
    have p0 := hg.box (show ¬ w.heap.size = sb by omega) q0
    have p1 := hg.box (show ¬ w.heap.size = sb by omega) q1
    have p2 := hg.box (show ¬ w.heap.size = sb by omega) q2
    have y0 := hg.boxz (show ¬ w.heap.size = sb by omega) q0 z0
    have y1 := hg.boxz (show ¬ w.heap.size = sb by omega) q1 z1
    have y2 := hg.boxz (show ¬ w.heap.size = sb by omega) q2 z2
    have HG := hide (Gc.trans_ (hg0.toGc (cb := sb)) hg)
    have hs1 : w.heap.size < w1.heap.size := by have := hg.size; omega
    have HC := hide hcur
    have HSec := hide hsec
    clear ho q0 q1 q2 z0 z1 z2 hg hg0 hcur hsec HS
    go_wp2_with fail
    refine (rlist_imp nb w1.heap.size body 2 p _ HC.out hnb2 (Nat.le_refl _)).mono ?_
    intro x w2 h
    cases hl : rdList rdImp body with
    | none =>
      obtain ⟨rfl, hg2⟩ := h.none_ hl
      exact ⟨rfl, by rw [HE.out]; simp only [rdBody, hl]; exact ⟨rfl, HG.out.over hg2 (by omega)⟩⟩
    | some q =>
      obtain ⟨y, r2⟩ := q
      obtain ⟨v, rfl, hy, hcur2, hg2⟩ := h.some_ hl
      obtain ⟨a1, c1, rfl⟩ := hy.shape
      have HY := hide hy
      have HL := hide hl
      have m0 := hg2.box (show ¬ w.heap.size = nb by omega) p0
      have m1 := hg2.box (show ¬ w.heap.size = nb by omega) p1
      have m2 := hg2.box (show ¬ w.heap.size = nb by omega) p2
      have n0 := hg2.boxz (show ¬ w.heap.size = nb by omega) p0 y0
      have n1 := hg2.boxz (show ¬ w.heap.size = nb by omega) p1 y1
      have n2 := hg2.boxz (show ¬ w.heap.size = nb by omega) p2 y2
      have HG2 := hide (HG.out.over hg2 (by omega))
      have HSec2 := hide (HSec.out.gc hg2 (by omega))
      have hs2 : w1.heap.size ≤ w2.heap.size := hg2.size
      obtain ⟨⟨s, e0, es⟩, el, e1, e2, ez, e3⟩ := hcur2
      clear h hl hy hg2 p0 p1 p2 y0 y1 y2 HC HSec HG ez el
      by_cases hr2 : r2 = []
      · have hse : s = ⟨#[]⟩ := by
          have : s.data.toList = [] := es.trans hr2
          cases s with | mk d => simp at this; rw [this]
        subst hse
        have HF : Hid (rdSect 4 (rdList rdImp) (t.drop p) = some (y, r)) := hide (by rw [HE.out]; simp only [rdBody, HL.out, hr2])
        clear es hr2 HE HL
        go_wp2
        go_region_held3 (fun w' => w'.cell? ⟨nb, 0, none⟩ = some (.string ⟨#[]⟩) ∧ w'.cell? ⟨nb, 1, none⟩ = some (.int .i64 2) ∧ w'.cell? ⟨nb, 3, none⟩ = some (.int .i64 (p : Int)) ∧ w'.cell? ⟨nb, 2, none⟩ = some (.int .i64 0)) (first | go_keep | (refine ⟨?_, ?_, ?_, ?_⟩ <;> exact hg'.cell (by assumption) (by simp))) (first | (go_at_call 76; refine (unless_yes _ _ _).mono ?_; rintro e w' ⟨rfl, hg'⟩))
        have hgx := Gr.trans (Gr.drew (Gr.refl _)) hg'
        have k0 := hgx.cell m0 (by simp)
        have k1 := hgx.cell m1 (by simp)
        have k2 := hgx.cell m2 (by simp)
        have f0 := gr_frozen hgx m0 n0
        have f1 := gr_frozen hgx m1 n1
        have f2 := gr_frozen hgx m2 n2
        have g1 := hgx.cell e1 (by simp)
        have g2 := hgx.cell e2 (by simp)
        have g3 := hgx.cell e3 (by simp)
        have HY3 := hide (HY.out.kp hgx.kp)
        have HG3 := hide (Gc.trans_ HG2.out hgx.toGc)
        have HSec3 := hide (HSec2.out.gc (hgx.toGc (cb := nb)) (by omega))
        have hn : ¬ w.heap.size = nb := by omega
        have hn' : ¬ nb = w.heap.size := by omega
        have hs3 : w1.heap.size ≤ w'.heap.size := Nat.le_trans hs2 hgx.size
        clear hg' hgx m0 m1 m2 n0 n1 n2 e0 e1 e2 e3 HY HG2 HSec2
        generalize w' = W3 at k0 k1 k2 f0 f1 f2 g1 g2 g3 HY3 HG3 HSec3 hs3 ⊢
        go_wp2
        go_region_held3 (fun w' => w'.cell? ⟨nb, 1, none⟩ = some (.int .i64 2) ∧ w'.cell? ⟨nb, 3, none⟩ = some (.int .i64 (p : Int)) ∧ w'.cell? ⟨nb, 2, none⟩ = some (.int .i64 0)) (go_keep) (fail)
        have t0 : (((W3.setCell ⟨w.heap.size, 0, none⟩ (.int .i64 2)).setCell ⟨w.heap.size, 1, none⟩ (.int .i64 0)).setCell ⟨w.heap.size, 2, none⟩ (.int .i64 (p : Int))).drew.cell? ⟨w.heap.size, 0, none⟩ = some (.int .i64 2) := (cell_set_ne (w := ((W3.setCell ⟨w.heap.size, 0, none⟩ (.int .i64 2)).setCell ⟨w.heap.size, 1, none⟩ (.int .i64 0))) (by omega)).trans ((cell_set_ne (w := (W3.setCell ⟨w.heap.size, 0, none⟩ (.int .i64 2))) (by omega)).trans (World.cell?_setCell_same W3 _ _ k0))
        have t1 : (((W3.setCell ⟨w.heap.size, 0, none⟩ (.int .i64 2)).setCell ⟨w.heap.size, 1, none⟩ (.int .i64 0)).setCell ⟨w.heap.size, 2, none⟩ (.int .i64 (p : Int))).drew.cell? ⟨w.heap.size, 1, none⟩ = some (.int .i64 0) := (cell_set_ne (w := ((W3.setCell ⟨w.heap.size, 0, none⟩ (.int .i64 2)).setCell ⟨w.heap.size, 1, none⟩ (.int .i64 0))) (by omega)).trans (World.cell?_setCell_same (W3.setCell ⟨w.heap.size, 0, none⟩ (.int .i64 2)) _ _ ((cell_set_ne (by omega)).trans k1))
        have t2 : (((W3.setCell ⟨w.heap.size, 0, none⟩ (.int .i64 2)).setCell ⟨w.heap.size, 1, none⟩ (.int .i64 0)).setCell ⟨w.heap.size, 2, none⟩ (.int .i64 (p : Int))).drew.cell? ⟨w.heap.size, 2, none⟩ = some (.int .i64 (p : Int)) := World.cell?_setCell_same ((W3.setCell ⟨w.heap.size, 0, none⟩ (.int .i64 2)).setCell ⟨w.heap.size, 1, none⟩ (.int .i64 0)) _ _ ((cell_set_ne (w := (W3.setCell ⟨w.heap.size, 0, none⟩ (.int .i64 2))) (by omega)).trans ((cell_set_ne (by omega)).trans k2))
        have HY4 : Hid (RImportsG B (((W3.setCell ⟨w.heap.size, 0, none⟩ (.int .i64 2)).setCell ⟨w.heap.size, 1, none⟩ (.int .i64 0)).setCell ⟨w.heap.size, 2, none⟩ (.int .i64 (p : Int))).drew (.slice a1 y.length c1) y) := hide (((((HY3.out.kp (kp_set (o := 0) (v := .int .i64 2) hs1)).kp (kp_set (o := 1) (v := .int .i64 0) hs1)).kp (kp_set (o := 2) (v := .int .i64 (p : Int)) hs1)).kp (Gr.drew (Gr.refl _)).kp).mono (by omega))
        have HSec4 : Hid (Sec (((W3.setCell ⟨w.heap.size, 0, none⟩ (.int .i64 2)).setCell ⟨w.heap.size, 1, none⟩ (.int .i64 0)).setCell ⟨w.heap.size, 2, none⟩ (.int .i64 (p : Int))).drew sb t (t.length - r.length)) := hide (((((HSec3.out.set (g := w.heap.size) (o := 0) (v := .int .i64 2) (by omega)).set (g := w.heap.size) (o := 1) (v := .int .i64 0) (by omega)).set (g := w.heap.size) (o := 2) (v := .int .i64 (p : Int)) (by omega))).gc (cb := w.heap.size) (Gr.drew (Gr.refl _)).toGc (by omega))
        have HG4 := hide (gc_new3 (v := .int .i64 2) (v' := .int .i64 0) (v2 := .int .i64 (p : Int)) HG3.out (Nat.le_refl _))
        generalize (((W3.setCell ⟨w.heap.size, 0, none⟩ (.int .i64 2)).setCell ⟨w.heap.size, 1, none⟩ (.int .i64 0)).setCell ⟨w.heap.size, 2, none⟩ (.int .i64 (p : Int))).drew = W4 at t0 t1 t2 HY4 HSec4 HG4 ⊢
        clear k0 k1 k2 f0 f1 f2 g1 g2 g3 HY3 HG3 HSec3
        go_wp2
        exact bodyPost_ret (v := .tuple #[.slice a1 y.length c1, .agg #[.int .i64 2, .int .i64 0, .int .i64 (p : Int)]]) (by simp [results, Tryd.results87, go_sem, t0, t1, t2]) rfl (by rw [HF.out]; exact ⟨_, rfl, HY4.out, HSec4.out, HG4.out⟩)
      · have hbl : s.toList.isEmpty = false := by
          rw [ByteArray.toList_eq, es]
          cases r2 with
          | nil => exact absurd rfl hr2
          | cons b l => rfl
        have HF : Hid (rdSect 4 (rdList rdImp) (t.drop p) = none) := hide (by
          rw [HE.out]; cases r2 with
          | nil => exact absurd rfl hr2
          | cons b l => simp only [rdBody, HL.out])
        clear es hr2 HE HL
        go_wp2
        go_region_with (first | (go_at_call 76; refine (unless_no _ _ _).mono ?_; rintro e w' ⟨rfl, hg'⟩; refine left_region ?_))
        all_goals exact ⟨rfl, by rw [HF.out]; exact ⟨rfl, HG2.out.trans (Gr.trans (Gr.drew (Gr.refl w2)) hg').toGc⟩⟩

set_option maxRecDepth 100000 in
set_option maxHeartbeats 2000000 in
theorem sect_exps : SaidSect 90 91 5 5 RExportsG (rdList rdExp) := by
  intro sb B t p w hS hb hB
  have hsl : sb < w.heap.size := World.block_lt_of_cell? w _ hS.2.2.2.1
  have HS := hide hS
  clear hS
  go_enter Tryd.func90, Tryd.ntmps90
  go_wp2_with fail
  obtain ⟨q0, q1, q2, z0, z1, z2⟩ := why_box w
  have hg0 : Gr w (w.alloc (.cells #[.int .i64 0, .int .i64 0, .int .i64 0] 83)) := Gr.alloc (Gr.refl w) _
  have hs0 : (w.alloc (.cells #[.int .i64 0, .int .i64 0, .int .i64 0] 83)).heap.size = w.heap.size + 1 := by simp
  refine (open_any sb t p 5 (by omega) _ (HS.out.gc (cb := w.heap.size) hg0.toGc (by omega))).mono ?_
  generalize (w.alloc (.cells #[.int .i64 0, .int .i64 0, .int .i64 0] 83)) = W0 at q0 q1 q2 z0 z1 z2 hg0 hs0 ⊢
  intro x w1 h
  cases ho : rdOpen 5 (t.drop p) with
  | none =>
    rw [ho] at h
    obtain ⟨rfl, hg⟩ := h
    exact ⟨rfl, by unfold rdSect; rw [ho]; exact ⟨rfl, Gc.trans_ hg0.toGc hg⟩⟩
  | some q =>
    obtain ⟨body, r⟩ := q
    rw [ho] at h
    obtain ⟨nb, rfl, hnb, hnb2, hcur, hsec, hg⟩ := h
    have HE : Hid (rdSect 5 (rdList rdExp) (t.drop p) = match rdBody (rdList rdExp) body with
      | none => none
      | some y => some (y, r)) := hide (by unfold rdSect; rw [ho]; cases hb : rdBody (rdList rdExp) body <;> simp only [hb])
    have p0 := hg.box (show ¬ w.heap.size = sb by omega) q0
    have p1 := hg.box (show ¬ w.heap.size = sb by omega) q1
    have p2 := hg.box (show ¬ w.heap.size = sb by omega) q2
    have y0 := hg.boxz (show ¬ w.heap.size = sb by omega) q0 z0
    have y1 := hg.boxz (show ¬ w.heap.size = sb by omega) q1 z1
    have y2 := hg.boxz (show ¬ w.heap.size = sb by omega) q2 z2
    have HG := hide (Gc.trans_ (hg0.toGc (cb := sb)) hg)
    have hs1 : w.heap.size < w1.heap.size := by have := hg.size; omega
    have HC := hide hcur
    have HSec := hide hsec
    clear ho q0 q1 q2 z0 z1 z2 hg hg0 hcur hsec HS
    go_wp2_with fail
    refine (rlist_exp nb w1.heap.size body 2 p _ HC.out hnb2 (Nat.le_refl _)).mono ?_
    intro x w2 h
    cases hl : rdList rdExp body with
    | none =>
      obtain ⟨rfl, hg2⟩ := h.none_ hl
      exact ⟨rfl, by rw [HE.out]; simp only [rdBody, hl]; exact ⟨rfl, HG.out.over hg2 (by omega)⟩⟩
    | some q =>
      obtain ⟨y, r2⟩ := q
      obtain ⟨v, rfl, hy, hcur2, hg2⟩ := h.some_ hl
      obtain ⟨a1, c1, rfl⟩ := hy.shape
      have HY := hide hy
      have HL := hide hl
      have m0 := hg2.box (show ¬ w.heap.size = nb by omega) p0
      have m1 := hg2.box (show ¬ w.heap.size = nb by omega) p1
      have m2 := hg2.box (show ¬ w.heap.size = nb by omega) p2
      have n0 := hg2.boxz (show ¬ w.heap.size = nb by omega) p0 y0
      have n1 := hg2.boxz (show ¬ w.heap.size = nb by omega) p1 y1
      have n2 := hg2.boxz (show ¬ w.heap.size = nb by omega) p2 y2
      have HG2 := hide (HG.out.over hg2 (by omega))
      have HSec2 := hide (HSec.out.gc hg2 (by omega))
      have hs2 : w1.heap.size ≤ w2.heap.size := hg2.size
      obtain ⟨⟨s, e0, es⟩, el, e1, e2, ez, e3⟩ := hcur2
      clear h hl hy hg2 p0 p1 p2 y0 y1 y2 HC HSec HG ez el
      by_cases hr2 : r2 = []
      · have hse : s = ⟨#[]⟩ := by
          have : s.data.toList = [] := es.trans hr2
          cases s with | mk d => simp at this; rw [this]
        subst hse
        have HF : Hid (rdSect 5 (rdList rdExp) (t.drop p) = some (y, r)) := hide (by rw [HE.out]; simp only [rdBody, HL.out, hr2])
        clear es hr2 HE HL
        go_wp2
        go_region_held3 (fun w' => w'.cell? ⟨nb, 0, none⟩ = some (.string ⟨#[]⟩) ∧ w'.cell? ⟨nb, 1, none⟩ = some (.int .i64 2) ∧ w'.cell? ⟨nb, 3, none⟩ = some (.int .i64 (p : Int)) ∧ w'.cell? ⟨nb, 2, none⟩ = some (.int .i64 0)) (first | go_keep | (refine ⟨?_, ?_, ?_, ?_⟩ <;> exact hg'.cell (by assumption) (by simp))) (first | (go_at_call 76; refine (unless_yes _ _ _).mono ?_; rintro e w' ⟨rfl, hg'⟩))
        have hgx := Gr.trans (Gr.drew (Gr.refl _)) hg'
        have k0 := hgx.cell m0 (by simp)
        have k1 := hgx.cell m1 (by simp)
        have k2 := hgx.cell m2 (by simp)
        have f0 := gr_frozen hgx m0 n0
        have f1 := gr_frozen hgx m1 n1
        have f2 := gr_frozen hgx m2 n2
        have g1 := hgx.cell e1 (by simp)
        have g2 := hgx.cell e2 (by simp)
        have g3 := hgx.cell e3 (by simp)
        have HY3 := hide (HY.out.kp hgx.kp)
        have HG3 := hide (Gc.trans_ HG2.out hgx.toGc)
        have HSec3 := hide (HSec2.out.gc (hgx.toGc (cb := nb)) (by omega))
        have hn : ¬ w.heap.size = nb := by omega
        have hn' : ¬ nb = w.heap.size := by omega
        have hs3 : w1.heap.size ≤ w'.heap.size := Nat.le_trans hs2 hgx.size
        clear hg' hgx m0 m1 m2 n0 n1 n2 e0 e1 e2 e3 HY HG2 HSec2
        generalize w' = W3 at k0 k1 k2 f0 f1 f2 g1 g2 g3 HY3 HG3 HSec3 hs3 ⊢
        go_wp2
        go_region_held3 (fun w' => w'.cell? ⟨nb, 1, none⟩ = some (.int .i64 2) ∧ w'.cell? ⟨nb, 3, none⟩ = some (.int .i64 (p : Int)) ∧ w'.cell? ⟨nb, 2, none⟩ = some (.int .i64 0)) (go_keep) (fail)
        have t0 : (((W3.setCell ⟨w.heap.size, 0, none⟩ (.int .i64 2)).setCell ⟨w.heap.size, 1, none⟩ (.int .i64 0)).setCell ⟨w.heap.size, 2, none⟩ (.int .i64 (p : Int))).drew.cell? ⟨w.heap.size, 0, none⟩ = some (.int .i64 2) := (cell_set_ne (w := ((W3.setCell ⟨w.heap.size, 0, none⟩ (.int .i64 2)).setCell ⟨w.heap.size, 1, none⟩ (.int .i64 0))) (by omega)).trans ((cell_set_ne (w := (W3.setCell ⟨w.heap.size, 0, none⟩ (.int .i64 2))) (by omega)).trans (World.cell?_setCell_same W3 _ _ k0))
        have t1 : (((W3.setCell ⟨w.heap.size, 0, none⟩ (.int .i64 2)).setCell ⟨w.heap.size, 1, none⟩ (.int .i64 0)).setCell ⟨w.heap.size, 2, none⟩ (.int .i64 (p : Int))).drew.cell? ⟨w.heap.size, 1, none⟩ = some (.int .i64 0) := (cell_set_ne (w := ((W3.setCell ⟨w.heap.size, 0, none⟩ (.int .i64 2)).setCell ⟨w.heap.size, 1, none⟩ (.int .i64 0))) (by omega)).trans (World.cell?_setCell_same (W3.setCell ⟨w.heap.size, 0, none⟩ (.int .i64 2)) _ _ ((cell_set_ne (by omega)).trans k1))
        have t2 : (((W3.setCell ⟨w.heap.size, 0, none⟩ (.int .i64 2)).setCell ⟨w.heap.size, 1, none⟩ (.int .i64 0)).setCell ⟨w.heap.size, 2, none⟩ (.int .i64 (p : Int))).drew.cell? ⟨w.heap.size, 2, none⟩ = some (.int .i64 (p : Int)) := World.cell?_setCell_same ((W3.setCell ⟨w.heap.size, 0, none⟩ (.int .i64 2)).setCell ⟨w.heap.size, 1, none⟩ (.int .i64 0)) _ _ ((cell_set_ne (w := (W3.setCell ⟨w.heap.size, 0, none⟩ (.int .i64 2))) (by omega)).trans ((cell_set_ne (by omega)).trans k2))
        have HY4 : Hid (RExportsG B (((W3.setCell ⟨w.heap.size, 0, none⟩ (.int .i64 2)).setCell ⟨w.heap.size, 1, none⟩ (.int .i64 0)).setCell ⟨w.heap.size, 2, none⟩ (.int .i64 (p : Int))).drew (.slice a1 y.length c1) y) := hide (((((HY3.out.kp (kp_set (o := 0) (v := .int .i64 2) hs1)).kp (kp_set (o := 1) (v := .int .i64 0) hs1)).kp (kp_set (o := 2) (v := .int .i64 (p : Int)) hs1)).kp (Gr.drew (Gr.refl _)).kp).mono (by omega))
        have HSec4 : Hid (Sec (((W3.setCell ⟨w.heap.size, 0, none⟩ (.int .i64 2)).setCell ⟨w.heap.size, 1, none⟩ (.int .i64 0)).setCell ⟨w.heap.size, 2, none⟩ (.int .i64 (p : Int))).drew sb t (t.length - r.length)) := hide (((((HSec3.out.set (g := w.heap.size) (o := 0) (v := .int .i64 2) (by omega)).set (g := w.heap.size) (o := 1) (v := .int .i64 0) (by omega)).set (g := w.heap.size) (o := 2) (v := .int .i64 (p : Int)) (by omega))).gc (cb := w.heap.size) (Gr.drew (Gr.refl _)).toGc (by omega))
        have HG4 := hide (gc_new3 (v := .int .i64 2) (v' := .int .i64 0) (v2 := .int .i64 (p : Int)) HG3.out (Nat.le_refl _))
        generalize (((W3.setCell ⟨w.heap.size, 0, none⟩ (.int .i64 2)).setCell ⟨w.heap.size, 1, none⟩ (.int .i64 0)).setCell ⟨w.heap.size, 2, none⟩ (.int .i64 (p : Int))).drew = W4 at t0 t1 t2 HY4 HSec4 HG4 ⊢
        clear k0 k1 k2 f0 f1 f2 g1 g2 g3 HY3 HG3 HSec3
        go_wp2
        exact bodyPost_ret (v := .tuple #[.slice a1 y.length c1, .agg #[.int .i64 2, .int .i64 0, .int .i64 (p : Int)]]) (by simp [results, Tryd.results90, go_sem, t0, t1, t2]) rfl (by rw [HF.out]; exact ⟨_, rfl, HY4.out, HSec4.out, HG4.out⟩)
      · have hbl : s.toList.isEmpty = false := by
          rw [ByteArray.toList_eq, es]
          cases r2 with
          | nil => exact absurd rfl hr2
          | cons b l => rfl
        have HF : Hid (rdSect 5 (rdList rdExp) (t.drop p) = none) := hide (by
          rw [HE.out]; cases r2 with
          | nil => exact absurd rfl hr2
          | cons b l => simp only [rdBody, HL.out])
        clear es hr2 HE HL
        go_wp2
        go_region_with (first | (go_at_call 76; refine (unless_no _ _ _).mono ?_; rintro e w' ⟨rfl, hg'⟩; refine left_region ?_))
        all_goals exact ⟨rfl, by rw [HF.out]; exact ⟨rfl, HG2.out.trans (Gr.trans (Gr.drew (Gr.refl w2)) hg').toGc⟩⟩

theorem sections : Sections := ⟨sect_shapes, sect_consts, sect_funcs, sect_imps, sect_exps⟩
end Go.Proofs.YtkgncijcnlfhiaaDoor

