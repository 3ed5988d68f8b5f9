import Derived.Test.YtkgncijcnlfhiaaDoorB4
namespace Go.Proofs.YtkgncijcnlfhiaaDoor
set_option linter.unusedVariables false
set_option linter.unusedSimpArgs false
open Go.RowKit
attribute [local go_sem ↓] Go.wp_at_zero Go.wp_at_succ

theorem Gc.box {cb b o : Nat} {w w' : World} {x : Value} (h : Gc cb w w') (hb : ¬ b = cb) (hx : w.cell? ⟨b, o, none⟩ = some x) : w'.cell? ⟨b, o, none⟩ = some x :=
  h.cell hx (by intro e; simp only [Option.some.injEq] at e; exact hb e)
theorem Gc.boxz {cb b o : Nat} {w w' : World} {x : Value} (h : Gc cb w w') (hb : ¬ b = cb) (hx : w.cell? ⟨b, o, none⟩ = some x) (hz : w.frozen? ⟨b, o, none⟩ = false) : w'.frozen? ⟨b, o, none⟩ = false :=
  (World.frozen?_of_block (a := ⟨b, o, none⟩) (h.block b (World.block_lt_of_cell? w _ hx) (by intro e; simp only [Option.some.injEq] at e; exact hb e))).trans hz
/-- a struct of three cells of one's own -/
def Box3 (w : World) (b : Nat) (x0 x1 x2 : Value) : Prop :=
  w.cell? ⟨b, 0, none⟩ = some x0 ∧ w.cell? ⟨b, 1, none⟩ = some x1 ∧ w.cell? ⟨b, 2, none⟩ = some x2 ∧ w.frozen? ⟨b, 0, none⟩ = false ∧ w.frozen? ⟨b, 1, none⟩ = false ∧ w.frozen? ⟨b, 2, none⟩ = false
theorem Box3.gc {w w' : World} {cb b : Nat} {x0 x1 x2 : Value} (h : Box3 w b x0 x1 x2) (g : Gc cb w w') (hb : ¬ b = cb) : Box3 w' b x0 x1 x2 := by
  obtain ⟨h0, h1, h2, z0, z1, z2⟩ := h
  exact ⟨g.box hb h0, g.box hb h1, g.box hb h2, g.boxz hb h0 z0, g.boxz hb h1 z1, g.boxz hb h2 z2⟩
theorem Box3.gr {w w' : World} {b : Nat} {x0 x1 x2 : Value} (h : Box3 w b x0 x1 x2) (g : Gr w w') : Box3 w' b x0 x1 x2 := h.gc (cb := b + 1) g.toGc (by omega)
theorem Box3.new (w : World) (t : TypeId) (x0 x1 x2 : Value) : Box3 (w.alloc (.cells #[x0, x1, x2] t)) w.heap.size x0 x1 x2 := by
  refine ⟨?_, ?_, ?_, ?_, ?_, ?_⟩ <;> simp [go_sem]
theorem Box3.other {w : World} {b g o : Nat} {x0 x1 x2 v : Value} (h : Box3 w b x0 x1 x2) (hb : ¬ g = b) : Box3 (w.setCell ⟨g, o, none⟩ v) b x0 x1 x2 := by
  obtain ⟨h0, h1, h2, z0, z1, z2⟩ := h
  have hc : ∀ q, (w.setCell ⟨g, o, none⟩ v).cell? ⟨b, q, none⟩ = w.cell? ⟨b, q, none⟩ := fun q => World.cell?_setCell_other w _ _ _ (by intro e; simp only [Addr.mk.injEq] at e; exact hb e.1)
  exact ⟨(hc 0).trans h0, (hc 1).trans h1, (hc 2).trans h2, by rw [World.frozen?_setCell]; exact z0, by rw [World.frozen?_setCell]; exact z1, by rw [World.frozen?_setCell]; exact z2⟩

def rdIns (r : List UInt8) : Option (PIns × List UInt8) := match rdByte r with
  | none => none
  | some (b, r1) =>
    if wB (b.toNat : Int) 0 20 = true then
      if (b.toNat : Int) = 1 then (match rdSigned r1 with
        | none => none
        | some (v, r2) => some (⟨b.toNat, v, 0⟩, r2))
      else if operandsN b.toNat = 0 then some (⟨b.toNat, 0, 0⟩, r1)
      else match rdWhole r1 with
        | none => none
        | some (v, r2) => if operandsN b.toNat = 1 then some (⟨b.toNat, v, 0⟩, r2) else (match rdWhole r2 with
          | none => none
          | some (u, r3) => some (⟨b.toNat, v, u⟩, r3))
    else none

set_option maxRecDepth 100000 in
set_option maxHeartbeats 2000000 in
theorem ins_read (cb : Nat) (r : List UInt8) (e a : Int) (w : World) (hc : Cur w cb r e a) :
    Calls Tryd.prog 136 #[.pointer (some ⟨cb, 0, none⟩)] w (Rds cb e a w (fun _ v (y : PIns) => v = .agg #[.int .i64 y.op, .int .i64 y.a, .int .i64 y.b]) (rdIns r)) := by
  have hcl : cb < w.heap.size := World.block_lt_of_cell? w ⟨cb, 1, none⟩ hc.2.2.1
  have HC := hide hc
  clear hc
  have HB0 := hide (Box3.new w 91 (.int .i64 0) (.int .i64 0) (.int .i64 0))
  have HGw := hide ((Gr.alloc (Gr.refl w) (.cells #[.int .i64 0, .int .i64 0, .int .i64 0] 91)).toGc (cb := cb))
  go_enter Tryd.func136, Tryd.ntmps136
  go_wp2_with fail
  refine (byte_any cb r e a _ (HC.out.gr ((Gr.refl w).alloc _))).mono ?_
  intro x w1 h
  cases hn : rdByte r with
  | none =>
    obtain ⟨rfl, hg⟩ := h.none_ hn
    exact ⟨rfl, by unfold rdIns; rw [hn]; exact ⟨rfl, HGw.out.trans hg⟩⟩
  | some p =>
    obtain ⟨b, r1⟩ := p
    obtain ⟨v, rfl, rfl, hcur, hg⟩ := h.some_ hn
    have hs1 : w.heap.size < w1.heap.size := by have := hg.size; simp at this; omega
    have hrb := HB0.out.gc hg (by omega)
    have HG1 := hide (HGw.out.trans hg)
    have hbl : b.toNat < 256 := b.toNat_lt
    have HC1 := hide hcur
    have HN := hide hn
    clear h hcur hg hn HB0
    obtain ⟨⟨s, h0, hs⟩, hl, h1, h2, hz, hj⟩ := HC1.out
    clear h0 hs hl hz
    have h1a := (World.grownBy_alloc w1 (.cells #[.int .i64 (b.toNat : Int), .int .i64 0, .int .i64 0] 91) none).cell h1 (by simp)
    have h2a := (World.grownBy_alloc w1 (.cells #[.int .i64 (b.toNat : Int), .int .i64 0, .int .i64 0] 91) none).cell h2 (by simp)
    have hja := (World.grownBy_alloc w1 (.cells #[.int .i64 (b.toNat : Int), .int .i64 0, .int .i64 0] 91) none).cell hj (by simp)
    have hib := Box3.new w1 91 (.int .i64 (b.toNat : Int)) (.int .i64 0) (.int .i64 0)
    have hi0 := hib.1
    have HIB := hide hib
    have HRB := hide (hrb.gc ((Gr.alloc (Gr.refl w1) (.cells #[.int .i64 (b.toNat : Int), .int .i64 0, .int .i64 0] 91)).toGc (cb := cb)) (by omega))
    have HG2 := hide (HG1.out.trans ((Gr.alloc (Gr.refl w1) (.cells #[.int .i64 (b.toNat : Int), .int .i64 0, .int .i64 0] 91)).toGc (cb := cb)))
    clear hib h1 h2 hj hrb HG1 HGw
    cases hop : wB (b.toNat : Int) 0 20
    · have HE : Hid (rdIns r = none) := hide (by unfold rdIns; rw [HN.out]; simp [hop])
      go_wp2
      go_region_with (first | (go_at_call 156; refine (op_any _ _).mono ?_; rintro e w' ⟨rfl, rfl⟩) | (go_at_call 76; refine (unless_no _ _ _).mono ?_; rintro e w' ⟨rfl, hg'⟩; refine left_region ?_))
      all_goals exact ⟨rfl, by rw [HE.out]; exact ⟨rfl, HG2.out.trans (Gr.trans (Gr.drew (Gr.refl _)) hg').toGc⟩⟩
    · go_wp2
      go_region_held3 (fun w' => w'.cell? ⟨cb, 1, none⟩ = some (.int .i64 e) ∧ w'.cell? ⟨cb, 3, none⟩ = some (.int .i64 a) ∧ w'.cell? ⟨cb, 2, none⟩ = some (.int .i64 0) ∧ w'.cell? ⟨w1.heap.size, 0, none⟩ = some (.int .i64 (b.toNat : Int))) (first | go_keep | (refine ⟨?_, ?_, ?_, ?_⟩ <;> exact hg'.cell (by assumption) (by simp))) (first | (go_at_call 156; refine (op_any _ _).mono ?_; rintro e w' ⟨rfl, rfl⟩) | (go_at_call 76; refine (unless_yes _ _ _).mono ?_; rintro e w' ⟨rfl, hg'⟩))
      have hgr := (Gr.trans (Gr.drew (Gr.refl _)) hg').toGc (cb := cb)
      have HIB2 := hide (HIB.out.gc hgr (by omega))
      have HRB2 := hide (HRB.out.gc hgr (by omega))
      have HG3 := hide (HG2.out.trans hgr)
      have HC2 := hide ((HC1.out.gr (Gr.alloc (Gr.refl w1) (.cells #[.int .i64 (b.toNat : Int), .int .i64 0, .int .i64 0] 91))).gr (Gr.trans (Gr.drew (Gr.refl _)) hg'))
      have hs2 : w1.heap.size < w'.heap.size := by have := hg'.size; simp at this; omega
      obtain ⟨i0, i1, i2, y0, y1, y2⟩ := HIB2.out
      clear hg' hgr h1a h2a hja hi0 HIB HRB HG2 HC1
      by_cases hone : (b.toNat : Int) = 1
      · have hb1 : ((b.toNat : Int) == 1) = true := by simpa using hone
        go_wp2_with fail
        refine (signed_read cb r1 e a _ HC2.out).mono ?_
        intro x w3 h
        cases hf : rdSigned r1 with
        | none =>
          obtain ⟨rfl, hg⟩ := h.none_ hf
          exact ⟨rfl, by unfold rdIns; rw [HN.out]; simp only [hop, if_true, hone, hf]; exact ⟨rfl, HG3.out.trans hg⟩⟩
        | some q =>
          obtain ⟨v, r2⟩ := q
          obtain ⟨_, rfl, rfl, hcur, hg⟩ := h.some_ hf
          have HE : Hid (rdIns r = some (⟨b.toNat, v, 0⟩, r2)) := hide (by unfold rdIns; rw [HN.out]; simp only [hop, if_true, if_pos hone, hf])
          obtain ⟨j0, j1, j2, k0, k1, k2⟩ := HIB2.out.gc hg (by omega)
          obtain ⟨m0, m1, m2, n0, n1, n2⟩ := HRB2.out.gc hg (by omega)
          have HC3 := hide hcur
          have HG4 := hide (HG3.out.trans hg)
          have hne : ¬ w.heap.size = w1.heap.size := by omega
          clear h hcur hg hf i0 i1 i2 y0 y1 y2 hone
          go_wp2
          exact bodyPost_ret (v := .agg #[.int .i64 (b.toNat : Int), .int .i64 v, .int .i64 0]) (by simp [results, Tryd.results136, go_sem, m0, m1, m2]) rfl (by rw [HE.out]; exact ⟨_, rfl, rfl, cur_set (cur_set (cur_set (cur_set (HC3.out) (by omega)) (by omega)) (by omega)) (by omega), gc_new (gc_new (gc_new (gc_new (HG4.out) (by omega)) (by omega)) (by omega)) (by omega)⟩)
      · have hb1 : ((b.toNat : Int) == 1) = false := by simpa using hone
        rcases operandsN_cases (b.toNat : Int) with hN | hN | hN
        · have HE : Hid (rdIns r = some (⟨b.toNat, 0, 0⟩, r1)) := hide (by unfold rdIns; rw [HN.out]; simp only [hop, if_true, if_neg hone, hN])
          obtain ⟨m0, m1, m2, n0, n1, n2⟩ := HRB2.out
          have hne : ¬ w.heap.size = w1.heap.size := by omega
          clear hone
          go_wp2_with (go_at_call 153; refine (operands_any _ _).mono ?_; rintro e w' ⟨rfl, rfl⟩)
          exact bodyPost_ret (v := .agg #[.int .i64 (b.toNat : Int), .int .i64 0, .int .i64 0]) (by simp [results, Tryd.results136, go_sem, m0, m1, m2]) rfl (by rw [HE.out]; exact ⟨_, rfl, rfl, cur_set (cur_set (cur_set (HC2.out) (by omega)) (by omega)) (by omega), gc_new (gc_new (gc_new (HG3.out) (by omega)) (by omega)) (by omega)⟩)
        · go_wp2_with (first | (go_at_call 153; refine (operands_any _ _).mono ?_; rintro e w' ⟨rfl, rfl⟩))
          refine (whole_read cb r1 e a _ HC2.out).mono ?_
          intro x w3 h
          cases hf : rdWhole r1 with
          | none =>
            obtain ⟨rfl, hg⟩ := h.none_ hf
            exact ⟨rfl, by unfold rdIns; rw [HN.out]; simp only [hop, if_true, if_neg hone, hN, hf]; exact ⟨rfl, HG3.out.trans hg⟩⟩
          | some q =>
            obtain ⟨v, r2⟩ := q
            obtain ⟨_, rfl, rfl, hcur, hg⟩ := h.some_ hf
            have HE : Hid (rdIns r = some (⟨b.toNat, v, 0⟩, r2)) := hide (by unfold rdIns; rw [HN.out]; simp only [hop, if_true, if_neg hone, hN, hf]; rfl)
            obtain ⟨j0, j1, j2, k0, k1, k2⟩ := HIB2.out.gc hg (by omega)
            obtain ⟨m0, m1, m2, n0, n1, n2⟩ := HRB2.out.gc hg (by omega)
            have HC3 := hide hcur
            have HG4 := hide (HG3.out.trans hg)
            have hne : ¬ w.heap.size = w1.heap.size := by omega
            clear h hcur hg hf i0 i1 i2 y0 y1 y2 hone
            go_wp2
            exact bodyPost_ret (v := .agg #[.int .i64 (b.toNat : Int), .int .i64 v, .int .i64 0]) (by simp [results, Tryd.results136, go_sem, m0, m1, m2]) rfl (by rw [HE.out]; exact ⟨_, rfl, rfl, cur_set (cur_set (cur_set (cur_set (HC3.out) (by omega)) (by omega)) (by omega)) (by omega), gc_new (gc_new (gc_new (gc_new (HG4.out) (by omega)) (by omega)) (by omega)) (by omega)⟩)
        · go_wp2_with (first | (go_at_call 153; refine (operands_any _ _).mono ?_; rintro e w' ⟨rfl, rfl⟩))
          refine (whole_read cb r1 e a _ HC2.out).mono ?_
          intro x w3 h
          cases hf : rdWhole r1 with
          | none =>
            obtain ⟨rfl, hg⟩ := h.none_ hf
            exact ⟨rfl, by unfold rdIns; rw [HN.out]; simp only [hop, if_true, if_neg hone, hN, hf]; exact ⟨rfl, HG3.out.trans hg⟩⟩
          | some q =>
            obtain ⟨v, r2⟩ := q
            obtain ⟨_, rfl, rfl, hcur, hg⟩ := h.some_ hf
            have hjb := HIB2.out.gc hg (by omega)
            have hmb := HRB2.out.gc hg (by omega)
            have hs3 : w'.heap.size ≤ w3.heap.size := hg.size
            have hne : ¬ w.heap.size = w1.heap.size := by omega
            have HC3 := hide (cur_set (g := w1.heap.size) (o := 1) (v := .int .i64 v) hcur (by omega))
            have HG4 := hide (gc_new (g := w1.heap.size) (o := 1) (v := .int .i64 v) (HG3.out.trans hg) (by omega))
            have HMB := hide (hmb.other (g := w1.heap.size) (o := 1) (v := .int .i64 v) (by omega))
            obtain ⟨j0, j1, j2, k0, k1, k2⟩ := hjb
            have HF := hide hf
            clear h hcur hg hf i0 i1 i2 y0 y1 y2 hmb
            go_wp2_with fail
            refine (whole_read cb r2 e a _ HC3.out).mono ?_
            intro x w5 h
            cases hf2 : rdWhole r2 with
            | none =>
              obtain ⟨rfl, hg⟩ := h.none_ hf2
              exact ⟨rfl, by unfold rdIns; rw [HN.out]; simp only [hop, if_true, if_neg hone, hN, HF.out, hf2]; exact ⟨rfl, HG4.out.trans hg⟩⟩
            | some q2 =>
              obtain ⟨u, r3⟩ := q2
              obtain ⟨_, rfl, rfl, hcur, hg⟩ := h.some_ hf2
              have HE : Hid (rdIns r = some (⟨b.toNat, v, u⟩, r3)) := hide (by unfold rdIns; rw [HN.out]; simp only [hop, if_true, if_neg hone, hN, HF.out, hf2]; rfl)
              obtain ⟨m0, m1, m2, n0, n1, n2⟩ := HMB.out.gc hg (by omega)
              have l0 : w5.cell? ⟨w1.heap.size, 0, none⟩ = some (.int .i64 (b.toNat : Int)) := hg.box (by omega) ((cell_set_ne (by omega)).trans j0)
              have l1 : w5.cell? ⟨w1.heap.size, 1, none⟩ = some (.int .i64 v) := hg.box (by omega) (World.cell?_setCell_same _ _ _ j1)
              have l2 : w5.cell? ⟨w1.heap.size, 2, none⟩ = some (.int .i64 0) := hg.box (by omega) ((cell_set_ne (by omega)).trans j2)
              have p2 : w5.frozen? ⟨w1.heap.size, 2, none⟩ = false := hg.boxz (by omega) ((cell_set_ne (by omega)).trans j2) (by rw [World.frozen?_setCell]; exact k2)
              have HC5 := hide hcur
              have HG5 := hide (HG4.out.trans hg)
              clear h hcur hg hf2 hone j0 j1 j2 k0 k1 k2
              go_wp2
              exact bodyPost_ret (v := .agg #[.int .i64 (b.toNat : Int), .int .i64 v, .int .i64 u]) (by simp [results, Tryd.results136, go_sem, m0, m1, m2]) rfl (by rw [HE.out]; exact ⟨_, rfl, rfl, cur_set (cur_set (cur_set (cur_set (HC5.out) (by omega)) (by omega)) (by omega)) (by omega), gc_new (gc_new (gc_new (gc_new (HG5.out) (by omega)) (by omega)) (by omega)) (by omega)⟩)
end Go.Proofs.YtkgncijcnlfhiaaDoor

namespace Go.Proofs.YtkgncijcnlfhiaaDoor
set_option linter.unusedVariables false
set_option linter.unusedSimpArgs false
open Go.RowKit
attribute [local go_sem ↓] Go.wp_at_zero Go.wp_at_succ


theorem Tryd.rinfo_rlist_ins : (Tryd.prog.info? 91).map (fun i => (i.zero, i.size, i.bytes)) = some (some (Value.agg #[.int .i64 0, .int .i64 0, .int .i64 0]), 3, 24) := by kernel_rfl

set_option maxRecDepth 100000 in
set_option maxHeartbeats 2000000 in
theorem rlist_ins (cb B : Nat) (r : List UInt8) (e a : Int) (w : World) (hc : Cur w cb r e a) (hb : cb < B) (hB : B ≤ w.heap.size) :
    Calls Tryd.prog 135 #[.pointer (some ⟨cb, 0, none⟩), .func (.func 136) #[] #[]] w (Rds cb e a w (fun w' v (y : List PIns) => RCodeG B w' v y) (rdList rdIns r)) := by
  have HC := hide hc
  clear hc
  go_enter Tryd.func135, Tryd.ntmps135
  go_wp2_with fail
  refine (number_any cb r e a _ HC.out).mono ?_
  intro x w1 h
  cases hn : rdNum 0 0 r with
  | none =>
    obtain ⟨rfl, hg⟩ := h.none_ hn
    exact ⟨rfl, by unfold rdList; rw [hn]; exact ⟨rfl, hg⟩⟩
  | some p =>
    obtain ⟨n, r1⟩ := p
    obtain ⟨v, rfl, rfl, hcur, hg⟩ := h.some_ hn
    have HG1 := hide hg
    have HC1 := hide hcur
    obtain ⟨⟨s, h0, hs⟩, hl, h1, h2, hz, hj⟩ := hcur
    have hsz : s.size = r1.length := by rw [← hs, Array.length_toList]; rfl
    have hss : s.size ≤ 1000000 := by omega
    have hwr : IntKind.u64.wrap (s.size : Int) = s.size := Go.IntWalk.u64_in _ (by omega)
    by_cases hle : n ≤ r1.length
    · have HE : Hid (rdList rdIns r = rdN rdIns n r1) := hide (by unfold rdList; rw [hn]; simp only [if_pos hle])
      have hd : (n : Int) ≤ (s.size : Int) := by omega
      have hn6 : n ≤ 1000000 := by omega
      clear h hg hn hs hl hz hsz hle
      go_wp2
      go_region_held3 (fun w' => w'.cell? ⟨cb, 0, none⟩ = some (.string s) ∧ w'.cell? ⟨cb, 1, none⟩ = some (.int .i64 e) ∧ w'.cell? ⟨cb, 3, none⟩ = some (.int .i64 a) ∧ w'.cell? ⟨cb, 2, none⟩ = some (.int .i64 0)) (first | go_keep | (refine ⟨?_, ?_, ?_, ?_⟩ <;> exact hg'.cell (by assumption) (by simp))) (first | (go_at_call 76; refine (unless_yes _ _ _).mono ?_; rintro e w' ⟨rfl, hg'⟩))
      have HC2 := hide (HC1.out.gr (Gr.trans (Gr.drew (Gr.refl w1)) hg'))
      have HG2 := hide (HG1.out.trans (Gr.trans (Gr.drew (Gr.refl w1)) hg').toGc)
      clear hg' h0 h1 h2 hj HC1 HG1 hss hwr hd
      obtain ⟨i0, hi, hz0, hz1, hz2⟩ := info_parts Tryd.rinfo_rlist_ins
      obtain ⟨M, hM⟩ : ∃ M, M = madeCells (Value.agg #[.int .i64 0, .int .i64 0, .int .i64 0]).cells ((n : Int).toNat * i0.size) := ⟨_, rfl⟩
      have hMs : M.size = n * 3 := by rw [hM, size_madeCells, hz1]; simp
      have hmk : ∀ V : World, (Instr.makeSlice 74 (.int .u64 (n : Int)) (.int .u64 (n : Int))).run Tryd.prog V = .ok (.slice (some ⟨V.heap.size, 0, none⟩) n n) (V.alloc (.cells M 91)) := by
        intro V
        have h := run_make (P := Tryd.prog) V 74 91 i0 (Value.agg #[.int .i64 0, .int .i64 0, .int .i64 0]) Tryd.underlying74 hi hz0 .u64 .u64 (n : Int) (n : Int) (by omega) (by omega) (by rw [hz2]; omega) (by omega)
        rw [← hM] at h
        simpa using h
      have HM := hide hMs
      clear hM hMs hi hz0 hz1 hz2
      go_wp2
      have hgB : B ≤ w'.heap.size := Nat.le_trans hB HG2.out.size
      have hgW : w.heap.size ≤ w'.heap.size := HG2.out.size
      go_loopw [27] (fun i wr => ∃ (k : Nat) (ys : List PIns) (rk : List UInt8), k ≤ n ∧ i = .int .i64 k ∧ ys.length = k ∧ Cur wr cb rk e a ∧ Gc cb w wr ∧ rdN rdIns n r1 = glue ys (rdN rdIns (n - k) rk) ∧ w'.heap.size < wr.heap.size ∧ (Blk wr w'.heap.size 91 (n * 3)) ∧ (∀ j, j < n * 3 → (∃ x, wr.cell? ⟨w'.heap.size, j, none⟩ = some x) ∧ wr.frozen? ⟨w'.heap.size, j, none⟩ = false) ∧ ∀ j y, ys[j]? = some y → (wr.cell? ⟨w'.heap.size, j * 3, none⟩ = some (.int .i64 y.op) ∧ wr.cell? ⟨w'.heap.size, j * 3 + 1, none⟩ = some (.int .i64 y.a) ∧ wr.cell? ⟨w'.heap.size, j * 3 + 2, none⟩ = some (.int .i64 y.b))) (fun i _ => n - (intOf i).toNat)
      case atStart =>
        have HBN : Blk (w'.alloc (.cells M 91)) w'.heap.size 91 (n * 3) := by have := Blk.new w' M 91; rw [HM.out] at this; exact this
        refine ⟨0, [], r1, Nat.zero_le _, rfl, rfl, HC2.out.gr ((Gr.refl _).alloc _), HG2.out.trans ((Gr.refl _).alloc _).toGc, by rw [glue_nil]; rfl, by simp, HBN, fun j hj => ?_, fun j y hy => by simp at hy⟩
        exact new_row w' M 91 j (by rw [HM.out]; exact hj)
      case round =>
        obtain ⟨k, ys, rk, hk, rfl, hyl, hcur, hgc, hrd, hsz, hblk, hrow, hel⟩ := hrel
        have HBk := hide hblk
        clear hblk
        have HN := hide hrd
        have HEl := hide hel
        have HRow := hide hrow
        have HG3 := hide hgc
        have HC3 := hide hcur
        have hYL := hide hyl
        clear hrd hel hrow hgc hcur HC2 HG2 hyl hmk
        by_cases hlt : k < n
        · obtain ⟨m, hm⟩ : ∃ m, n - k = m + 1 := ⟨n - k - 1, by omega⟩
          have HMM := hide hm
          clear hm
          go_wp2_with fail
          refine (ins_read cb rk e a _ HC3.out).mono ?_
          intro x w4 h
          cases hf : rdIns rk with
          | none =>
            obtain ⟨rfl, hg⟩ := h.none_ hf
            exact ⟨rfl, by rw [HE.out, HN.out, HMM.out, glue_none hf]; exact ⟨rfl, HG3.out.trans hg⟩⟩
          | some p =>
            obtain ⟨y, r4⟩ := p
            obtain ⟨v, rfl, hy, hcur, hg⟩ := h.some_ hf
            have HN2 : Hid (rdN rdIns n r1 = glue (ys ++ [y]) (rdN rdIns (n - (k + 1)) r4)) := hide (by rw [HN.out, HMM.out, glue_some hf, show n - (k + 1) = m by have := HMM.out; omega])
            have hkp : Kp (w'.heap.size) wr w4 := hg.kp (by omega)
            have hsz4 : w'.heap.size < w4.heap.size := Nat.lt_of_lt_of_le hsz hg.size
            have HRow4 : Hid (∀ j, j < n * 3 → (∃ x, w4.cell? ⟨w'.heap.size, j, none⟩ = some x) ∧ w4.frozen? ⟨w'.heap.size, j, none⟩ = false) := hide (row_keep HRow.out hkp hsz)
            have HB4 := hide (HBk.out.kp hkp (Nat.le_refl _))
            have HC4 := hide hcur
            have HG4 := hide (HG3.out.trans hg)
            have HKP := hide hkp
            have HY := hide hy
            clear h hf hcur hkp
            have hv := HY.out
            subst hv
            obtain ⟨⟨x0, hx0⟩, hz0⟩ := HRow4.out (k * 3) (by omega)
            obtain ⟨⟨x1, hx1⟩, hz1⟩ := HRow4.out (k * 3 + 1) (by omega)
            obtain ⟨⟨x2, hx2⟩, hz2⟩ := HRow4.out (k * 3 + 2) (by omega)
            have hkn : (0 : Int) ≤ (k : Int) := by omega
            have hkn2 : (k : Int) < (n : Int) := by omega
            have hg4s := hg.size
            clear hg hy
            go_wp2
            go_roundw
            case rel =>
              have hyl := hYL.out
              refine ⟨k + 1, ys ++ [y], r4, by omega, by go_num, by simp [hyl], cur_set (cur_set (cur_set (HC4.out) (by omega)) (by omega)) (by omega), gc_new (gc_new (gc_new (HG4.out) hgW) hgW) hgW, HN2.out, by simpa using hsz4, (((HB4.out).set).set).set, row_set (row_set (row_set (HRow4.out))), fun j z hj => ?_⟩
              rcases snoc_at hj with ⟨h1, h2⟩ | ⟨h1, h2⟩
              · obtain ⟨q0, q1, q2⟩ := HEl.out j z h1
                exact ⟨by rw [cell_set_ne (by omega), cell_set_ne (by omega), cell_set_ne (by omega)]; exact HKP.out.cell (Nat.le_refl _) q0, by rw [cell_set_ne (by omega), cell_set_ne (by omega), cell_set_ne (by omega)]; exact HKP.out.cell (Nat.le_refl _) q1, by rw [cell_set_ne (by omega), cell_set_ne (by omega), cell_set_ne (by omega)]; exact HKP.out.cell (Nat.le_refl _) q2⟩
              · subst h1; subst h2; rw [hyl]
                exact ⟨by rw [cell_set_ne (by omega), cell_set_ne (by omega)]; exact World.cell?_setCell_same _ _ _ (hx0), by rw [cell_set_ne (by omega)]; exact World.cell?_setCell_same _ _ _ ((cell_set_ne (by omega)).trans (hx1)), by exact World.cell?_setCell_same _ _ _ ((cell_set_ne (by omega)).trans ((cell_set_ne (by omega)).trans (hx2)))⟩
            case measure => simp [intOf]; omega
        · have hk2 : k = n := by omega
          subst hk2
          have HFin : Hid (rdList rdIns r = some (ys, rk)) := hide (by rw [HE.out, HN.out, Nat.sub_self, glue_end])
          go_wp2
          go_ret
          rw [HFin.out]
          refine ⟨_, rfl, ?_, HC3.out, HG3.out⟩
          have hyl := hYL.out
          show RCodeG B wr (.slice (some ⟨w'.heap.size, 0, none⟩) k k) ys
          refine ⟨w'.heap.size, by rw [hyl], hgB, by rw [hyl]; exact HBk.out, some ⟨w'.heap.size, 0, none⟩, k, by rw [hyl], by unfold maxLen; omega, fun i y hi => ?_⟩
          have hq := HEl.out i y hi
          exact ⟨w'.heap.size, 0, rfl, hgB, by rw [Nat.zero_add]; exact hq.1, by rw [Nat.zero_add]; exact hq.2.1, by rw [Nat.zero_add]; exact hq.2.2⟩
    · have HE : Hid (rdList rdIns r = none) := hide (by unfold rdList; rw [hn]; simp only [if_neg hle])
      have hd : decide (n ≤ s.size) = false := by rw [decide_eq_false_iff_not]; omega
      clear h hg hn hs hl hz hsz hle
      go_wp2
      go_region_with (first | (go_at_call 76; refine (unless_no _ _ _).mono ?_; rintro e w' ⟨rfl, hg'⟩; refine left_region ?_))
      all_goals exact ⟨rfl, by rw [HE.out]; exact ⟨rfl, HG1.out.trans (Gr.trans (Gr.drew (Gr.refl w1)) hg').toGc⟩⟩
end Go.Proofs.YtkgncijcnlfhiaaDoor

