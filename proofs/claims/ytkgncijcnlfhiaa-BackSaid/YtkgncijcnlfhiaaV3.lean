import Derived.Test.YtkgncijcnlfhiaaV2
import Derived.Test.YtkgncijcnlfhiaaB4
namespace Go.Proofs.Ytkgncijcnlfhiaa
set_option linter.unusedVariables false
set_option linter.unusedSimpArgs false
open Go.RowKit
attribute [local go_sem ↓] Go.wp_at_zero Go.wp_at_succ

theorem Gc.box {cb b o : Nat} {w w' : World} {x : Value} (h : Gc cb w w') (hb : ¬ b = cb) (hx : w.cell? ⟨b, o, none⟩ = some x) : w'.cell? ⟨b, o, none⟩ = some x :=
  h.cell hx (by intro e; simp only [Option.some.injEq] at e; exact hb e)
theorem Gc.boxz {cb b o : Nat} {w w' : World} {x : Value} (h : Gc cb w w') (hb : ¬ b = cb) (hx : w.cell? ⟨b, o, none⟩ = some x) (hz : w.frozen? ⟨b, o, none⟩ = false) : w'.frozen? ⟨b, o, none⟩ = false :=
  (World.frozen?_of_block (a := ⟨b, o, none⟩) (h.block b (World.block_lt_of_cell? w _ hx) (by intro e; simp only [Option.some.injEq] at e; exact hb e))).trans hz
/-- a struct of three cells of one's own -/
def Box3 (w : World) (b : Nat) (x0 x1 x2 : Value) : Prop :=
  w.cell? ⟨b, 0, none⟩ = some x0 ∧ w.cell? ⟨b, 1, none⟩ = some x1 ∧ w.cell? ⟨b, 2, none⟩ = some x2 ∧ w.frozen? ⟨b, 0, none⟩ = false ∧ w.frozen? ⟨b, 1, none⟩ = false ∧ w.frozen? ⟨b, 2, none⟩ = false
theorem Box3.gc {w w' : World} {cb b : Nat} {x0 x1 x2 : Value} (h : Box3 w b x0 x1 x2) (g : Gc cb w w') (hb : ¬ b = cb) : Box3 w' b x0 x1 x2 := by
  obtain ⟨h0, h1, h2, z0, z1, z2⟩ := h
  exact ⟨g.box hb h0, g.box hb h1, g.box hb h2, g.boxz hb h0 z0, g.boxz hb h1 z1, g.boxz hb h2 z2⟩
theorem Box3.gr {w w' : World} {b : Nat} {x0 x1 x2 : Value} (h : Box3 w b x0 x1 x2) (g : Gr w w') : Box3 w' b x0 x1 x2 := h.gc (cb := b + 1) g.toGc (by omega)
theorem Box3.new (w : World) (t : TypeId) (x0 x1 x2 : Value) : Box3 (w.alloc (.cells #[x0, x1, x2] t)) w.heap.size x0 x1 x2 := by
  refine ⟨?_, ?_, ?_, ?_, ?_, ?_⟩ <;> simp [go_sem]
theorem Box3.other {w : World} {b g o : Nat} {x0 x1 x2 v : Value} (h : Box3 w b x0 x1 x2) (hb : ¬ g = b) : Box3 (w.setCell ⟨g, o, none⟩ v) b x0 x1 x2 := by
  obtain ⟨h0, h1, h2, z0, z1, z2⟩ := h
  have hc : ∀ q, (w.setCell ⟨g, o, none⟩ v).cell? ⟨b, q, none⟩ = w.cell? ⟨b, q, none⟩ := fun q => World.cell?_setCell_other w _ _ _ (by intro e; simp only [Addr.mk.injEq] at e; exact hb e.1)
  exact ⟨(hc 0).trans h0, (hc 1).trans h1, (hc 2).trans h2, by rw [World.frozen?_setCell]; exact z0, by rw [World.frozen?_setCell]; exact z1, by rw [World.frozen?_setCell]; exact z2⟩

def rdIns (r : List UInt8) : Option (PIns × List UInt8) := match rdByte r with
  | none => none
  | some (b, r1) =>
    if wB (b.toNat : Int) 0 20 = true then
      if (b.toNat : Int) = 1 then (match rdSigned r1 with
        | none => none
        | some (v, r2) => some (⟨b.toNat, v, 0⟩, r2))
      else if operandsN b.toNat = 0 then some (⟨b.toNat, 0, 0⟩, r1)
      else match rdWhole r1 with
        | none => none
        | some (v, r2) => if operandsN b.toNat = 1 then some (⟨b.toNat, v, 0⟩, r2) else (match rdWhole r2 with
          | none => none
          | some (u, r3) => some (⟨b.toNat, v, u⟩, r3))
    else none

set_option maxRecDepth 100000 in
set_option maxHeartbeats 2000000 in
theorem ins_read (cb : Nat) (r : List UInt8) (e a : Int) (w : World) (hc : Cur w cb r e a) :
    Calls Try.prog 69 #[.pointer (some ⟨cb, 0, none⟩)] w (Rds cb e a w (fun _ v (y : PIns) => v = .agg #[.int .i64 y.op, .int .i64 y.a, .int .i64 y.b]) (rdIns r)) := by
  have hcl : cb < w.heap.size := World.block_lt_of_cell? w ⟨cb, 1, none⟩ hc.2.2.1
  have HC := hide hc
  clear hc
  have HB0 := hide (Box3.new w 54 (.int .i64 0) (.int .i64 0) (.int .i64 0))
  have HGw := hide ((Gr.alloc (Gr.refl w) (.cells #[.int .i64 0, .int .i64 0, .int .i64 0] 54)).toGc (cb := cb))
  go_enter Try.func69, Try.ntmps69
  go_wp2_with fail
  refine (byte_any cb r e a _ (HC.out.gr ((Gr.refl w).alloc _))).mono ?_
  intro x w1 h
  cases hn : rdByte r with
  | none =>
    obtain ⟨rfl, hg⟩ := h.none_ hn
    exact ⟨rfl, by unfold rdIns; rw [hn]; exact ⟨rfl, HGw.out.trans hg⟩⟩
  | some p =>
    obtain ⟨b, r1⟩ := p
    obtain ⟨v, rfl, rfl, hcur, hg⟩ := h.some_ hn
    have hs1 : w.heap.size < w1.heap.size := by have := hg.size; simp at this; omega
    have hrb := HB0.out.gc hg (by omega)
    have HG1 := hide (HGw.out.trans hg)
    have hbl : b.toNat < 256 := b.toNat_lt
    have HC1 := hide hcur
    have HN := hide hn
    clear h hcur hg hn HB0
    obtain ⟨⟨s, h0, hs⟩, hl, h1, h2, hz, hj⟩ := HC1.out
    clear h0 hs hl hz
    have h1a := (World.grownBy_alloc w1 (.cells #[.int .i64 (b.toNat : Int), .int .i64 0, .int .i64 0] 54) none).cell h1 (by simp)
    have h2a := (World.grownBy_alloc w1 (.cells #[.int .i64 (b.toNat : Int), .int .i64 0, .int .i64 0] 54) none).cell h2 (by simp)
    have hja := (World.grownBy_alloc w1 (.cells #[.int .i64 (b.toNat : Int), .int .i64 0, .int .i64 0] 54) none).cell hj (by simp)
    have hib := Box3.new w1 54 (.int .i64 (b.toNat : Int)) (.int .i64 0) (.int .i64 0)
    have hi0 := hib.1
    have HIB := hide hib
    have HRB := hide (hrb.gc ((Gr.alloc (Gr.refl w1) (.cells #[.int .i64 (b.toNat : Int), .int .i64 0, .int .i64 0] 54)).toGc (cb := cb)) (by omega))
    have HG2 := hide (HG1.out.trans ((Gr.alloc (Gr.refl w1) (.cells #[.int .i64 (b.toNat : Int), .int .i64 0, .int .i64 0] 54)).toGc (cb := cb)))
    clear hib h1 h2 hj hrb HG1 HGw
    cases hop : wB (b.toNat : Int) 0 20
    · have HE : Hid (rdIns r = none) := hide (by unfold rdIns; rw [HN.out]; simp [hop])
      go_wp2
      go_region_with (first | (go_at_call 79; refine (op_any _ _).mono ?_; rintro e w' ⟨rfl, rfl⟩) | (go_at_call 36; refine (unless_no _ _ _).mono ?_; rintro e w' ⟨rfl, hg'⟩; refine left_region ?_))
      all_goals exact ⟨rfl, by rw [HE.out]; exact ⟨rfl, HG2.out.trans (Gr.trans (Gr.drew (Gr.refl _)) hg').toGc⟩⟩
    · go_wp2
      go_region_held3 (fun w' => w'.cell? ⟨cb, 1, none⟩ = some (.int .i64 e) ∧ w'.cell? ⟨cb, 3, none⟩ = some (.int .i64 a) ∧ w'.cell? ⟨cb, 2, none⟩ = some (.int .i64 0) ∧ w'.cell? ⟨w1.heap.size, 0, none⟩ = some (.int .i64 (b.toNat : Int))) (first | go_keep | (refine ⟨?_, ?_, ?_, ?_⟩ <;> exact hg'.cell (by assumption) (by simp))) (first | (go_at_call 79; refine (op_any _ _).mono ?_; rintro e w' ⟨rfl, rfl⟩) | (go_at_call 36; refine (unless_yes _ _ _).mono ?_; rintro e w' ⟨rfl, hg'⟩))
      have hgr := (Gr.trans (Gr.drew (Gr.refl _)) hg').toGc (cb := cb)
      have HIB2 := hide (HIB.out.gc hgr (by omega))
      have HRB2 := hide (HRB.out.gc hgr (by omega))
      have HG3 := hide (HG2.out.trans hgr)
      have HC2 := hide ((HC1.out.gr (Gr.alloc (Gr.refl w1) (.cells #[.int .i64 (b.toNat : Int), .int .i64 0, .int .i64 0] 54))).gr (Gr.trans (Gr.drew (Gr.refl _)) hg'))
      have hs2 : w1.heap.size < w'.heap.size := by have := hg'.size; simp at this; omega
      obtain ⟨i0, i1, i2, y0, y1, y2⟩ := HIB2.out
      clear hg' hgr h1a h2a hja hi0 HIB HRB HG2 HC1
      by_cases hone : (b.toNat : Int) = 1
      · have hb1 : ((b.toNat : Int) == 1) = true := by simpa using hone
        go_wp2_with fail
        refine (signed_read cb r1 e a _ HC2.out).mono ?_
        intro x w3 h
        cases hf : rdSigned r1 with
        | none =>
          obtain ⟨rfl, hg⟩ := h.none_ hf
          exact ⟨rfl, by unfold rdIns; rw [HN.out]; simp only [hop, if_true, hone, hf]; exact ⟨rfl, HG3.out.trans hg⟩⟩
        | some q =>
          obtain ⟨v, r2⟩ := q
          obtain ⟨_, rfl, rfl, hcur, hg⟩ := h.some_ hf
          have HE : Hid (rdIns r = some (⟨b.toNat, v, 0⟩, r2)) := hide (by unfold rdIns; rw [HN.out]; simp only [hop, if_true, if_pos hone, hf])
          obtain ⟨j0, j1, j2, k0, k1, k2⟩ := HIB2.out.gc hg (by omega)
          obtain ⟨m0, m1, m2, n0, n1, n2⟩ := HRB2.out.gc hg (by omega)
          have HC3 := hide hcur
          have HG4 := hide (HG3.out.trans hg)
          have hne : ¬ w.heap.size = w1.heap.size := by omega
          clear h hcur hg hf i0 i1 i2 y0 y1 y2 hone
          go_wp2
          exact bodyPost_ret (v := .agg #[.int .i64 (b.toNat : Int), .int .i64 v, .int .i64 0]) (by simp [results, Try.results69, go_sem, m0, m1, m2]) rfl (by rw [HE.out]; exact ⟨_, rfl, rfl, cur_set (cur_set (cur_set (cur_set (HC3.out) (by omega)) (by omega)) (by omega)) (by omega), gc_new (gc_new (gc_new (gc_new (HG4.out) (by omega)) (by omega)) (by omega)) (by omega)⟩)
      · have hb1 : ((b.toNat : Int) == 1) = false := by simpa using hone
        rcases operandsN_cases (b.toNat : Int) with hN | hN | hN
        · have HE : Hid (rdIns r = some (⟨b.toNat, 0, 0⟩, r1)) := hide (by unfold rdIns; rw [HN.out]; simp only [hop, if_true, if_neg hone, hN])
          obtain ⟨m0, m1, m2, n0, n1, n2⟩ := HRB2.out
          have hne : ¬ w.heap.size = w1.heap.size := by omega
          clear hone
          go_wp2_with (go_at_call 76; refine (operands_any _ _).mono ?_; rintro e w' ⟨rfl, rfl⟩)
          exact bodyPost_ret (v := .agg #[.int .i64 (b.toNat : Int), .int .i64 0, .int .i64 0]) (by simp [results, Try.results69, go_sem, m0, m1, m2]) rfl (by rw [HE.out]; exact ⟨_, rfl, rfl, cur_set (cur_set (cur_set (HC2.out) (by omega)) (by omega)) (by omega), gc_new (gc_new (gc_new (HG3.out) (by omega)) (by omega)) (by omega)⟩)
        · go_wp2_with (first | (go_at_call 76; refine (operands_any _ _).mono ?_; rintro e w' ⟨rfl, rfl⟩))
          refine (whole_read cb r1 e a _ HC2.out).mono ?_
          intro x w3 h
          cases hf : rdWhole r1 with
          | none =>
            obtain ⟨rfl, hg⟩ := h.none_ hf
            exact ⟨rfl, by unfold rdIns; rw [HN.out]; simp only [hop, if_true, if_neg hone, hN, hf]; exact ⟨rfl, HG3.out.trans hg⟩⟩
          | some q =>
            obtain ⟨v, r2⟩ := q
            obtain ⟨_, rfl, rfl, hcur, hg⟩ := h.some_ hf
            have HE : Hid (rdIns r = some (⟨b.toNat, v, 0⟩, r2)) := hide (by unfold rdIns; rw [HN.out]; simp only [hop, if_true, if_neg hone, hN, hf]; rfl)
            obtain ⟨j0, j1, j2, k0, k1, k2⟩ := HIB2.out.gc hg (by omega)
            obtain ⟨m0, m1, m2, n0, n1, n2⟩ := HRB2.out.gc hg (by omega)
            have HC3 := hide hcur
            have HG4 := hide (HG3.out.trans hg)
            have hne : ¬ w.heap.size = w1.heap.size := by omega
            clear h hcur hg hf i0 i1 i2 y0 y1 y2 hone
            go_wp2
            exact bodyPost_ret (v := .agg #[.int .i64 (b.toNat : Int), .int .i64 v, .int .i64 0]) (by simp [results, Try.results69, go_sem, m0, m1, m2]) rfl (by rw [HE.out]; exact ⟨_, rfl, rfl, cur_set (cur_set (cur_set (cur_set (HC3.out) (by omega)) (by omega)) (by omega)) (by omega), gc_new (gc_new (gc_new (gc_new (HG4.out) (by omega)) (by omega)) (by omega)) (by omega)⟩)
        · go_wp2_with (first | (go_at_call 76; refine (operands_any _ _).mono ?_; rintro e w' ⟨rfl, rfl⟩))
          refine (whole_read cb r1 e a _ HC2.out).mono ?_
          intro x w3 h
          cases hf : rdWhole r1 with
          | none =>
            obtain ⟨rfl, hg⟩ := h.none_ hf
            exact ⟨rfl, by unfold rdIns; rw [HN.out]; simp only [hop, if_true, if_neg hone, hN, hf]; exact ⟨rfl, HG3.out.trans hg⟩⟩
          | some q =>
            obtain ⟨v, r2⟩ := q
            obtain ⟨_, rfl, rfl, hcur, hg⟩ := h.some_ hf
            have hjb := HIB2.out.gc hg (by omega)
            have hmb := HRB2.out.gc hg (by omega)
            have hs3 : w'.heap.size ≤ w3.heap.size := hg.size
            have hne : ¬ w.heap.size = w1.heap.size := by omega
            have HC3 := hide (cur_set (g := w1.heap.size) (o := 1) (v := .int .i64 v) hcur (by omega))
            have HG4 := hide (gc_new (g := w1.heap.size) (o := 1) (v := .int .i64 v) (HG3.out.trans hg) (by omega))
            have HMB := hide (hmb.other (g := w1.heap.size) (o := 1) (v := .int .i64 v) (by omega))
            obtain ⟨j0, j1, j2, k0, k1, k2⟩ := hjb
            have HF := hide hf
            clear h hcur hg hf i0 i1 i2 y0 y1 y2 hmb
            go_wp2_with fail
            refine (whole_read cb r2 e a _ HC3.out).mono ?_
            intro x w5 h
            cases hf2 : rdWhole r2 with
            | none =>
              obtain ⟨rfl, hg⟩ := h.none_ hf2
              exact ⟨rfl, by unfold rdIns; rw [HN.out]; simp only [hop, if_true, if_neg hone, hN, HF.out, hf2]; exact ⟨rfl, HG4.out.trans hg⟩⟩
            | some q2 =>
              obtain ⟨u, r3⟩ := q2
              obtain ⟨_, rfl, rfl, hcur, hg⟩ := h.some_ hf2
              have HE : Hid (rdIns r = some (⟨b.toNat, v, u⟩, r3)) := hide (by unfold rdIns; rw [HN.out]; simp only [hop, if_true, if_neg hone, hN, HF.out, hf2]; rfl)
              obtain ⟨m0, m1, m2, n0, n1, n2⟩ := HMB.out.gc hg (by omega)
              have l0 : w5.cell? ⟨w1.heap.size, 0, none⟩ = some (.int .i64 (b.toNat : Int)) := hg.box (by omega) ((cell_set_ne (by omega)).trans j0)
              have l1 : w5.cell? ⟨w1.heap.size, 1, none⟩ = some (.int .i64 v) := hg.box (by omega) (World.cell?_setCell_same _ _ _ j1)
              have l2 : w5.cell? ⟨w1.heap.size, 2, none⟩ = some (.int .i64 0) := hg.box (by omega) ((cell_set_ne (by omega)).trans j2)
              have p2 : w5.frozen? ⟨w1.heap.size, 2, none⟩ = false := hg.boxz (by omega) ((cell_set_ne (by omega)).trans j2) (by rw [World.frozen?_setCell]; exact k2)
              have HC5 := hide hcur
              have HG5 := hide (HG4.out.trans hg)
              clear h hcur hg hf2 hone j0 j1 j2 k0 k1 k2
              go_wp2
              exact bodyPost_ret (v := .agg #[.int .i64 (b.toNat : Int), .int .i64 v, .int .i64 u]) (by simp [results, Try.results69, go_sem, m0, m1, m2]) rfl (by rw [HE.out]; exact ⟨_, rfl, rfl, cur_set (cur_set (cur_set (cur_set (HC5.out) (by omega)) (by omega)) (by omega)) (by omega), gc_new (gc_new (gc_new (gc_new (HG5.out) (by omega)) (by omega)) (by omega)) (by omega)⟩)
end Go.Proofs.Ytkgncijcnlfhiaa
