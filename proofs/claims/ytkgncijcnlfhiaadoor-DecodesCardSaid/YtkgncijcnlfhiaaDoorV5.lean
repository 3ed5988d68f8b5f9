import Derived.Test.YtkgncijcnlfhiaaDoorV4
namespace Go.Proofs.YtkgncijcnlfhiaaDoor
set_option linter.unusedVariables false
set_option linter.unusedSimpArgs false
open Go.RowKit
def Box4 (w : World) (b : Nat) (x0 x1 x2 x3 : Value) : Prop :=
  w.cell? ⟨b, 0, none⟩ = some x0 ∧ w.cell? ⟨b, 1, none⟩ = some x1 ∧ w.cell? ⟨b, 2, none⟩ = some x2 ∧ w.cell? ⟨b, 3, none⟩ = some x3 ∧ w.frozen? ⟨b, 0, none⟩ = false ∧ w.frozen? ⟨b, 1, none⟩ = false ∧ w.frozen? ⟨b, 2, none⟩ = false ∧ w.frozen? ⟨b, 3, none⟩ = false
theorem Box4.gc {w w' : World} {cb b : Nat} {x0 x1 x2 x3 : Value} (h : Box4 w b x0 x1 x2 x3) (g : Gc cb w w') (hb : ¬ b = cb) : Box4 w' b x0 x1 x2 x3 := by
  obtain ⟨h0, h1, h2, h3, z0, z1, z2, z3⟩ := h
  exact ⟨g.box hb h0, g.box hb h1, g.box hb h2, g.box hb h3, g.boxz hb h0 z0, g.boxz hb h1 z1, g.boxz hb h2 z2, g.boxz hb h3 z3⟩
theorem Box4.new (w : World) (t : TypeId) (x0 x1 x2 x3 : Value) : Box4 (w.alloc (.cells #[x0, x1, x2, x3] t)) w.heap.size x0 x1 x2 x3 := by
  refine ⟨?_, ?_, ?_, ?_, ?_, ?_, ?_, ?_⟩ <;> simp [go_sem]
theorem Box4.other {w : World} {b g o : Nat} {x0 x1 x2 x3 v : Value} (h : Box4 w b x0 x1 x2 x3) (hb : ¬ g = b) : Box4 (w.setCell ⟨g, o, none⟩ v) b x0 x1 x2 x3 := by
  obtain ⟨h0, h1, h2, h3, z0, z1, z2, z3⟩ := h
  have hc : ∀ q, (w.setCell ⟨g, o, none⟩ v).cell? ⟨b, q, none⟩ = w.cell? ⟨b, q, none⟩ := fun q => World.cell?_setCell_other w _ _ _ (by intro e; simp only [Addr.mk.injEq] at e; exact hb e.1)
  exact ⟨(hc 0).trans h0, (hc 1).trans h1, (hc 2).trans h2, (hc 3).trans h3, by rw [World.frozen?_setCell]; exact z0, by rw [World.frozen?_setCell]; exact z1, by rw [World.frozen?_setCell]; exact z2, by rw [World.frozen?_setCell]; exact z3⟩
theorem Box4.set0 {w : World} {b : Nat} {x0 x1 x2 x3 : Value} (v : Value) (h : Box4 w b x0 x1 x2 x3) : Box4 (w.setCell ⟨b, 0, none⟩ v) b v x1 x2 x3 := by
  obtain ⟨h0, h1, h2, h3, z0, z1, z2, z3⟩ := h
  exact ⟨World.cell?_setCell_same _ _ _ h0, (cell_set_ne (by omega)).trans h1, (cell_set_ne (by omega)).trans h2, (cell_set_ne (by omega)).trans h3, by rw [World.frozen?_setCell]; exact z0, by rw [World.frozen?_setCell]; exact z1, by rw [World.frozen?_setCell]; exact z2, by rw [World.frozen?_setCell]; exact z3⟩
theorem Box4.set1 {w : World} {b : Nat} {x0 x1 x2 x3 : Value} (v : Value) (h : Box4 w b x0 x1 x2 x3) : Box4 (w.setCell ⟨b, 1, none⟩ v) b x0 v x2 x3 := by
  obtain ⟨h0, h1, h2, h3, z0, z1, z2, z3⟩ := h
  exact ⟨(cell_set_ne (by omega)).trans h0, World.cell?_setCell_same _ _ _ h1, (cell_set_ne (by omega)).trans h2, (cell_set_ne (by omega)).trans h3, by rw [World.frozen?_setCell]; exact z0, by rw [World.frozen?_setCell]; exact z1, by rw [World.frozen?_setCell]; exact z2, by rw [World.frozen?_setCell]; exact z3⟩
theorem Box4.set2 {w : World} {b : Nat} {x0 x1 x2 x3 : Value} (v : Value) (h : Box4 w b x0 x1 x2 x3) : Box4 (w.setCell ⟨b, 2, none⟩ v) b x0 x1 v x3 := by
  obtain ⟨h0, h1, h2, h3, z0, z1, z2, z3⟩ := h
  exact ⟨(cell_set_ne (by omega)).trans h0, (cell_set_ne (by omega)).trans h1, World.cell?_setCell_same _ _ _ h2, (cell_set_ne (by omega)).trans h3, by rw [World.frozen?_setCell]; exact z0, by rw [World.frozen?_setCell]; exact z1, by rw [World.frozen?_setCell]; exact z2, by rw [World.frozen?_setCell]; exact z3⟩
theorem Box4.set3 {w : World} {b : Nat} {x0 x1 x2 x3 : Value} (v : Value) (h : Box4 w b x0 x1 x2 x3) : Box4 (w.setCell ⟨b, 3, none⟩ v) b x0 x1 x2 v := by
  obtain ⟨h0, h1, h2, h3, z0, z1, z2, z3⟩ := h
  exact ⟨(cell_set_ne (by omega)).trans h0, (cell_set_ne (by omega)).trans h1, (cell_set_ne (by omega)).trans h2, World.cell?_setCell_same _ _ _ h3, by rw [World.frozen?_setCell]; exact z0, by rw [World.frozen?_setCell]; exact z1, by rw [World.frozen?_setCell]; exact z2, by rw [World.frozen?_setCell]; exact z3⟩
theorem Box3.set0 {w : World} {b : Nat} {x0 x1 x2 : Value} (v : Value) (h : Box3 w b x0 x1 x2) : Box3 (w.setCell ⟨b, 0, none⟩ v) b v x1 x2 := by
  obtain ⟨h0, h1, h2, z0, z1, z2⟩ := h
  exact ⟨World.cell?_setCell_same _ _ _ h0, (cell_set_ne (by omega)).trans h1, (cell_set_ne (by omega)).trans h2, by rw [World.frozen?_setCell]; exact z0, by rw [World.frozen?_setCell]; exact z1, by rw [World.frozen?_setCell]; exact z2⟩
theorem Box3.set1 {w : World} {b : Nat} {x0 x1 x2 : Value} (v : Value) (h : Box3 w b x0 x1 x2) : Box3 (w.setCell ⟨b, 1, none⟩ v) b x0 v x2 := by
  obtain ⟨h0, h1, h2, z0, z1, z2⟩ := h
  exact ⟨(cell_set_ne (by omega)).trans h0, World.cell?_setCell_same _ _ _ h1, (cell_set_ne (by omega)).trans h2, by rw [World.frozen?_setCell]; exact z0, by rw [World.frozen?_setCell]; exact z1, by rw [World.frozen?_setCell]; exact z2⟩
theorem Box3.set2 {w : World} {b : Nat} {x0 x1 x2 : Value} (v : Value) (h : Box3 w b x0 x1 x2) : Box3 (w.setCell ⟨b, 2, none⟩ v) b x0 x1 v := by
  obtain ⟨h0, h1, h2, z0, z1, z2⟩ := h
  exact ⟨(cell_set_ne (by omega)).trans h0, (cell_set_ne (by omega)).trans h1, World.cell?_setCell_same _ _ _ h2, by rw [World.frozen?_setCell]; exact z0, by rw [World.frozen?_setCell]; exact z1, by rw [World.frozen?_setCell]; exact z2⟩
def Box2 (w : World) (b : Nat) (x0 x1 : Value) : Prop :=
  w.cell? ⟨b, 0, none⟩ = some x0 ∧ w.cell? ⟨b, 1, none⟩ = some x1 ∧ w.frozen? ⟨b, 0, none⟩ = false ∧ w.frozen? ⟨b, 1, none⟩ = false
theorem Box2.gc {w w' : World} {cb b : Nat} {x0 x1 : Value} (h : Box2 w b x0 x1) (g : Gc cb w w') (hb : ¬ b = cb) : Box2 w' b x0 x1 := by
  obtain ⟨h0, h1, z0, z1⟩ := h
  exact ⟨g.box hb h0, g.box hb h1, g.boxz hb h0 z0, g.boxz hb h1 z1⟩
theorem Box2.new (w : World) (t : TypeId) (x0 x1 : Value) : Box2 (w.alloc (.cells #[x0, x1] t)) w.heap.size x0 x1 := by
  refine ⟨?_, ?_, ?_, ?_⟩ <;> simp [go_sem]
theorem Box2.other {w : World} {b g o : Nat} {x0 x1 v : Value} (h : Box2 w b x0 x1) (hb : ¬ g = b) : Box2 (w.setCell ⟨g, o, none⟩ v) b x0 x1 := by
  obtain ⟨h0, h1, z0, z1⟩ := h
  have hc : ∀ q, (w.setCell ⟨g, o, none⟩ v).cell? ⟨b, q, none⟩ = w.cell? ⟨b, q, none⟩ := fun q => World.cell?_setCell_other w _ _ _ (by intro e; simp only [Addr.mk.injEq] at e; exact hb e.1)
  exact ⟨(hc 0).trans h0, (hc 1).trans h1, by rw [World.frozen?_setCell]; exact z0, by rw [World.frozen?_setCell]; exact z1⟩
theorem Box2.set0 {w : World} {b : Nat} {x0 x1 : Value} (v : Value) (h : Box2 w b x0 x1) : Box2 (w.setCell ⟨b, 0, none⟩ v) b v x1 := by
  obtain ⟨h0, h1, z0, z1⟩ := h
  exact ⟨World.cell?_setCell_same _ _ _ h0, (cell_set_ne (by omega)).trans h1, by rw [World.frozen?_setCell]; exact z0, by rw [World.frozen?_setCell]; exact z1⟩
theorem Box2.set1 {w : World} {b : Nat} {x0 x1 : Value} (v : Value) (h : Box2 w b x0 x1) : Box2 (w.setCell ⟨b, 1, none⟩ v) b x0 v := by
  obtain ⟨h0, h1, z0, z1⟩ := h
  exact ⟨(cell_set_ne (by omega)).trans h0, World.cell?_setCell_same _ _ _ h1, by rw [World.frozen?_setCell]; exact z0, by rw [World.frozen?_setCell]; exact z1⟩

def rdFunc (r : List UInt8) : Option (PFunc × List UInt8) := match rdKinds r with
  | none => none
  | some (p, r1) => match rdKinds r1 with
    | none => none
    | some (l, r2) => match rdWhole r2 with
      | none => none
      | some (res, r3) => match rdList rdIns r3 with
        | none => none
        | some (c, r4) => some (⟨p, res, l, c⟩, r4)
def rdImp (r : List UInt8) : Option (PImp × List UInt8) := match rdText r with
  | none => none
  | some (s, r1) => match rdKinds r1 with
    | none => none
    | some (p, r2) => match rdWhole r2 with
      | none => none
      | some (res, r3) => some (⟨s, p, res⟩, r3)
def rdExp (r : List UInt8) : Option (PExp × List UInt8) := match rdText r with
  | none => none
  | some (s, r1) => match rdWhole r1 with
    | none => none
    | some (f, r2) => some (⟨s, f⟩, r2)
theorem kp_set {B : Nat} {w : World} {g o : Nat} {v : Value} (h : g < B) : Kp B w (w.setCell ⟨g, o, none⟩ v) := Kp.set v h

set_option maxRecDepth 100000 in
set_option maxHeartbeats 2000000 in
theorem func_read (cb B : Nat) (r : List UInt8) (e a : Int) (w : World) (hc : Cur w cb r e a) (hb : cb < B) (hB : B ≤ w.heap.size) :
    Calls Tryd.prog 85 #[.pointer (some ⟨cb, 0, none⟩)] w (Rds cb e a w (fun w' v (y : PFunc) => ∃ vp vl vc z1 z2, v = .agg #[vp, .int .i64 y.result, vl, vc] ∧ RIntsG B w' vp y.params ∧ RIntsG z1 w' vl y.locals ∧ RCodeG z2 w' vc y.code ∧ B ≤ z1 ∧ z1 ≤ z2 ∧ (∀ b, vp.ownBlock = some b → b < z1) ∧ ∀ b, vl.ownBlock = some b → b < z2) (rdFunc r)) := by
  have hcl : cb < w.heap.size := by omega
  have hlr := hc.2.1
  have HC0 := hide ((hc.gr ((Gr.refl w).alloc (.cells #[.slice none 0 0, .int .i64 0, .slice none 0 0, .slice none 0 0] 76))).gr ((Gr.refl _).alloc (.cells #[.slice none 0 0, .int .i64 0, .slice none 0 0, .slice none 0 0] 76)))
  have HRB0 := hide (((Box4.new w 76 (.slice none 0 0) (.int .i64 0) (.slice none 0 0) (.slice none 0 0)).gc ((Gr.alloc (Gr.refl _) (.cells #[.slice none 0 0, .int .i64 0, .slice none 0 0, .slice none 0 0] 76)).toGc (cb := cb)) (by omega)))
  have hfb := Box4.new (w.alloc (.cells #[.slice none 0 0, .int .i64 0, .slice none 0 0, .slice none 0 0] 76)) 76 (.slice none 0 0) (.int .i64 0) (.slice none 0 0) (.slice none 0 0)
  rw [show (w.alloc (.cells #[.slice none 0 0, .int .i64 0, .slice none 0 0, .slice none 0 0] 76)).heap.size = w.heap.size + 1 by simp] at hfb
  have HFB0 := hide hfb
  have HG0 := hide ((((Gr.refl w).alloc (.cells #[.slice none 0 0, .int .i64 0, .slice none 0 0, .slice none 0 0] 76)).alloc (.cells #[.slice none 0 0, .int .i64 0, .slice none 0 0, .slice none 0 0] 76)).toGc (cb := cb))
  have hS0 : w.heap.size + 2 ≤ ((w.alloc (.cells #[.slice none 0 0, .int .i64 0, .slice none 0 0, .slice none 0 0] 76)).alloc (.cells #[.slice none 0 0, .int .i64 0, .slice none 0 0, .slice none 0 0] 76)).heap.size := by simp
  have HS0 := hide hS0
  obtain ⟨z0, hz0⟩ : ∃ z, z = ((w.alloc (.cells #[.slice none 0 0, .int .i64 0, .slice none 0 0, .slice none 0 0] 76)).alloc (.cells #[.slice none 0 0, .int .i64 0, .slice none 0 0, .slice none 0 0] 76)).heap.size := ⟨_, rfl⟩
  have hzz0 : w.heap.size + 2 ≤ z0 := by rw [hz0]; exact hS0
  have HZ0 := hide hz0
  clear hz0
  obtain ⟨f0, f1, f2, f3, g0, g1, g2, g3⟩ := hfb
  clear hc hS0
  go_enter Tryd.func85, Tryd.ntmps85
  go_wp2_with fail
  refine (kinds_read cb z0 r e a _ HC0.out (by omega) (by have := HZ0.out; exact Nat.le_of_eq this)).mono ?_
  intro x w1 h1
  cases hn1 : rdKinds r with
  | none =>
    obtain ⟨rfl, hg⟩ := h1.none_ hn1
    exact ⟨rfl, by unfold rdFunc; simp only [hn1]; exact ⟨rfl, HG0.out.trans hg⟩⟩
  | some q1 =>
    obtain ⟨y1, r1⟩ := q1
    obtain ⟨v1, rfl, hy1, hcur, hg⟩ := h1.some_ hn1
    obtain ⟨p1, c1, hv⟩ := hy1.shape
    subst hv
    have H1 := hide hn1
    have HFB1 := hide ((HFB0.out.gc hg (by omega)).set0 (.slice p1 y1.length c1))
    have HRB1 := hide ((HRB0.out.gc hg (by omega)).other (g := w.heap.size + 1) (o := 0) (v := .slice p1 y1.length c1) (by omega))
    have HC1 := hide (cur_set (g := w.heap.size + 1) (o := 0) (v := .slice p1 y1.length c1) hcur (by omega))
    have HG1 := hide (gc_new (g := w.heap.size + 1) (o := 0) (v := .slice p1 y1.length c1) (HG0.out.trans hg) (by omega))
    have HS1 : Hid (w.heap.size + 2 ≤ (w1.setCell ⟨w.heap.size + 1, 0, none⟩ (.slice p1 y1.length c1)).heap.size) := hide (by have h1 := HS0.out; have h2 := hg.size; simp at h1 h2 ⊢; omega)
    obtain ⟨z1, hz1⟩ : ∃ z, z = (w1.setCell ⟨w.heap.size + 1, 0, none⟩ (.slice p1 y1.length c1)).heap.size := ⟨_, rfl⟩
    have hzz1 : z0 ≤ z1 := by have h1 := HZ0.out; have h2 := hg.size; rw [hz1]; simp at h1 h2 ⊢; omega
    have HB1 : Hid (∀ b, Value.ownBlock (.slice p1 y1.length c1) = some b → b < z1) := hide (fun b hb => by have := (hy1.at hb).2; rw [hz1]; simpa using this)
    have HZ1 := hide hz1
    clear hz1
    have Y1_1 := hide (hy1.kp (kp_set (g := w.heap.size + 1) (o := 0) (v := .slice p1 y1.length c1) (by omega)))
    obtain ⟨a0, a1, a2, a3, b0, b1, b2, b3⟩ := HFB0.out.gc hg (by omega)
    clear f0 f1 f2 f3 g0 g1 g2 g3
    clear h1 hn1 hcur hg hy1
    go_wp2_with fail
    clear a0 a1 a2 a3 b0 b1 b2 b3
    refine (kinds_read cb z1 r1 e a _ HC1.out (by omega) (by have := HZ1.out; exact Nat.le_of_eq this)).mono ?_
    intro x w2 h2
    cases hn2 : rdKinds r1 with
    | none =>
      obtain ⟨rfl, hg⟩ := h2.none_ hn2
      exact ⟨rfl, by unfold rdFunc; simp only [H1.out, hn2]; exact ⟨rfl, HG1.out.trans hg⟩⟩
    | some q2 =>
      obtain ⟨y2, r2⟩ := q2
      obtain ⟨v2, rfl, hy2, hcur, hg⟩ := h2.some_ hn2
      obtain ⟨p2, c2, hv⟩ := hy2.shape
      subst hv
      have H2 := hide hn2
      have HFB2 := hide ((HFB1.out.gc hg (by omega)).set2 (.slice p2 y2.length c2))
      have HRB2 := hide ((HRB1.out.gc hg (by omega)).other (g := w.heap.size + 1) (o := 2) (v := .slice p2 y2.length c2) (by omega))
      have HC2 := hide (cur_set (g := w.heap.size + 1) (o := 2) (v := .slice p2 y2.length c2) hcur (by omega))
      have HG2 := hide (gc_new (g := w.heap.size + 1) (o := 2) (v := .slice p2 y2.length c2) (HG1.out.trans hg) (by omega))
      have HS2 : Hid (w.heap.size + 2 ≤ (w2.setCell ⟨w.heap.size + 1, 2, none⟩ (.slice p2 y2.length c2)).heap.size) := hide (by have h1 := HS1.out; have h2 := hg.size; simp at h1 h2 ⊢; omega)
      obtain ⟨z2, hz2⟩ : ∃ z, z = (w2.setCell ⟨w.heap.size + 1, 2, none⟩ (.slice p2 y2.length c2)).heap.size := ⟨_, rfl⟩
      have hzz2 : z1 ≤ z2 := by have h1 := HZ1.out; have h2 := hg.size; rw [hz2]; simp at h1 h2 ⊢; omega
      have HB2 : Hid (∀ b, Value.ownBlock (.slice p2 y2.length c2) = some b → b < z2) := hide (fun b hb => by have := (hy2.at hb).2; rw [hz2]; simpa using this)
      have HZ2 := hide hz2
      clear hz2
      have Y1_2 := hide ((Y1_1.out.kp (hg.kp (by omega))).kp (kp_set (g := w.heap.size + 1) (o := 2) (v := .slice p2 y2.length c2) (by omega)))
      have Y2_2 := hide (hy2.kp (kp_set (g := w.heap.size + 1) (o := 2) (v := .slice p2 y2.length c2) (by omega)))
      obtain ⟨a0, a1, a2, a3, b0, b1, b2, b3⟩ := HFB1.out.gc hg (by omega)
      clear h2 hn2 hcur hg hy2
      go_wp2_with fail
      clear a0 a1 a2 a3 b0 b1 b2 b3
      refine (whole_read cb r2 e a _ HC2.out).mono ?_
      intro x w3 h3
      cases hn3 : rdWhole r2 with
      | none =>
        obtain ⟨rfl, hg⟩ := h3.none_ hn3
        exact ⟨rfl, by unfold rdFunc; simp only [H1.out, H2.out, hn3]; exact ⟨rfl, HG2.out.trans hg⟩⟩
      | some q3 =>
        obtain ⟨y3, r3⟩ := q3
        obtain ⟨v3, rfl, hy3, hcur, hg⟩ := h3.some_ hn3
        subst hy3
        have H3 := hide hn3
        have HFB3 := hide ((HFB2.out.gc hg (by omega)).set1 (.int .i64 y3))
        have HRB3 := hide ((HRB2.out.gc hg (by omega)).other (g := w.heap.size + 1) (o := 1) (v := .int .i64 y3) (by omega))
        have HC3 := hide (cur_set (g := w.heap.size + 1) (o := 1) (v := .int .i64 y3) hcur (by omega))
        have HG3 := hide (gc_new (g := w.heap.size + 1) (o := 1) (v := .int .i64 y3) (HG2.out.trans hg) (by omega))
        have HS3 : Hid (w.heap.size + 2 ≤ (w3.setCell ⟨w.heap.size + 1, 1, none⟩ (.int .i64 y3)).heap.size) := hide (by have h1 := HS2.out; have h2 := hg.size; simp at h1 h2 ⊢; omega)
        obtain ⟨z3, hz3⟩ : ∃ z, z = (w3.setCell ⟨w.heap.size + 1, 1, none⟩ (.int .i64 y3)).heap.size := ⟨_, rfl⟩
        have hzz3 : z2 ≤ z3 := by have h1 := HZ2.out; have h2 := hg.size; rw [hz3]; simp at h1 h2 ⊢; omega
        have HZ3 := hide hz3
        clear hz3
        have Y1_3 := hide ((Y1_2.out.kp (hg.kp (by omega))).kp (kp_set (g := w.heap.size + 1) (o := 1) (v := .int .i64 y3) (by omega)))
        have Y2_3 := hide ((Y2_2.out.kp (hg.kp (by omega))).kp (kp_set (g := w.heap.size + 1) (o := 1) (v := .int .i64 y3) (by omega)))
        obtain ⟨a0, a1, a2, a3, b0, b1, b2, b3⟩ := HFB2.out.gc hg (by omega)
        clear h3 hn3 hcur hg
        go_wp2_with fail
        clear a0 a1 a2 a3 b0 b1 b2 b3
        refine (rlist_ins cb z3 r3 e a _ HC3.out (by omega) (by have := HZ3.out; exact Nat.le_of_eq this)).mono ?_
        intro x w4 h4
        cases hn4 : rdList rdIns r3 with
        | none =>
          obtain ⟨rfl, hg⟩ := h4.none_ hn4
          exact ⟨rfl, by unfold rdFunc; simp only [H1.out, H2.out, H3.out, hn4]; exact ⟨rfl, HG3.out.trans hg⟩⟩
        | some q4 =>
          obtain ⟨y4, r4⟩ := q4
          obtain ⟨v4, rfl, hy4, hcur, hg⟩ := h4.some_ hn4
          obtain ⟨p4, c4, hv⟩ := hy4.shape
          subst hv
          have H4 := hide hn4
          have HFB4 := hide ((HFB3.out.gc hg (by omega)).set3 (.slice p4 y4.length c4))
          have HRB4 := hide ((HRB3.out.gc hg (by omega)).other (g := w.heap.size + 1) (o := 3) (v := .slice p4 y4.length c4) (by omega))
          have HC4 := hide (cur_set (g := w.heap.size + 1) (o := 3) (v := .slice p4 y4.length c4) hcur (by omega))
          have HG4 := hide (gc_new (g := w.heap.size + 1) (o := 3) (v := .slice p4 y4.length c4) (HG3.out.trans hg) (by omega))
          have HS4 : Hid (w.heap.size + 2 ≤ (w4.setCell ⟨w.heap.size + 1, 3, none⟩ (.slice p4 y4.length c4)).heap.size) := hide (by have h1 := HS3.out; have h2 := hg.size; simp at h1 h2 ⊢; omega)
          obtain ⟨z4, hz4⟩ : ∃ z, z = (w4.setCell ⟨w.heap.size + 1, 3, none⟩ (.slice p4 y4.length c4)).heap.size := ⟨_, rfl⟩
          have hzz4 : z3 ≤ z4 := by have h1 := HZ3.out; have h2 := hg.size; rw [hz4]; simp at h1 h2 ⊢; omega
          have HB4 : Hid (∀ b, Value.ownBlock (.slice p4 y4.length c4) = some b → b < z4) := hide (fun b hb => by have := (hy4.at hb).2; rw [hz4]; simpa using this)
          have HZ4 := hide hz4
          clear hz4
          have Y1_4 := hide ((Y1_3.out.kp (hg.kp (by omega))).kp (kp_set (g := w.heap.size + 1) (o := 3) (v := .slice p4 y4.length c4) (by omega)))
          have Y2_4 := hide ((Y2_3.out.kp (hg.kp (by omega))).kp (kp_set (g := w.heap.size + 1) (o := 3) (v := .slice p4 y4.length c4) (by omega)))
          have Y4_4 := hide (hy4.kp (kp_set (g := w.heap.size + 1) (o := 3) (v := .slice p4 y4.length c4) (by omega)))
          obtain ⟨a0, a1, a2, a3, b0, b1, b2, b3⟩ := HFB3.out.gc hg (by omega)
          clear h4 hn4 hcur hg hy4
          obtain ⟨m0, m1, m2, m3, n0, n1, n2, n3⟩ := HRB4.out
          have hne : ¬ w.heap.size = w.heap.size + 1 := by omega
          have hne2 : ¬ w.heap.size + 1 = w.heap.size := by omega
          go_wp2
          exact bodyPost_ret (v := .agg #[.slice p1 y1.length c1, .int .i64 y3, .slice p2 y2.length c2, .slice p4 y4.length c4]) (by simp [results, Tryd.results85, go_sem, m0, m1, m2, m3]) rfl (by
            have hE : rdFunc r = some (⟨y1, y3, y2, y4⟩, r4) := by unfold rdFunc; simp only [H1.out, H2.out, H3.out, H4.out]
            rw [hE]
            exact ⟨_, rfl, ⟨_, _, _, z1, z3, rfl, (((((Y1_4.out).kp (kp_set (by omega))).kp (kp_set (by omega))).kp (kp_set (by omega))).kp (kp_set (by omega))).mono (by omega), ((((Y2_4.out).kp (kp_set (by omega))).kp (kp_set (by omega))).kp (kp_set (by omega))).kp (kp_set (by omega)), ((((Y4_4.out).kp (kp_set (by omega))).kp (kp_set (by omega))).kp (kp_set (by omega))).kp (kp_set (by omega)), by omega, by omega, HB1.out, fun b hb => Nat.lt_of_lt_of_le (HB2.out b hb) hzz3⟩, cur_set (cur_set (cur_set (cur_set (HC4.out) (by omega)) (by omega)) (by omega)) (by omega), gc_new (gc_new (gc_new (gc_new (HG4.out) (by omega)) (by omega)) (by omega)) (by omega)⟩)

theorem rdNum_le : ∀ (r : List UInt8) (k v : Nat) (n : Nat) (r' : List UInt8), rdNum k v r = some (n, r') → r'.length < r.length
  | [], _, _, _, _, h => by simp [rdNum] at h
  | b :: r, k, v, n, r', h => by
    unfold rdNum at h
    split at h
    · split at h
      · split at h
        · simp only [Option.some.injEq, Prod.mk.injEq] at h; rw [← h.2]; simp
        · cases h
      · have := rdNum_le r _ _ n r' h; simp; omega
    · cases h
theorem text_len {r y r1 : List UInt8} (h : rdText r = some (y, r1)) (hr : r.length ≤ 1000000) : (⟨y.toArray⟩ : ByteArray).size ≤ maxLen := by
  unfold rdText at h
  cases hn : rdNum 0 0 r with
  | none => rw [hn] at h; cases h
  | some p =>
    obtain ⟨n, r2⟩ := p
    have hl := rdNum_le r 0 0 n r2 hn
    rw [hn] at h
    simp only [rdTake] at h
    split at h
    · simp only [Option.some.injEq, Prod.mk.injEq] at h
      rw [← h.1]
      show (List.toArray _).size ≤ _
      unfold maxLen
      simp; omega
    · cases h

set_option maxRecDepth 100000 in
set_option maxHeartbeats 2000000 in
theorem imp_read (cb B : Nat) (r : List UInt8) (e a : Int) (w : World) (hc : Cur w cb r e a) (hb : cb < B) (hB : B ≤ w.heap.size) :
    Calls Tryd.prog 88 #[.pointer (some ⟨cb, 0, none⟩)] w (Rds cb e a w (fun w' v (y : PImp) => ∃ vs vp, v = .agg #[vs, vp, .int .i64 y.result] ∧ RText vs y.name ∧ RIntsG B w' vp y.params) (rdImp r)) := by
  have hcl : cb < w.heap.size := by omega
  have hlr := hc.2.1
  have HC0 := hide ((hc.gr ((Gr.refl w).alloc (.cells #[.string ⟨#[]⟩, .slice none 0 0, .int .i64 0] 79))).gr ((Gr.refl _).alloc (.cells #[.string ⟨#[]⟩, .slice none 0 0, .int .i64 0] 79)))
  have HRB0 := hide (((Box3.new w 79 (.string ⟨#[]⟩) (.slice none 0 0) (.int .i64 0)).gc ((Gr.alloc (Gr.refl _) (.cells #[.string ⟨#[]⟩, .slice none 0 0, .int .i64 0] 79)).toGc (cb := cb)) (by omega)))
  have hfb := Box3.new (w.alloc (.cells #[.string ⟨#[]⟩, .slice none 0 0, .int .i64 0] 79)) 79 (.string ⟨#[]⟩) (.slice none 0 0) (.int .i64 0)
  rw [show (w.alloc (.cells #[.string ⟨#[]⟩, .slice none 0 0, .int .i64 0] 79)).heap.size = w.heap.size + 1 by simp] at hfb
  have HFB0 := hide hfb
  have HG0 := hide ((((Gr.refl w).alloc (.cells #[.string ⟨#[]⟩, .slice none 0 0, .int .i64 0] 79)).alloc (.cells #[.string ⟨#[]⟩, .slice none 0 0, .int .i64 0] 79)).toGc (cb := cb))
  have hS0 : w.heap.size + 2 ≤ ((w.alloc (.cells #[.string ⟨#[]⟩, .slice none 0 0, .int .i64 0] 79)).alloc (.cells #[.string ⟨#[]⟩, .slice none 0 0, .int .i64 0] 79)).heap.size := by simp
  have HS0 := hide hS0
  obtain ⟨z0, hz0⟩ : ∃ z, z = ((w.alloc (.cells #[.string ⟨#[]⟩, .slice none 0 0, .int .i64 0] 79)).alloc (.cells #[.string ⟨#[]⟩, .slice none 0 0, .int .i64 0] 79)).heap.size := ⟨_, rfl⟩
  have hzz0 : w.heap.size + 2 ≤ z0 := by rw [hz0]; exact hS0
  have HZ0 := hide hz0
  clear hz0
  obtain ⟨f0, f1, f2, g0, g1, g2⟩ := hfb
  clear hc hS0
  go_enter Tryd.func88, Tryd.ntmps88
  go_wp2_with fail
  refine (text_read cb r e a _ HC0.out).mono ?_
  intro x w1 h1
  cases hn1 : rdText r with
  | none =>
    obtain ⟨rfl, hg⟩ := h1.none_ hn1
    exact ⟨rfl, by unfold rdImp; simp only [hn1]; exact ⟨rfl, HG0.out.trans hg⟩⟩
  | some q1 =>
    obtain ⟨y1, r1⟩ := q1
    obtain ⟨v1, rfl, hy1, hcur, hg⟩ := h1.some_ hn1
    subst hy1
    have H1 := hide hn1
    have HFB1 := hide ((HFB0.out.gc hg (by omega)).set0 (.string ⟨y1.toArray⟩))
    have HRB1 := hide ((HRB0.out.gc hg (by omega)).other (g := w.heap.size + 1) (o := 0) (v := .string ⟨y1.toArray⟩) (by omega))
    have HC1 := hide (cur_set (g := w.heap.size + 1) (o := 0) (v := .string ⟨y1.toArray⟩) hcur (by omega))
    have HG1 := hide (gc_new (g := w.heap.size + 1) (o := 0) (v := .string ⟨y1.toArray⟩) (HG0.out.trans hg) (by omega))
    have HS1 : Hid (w.heap.size + 2 ≤ (w1.setCell ⟨w.heap.size + 1, 0, none⟩ (.string ⟨y1.toArray⟩)).heap.size) := hide (by have h1 := HS0.out; have h2 := hg.size; simp at h1 h2 ⊢; omega)
    obtain ⟨z1, hz1⟩ : ∃ z, z = (w1.setCell ⟨w.heap.size + 1, 0, none⟩ (.string ⟨y1.toArray⟩)).heap.size := ⟨_, rfl⟩
    have hzz1 : z0 ≤ z1 := by have h1 := HZ0.out; have h2 := hg.size; rw [hz1]; simp at h1 h2 ⊢; omega
    have HZ1 := hide hz1
    clear hz1
    obtain ⟨a0, a1, a2, b0, b1, b2⟩ := HFB0.out.gc hg (by omega)
    clear f0 f1 f2 g0 g1 g2
    clear h1 hn1 hcur hg
    go_wp2_with fail
    clear a0 a1 a2 b0 b1 b2
    refine (kinds_read cb z1 r1 e a _ HC1.out (by omega) (by have := HZ1.out; exact Nat.le_of_eq this)).mono ?_
    intro x w2 h2
    cases hn2 : rdKinds r1 with
    | none =>
      obtain ⟨rfl, hg⟩ := h2.none_ hn2
      exact ⟨rfl, by unfold rdImp; simp only [H1.out, hn2]; exact ⟨rfl, HG1.out.trans hg⟩⟩
    | some q2 =>
      obtain ⟨y2, r2⟩ := q2
      obtain ⟨v2, rfl, hy2, hcur, hg⟩ := h2.some_ hn2
      obtain ⟨p2, c2, hv⟩ := hy2.shape
      subst hv
      have H2 := hide hn2
      have HFB2 := hide ((HFB1.out.gc hg (by omega)).set1 (.slice p2 y2.length c2))
      have HRB2 := hide ((HRB1.out.gc hg (by omega)).other (g := w.heap.size + 1) (o := 1) (v := .slice p2 y2.length c2) (by omega))
      have HC2 := hide (cur_set (g := w.heap.size + 1) (o := 1) (v := .slice p2 y2.length c2) hcur (by omega))
      have HG2 := hide (gc_new (g := w.heap.size + 1) (o := 1) (v := .slice p2 y2.length c2) (HG1.out.trans hg) (by omega))
      have HS2 : Hid (w.heap.size + 2 ≤ (w2.setCell ⟨w.heap.size + 1, 1, none⟩ (.slice p2 y2.length c2)).heap.size) := hide (by have h1 := HS1.out; have h2 := hg.size; simp at h1 h2 ⊢; omega)
      obtain ⟨z2, hz2⟩ : ∃ z, z = (w2.setCell ⟨w.heap.size + 1, 1, none⟩ (.slice p2 y2.length c2)).heap.size := ⟨_, rfl⟩
      have hzz2 : z1 ≤ z2 := by have h1 := HZ1.out; have h2 := hg.size; rw [hz2]; simp at h1 h2 ⊢; omega
      have HB2 : Hid (∀ b, Value.ownBlock (.slice p2 y2.length c2) = some b → b < z2) := hide (fun b hb => by have := (hy2.at hb).2; rw [hz2]; simpa using this)
      have HZ2 := hide hz2
      clear hz2
      have Y2_2 := hide (hy2.kp (kp_set (g := w.heap.size + 1) (o := 1) (v := .slice p2 y2.length c2) (by omega)))
      obtain ⟨a0, a1, a2, b0, b1, b2⟩ := HFB1.out.gc hg (by omega)
      clear h2 hn2 hcur hg hy2
      go_wp2_with fail
      clear a0 a1 a2 b0 b1 b2
      refine (whole_read cb r2 e a _ HC2.out).mono ?_
      intro x w3 h3
      cases hn3 : rdWhole r2 with
      | none =>
        obtain ⟨rfl, hg⟩ := h3.none_ hn3
        exact ⟨rfl, by unfold rdImp; simp only [H1.out, H2.out, hn3]; exact ⟨rfl, HG2.out.trans hg⟩⟩
      | some q3 =>
        obtain ⟨y3, r3⟩ := q3
        obtain ⟨v3, rfl, hy3, hcur, hg⟩ := h3.some_ hn3
        subst hy3
        have H3 := hide hn3
        have HFB3 := hide ((HFB2.out.gc hg (by omega)).set2 (.int .i64 y3))
        have HRB3 := hide ((HRB2.out.gc hg (by omega)).other (g := w.heap.size + 1) (o := 2) (v := .int .i64 y3) (by omega))
        have HC3 := hide (cur_set (g := w.heap.size + 1) (o := 2) (v := .int .i64 y3) hcur (by omega))
        have HG3 := hide (gc_new (g := w.heap.size + 1) (o := 2) (v := .int .i64 y3) (HG2.out.trans hg) (by omega))
        have HS3 : Hid (w.heap.size + 2 ≤ (w3.setCell ⟨w.heap.size + 1, 2, none⟩ (.int .i64 y3)).heap.size) := hide (by have h1 := HS2.out; have h2 := hg.size; simp at h1 h2 ⊢; omega)
        obtain ⟨z3, hz3⟩ : ∃ z, z = (w3.setCell ⟨w.heap.size + 1, 2, none⟩ (.int .i64 y3)).heap.size := ⟨_, rfl⟩
        have hzz3 : z2 ≤ z3 := by have h1 := HZ2.out; have h2 := hg.size; rw [hz3]; simp at h1 h2 ⊢; omega
        have HZ3 := hide hz3
        clear hz3
        have Y2_3 := hide ((Y2_2.out.kp (hg.kp (by omega))).kp (kp_set (g := w.heap.size + 1) (o := 2) (v := .int .i64 y3) (by omega)))
        obtain ⟨a0, a1, a2, b0, b1, b2⟩ := HFB2.out.gc hg (by omega)
        clear h3 hn3 hcur hg
        obtain ⟨m0, m1, m2, n0, n1, n2⟩ := HRB3.out
        have hne : ¬ w.heap.size = w.heap.size + 1 := by omega
        have hne2 : ¬ w.heap.size + 1 = w.heap.size := by omega
        go_wp2
        exact bodyPost_ret (v := .agg #[.string ⟨y1.toArray⟩, .slice p2 y2.length c2, .int .i64 y3]) (by simp [results, Tryd.results88, go_sem, m0, m1, m2]) rfl (by
          have hE : rdImp r = some (⟨y1, y2, y3⟩, r3) := by unfold rdImp; simp only [H1.out, H2.out, H3.out]
          rw [hE]
          exact ⟨_, rfl, ⟨_, _, rfl, ⟨_, rfl, rfl, text_len H1.out hlr⟩, ((((Y2_3.out).kp (kp_set (by omega))).kp (kp_set (by omega))).kp (kp_set (by omega))).mono (by omega)⟩, cur_set (cur_set (cur_set (HC3.out) (by omega)) (by omega)) (by omega), gc_new (gc_new (gc_new (HG3.out) (by omega)) (by omega)) (by omega)⟩)

set_option maxRecDepth 100000 in
set_option maxHeartbeats 2000000 in
theorem exp_read (cb B : Nat) (r : List UInt8) (e a : Int) (w : World) (hc : Cur w cb r e a) (hb : cb < B) (hB : B ≤ w.heap.size) :
    Calls Tryd.prog 91 #[.pointer (some ⟨cb, 0, none⟩)] w (Rds cb e a w (fun w' v (y : PExp) => ∃ vs, v = .agg #[vs, .int .i64 y.func] ∧ RText vs y.name) (rdExp r)) := by
  have hcl : cb < w.heap.size := by omega
  have hlr := hc.2.1
  have HC0 := hide ((hc.gr ((Gr.refl w).alloc (.cells #[.string ⟨#[]⟩, .int .i64 0] 81))).gr ((Gr.refl _).alloc (.cells #[.string ⟨#[]⟩, .int .i64 0] 81)))
  have HRB0 := hide (((Box2.new w 81 (.string ⟨#[]⟩) (.int .i64 0)).gc ((Gr.alloc (Gr.refl _) (.cells #[.string ⟨#[]⟩, .int .i64 0] 81)).toGc (cb := cb)) (by omega)))
  have hfb := Box2.new (w.alloc (.cells #[.string ⟨#[]⟩, .int .i64 0] 81)) 81 (.string ⟨#[]⟩) (.int .i64 0)
  rw [show (w.alloc (.cells #[.string ⟨#[]⟩, .int .i64 0] 81)).heap.size = w.heap.size + 1 by simp] at hfb
  have HFB0 := hide hfb
  have HG0 := hide ((((Gr.refl w).alloc (.cells #[.string ⟨#[]⟩, .int .i64 0] 81)).alloc (.cells #[.string ⟨#[]⟩, .int .i64 0] 81)).toGc (cb := cb))
  have hS0 : w.heap.size + 2 ≤ ((w.alloc (.cells #[.string ⟨#[]⟩, .int .i64 0] 81)).alloc (.cells #[.string ⟨#[]⟩, .int .i64 0] 81)).heap.size := by simp
  have HS0 := hide hS0
  obtain ⟨z0, hz0⟩ : ∃ z, z = ((w.alloc (.cells #[.string ⟨#[]⟩, .int .i64 0] 81)).alloc (.cells #[.string ⟨#[]⟩, .int .i64 0] 81)).heap.size := ⟨_, rfl⟩
  have hzz0 : w.heap.size + 2 ≤ z0 := by rw [hz0]; exact hS0
  have HZ0 := hide hz0
  clear hz0
  obtain ⟨f0, f1, g0, g1⟩ := hfb
  clear hc hS0
  go_enter Tryd.func91, Tryd.ntmps91
  go_wp2_with fail
  refine (text_read cb r e a _ HC0.out).mono ?_
  intro x w1 h1
  cases hn1 : rdText r with
  | none =>
    obtain ⟨rfl, hg⟩ := h1.none_ hn1
    exact ⟨rfl, by unfold rdExp; simp only [hn1]; exact ⟨rfl, HG0.out.trans hg⟩⟩
  | some q1 =>
    obtain ⟨y1, r1⟩ := q1
    obtain ⟨v1, rfl, hy1, hcur, hg⟩ := h1.some_ hn1
    subst hy1
    have H1 := hide hn1
    have HFB1 := hide ((HFB0.out.gc hg (by omega)).set0 (.string ⟨y1.toArray⟩))
    have HRB1 := hide ((HRB0.out.gc hg (by omega)).other (g := w.heap.size + 1) (o := 0) (v := .string ⟨y1.toArray⟩) (by omega))
    have HC1 := hide (cur_set (g := w.heap.size + 1) (o := 0) (v := .string ⟨y1.toArray⟩) hcur (by omega))
    have HG1 := hide (gc_new (g := w.heap.size + 1) (o := 0) (v := .string ⟨y1.toArray⟩) (HG0.out.trans hg) (by omega))
    have HS1 : Hid (w.heap.size + 2 ≤ (w1.setCell ⟨w.heap.size + 1, 0, none⟩ (.string ⟨y1.toArray⟩)).heap.size) := hide (by have h1 := HS0.out; have h2 := hg.size; simp at h1 h2 ⊢; omega)
    obtain ⟨z1, hz1⟩ : ∃ z, z = (w1.setCell ⟨w.heap.size + 1, 0, none⟩ (.string ⟨y1.toArray⟩)).heap.size := ⟨_, rfl⟩
    have hzz1 : z0 ≤ z1 := by have h1 := HZ0.out; have h2 := hg.size; rw [hz1]; simp at h1 h2 ⊢; omega
    have HZ1 := hide hz1
    clear hz1
    obtain ⟨a0, a1, b0, b1⟩ := HFB0.out.gc hg (by omega)
    clear f0 f1 g0 g1
    clear h1 hn1 hcur hg
    go_wp2_with fail
    clear a0 a1 b0 b1
    refine (whole_read cb r1 e a _ HC1.out).mono ?_
    intro x w2 h2
    cases hn2 : rdWhole r1 with
    | none =>
      obtain ⟨rfl, hg⟩ := h2.none_ hn2
      exact ⟨rfl, by unfold rdExp; simp only [H1.out, hn2]; exact ⟨rfl, HG1.out.trans hg⟩⟩
    | some q2 =>
      obtain ⟨y2, r2⟩ := q2
      obtain ⟨v2, rfl, hy2, hcur, hg⟩ := h2.some_ hn2
      subst hy2
      have H2 := hide hn2
      have HFB2 := hide ((HFB1.out.gc hg (by omega)).set1 (.int .i64 y2))
      have HRB2 := hide ((HRB1.out.gc hg (by omega)).other (g := w.heap.size + 1) (o := 1) (v := .int .i64 y2) (by omega))
      have HC2 := hide (cur_set (g := w.heap.size + 1) (o := 1) (v := .int .i64 y2) hcur (by omega))
      have HG2 := hide (gc_new (g := w.heap.size + 1) (o := 1) (v := .int .i64 y2) (HG1.out.trans hg) (by omega))
      have HS2 : Hid (w.heap.size + 2 ≤ (w2.setCell ⟨w.heap.size + 1, 1, none⟩ (.int .i64 y2)).heap.size) := hide (by have h1 := HS1.out; have h2 := hg.size; simp at h1 h2 ⊢; omega)
      obtain ⟨z2, hz2⟩ : ∃ z, z = (w2.setCell ⟨w.heap.size + 1, 1, none⟩ (.int .i64 y2)).heap.size := ⟨_, rfl⟩
      have hzz2 : z1 ≤ z2 := by have h1 := HZ1.out; have h2 := hg.size; rw [hz2]; simp at h1 h2 ⊢; omega
      have HZ2 := hide hz2
      clear hz2
      obtain ⟨a0, a1, b0, b1⟩ := HFB1.out.gc hg (by omega)
      clear h2 hn2 hcur hg
      obtain ⟨m0, m1, n0, n1⟩ := HRB2.out
      have hne : ¬ w.heap.size = w.heap.size + 1 := by omega
      have hne2 : ¬ w.heap.size + 1 = w.heap.size := by omega
      go_wp2
      exact bodyPost_ret (v := .agg #[.string ⟨y1.toArray⟩, .int .i64 y2]) (by simp [results, Tryd.results91, go_sem, m0, m1]) rfl (by
        have hE : rdExp r = some (⟨y1, y2⟩, r2) := by unfold rdExp; simp only [H1.out, H2.out]
        rw [hE]
        exact ⟨_, rfl, ⟨_, rfl, ⟨_, rfl, rfl, text_len H1.out hlr⟩⟩, cur_set (cur_set (HC2.out) (by omega)) (by omega), gc_new (gc_new (HG2.out) (by omega)) (by omega)⟩)
end Go.Proofs.YtkgncijcnlfhiaaDoor

