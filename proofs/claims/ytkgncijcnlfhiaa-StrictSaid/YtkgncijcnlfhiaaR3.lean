import Derived.Test.YtkgncijcnlfhiaaR2
namespace Go.Proofs.Ytkgncijcnlfhiaa
set_option linter.unusedVariables false
set_option linter.unusedSimpArgs false
open Go.RowKit
/-- the five cells of a unit, written anew -/
def put5 (w : World) (b : Nat) (x0 x1 x2 x3 x4 : Value) : World := ((((w.setCell ⟨b, 0, none⟩ x0).setCell ⟨b, 1, none⟩ x1).setCell ⟨b, 2, none⟩ x2).setCell ⟨b, 3, none⟩ x3).setCell ⟨b, 4, none⟩ x4
theorem put5_eq (w : World) (b : Nat) (x0 x1 x2 x3 x4 : Value) : ((((w.setCell ⟨b, 0, none⟩ x0).setCell ⟨b, 1, none⟩ x1).setCell ⟨b, 2, none⟩ x2).setCell ⟨b, 3, none⟩ x3).setCell ⟨b, 4, none⟩ x4 = put5 w b x0 x1 x2 x3 x4 := rfl
theorem put5_box {w : World} {b : Nat} {x0 x1 x2 x3 x4 : Value} (y0 y1 y2 y3 y4 : Value) (h : Box5 w b x0 x1 x2 x3 x4) : Box5 (put5 w b y0 y1 y2 y3 y4) b y0 y1 y2 y3 y4 := ((((h.set0 y0).set1 y1).set2 y2).set3 y3).set4 y4
theorem put5_gr {w w1 : World} {b : Nat} {y0 y1 y2 y3 y4 : Value} (h : Gr w w1) (hb : w.heap.size ≤ b) : Gr w (put5 w1 b y0 y1 y2 y3 y4) := gr_set (gr_set (gr_set (gr_set (gr_set h hb) hb) hb) hb) hb
theorem put5_unit {B b : Nat} {w : World} {v : Value} {u : PUnit} {y0 y1 y2 y3 y4 : Value} (h : RUnitF B w v u) (hb : b < B) : RUnitF B (put5 w b y0 y1 y2 y3 y4) v u := ((((h.kp (kp_set hb)).kp (kp_set hb)).kp (kp_set hb)).kp (kp_set hb)).kp (kp_set hb)
theorem put5_other {w : World} {b g o : Nat} {y0 y1 y2 y3 y4 : Value} (h : ¬ b = g) : (put5 w b y0 y1 y2 y3 y4).cell? ⟨g, o, none⟩ = w.cell? ⟨g, o, none⟩ := by
  have hc : ∀ (V : World) (q : Nat) (v : Value), (V.setCell ⟨b, q, none⟩ v).cell? ⟨g, o, none⟩ = V.cell? ⟨g, o, none⟩ := fun V q v => World.cell?_setCell_other V _ _ _ (by intro e; simp only [Addr.mk.injEq] at e; exact h e.1)
  unfold put5; rw [hc, hc, hc, hc, hc]
theorem put5_box3 {w : World} {b g : Nat} {x0 x1 x2 y0 y1 y2 y3 y4 : Value} (h : ¬ b = g) (hb : Box3 w g x0 x1 x2) : Box3 (put5 w b y0 y1 y2 y3 y4) g x0 x1 x2 := ((((hb.other h).other h).other h).other h).other h
theorem put5_box5 {w : World} {b g : Nat} {x0 x1 x2 x3 x4 y0 y1 y2 y3 y4 : Value} (h : ¬ b = g) (hb : Box5 w g x0 x1 x2 x3 x4) : Box5 (put5 w b y0 y1 y2 y3 y4) g x0 x1 x2 x3 x4 := ((((hb.other h).other h).other h).other h).other h
theorem put5_frozen {w : World} {b : Nat} {p : Addr} {y0 y1 y2 y3 y4 : Value} : (put5 w b y0 y1 y2 y3 y4).frozen? p = w.frozen? p := by
  unfold put5; simp only [World.frozen?_setCell]

def WorkD (w : World) (ub : Nat) : PUnit ⊕ (Int × Nat) → Ending → World → Prop
  | .inl u, x, w' => ∃ v1 v2 v3 v4 v5 B w1, x = .returned (.tuple #[]) ∧ w.heap.size ≤ B ∧ RUnitF B w1 (.agg #[v1, v2, v3, v4, v5]) u ∧ Gr w w1 ∧ w' = put5 w1 ub v1 v2 v3 v4 v5
  | .inr (e, p), x, w' => x = .panicked (thrown e p) ∧ Gr w w'

set_option maxRecDepth 100000 in
set_option maxHeartbeats 2000000 in
theorem work_dec (s : ByteArray) (tb ub : Nat) (x0 x1 x2 x3 x4 : Value) (w : World) (ht : w.cell? ⟨tb, 0, none⟩ = some (.string s)) (hs : s.size ≤ maxLen) (hub : Box5 w ub x0 x1 x2 x3 x4) :
    Calls Try.prog 14 #[.pointer (some ⟨tb, 0, none⟩), .pointer (some ⟨ub, 0, none⟩)] w (WorkD w ub (dec s.data.toList)) := by
  have HB := hide hub
  clear hub
  generalize hT : dec s.data.toList = D
  go_enter Try.func14, Try.ntmps14
  go_wp2_with fail
  refine (read_any sections s _ hs).mono ?_
  rw [hT]
  clear hT
  intro x w1 h
  cases D with
  | inl u =>
    obtain ⟨v, B, rfl, hB, hu, hg1⟩ := h
    obtain ⟨v1, v2, v3, v4, v5, rfl, k1, k2, k3, k4, k5⟩ := hu
    obtain ⟨a1, c1, rfl⟩ := k1.shape
    obtain ⟨a2, c2, rfl⟩ := k2.shape
    obtain ⟨a3, c3, rfl⟩ := k3.shape
    obtain ⟨a4, c4, rfl⟩ := k4.shape
    obtain ⟨a5, c5, rfl⟩ := k5.shape
    have HU : Hid (RUnitF B w1 (.agg #[.slice a1 u.shapes.length c1, .slice a2 u.consts.length c2, .slice a3 u.funcs.length c3, .slice a4 u.imports.length c4, .slice a5 u.exports.length c5]) u) := hide ⟨_, _, _, _, _, rfl, k1, k2, k3, k4, k5⟩
    have HG := hide hg1
    have HBB := hide hB
    obtain ⟨b0, b1, b2, b3, b4, d0, d1, d2, d3, d4⟩ := HB.out.gr hg1
    clear k1 k2 k3 k4 k5 hg1 HB hB
    go_wp2
    rw [put5_eq]
    go_end0
    exact ⟨_, _, _, _, _, B, w1, rfl, HBB.out, HU.out, HG.out, rfl⟩
  | inr q =>
    obtain ⟨e, p⟩ := q
    obtain ⟨rfl, hg1⟩ := h
    exact ⟨rfl, rfl, hg1⟩
end Go.Proofs.Ytkgncijcnlfhiaa
