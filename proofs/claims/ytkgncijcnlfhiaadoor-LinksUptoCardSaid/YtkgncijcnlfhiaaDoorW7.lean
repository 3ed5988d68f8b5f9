import Derived.Test.YtkgncijcnlfhiaaDoorW6e
namespace Go.Proofs.YtkgncijcnlfhiaaDoor
set_option linter.unusedVariables false
set_option linter.unusedSimpArgs false
open Go.RowKit
attribute [local go_sem ↓] Go.wp_at_zero Go.wp_at_succ

theorem carry7 {w w' : World} (g : Gr w w') {p q : Nat} {v0 v1 v2 v3 v4 v5 v6 v7 : Value}
    (h : w.cell? ⟨p, 0, none⟩ = some v0 ∧ w.cell? ⟨p, 1, none⟩ = some v1 ∧ w.cell? ⟨p, 2, none⟩ = some v2 ∧ w.cell? ⟨p, 3, none⟩ = some v3 ∧ w.cell? ⟨p, 4, none⟩ = some v4 ∧ w.cell? ⟨q, 0, none⟩ = some v5 ∧ w.cell? ⟨q, 1, none⟩ = some v6 ∧ w.cell? ⟨q, 2, none⟩ = some v7) :
    w'.cell? ⟨p, 0, none⟩ = some v0 ∧ w'.cell? ⟨p, 1, none⟩ = some v1 ∧ w'.cell? ⟨p, 2, none⟩ = some v2 ∧ w'.cell? ⟨p, 3, none⟩ = some v3 ∧ w'.cell? ⟨p, 4, none⟩ = some v4 ∧ w'.cell? ⟨q, 0, none⟩ = some v5 ∧ w'.cell? ⟨q, 1, none⟩ = some v6 ∧ w'.cell? ⟨q, 2, none⟩ = some v7 := by
  obtain ⟨h0, h1, h2, h3, h4, h5, h6, h7⟩ := h
  exact ⟨g.cell h0 (by simp), g.cell h1 (by simp), g.cell h2 (by simp), g.cell h3 (by simp), g.cell h4 (by simp), g.cell h5 (by simp), g.cell h6 (by simp), g.cell h7 (by simp)⟩

theorem RImports.shape {w : World} {v : Value} {l : List PImp} (h : RImports w v l) : ∃ ao cap, v = .slice ao l.length cap := by
  obtain ⟨ao, cap, hv, _⟩ := h; exact ⟨ao, cap, hv⟩
theorem RExports.shape {w : World} {v : Value} {l : List PExp} (h : RExports w v l) : ∃ ao cap, v = .slice ao l.length cap := by
  obtain ⟨ao, cap, hv, _⟩ := h; exact ⟨ao, cap, hv⟩

set_option maxHeartbeats 2000000 in
theorem unit_any (u : PUnit) (v : Value) (e a : Int) (w : World) (hR : RUnit w v u) :
    Calls Tryd.prog 57 #[v, .agg #[.int .i64 e, .int .i64 0, .int .i64 a]] w fun x w' =>
      x = ends (unitOk u) e a ∧ Gr w w' := by
  obtain ⟨v1, v2, v3, v4, v5, rfl, h1, h2, h3, h4, h5⟩ := hR
  have m1 := h1.choose_spec.choose_spec.2.1
  have m2 := h2.choose_spec.choose_spec.2.1
  have m3 := h3.choose_spec.choose_spec.2.1
  obtain ⟨a1, c1, rfl⟩ := h1.shape
  obtain ⟨a2, c2, rfl⟩ := h2.shape
  obtain ⟨a3, c3, rfl⟩ := h3.shape
  obtain ⟨a4, c4, rfl⟩ := h4.shape
  obtain ⟨a5, c5, rfl⟩ := h5.shape
  have H1 := hide h1
  have H2 := hide h2
  have H3 := hide h3
  have H4 := hide h4
  have H5 := hide h5
  have H2m := hide m2
  clear h1 h2 h3 h4 h5 m2
  unfold maxLen at m1 m3
  obtain ⟨k0, k1, k2, k3, k4, ke, kn, ka⟩ : ((w.alloc (.cells #[.slice a1 u.shapes.length c1, .slice a2 u.consts.length c2, .slice a3 u.funcs.length c3, .slice a4 u.imports.length c4, .slice a5 u.exports.length c5] 28)).alloc (.cells #[.int .i64 e, .int .i64 0, .int .i64 a] 83)).cell? ⟨w.heap.size, 0, none⟩ = some (.slice a1 u.shapes.length c1) ∧ ((w.alloc (.cells #[.slice a1 u.shapes.length c1, .slice a2 u.consts.length c2, .slice a3 u.funcs.length c3, .slice a4 u.imports.length c4, .slice a5 u.exports.length c5] 28)).alloc (.cells #[.int .i64 e, .int .i64 0, .int .i64 a] 83)).cell? ⟨w.heap.size, 1, none⟩ = some (.slice a2 u.consts.length c2) ∧ ((w.alloc (.cells #[.slice a1 u.shapes.length c1, .slice a2 u.consts.length c2, .slice a3 u.funcs.length c3, .slice a4 u.imports.length c4, .slice a5 u.exports.length c5] 28)).alloc (.cells #[.int .i64 e, .int .i64 0, .int .i64 a] 83)).cell? ⟨w.heap.size, 2, none⟩ = some (.slice a3 u.funcs.length c3) ∧ ((w.alloc (.cells #[.slice a1 u.shapes.length c1, .slice a2 u.consts.length c2, .slice a3 u.funcs.length c3, .slice a4 u.imports.length c4, .slice a5 u.exports.length c5] 28)).alloc (.cells #[.int .i64 e, .int .i64 0, .int .i64 a] 83)).cell? ⟨w.heap.size, 3, none⟩ = some (.slice a4 u.imports.length c4) ∧ ((w.alloc (.cells #[.slice a1 u.shapes.length c1, .slice a2 u.consts.length c2, .slice a3 u.funcs.length c3, .slice a4 u.imports.length c4, .slice a5 u.exports.length c5] 28)).alloc (.cells #[.int .i64 e, .int .i64 0, .int .i64 a] 83)).cell? ⟨w.heap.size, 4, none⟩ = some (.slice a5 u.exports.length c5) ∧ ((w.alloc (.cells #[.slice a1 u.shapes.length c1, .slice a2 u.consts.length c2, .slice a3 u.funcs.length c3, .slice a4 u.imports.length c4, .slice a5 u.exports.length c5] 28)).alloc (.cells #[.int .i64 e, .int .i64 0, .int .i64 a] 83)).cell? ⟨w.heap.size + 1, 0, none⟩ = some (.int .i64 e) ∧ ((w.alloc (.cells #[.slice a1 u.shapes.length c1, .slice a2 u.consts.length c2, .slice a3 u.funcs.length c3, .slice a4 u.imports.length c4, .slice a5 u.exports.length c5] 28)).alloc (.cells #[.int .i64 e, .int .i64 0, .int .i64 a] 83)).cell? ⟨w.heap.size + 1, 1, none⟩ = some (.int .i64 0) ∧ ((w.alloc (.cells #[.slice a1 u.shapes.length c1, .slice a2 u.consts.length c2, .slice a3 u.funcs.length c3, .slice a4 u.imports.length c4, .slice a5 u.exports.length c5] 28)).alloc (.cells #[.int .i64 e, .int .i64 0, .int .i64 a] 83)).cell? ⟨w.heap.size + 1, 2, none⟩ = some (.int .i64 a) := by
    refine ⟨?_, ?_, ?_, ?_, ?_, ?_, ?_, ?_⟩ <;> simp [go_sem]
  unfold unitOk
  cases b0 : shapesOk u.shapes
  · have B0 := hide b0
    clear b0
    go_enter Tryd.func57, Tryd.ntmps57
    go_wp2_with (first | (go_at_call 80; refine (no_of (shapes_any u.shapes _ e a _ (by exact H1.out.gr (by repeat (first | exact Gr.refl _ | assumption | refine Gr.drew ?_ | refine Gr.alloc ?_ _ | refine Gr.trans ?_ (by assumption))))) B0.out).mono ?_; rintro e w1 ⟨rfl, hg1⟩))
    exact ⟨rfl, rfl, (by repeat (first | exact Gr.refl _ | assumption | refine Gr.drew ?_ | refine Gr.alloc ?_ _ | refine Gr.trans ?_ (by assumption)))⟩
  · have B0 := hide b0
    clear b0
    cases b1 : constsOk u.consts
    · have B1 := hide b1
      clear b1
      go_enter Tryd.func57, Tryd.ntmps57
      go_wp2_with (first | (go_at_call 80; refine (yes_of (shapes_any u.shapes _ e a _ (by exact H1.out.gr (by repeat (first | exact Gr.refl _ | assumption | refine Gr.drew ?_ | refine Gr.alloc ?_ _ | refine Gr.trans ?_ (by assumption))))) B0.out).mono ?_; rintro e w1 ⟨rfl, hg1⟩; obtain ⟨k0_1, k1_1, k2_1, k3_1, k4_1, ke_1, kn_1, ka_1⟩ := carry7 hg1 ⟨k0, k1, k2, k3, k4, ke, kn, ka⟩) | (go_at_call 83; refine (no_of (consts_any _ u.consts e a _ ⟨a2, c2, rfl⟩ (by exact H2m.out)) B1.out).mono ?_; rintro e w2 ⟨rfl, hg2⟩))
      exact ⟨rfl, rfl, (by repeat (first | exact Gr.refl _ | assumption | refine Gr.drew ?_ | refine Gr.alloc ?_ _ | refine Gr.trans ?_ (by assumption)))⟩
    · have B1 := hide b1
      clear b1
      cases b2 : funcsOk u.funcs u.shapes.length
      · have B2 := hide b2
        clear b2
        go_enter Tryd.func57, Tryd.ntmps57
        go_wp2_with (first | (go_at_call 80; refine (yes_of (shapes_any u.shapes _ e a _ (by exact H1.out.gr (by repeat (first | exact Gr.refl _ | assumption | refine Gr.drew ?_ | refine Gr.alloc ?_ _ | refine Gr.trans ?_ (by assumption))))) B0.out).mono ?_; rintro e w1 ⟨rfl, hg1⟩; obtain ⟨k0_1, k1_1, k2_1, k3_1, k4_1, ke_1, kn_1, ka_1⟩ := carry7 hg1 ⟨k0, k1, k2, k3, k4, ke, kn, ka⟩) | (go_at_call 83; refine (yes_of (consts_any _ u.consts e a _ ⟨a2, c2, rfl⟩ (by exact H2m.out)) B1.out).mono ?_; rintro e w2 ⟨rfl, hg2⟩; obtain ⟨k0_2, k1_2, k2_2, k3_2, k4_2, ke_2, kn_2, ka_2⟩ := carry7 hg2 ⟨k0_1, k1_1, k2_1, k3_1, k4_1, ke_1, kn_1, ka_1⟩) | (go_at_call 86; refine (no_of (funcs_any u.funcs _ u.shapes.length e a _ (by exact H3.out.gr (by repeat (first | exact Gr.refl _ | assumption | refine Gr.drew ?_ | refine Gr.alloc ?_ _ | refine Gr.trans ?_ (by assumption))))) B2.out).mono ?_; rintro e w3 ⟨rfl, hg3⟩))
        exact ⟨rfl, rfl, (by repeat (first | exact Gr.refl _ | assumption | refine Gr.drew ?_ | refine Gr.alloc ?_ _ | refine Gr.trans ?_ (by assumption)))⟩
      · have B2 := hide b2
        clear b2
        cases b3 : importsOk u.imports u.shapes.length
        · have B3 := hide b3
          clear b3
          go_enter Tryd.func57, Tryd.ntmps57
          go_wp2_with (first | (go_at_call 80; refine (yes_of (shapes_any u.shapes _ e a _ (by exact H1.out.gr (by repeat (first | exact Gr.refl _ | assumption | refine Gr.drew ?_ | refine Gr.alloc ?_ _ | refine Gr.trans ?_ (by assumption))))) B0.out).mono ?_; rintro e w1 ⟨rfl, hg1⟩; obtain ⟨k0_1, k1_1, k2_1, k3_1, k4_1, ke_1, kn_1, ka_1⟩ := carry7 hg1 ⟨k0, k1, k2, k3, k4, ke, kn, ka⟩) | (go_at_call 83; refine (yes_of (consts_any _ u.consts e a _ ⟨a2, c2, rfl⟩ (by exact H2m.out)) B1.out).mono ?_; rintro e w2 ⟨rfl, hg2⟩; obtain ⟨k0_2, k1_2, k2_2, k3_2, k4_2, ke_2, kn_2, ka_2⟩ := carry7 hg2 ⟨k0_1, k1_1, k2_1, k3_1, k4_1, ke_1, kn_1, ka_1⟩) | (go_at_call 86; refine (yes_of (funcs_any u.funcs _ u.shapes.length e a _ (by exact H3.out.gr (by repeat (first | exact Gr.refl _ | assumption | refine Gr.drew ?_ | refine Gr.alloc ?_ _ | refine Gr.trans ?_ (by assumption))))) B2.out).mono ?_; rintro e w3 ⟨rfl, hg3⟩; obtain ⟨k0_3, k1_3, k2_3, k3_3, k4_3, ke_3, kn_3, ka_3⟩ := carry7 hg3 ⟨k0_2, k1_2, k2_2, k3_2, k4_2, ke_2, kn_2, ka_2⟩) | (go_at_call 89; refine (no_of (imports_any u.imports _ u.shapes.length e a _ (by exact H4.out.gr (by repeat (first | exact Gr.refl _ | assumption | refine Gr.drew ?_ | refine Gr.alloc ?_ _ | refine Gr.trans ?_ (by assumption))))) B3.out).mono ?_; rintro e w4 ⟨rfl, hg4⟩))
          exact ⟨rfl, rfl, (by repeat (first | exact Gr.refl _ | assumption | refine Gr.drew ?_ | refine Gr.alloc ?_ _ | refine Gr.trans ?_ (by assumption)))⟩
        · have B3 := hide b3
          clear b3
          cases b4 : exportsOk u.exports u.funcs.length
          · have B4 := hide b4
            clear b4
            have HL : Hid ((u.funcs.length : Int) ≤ 1000000) := hide (by have := B2.out; simp [funcsOk, wB] at this; omega)
            go_enter Tryd.func57, Tryd.ntmps57
            go_wp2_with (first | (go_at_call 80; refine (yes_of (shapes_any u.shapes _ e a _ (by exact H1.out.gr (by repeat (first | exact Gr.refl _ | assumption | refine Gr.drew ?_ | refine Gr.alloc ?_ _ | refine Gr.trans ?_ (by assumption))))) B0.out).mono ?_; rintro e w1 ⟨rfl, hg1⟩; obtain ⟨k0_1, k1_1, k2_1, k3_1, k4_1, ke_1, kn_1, ka_1⟩ := carry7 hg1 ⟨k0, k1, k2, k3, k4, ke, kn, ka⟩) | (go_at_call 83; refine (yes_of (consts_any _ u.consts e a _ ⟨a2, c2, rfl⟩ (by exact H2m.out)) B1.out).mono ?_; rintro e w2 ⟨rfl, hg2⟩; obtain ⟨k0_2, k1_2, k2_2, k3_2, k4_2, ke_2, kn_2, ka_2⟩ := carry7 hg2 ⟨k0_1, k1_1, k2_1, k3_1, k4_1, ke_1, kn_1, ka_1⟩) | (go_at_call 86; refine (yes_of (funcs_any u.funcs _ u.shapes.length e a _ (by exact H3.out.gr (by repeat (first | exact Gr.refl _ | assumption | refine Gr.drew ?_ | refine Gr.alloc ?_ _ | refine Gr.trans ?_ (by assumption))))) B2.out).mono ?_; rintro e w3 ⟨rfl, hg3⟩; obtain ⟨k0_3, k1_3, k2_3, k3_3, k4_3, ke_3, kn_3, ka_3⟩ := carry7 hg3 ⟨k0_2, k1_2, k2_2, k3_2, k4_2, ke_2, kn_2, ka_2⟩) | (go_at_call 89; refine (yes_of (imports_any u.imports _ u.shapes.length e a _ (by exact H4.out.gr (by repeat (first | exact Gr.refl _ | assumption | refine Gr.drew ?_ | refine Gr.alloc ?_ _ | refine Gr.trans ?_ (by assumption))))) B3.out).mono ?_; rintro e w4 ⟨rfl, hg4⟩; obtain ⟨k0_4, k1_4, k2_4, k3_4, k4_4, ke_4, kn_4, ka_4⟩ := carry7 hg4 ⟨k0_3, k1_3, k2_3, k3_3, k4_3, ke_3, kn_3, ka_3⟩) | (go_at_call 92; refine (no_of (exports_any u.exports _ u.funcs.length e a _ (by omega) (by exact HL.out) (by exact H5.out.gr (by repeat (first | exact Gr.refl _ | assumption | refine Gr.drew ?_ | refine Gr.alloc ?_ _ | refine Gr.trans ?_ (by assumption))))) B4.out).mono ?_; rintro e w5 ⟨rfl, hg5⟩))
            exact ⟨rfl, rfl, (by repeat (first | exact Gr.refl _ | assumption | refine Gr.drew ?_ | refine Gr.alloc ?_ _ | refine Gr.trans ?_ (by assumption)))⟩
          · have B4 := hide b4
            clear b4
            have HL : Hid ((u.funcs.length : Int) ≤ 1000000) := hide (by have := B2.out; simp [funcsOk, wB] at this; omega)
            go_enter Tryd.func57, Tryd.ntmps57
            go_wp2_with (first | (go_at_call 80; refine (yes_of (shapes_any u.shapes _ e a _ (by exact H1.out.gr (by repeat (first | exact Gr.refl _ | assumption | refine Gr.drew ?_ | refine Gr.alloc ?_ _ | refine Gr.trans ?_ (by assumption))))) B0.out).mono ?_; rintro e w1 ⟨rfl, hg1⟩; obtain ⟨k0_1, k1_1, k2_1, k3_1, k4_1, ke_1, kn_1, ka_1⟩ := carry7 hg1 ⟨k0, k1, k2, k3, k4, ke, kn, ka⟩) | (go_at_call 83; refine (yes_of (consts_any _ u.consts e a _ ⟨a2, c2, rfl⟩ (by exact H2m.out)) B1.out).mono ?_; rintro e w2 ⟨rfl, hg2⟩; obtain ⟨k0_2, k1_2, k2_2, k3_2, k4_2, ke_2, kn_2, ka_2⟩ := carry7 hg2 ⟨k0_1, k1_1, k2_1, k3_1, k4_1, ke_1, kn_1, ka_1⟩) | (go_at_call 86; refine (yes_of (funcs_any u.funcs _ u.shapes.length e a _ (by exact H3.out.gr (by repeat (first | exact Gr.refl _ | assumption | refine Gr.drew ?_ | refine Gr.alloc ?_ _ | refine Gr.trans ?_ (by assumption))))) B2.out).mono ?_; rintro e w3 ⟨rfl, hg3⟩; obtain ⟨k0_3, k1_3, k2_3, k3_3, k4_3, ke_3, kn_3, ka_3⟩ := carry7 hg3 ⟨k0_2, k1_2, k2_2, k3_2, k4_2, ke_2, kn_2, ka_2⟩) | (go_at_call 89; refine (yes_of (imports_any u.imports _ u.shapes.length e a _ (by exact H4.out.gr (by repeat (first | exact Gr.refl _ | assumption | refine Gr.drew ?_ | refine Gr.alloc ?_ _ | refine Gr.trans ?_ (by assumption))))) B3.out).mono ?_; rintro e w4 ⟨rfl, hg4⟩; obtain ⟨k0_4, k1_4, k2_4, k3_4, k4_4, ke_4, kn_4, ka_4⟩ := carry7 hg4 ⟨k0_3, k1_3, k2_3, k3_3, k4_3, ke_3, kn_3, ka_3⟩) | (go_at_call 92; refine (yes_of (exports_any u.exports _ u.funcs.length e a _ (by omega) (by exact HL.out) (by exact H5.out.gr (by repeat (first | exact Gr.refl _ | assumption | refine Gr.drew ?_ | refine Gr.alloc ?_ _ | refine Gr.trans ?_ (by assumption))))) B4.out).mono ?_; rintro e w5 ⟨rfl, hg5⟩; obtain ⟨k0_5, k1_5, k2_5, k3_5, k4_5, ke_5, kn_5, ka_5⟩ := carry7 hg5 ⟨k0_4, k1_4, k2_4, k3_4, k4_4, ke_4, kn_4, ka_4⟩))
            go_end0
            exact ⟨rfl, (by repeat (first | exact Gr.refl _ | assumption | refine Gr.drew ?_ | refine Gr.alloc ?_ _ | refine Gr.trans ?_ (by assumption)))⟩
end Go.Proofs.YtkgncijcnlfhiaaDoor

