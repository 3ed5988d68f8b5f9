import Derived.Test.YtkgncijcnlfhiabGreatZ8
import Derived.Test.YtkgncijcnlfhiabGreatZ9
import Derived.Deep.Cut
import Derived.Deep.CutRange
import Derived.Test.YtkgncijcnlfhiabGreatZ6
namespace Go.Proofs.YtkgncijcnlfhiabGreat
set_option linter.unusedVariables false
set_option linter.unusedSimpArgs false
open Go.RowKit
attribute [local go_sem ↓] Go.wp_at_zero Go.wp_at_succ

set_option maxRecDepth 100000 in
set_option maxHeartbeats 4000000 in
theorem eff_17 (u : PUnit) (f : PFunc) (ja jb : Nat) (ha1 : ja ≤ 65535) (hb1 : jb ≤ 65535) (st : List Int) (v1 v2 v3 v4 v5 vs vst : Value) (n a : Int) (W w : World) (hS : Sc W u (f.params ++ f.locals) v1 v2 v3 v4 vs) (hW : Gr W w) (hst : RInts w vst st) (hcl : f.code.length ≤ 1000000) :
    Calls Tryz.prog 107 #[.agg #[v1, v2, v3, v4, v5, vs, .int .i64 (f.code.length : Int), .int .i64 f.result], .agg #[.int .i64 17, .int .i64 (ja : Int), .int .i64 (jb : Int)], vst, .agg #[.int .i64 10, .int .i64 n, .int .i64 a]] w (EffR (effQ u f ⟨17, (ja : Int), (jb : Int)⟩ st) n a w) := by
  have HQ0 : Hid (∀ sl', f.params ++ f.locals = sl' → effQ u f ⟨17, (ja : Int), (jb : Int)⟩ st = (fieldP u ⟨17, (ja : Int), (jb : Int)⟩).map fun y => ([(ja : Int), y], [])) := hide (fun sl' h => by subst h; unfold effQ effP; unfold fieldP shapeP; simp only [Option.map_bind]; rfl)
  generalize hsl : f.params ++ f.locals = sl at hS
  have HQ1 := hide (HQ0.out sl hsl)
  clear hsl HQ0
  obtain ⟨a2, c2, rfl⟩ := hS.co
  obtain ⟨a1, c1, rfl⟩ := hS.sh.shape
  obtain ⟨a3, c3, rfl⟩ := hS.fu.shape
  obtain ⟨a4, c4, hv4⟩ : ∃ ao cap, v4 = .slice ao u.imports.length cap := by obtain ⟨ao, cap, h, _⟩ := hS.im; exact ⟨ao, cap, h⟩
  subst hv4
  obtain ⟨al, cs, rfl⟩ := hS.sl.shape
  obtain ⟨at_, ct, rfl⟩ := hst.shape
  have HS := hide hS
  have HWW := hide hW
  have HB := hide (Efb.new w (.slice a1 u.shapes.length c1) (.slice a2 u.consts.length c2) (.slice a3 u.funcs.length c3) (.slice a4 u.imports.length c4) v5 (.slice al sl.length cs) (.int .i64 (f.code.length : Int)) (.int .i64 f.result) 17 (ja : Int) (jb : Int) n a)
  clear hS hst hW
  cases hx : fieldP u ⟨17, (ja : Int), (jb : Int)⟩ with
  | some y =>
    have HX := hide hx
    have HQ : Hid (effQ u f ⟨17, (ja : Int), (jb : Int)⟩ st = some ([(ja : Int), y], [])) := hide (by rw [HQ1.out, hx]; rfl)
    clear hx HQ1
    have HF : Hid (∀ U : World, Gr w U → Calls Tryz.prog 139 #[.agg #[.slice a1 u.shapes.length c1, .slice a2 u.consts.length c2, .slice a3 u.funcs.length c3, .slice a4 u.imports.length c4, v5, .slice al sl.length cs, .int .i64 (f.code.length : Int), .int .i64 f.result], .agg #[.int .i64 17, .int .i64 (ja : Int), .int .i64 (jb : Int)], .agg #[.int .i64 10, .int .i64 n, .int .i64 a]] U fun x w' => x = .returned (.int .i64 y) ∧ Gr U w') := hide (fun U hU => field_yes HX.out (by simp) (by simp; omega) (by simp) (by simp; omega) _ _ _ _ _ _ _ _ _ _ W _ HS.out.sh (HWW.out.trans hU))
    go_enter Tryz.func107, Tryz.ntmps107
    go_wp2_with fail
    rw [efW_eq]
    generalize efW w (.slice a1 u.shapes.length c1) (.slice a2 u.consts.length c2) (.slice a3 u.funcs.length c3) (.slice a4 u.imports.length c4) v5 (.slice al sl.length cs) (.int .i64 (f.code.length : Int)) (.int .i64 f.result) 17 (ja : Int) (jb : Int) n a = V at HB ⊢
    have hszV := HB.out.sz
    obtain ⟨-, -, s0, s1, s2, s3, s4, s5, s6, s7, i0, i1, i2, y0, y1, y2, -, -, -, -⟩ := HB.out
    go_region_held3 (fun w' => w'.cell? ⟨w.heap.size, 0, none⟩ = some (.slice a1 u.shapes.length c1) ∧ w'.cell? ⟨w.heap.size, 1, none⟩ = some (.slice a2 u.consts.length c2) ∧ w'.cell? ⟨w.heap.size, 2, none⟩ = some (.slice a3 u.funcs.length c3) ∧ w'.cell? ⟨w.heap.size, 3, none⟩ = some (.slice a4 u.imports.length c4) ∧ w'.cell? ⟨w.heap.size, 4, none⟩ = some (v5) ∧ w'.cell? ⟨w.heap.size, 5, none⟩ = some (.slice al sl.length cs) ∧ w'.cell? ⟨w.heap.size, 6, none⟩ = some (.int .i64 (f.code.length : Int)) ∧ w'.cell? ⟨w.heap.size, 7, none⟩ = some (.int .i64 f.result) ∧ w'.cell? ⟨w.heap.size + 1, 0, none⟩ = some (.int .i64 17) ∧ w'.cell? ⟨w.heap.size + 1, 1, none⟩ = some (.int .i64 (ja : Int)) ∧ w'.cell? ⟨w.heap.size + 1, 2, none⟩ = some (.int .i64 (jb : Int)) ∧ w'.cell? ⟨w.heap.size + 1 + 1, 0, none⟩ = some (.int .i64 10) ∧ w'.cell? ⟨w.heap.size + 1 + 1, 1, none⟩ = some (.int .i64 n) ∧ w'.cell? ⟨w.heap.size + 1 + 1, 2, none⟩ = some (.int .i64 a)) (first | (go_keep; done) | exact keepE hg' (by assumption) | exact keepE hg2 (by assumption) | exact keepP ⟨hE.s0, hE.s1, hE.s2, hE.s3, hE.s4, hE.s5, hE.s6, hE.s7, hE.i0, hE.i1, hE.i2, hE.y0, hE.y1, hE.y2⟩) (first | (go_at_call 139; refine (HF.out _ (HB.out.gr.trans (by repeat (first | with_reducible exact Gr.refl _ | with_reducible refine Gr.drew ?_ | with_reducible refine Gr.alloc ?_ _ | refine Gr.trans ?_ (by assumption))))).mono ?_; rintro e w' ⟨rfl, hg'⟩; have hE := HB.out.go (show Gr V w' from (by repeat (first | with_reducible exact Gr.refl _ | with_reducible refine Gr.drew ?_ | with_reducible refine Gr.alloc ?_ _ | refine Gr.trans ?_ (by assumption)))); have hsz := hE.sz; have r0 := hE.r0; have r1 := hE.r1; have z0 := hE.z0; have z1 := hE.z1) | (go_at_call 134; refine (kinds_gr _ _).mono ?_; rintro e w2 ⟨rfl, hg2⟩; have hE := HB.out.go (show Gr V w2 from (by repeat (first | with_reducible exact Gr.refl _ | with_reducible refine Gr.drew ?_ | with_reducible refine Gr.alloc ?_ _ | refine Gr.trans ?_ (by assumption)))); have hsz := hE.sz; have r0 := hE.r0; have r1 := hE.r1; have z0 := hE.z0; have z1 := hE.z1))
    all_goals go_wp2_with fail
    all_goals rw [put2_eq]
    all_goals have hp0 := fun y0 y1 => (put2_at (y0 := y0) (y1 := y1) hE.r0 hE.r1).1
    all_goals have hp1 := fun y0 y1 => (put2_at (y0 := y0) (y1 := y1) hE.r0 hE.r1).2
    all_goals exact bodyPost_ret (by simp [results, Tryz.results107, go_sem, hp0, hp1]) rfl (eff_post HQ.out (put2_gr hE.gr (by omega)) (by first | exact rints_nil _ | exact HRV.out.gr (HWW.out.trans (put2_gr hE.gr (by omega))) | exact one_put (w := w) (by repeat (first | assumption | with_reducible exact cell_new1 _ _ _ | with_reducible exact cell_new1d _ _ _ | with_reducible exact (cell_new2 _ _ _ _).1 | with_reducible exact (cell_new2 _ _ _ _).2 | with_reducible refine cell_drew ?_ | with_reducible refine (World.grownBy_alloc _ _ none).cell ?_ (by simp) | refine World.grownBy.cell (row := none) (by assumption) ?_ (by simp))) (by omega) | exact two_put (w := w) (by repeat (first | assumption | with_reducible exact cell_new1 _ _ _ | with_reducible exact cell_new1d _ _ _ | with_reducible exact (cell_new2 _ _ _ _).1 | with_reducible exact (cell_new2 _ _ _ _).2 | with_reducible refine cell_drew ?_ | with_reducible refine (World.grownBy_alloc _ _ none).cell ?_ (by simp) | refine World.grownBy.cell (row := none) (by assumption) ?_ (by simp))) (by repeat (first | assumption | with_reducible exact cell_new1 _ _ _ | with_reducible exact cell_new1d _ _ _ | with_reducible exact (cell_new2 _ _ _ _).1 | with_reducible exact (cell_new2 _ _ _ _).2 | with_reducible refine cell_drew ?_ | with_reducible refine (World.grownBy_alloc _ _ none).cell ?_ (by simp) | refine World.grownBy.cell (row := none) (by assumption) ?_ (by simp))) (by omega)) (by first | exact rints_nil _ | exact HRV.out.gr (HWW.out.trans (put2_gr hE.gr (by omega))) | exact one_put (w := w) (by repeat (first | assumption | with_reducible exact cell_new1 _ _ _ | with_reducible exact cell_new1d _ _ _ | with_reducible exact (cell_new2 _ _ _ _).1 | with_reducible exact (cell_new2 _ _ _ _).2 | with_reducible refine cell_drew ?_ | with_reducible refine (World.grownBy_alloc _ _ none).cell ?_ (by simp) | refine World.grownBy.cell (row := none) (by assumption) ?_ (by simp))) (by omega) | exact two_put (w := w) (by repeat (first | assumption | with_reducible exact cell_new1 _ _ _ | with_reducible exact cell_new1d _ _ _ | with_reducible exact (cell_new2 _ _ _ _).1 | with_reducible exact (cell_new2 _ _ _ _).2 | with_reducible refine cell_drew ?_ | with_reducible refine (World.grownBy_alloc _ _ none).cell ?_ (by simp) | refine World.grownBy.cell (row := none) (by assumption) ?_ (by simp))) (by repeat (first | assumption | with_reducible exact cell_new1 _ _ _ | with_reducible exact cell_new1d _ _ _ | with_reducible exact (cell_new2 _ _ _ _).1 | with_reducible exact (cell_new2 _ _ _ _).2 | with_reducible refine cell_drew ?_ | with_reducible refine (World.grownBy_alloc _ _ none).cell ?_ (by simp) | refine World.grownBy.cell (row := none) (by assumption) ?_ (by simp))) (by omega)))
  | none =>
    have HX := hide hx
    have HQ : Hid (effQ u f ⟨17, (ja : Int), (jb : Int)⟩ st = none) := hide (by rw [HQ1.out, hx]; rfl)
    clear hx HQ1
    have HF : Hid (∀ U : World, Gr w U → Calls Tryz.prog 139 #[.agg #[.slice a1 u.shapes.length c1, .slice a2 u.consts.length c2, .slice a3 u.funcs.length c3, .slice a4 u.imports.length c4, v5, .slice al sl.length cs, .int .i64 (f.code.length : Int), .int .i64 f.result], .agg #[.int .i64 17, .int .i64 (ja : Int), .int .i64 (jb : Int)], .agg #[.int .i64 10, .int .i64 n, .int .i64 a]] U fun x w' => x = .panicked (thr3 10 n a) ∧ Gr U w') := hide (fun U hU => field_no HX.out (by simp) (by simp; omega) (by simp) (by simp; omega) _ _ _ _ _ _ _ _ _ _ W _ HS.out.sh (HWW.out.trans hU))
    go_enter Tryz.func107, Tryz.ntmps107
    go_wp2_with fail
    rw [efW_eq]
    generalize efW w (.slice a1 u.shapes.length c1) (.slice a2 u.consts.length c2) (.slice a3 u.funcs.length c3) (.slice a4 u.imports.length c4) v5 (.slice al sl.length cs) (.int .i64 (f.code.length : Int)) (.int .i64 f.result) 17 (ja : Int) (jb : Int) n a = V at HB ⊢
    have hszV := HB.out.sz
    obtain ⟨-, -, s0, s1, s2, s3, s4, s5, s6, s7, i0, i1, i2, y0, y1, y2, -, -, -, -⟩ := HB.out
    obtain ⟨-, -, t0, t1, t2, t3, t4, t5, t6, t7, j0, j1, j2, q0, q1, q2, -, -, -, -⟩ := HB.out.go (Gr.alloc (Gr.refl V) (.cells #[.int .i64 (ja : Int)] 3))
    go_region_law (first | (refine step_dies rfl 139 _ _ rfl #[.agg #[.slice a1 u.shapes.length c1, .slice a2 u.consts.length c2, .slice a3 u.funcs.length c3, .slice a4 u.imports.length c4, v5, .slice al sl.length cs, .int .i64 (f.code.length : Int), .int .i64 f.result], .agg #[.int .i64 17, .int .i64 (ja : Int), .int .i64 (jb : Int)], .agg #[.int .i64 10, .int .i64 n, .int .i64 a]] (by simp [Act.eval, Act.put]) (Tryz.callField _ _) ((HF.out _ (HB.out.gr.trans (by repeat (first | with_reducible exact Gr.refl _ | with_reducible refine Gr.drew ?_ | with_reducible refine Gr.alloc ?_ _ | refine Gr.trans ?_ (by assumption))))).mono ?_); rintro x w' ⟨rfl, hg'⟩; refine ⟨_, rfl, ?_⟩; refine left_region ?_) | (refine step_calls_ rfl 134 _ _ rfl #[.slice (some ⟨V.heap.size, 0, none⟩) 1 1] (by simp [Act.eval, Act.put]) (Tryz.callKinds _ _) ((kinds_gr _ _).mono ?_); rintro x w2 ⟨rfl, hg2⟩; refine ⟨_, rfl, ?_⟩; have hE := HB.out.go (show Gr V w2 from (by repeat (first | with_reducible exact Gr.refl _ | with_reducible refine Gr.drew ?_ | with_reducible refine Gr.alloc ?_ _ | refine Gr.trans ?_ (by assumption)))); have hE' := hE; obtain ⟨-, -, s0, s1, s2, s3, s4, s5, s6, s7, i0, i1, i2, y0, y1, y2, -, -, -, -⟩ := hE'))
    all_goals exact ⟨rfl, HB.out.gr.trans (by repeat (first | with_reducible exact Gr.refl _ | with_reducible refine Gr.drew ?_ | with_reducible refine Gr.alloc ?_ _ | refine Gr.trans ?_ (by assumption))), by rw [HQ.out]⟩
end Go.Proofs.YtkgncijcnlfhiabGreat

namespace Go.Proofs.YtkgncijcnlfhiabGreat
set_option linter.unusedVariables false
set_option linter.unusedSimpArgs false
open Go.RowKit
theorem ins_nat {i : PIns} (h : insOk i = true) : (0 ≤ i.op ∧ i.op ≤ 20) ∧ (i.op = 1 ∨ ((0 ≤ i.a ∧ i.a ≤ 65535) ∧ 0 ≤ i.b ∧ i.b ≤ 65535)) := by
  unfold insOk operandOk wB at h
  simp only [Bool.and_eq_true, decide_eq_true_eq] at h
  obtain ⟨h1, h2, h3⟩ := h
  refine ⟨h1, ?_⟩
  by_cases e : i.op = 1
  · exact .inl e
  · right
    rw [if_neg e] at h2
    constructor
    · by_cases c : 1 ≤ operandsN i.op
      · rw [if_pos c] at h2; simpa using h2
      · rw [if_neg c] at h2; simp at h2; omega
    · by_cases c : 2 ≤ operandsN i.op
      · rw [if_pos c] at h3; simpa using h3
      · rw [if_neg c] at h3; simp at h3; omega
theorem effect_any (u : PUnit) (f : PFunc) (i : PIns) (hi : insOk i = true) (st : List Int) (v1 v2 v3 v4 v5 vs vst : Value) (n a : Int) (W w : World) (hS : Sc W u (f.params ++ f.locals) v1 v2 v3 v4 vs) (hW : Gr W w) (hst : RInts w vst st) (hcl : f.code.length ≤ 1000000) :
    Calls Tryz.prog 107 #[.agg #[v1, v2, v3, v4, v5, vs, .int .i64 (f.code.length : Int), .int .i64 f.result], .agg #[.int .i64 i.op, .int .i64 i.a, .int .i64 i.b], vst, .agg #[.int .i64 10, .int .i64 n, .int .i64 a]] w (EffR (effQ u f i st) n a w) := by
  obtain ⟨hop, hab⟩ := ins_nat hi
  obtain ⟨op, ia, ib⟩ := i
  simp only at hop hab ⊢
  by_cases h1 : op = 1
  · subst h1
    exact eff_1 u f ia ib st v1 v2 v3 v4 v5 vs vst n a W w hS hW hst hcl
  · have hab' := hab.resolve_left h1
    obtain ⟨ja, rfl⟩ : ∃ j : Nat, ia = (j : Int) := ⟨ia.toNat, by omega⟩
    obtain ⟨jb, rfl⟩ : ∃ j : Nat, ib = (j : Int) := ⟨ib.toNat, by omega⟩
    have ha1 : ja ≤ 65535 := by omega
    have hb1 : jb ≤ 65535 := by omega
    have hd : op = 0 ∨ op = 2 ∨ op = 3 ∨ op = 4 ∨ op = 5 ∨ op = 6 ∨ op = 7 ∨ op = 8 ∨ op = 9 ∨ op = 10 ∨ op = 11 ∨ op = 12 ∨ op = 13 ∨ op = 14 ∨ op = 15 ∨ op = 16 ∨ op = 17 ∨ op = 18 ∨ op = 19 ∨ op = 20 := by omega
    clear hab hab' hop h1 hi
    rcases hd with rfl | rfl | rfl | rfl | rfl | rfl | rfl | rfl | rfl | rfl | rfl | rfl | rfl | rfl | rfl | rfl | rfl | rfl | rfl | rfl
    · exact eff_0 u f ja jb ha1 hb1 st v1 v2 v3 v4 v5 vs vst n a W w hS hW hst hcl
    · exact eff_2 u f ja jb ha1 hb1 st v1 v2 v3 v4 v5 vs vst n a W w hS hW hst hcl
    · exact eff_3 u f ja jb ha1 hb1 st v1 v2 v3 v4 v5 vs vst n a W w hS hW hst hcl
    · exact eff_4 u f ja jb ha1 hb1 st v1 v2 v3 v4 v5 vs vst n a W w hS hW hst hcl
    · exact eff_5 u f ja jb ha1 hb1 st v1 v2 v3 v4 v5 vs vst n a W w hS hW hst hcl
    · exact eff_6 u f ja jb ha1 hb1 st v1 v2 v3 v4 v5 vs vst n a W w hS hW hst hcl
    · exact eff_7 u f ja jb ha1 hb1 st v1 v2 v3 v4 v5 vs vst n a W w hS hW hst hcl
    · exact eff_8 u f ja jb ha1 hb1 st v1 v2 v3 v4 v5 vs vst n a W w hS hW hst hcl
    · exact eff_9 u f ja jb ha1 hb1 st v1 v2 v3 v4 v5 vs vst n a W w hS hW hst hcl
    · exact eff_10 u f ja jb ha1 hb1 st v1 v2 v3 v4 v5 vs vst n a W w hS hW hst hcl
    · exact eff_11 u f ja jb ha1 hb1 st v1 v2 v3 v4 v5 vs vst n a W w hS hW hst hcl
    · exact eff_12 u f ja jb ha1 hb1 st v1 v2 v3 v4 v5 vs vst n a W w hS hW hst hcl
    · exact eff_13 u f ja jb ha1 hb1 st v1 v2 v3 v4 v5 vs vst n a W w hS hW hst hcl
    · exact eff_14 u f ja jb ha1 hb1 st v1 v2 v3 v4 v5 vs vst n a W w hS hW hst hcl
    · exact eff_15 u f ja jb ha1 hb1 st v1 v2 v3 v4 v5 vs vst n a W w hS hW hst hcl
    · exact eff_16 u f ja jb ha1 hb1 st v1 v2 v3 v4 v5 vs vst n a W w hS hW hst hcl
    · exact eff_17 u f ja jb ha1 hb1 st v1 v2 v3 v4 v5 vs vst n a W w hS hW hst hcl
    · exact eff_18 u f ja jb ha1 hb1 st v1 v2 v3 v4 v5 vs vst n a W w hS hW hst hcl
    · exact eff_19 u f ja jb ha1 hb1 st v1 v2 v3 v4 v5 vs vst n a W w hS hW hst hcl
    · exact eff_20 u f ja jb ha1 hb1 st v1 v2 v3 v4 v5 vs vst n a W w hS hW hst hcl
end Go.Proofs.YtkgncijcnlfhiabGreat

namespace Go.Proofs.YtkgncijcnlfhiabGreat
set_option linter.unusedVariables false
set_option linter.unusedSimpArgs false
open Go.RowKit
attribute [local go_sem ↓] Go.wp_at_zero Go.wp_at_succ
theorem z3 {w w1 : World} {t : TypeId} (g : Gr (w.alloc (.cells #[.int .i64 0, .int .i64 0, .int .i64 0] t)).drew w1) : w1.cell? ⟨w.heap.size, 0, none⟩ = some (.int .i64 0) ∧ w1.cell? ⟨w.heap.size, 1, none⟩ = some (.int .i64 0) ∧ w1.cell? ⟨w.heap.size, 2, none⟩ = some (.int .i64 0) ∧ w1.frozen? ⟨w.heap.size, 0, none⟩ = false ∧ w1.frozen? ⟨w.heap.size, 1, none⟩ = false ∧ w1.frozen? ⟨w.heap.size, 2, none⟩ = false := by
  have hb : w1.heap[w.heap.size]? = some (.cells #[.int .i64 0, .int .i64 0, .int .i64 0] t (0, 0)) := (g.block w.heap.size (by simp) (by simp)).trans (heap_alloc_new w _)
  refine ⟨?_, ?_, ?_, ?_, ?_, ?_⟩
  · rw [heap_cell_ hb]; rfl
  · rw [heap_cell_ hb]; rfl
  · rw [heap_cell_ hb]; rfl
  · exact heap_frozen_ hb
  · exact heap_frozen_ hb
  · exact heap_frozen_ hb
theorem z3b {w w1 : World} {t t' : TypeId} (g : Gr ((w.alloc (.cells #[.int .i64 0, .int .i64 0, .int .i64 0] t)).alloc (.cells #[.int .i64 0, .int .i64 0, .int .i64 0] t')).drew w1) : w1.cell? ⟨w.heap.size, 0, none⟩ = some (.int .i64 0) ∧ w1.cell? ⟨w.heap.size, 1, none⟩ = some (.int .i64 0) ∧ w1.cell? ⟨w.heap.size, 2, none⟩ = some (.int .i64 0) ∧ w1.frozen? ⟨w.heap.size, 0, none⟩ = false ∧ w1.frozen? ⟨w.heap.size, 1, none⟩ = false ∧ w1.frozen? ⟨w.heap.size, 2, none⟩ = false :=
  by
  have g0 := World.grownBy_alloc (w.alloc (.cells #[.int .i64 0, .int .i64 0, .int .i64 0] t)) (.cells #[.int .i64 0, .int .i64 0, .int .i64 0] t') none
  have g1 : Gr (w.alloc (.cells #[.int .i64 0, .int .i64 0, .int .i64 0] t)).drew ((w.alloc (.cells #[.int .i64 0, .int .i64 0, .int .i64 0] t)).alloc (.cells #[.int .i64 0, .int .i64 0, .int .i64 0] t')).drew := ⟨g0.os, g0.tape, g0.output, g0.size, g0.block⟩
  exact z3 (t := t) (g1.trans g)
/-- behind the first statement: the instruction and the refusal, each in a block of its own -/
structure Lk0 (w wx : World) (i : PIns) (n q ib wb : Nat) : Prop where
  gr : Gr w wx
  il : w.heap.size ≤ ib
  wl : w.heap.size ≤ wb
  c0 : wx.cell? ⟨ib, 0, none⟩ = some (.int .i64 i.op)
  c1 : wx.cell? ⟨ib, 1, none⟩ = some (.int .i64 i.a)
  c2 : wx.cell? ⟨ib, 2, none⟩ = some (.int .i64 i.b)
  y0 : wx.cell? ⟨wb, 0, none⟩ = some (.int .i64 10)
  y1 : wx.cell? ⟨wb, 1, none⟩ = some (.int .i64 (n : Int))
  y2 : wx.cell? ⟨wb, 2, none⟩ = some (.int .i64 (q : Int))
theorem Lk0.go {w wx wy : World} {i : PIns} {n q ib wb : Nat} (h : Lk0 w wx i n q ib wb) (g : Gr wx wy) : Lk0 w wy i n q ib wb :=
  ⟨h.gr.trans g, h.il, h.wl, g.cell h.c0 (by simp), g.cell h.c1 (by simp), g.cell h.c2 (by simp), g.cell h.y0 (by simp), g.cell h.y1 (by simp), g.cell h.y2 (by simp)⟩
def Cut0 (w : World) (i : PIns) (n q : Nat) (vst : Value) (a4 a5 a6 : Value) (wx : World) : Prop := ∃ ib wb, a4 = .pointer (some ⟨ib, 0, none⟩) ∧ a5 = vst ∧ a6 = .pointer (some ⟨wb, 0, none⟩) ∧ Lk0 w wx i n q ib wb
end Go.Proofs.YtkgncijcnlfhiabGreat

