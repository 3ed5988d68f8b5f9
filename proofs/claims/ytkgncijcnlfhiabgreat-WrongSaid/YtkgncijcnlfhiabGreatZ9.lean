import Derived.Test.YtkgncijcnlfhiabGreatZ8
namespace Go.Proofs.YtkgncijcnlfhiabGreat
set_option linter.unusedVariables false
set_option linter.unusedSimpArgs false
open Go.RowKit
attribute [local go_sem ↓] Go.wp_at_zero Go.wp_at_succ

set_option maxRecDepth 100000 in
set_option maxHeartbeats 4000000 in
theorem eff_16 (u : PUnit) (f : PFunc) (ja jb : Nat) (ha1 : ja ≤ 65535) (hb1 : jb ≤ 65535) (st : List Int) (v1 v2 v3 v4 v5 vs vst : Value) (n a : Int) (W w : World) (hS : Sc W u (f.params ++ f.locals) v1 v2 v3 v4 vs) (hW : Gr W w) (hst : RInts w vst st) (hcl : f.code.length ≤ 1000000) :
    Calls Tryz.prog 107 #[.agg #[v1, v2, v3, v4, v5, vs, .int .i64 (f.code.length : Int), .int .i64 f.result], .agg #[.int .i64 16, .int .i64 (ja : Int), .int .i64 (jb : Int)], vst, .agg #[.int .i64 10, .int .i64 n, .int .i64 a]] w (EffR (effQ u f ⟨16, (ja : Int), (jb : Int)⟩ st) n a w) := by
  have HQ0 : Hid (∀ sl', f.params ++ f.locals = sl' → effQ u f ⟨16, (ja : Int), (jb : Int)⟩ st = (fieldP u ⟨16, (ja : Int), (jb : Int)⟩).map fun y => ([(ja : Int)], [y])) := hide (fun sl' h => by subst h; unfold effQ effP; unfold fieldP shapeP; simp only [Option.map_bind]; rfl)
  generalize hsl : f.params ++ f.locals = sl at hS
  have HQ1 := hide (HQ0.out sl hsl)
  clear hsl HQ0
  obtain ⟨a2, c2, rfl⟩ := hS.co
  obtain ⟨a1, c1, rfl⟩ := hS.sh.shape
  obtain ⟨a3, c3, rfl⟩ := hS.fu.shape
  obtain ⟨a4, c4, hv4⟩ : ∃ ao cap, v4 = .slice ao u.imports.length cap := by obtain ⟨ao, cap, h, _⟩ := hS.im; exact ⟨ao, cap, h⟩
  subst hv4
  obtain ⟨al, cs, rfl⟩ := hS.sl.shape
  obtain ⟨at_, ct, rfl⟩ := hst.shape
  have HS := hide hS
  have HWW := hide hW
  have HB := hide (Efb.new w (.slice a1 u.shapes.length c1) (.slice a2 u.consts.length c2) (.slice a3 u.funcs.length c3) (.slice a4 u.imports.length c4) v5 (.slice al sl.length cs) (.int .i64 (f.code.length : Int)) (.int .i64 f.result) 16 (ja : Int) (jb : Int) n a)
  clear hS hst hW
  cases hx : fieldP u ⟨16, (ja : Int), (jb : Int)⟩ with
  | some y =>
    have HX := hide hx
    have HQ : Hid (effQ u f ⟨16, (ja : Int), (jb : Int)⟩ st = some ([(ja : Int)], [y])) := hide (by rw [HQ1.out, hx]; rfl)
    clear hx HQ1
    have HF : Hid (∀ U : World, Gr w U → Calls Tryz.prog 139 #[.agg #[.slice a1 u.shapes.length c1, .slice a2 u.consts.length c2, .slice a3 u.funcs.length c3, .slice a4 u.imports.length c4, v5, .slice al sl.length cs, .int .i64 (f.code.length : Int), .int .i64 f.result], .agg #[.int .i64 16, .int .i64 (ja : Int), .int .i64 (jb : Int)], .agg #[.int .i64 10, .int .i64 n, .int .i64 a]] U fun x w' => x = .returned (.int .i64 y) ∧ Gr U w') := hide (fun U hU => field_yes HX.out (by simp) (by simp; omega) (by simp) (by simp; omega) _ _ _ _ _ _ _ _ _ _ W _ HS.out.sh (HWW.out.trans hU))
    go_enter Tryz.func107, Tryz.ntmps107
    go_wp2_with fail
    rw [efW_eq]
    generalize efW w (.slice a1 u.shapes.length c1) (.slice a2 u.consts.length c2) (.slice a3 u.funcs.length c3) (.slice a4 u.imports.length c4) v5 (.slice al sl.length cs) (.int .i64 (f.code.length : Int)) (.int .i64 f.result) 16 (ja : Int) (jb : Int) n a = V at HB ⊢
    have hszV := HB.out.sz
    obtain ⟨-, -, s0, s1, s2, s3, s4, s5, s6, s7, i0, i1, i2, y0, y1, y2, -, -, -, -⟩ := HB.out
    go_region_held3 (fun w' => w'.cell? ⟨w.heap.size, 0, none⟩ = some (.slice a1 u.shapes.length c1) ∧ w'.cell? ⟨w.heap.size, 1, none⟩ = some (.slice a2 u.consts.length c2) ∧ w'.cell? ⟨w.heap.size, 2, none⟩ = some (.slice a3 u.funcs.length c3) ∧ w'.cell? ⟨w.heap.size, 3, none⟩ = some (.slice a4 u.imports.length c4) ∧ w'.cell? ⟨w.heap.size, 4, none⟩ = some (v5) ∧ w'.cell? ⟨w.heap.size, 5, none⟩ = some (.slice al sl.length cs) ∧ w'.cell? ⟨w.heap.size, 6, none⟩ = some (.int .i64 (f.code.length : Int)) ∧ w'.cell? ⟨w.heap.size, 7, none⟩ = some (.int .i64 f.result) ∧ w'.cell? ⟨w.heap.size + 1, 0, none⟩ = some (.int .i64 16) ∧ w'.cell? ⟨w.heap.size + 1, 1, none⟩ = some (.int .i64 (ja : Int)) ∧ w'.cell? ⟨w.heap.size + 1, 2, none⟩ = some (.int .i64 (jb : Int)) ∧ w'.cell? ⟨w.heap.size + 1 + 1, 0, none⟩ = some (.int .i64 10) ∧ w'.cell? ⟨w.heap.size + 1 + 1, 1, none⟩ = some (.int .i64 n) ∧ w'.cell? ⟨w.heap.size + 1 + 1, 2, none⟩ = some (.int .i64 a)) (first | (go_keep; done) | exact keepE hg' (by assumption) | exact keepE hg2 (by assumption) | exact keepP ⟨hE.s0, hE.s1, hE.s2, hE.s3, hE.s4, hE.s5, hE.s6, hE.s7, hE.i0, hE.i1, hE.i2, hE.y0, hE.y1, hE.y2⟩) (first | (go_at_call 139; refine (HF.out _ (HB.out.gr.trans (by repeat (first | with_reducible exact Gr.refl _ | with_reducible refine Gr.drew ?_ | with_reducible refine Gr.alloc ?_ _ | refine Gr.trans ?_ (by assumption))))).mono ?_; rintro e w' ⟨rfl, hg'⟩; have hE := HB.out.go (show Gr V w' from (by repeat (first | with_reducible exact Gr.refl _ | with_reducible refine Gr.drew ?_ | with_reducible refine Gr.alloc ?_ _ | refine Gr.trans ?_ (by assumption)))); have hsz := hE.sz; have r0 := hE.r0; have r1 := hE.r1; have z0 := hE.z0; have z1 := hE.z1) | (go_at_call 134; refine (kinds_gr _ _).mono ?_; rintro e w2 ⟨rfl, hg2⟩; have hE := HB.out.go (show Gr V w2 from (by repeat (first | with_reducible exact Gr.refl _ | with_reducible refine Gr.drew ?_ | with_reducible refine Gr.alloc ?_ _ | refine Gr.trans ?_ (by assumption)))); have hsz := hE.sz; have r0 := hE.r0; have r1 := hE.r1; have z0 := hE.z0; have z1 := hE.z1))
    all_goals go_wp2_with fail
    all_goals rw [put2_eq]
    all_goals have hp0 := fun y0 y1 => (put2_at (y0 := y0) (y1 := y1) hE.r0 hE.r1).1
    all_goals have hp1 := fun y0 y1 => (put2_at (y0 := y0) (y1 := y1) hE.r0 hE.r1).2
    all_goals exact bodyPost_ret (by simp [results, Tryz.results107, go_sem, hp0, hp1]) rfl (eff_post HQ.out (put2_gr hE.gr (by omega)) (by first | exact rints_nil _ | exact HRV.out.gr (HWW.out.trans (put2_gr hE.gr (by omega))) | exact one_put (w := w) (by repeat (first | assumption | with_reducible exact cell_new1 _ _ _ | with_reducible exact cell_new1d _ _ _ | with_reducible exact (cell_new2 _ _ _ _).1 | with_reducible exact (cell_new2 _ _ _ _).2 | with_reducible refine cell_drew ?_ | with_reducible refine (World.grownBy_alloc _ _ none).cell ?_ (by simp) | refine World.grownBy.cell (row := none) (by assumption) ?_ (by simp))) (by omega) | exact two_put (w := w) (by repeat (first | assumption | with_reducible exact cell_new1 _ _ _ | with_reducible exact cell_new1d _ _ _ | with_reducible exact (cell_new2 _ _ _ _).1 | with_reducible exact (cell_new2 _ _ _ _).2 | with_reducible refine cell_drew ?_ | with_reducible refine (World.grownBy_alloc _ _ none).cell ?_ (by simp) | refine World.grownBy.cell (row := none) (by assumption) ?_ (by simp))) (by repeat (first | assumption | with_reducible exact cell_new1 _ _ _ | with_reducible exact cell_new1d _ _ _ | with_reducible exact (cell_new2 _ _ _ _).1 | with_reducible exact (cell_new2 _ _ _ _).2 | with_reducible refine cell_drew ?_ | with_reducible refine (World.grownBy_alloc _ _ none).cell ?_ (by simp) | refine World.grownBy.cell (row := none) (by assumption) ?_ (by simp))) (by omega)) (by first | exact rints_nil _ | exact HRV.out.gr (HWW.out.trans (put2_gr hE.gr (by omega))) | exact one_put (w := w) (by repeat (first | assumption | with_reducible exact cell_new1 _ _ _ | with_reducible exact cell_new1d _ _ _ | with_reducible exact (cell_new2 _ _ _ _).1 | with_reducible exact (cell_new2 _ _ _ _).2 | with_reducible refine cell_drew ?_ | with_reducible refine (World.grownBy_alloc _ _ none).cell ?_ (by simp) | refine World.grownBy.cell (row := none) (by assumption) ?_ (by simp))) (by omega) | exact two_put (w := w) (by repeat (first | assumption | with_reducible exact cell_new1 _ _ _ | with_reducible exact cell_new1d _ _ _ | with_reducible exact (cell_new2 _ _ _ _).1 | with_reducible exact (cell_new2 _ _ _ _).2 | with_reducible refine cell_drew ?_ | with_reducible refine (World.grownBy_alloc _ _ none).cell ?_ (by simp) | refine World.grownBy.cell (row := none) (by assumption) ?_ (by simp))) (by repeat (first | assumption | with_reducible exact cell_new1 _ _ _ | with_reducible exact cell_new1d _ _ _ | with_reducible exact (cell_new2 _ _ _ _).1 | with_reducible exact (cell_new2 _ _ _ _).2 | with_reducible refine cell_drew ?_ | with_reducible refine (World.grownBy_alloc _ _ none).cell ?_ (by simp) | refine World.grownBy.cell (row := none) (by assumption) ?_ (by simp))) (by omega)))
  | none =>
    have HX := hide hx
    have HQ : Hid (effQ u f ⟨16, (ja : Int), (jb : Int)⟩ st = none) := hide (by rw [HQ1.out, hx]; rfl)
    clear hx HQ1
    have HF : Hid (∀ U : World, Gr w U → Calls Tryz.prog 139 #[.agg #[.slice a1 u.shapes.length c1, .slice a2 u.consts.length c2, .slice a3 u.funcs.length c3, .slice a4 u.imports.length c4, v5, .slice al sl.length cs, .int .i64 (f.code.length : Int), .int .i64 f.result], .agg #[.int .i64 16, .int .i64 (ja : Int), .int .i64 (jb : Int)], .agg #[.int .i64 10, .int .i64 n, .int .i64 a]] U fun x w' => x = .panicked (thr3 10 n a) ∧ Gr U w') := hide (fun U hU => field_no HX.out (by simp) (by simp; omega) (by simp) (by simp; omega) _ _ _ _ _ _ _ _ _ _ W _ HS.out.sh (HWW.out.trans hU))
    go_enter Tryz.func107, Tryz.ntmps107
    go_wp2_with fail
    rw [efW_eq]
    generalize efW w (.slice a1 u.shapes.length c1) (.slice a2 u.consts.length c2) (.slice a3 u.funcs.length c3) (.slice a4 u.imports.length c4) v5 (.slice al sl.length cs) (.int .i64 (f.code.length : Int)) (.int .i64 f.result) 16 (ja : Int) (jb : Int) n a = V at HB ⊢
    have hszV := HB.out.sz
    obtain ⟨-, -, s0, s1, s2, s3, s4, s5, s6, s7, i0, i1, i2, y0, y1, y2, -, -, -, -⟩ := HB.out
    obtain ⟨-, -, t0, t1, t2, t3, t4, t5, t6, t7, j0, j1, j2, q0, q1, q2, -, -, -, -⟩ := HB.out.go (Gr.alloc (Gr.refl V) (.cells #[.int .i64 (ja : Int)] 3))
    go_region_law (first | (refine step_dies rfl 139 _ _ rfl #[.agg #[.slice a1 u.shapes.length c1, .slice a2 u.consts.length c2, .slice a3 u.funcs.length c3, .slice a4 u.imports.length c4, v5, .slice al sl.length cs, .int .i64 (f.code.length : Int), .int .i64 f.result], .agg #[.int .i64 16, .int .i64 (ja : Int), .int .i64 (jb : Int)], .agg #[.int .i64 10, .int .i64 n, .int .i64 a]] (by simp [Act.eval, Act.put]) (Tryz.callField _ _) ((HF.out _ (HB.out.gr.trans (by repeat (first | with_reducible exact Gr.refl _ | with_reducible refine Gr.drew ?_ | with_reducible refine Gr.alloc ?_ _ | refine Gr.trans ?_ (by assumption))))).mono ?_); rintro x w' ⟨rfl, hg'⟩; refine ⟨_, rfl, ?_⟩; refine left_region ?_) | (refine step_calls_ rfl 134 _ _ rfl #[.slice (some ⟨V.heap.size, 0, none⟩) 1 1] (by simp [Act.eval, Act.put]) (Tryz.callKinds _ _) ((kinds_gr _ _).mono ?_); rintro x w2 ⟨rfl, hg2⟩; refine ⟨_, rfl, ?_⟩; have hE := HB.out.go (show Gr V w2 from (by repeat (first | with_reducible exact Gr.refl _ | with_reducible refine Gr.drew ?_ | with_reducible refine Gr.alloc ?_ _ | refine Gr.trans ?_ (by assumption)))); have hE' := hE; obtain ⟨-, -, s0, s1, s2, s3, s4, s5, s6, s7, i0, i1, i2, y0, y1, y2, -, -, -, -⟩ := hE'))
    all_goals exact ⟨rfl, HB.out.gr.trans (by repeat (first | with_reducible exact Gr.refl _ | with_reducible refine Gr.drew ?_ | with_reducible refine Gr.alloc ?_ _ | refine Gr.trans ?_ (by assumption))), by rw [HQ.out]⟩
end Go.Proofs.YtkgncijcnlfhiabGreat

