import Derived.Deep.RegionLaw
import Derived.Test.YtkgncijcnlfhiabGreatZ7
namespace Go.Proofs.YtkgncijcnlfhiabGreat
set_option linter.unusedVariables false
set_option linter.unusedSimpArgs false
open Go.RowKit
attribute [local go_sem ↓] Go.wp_at_zero Go.wp_at_succ
theorem efW_eq (w : World) (x0 x1 x2 x3 x4 x5 x6 x7 : Value) (op ia ib n a : Int) : (((w.alloc (.cells #[x0, x1, x2, x3, x4, x5, x6, x7] 80)).alloc (.cells #[.int .i64 op, .int .i64 ia, .int .i64 ib] 42)).alloc (.cells #[.int .i64 10, .int .i64 n, .int .i64 a] 62)).alloc (.cells #[.slice none 0 0, .slice none 0 0] 184) = efW w x0 x1 x2 x3 x4 x5 x6 x7 op ia ib n a := rfl
theorem cell_new1d (w : World) (y : Int) (t : TypeId) : (w.alloc (.cells #[.int .i64 y] t)).drew.cell? ⟨w.heap.size, 0, none⟩ = some (.int .i64 y) := by simp [go_sem]
theorem cell_drew {w : World} {p : Addr} {x : Value} (h : w.cell? p = some x) : w.drew.cell? p = some x := h
theorem keepE {w1 w2 : World} {p0 p1 p2 p3 p4 p5 p6 p7 p8 p9 p10 p11 p12 p13 : Addr} {x0 x1 x2 x3 x4 x5 x6 x7 x8 x9 x10 x11 x12 x13 : Value} (g : Gr w1 w2) (h : w1.cell? p0 = some x0 ∧ w1.cell? p1 = some x1 ∧ w1.cell? p2 = some x2 ∧ w1.cell? p3 = some x3 ∧ w1.cell? p4 = some x4 ∧ w1.cell? p5 = some x5 ∧ w1.cell? p6 = some x6 ∧ w1.cell? p7 = some x7 ∧ w1.cell? p8 = some x8 ∧ w1.cell? p9 = some x9 ∧ w1.cell? p10 = some x10 ∧ w1.cell? p11 = some x11 ∧ w1.cell? p12 = some x12 ∧ w1.cell? p13 = some x13) : w2.cell? p0 = some x0 ∧ w2.cell? p1 = some x1 ∧ w2.cell? p2 = some x2 ∧ w2.cell? p3 = some x3 ∧ w2.cell? p4 = some x4 ∧ w2.cell? p5 = some x5 ∧ w2.cell? p6 = some x6 ∧ w2.cell? p7 = some x7 ∧ w2.cell? p8 = some x8 ∧ w2.cell? p9 = some x9 ∧ w2.cell? p10 = some x10 ∧ w2.cell? p11 = some x11 ∧ w2.cell? p12 = some x12 ∧ w2.cell? p13 = some x13 := by
  obtain ⟨h0, h1, h2, h3, h4, h5, h6, h7, h8, h9, h10, h11, h12, h13⟩ := h
  exact ⟨g.cell h0 (by simp), g.cell h1 (by simp), g.cell h2 (by simp), g.cell h3 (by simp), g.cell h4 (by simp), g.cell h5 (by simp), g.cell h6 (by simp), g.cell h7 (by simp), g.cell h8 (by simp), g.cell h9 (by simp), g.cell h10 (by simp), g.cell h11 (by simp), g.cell h12 (by simp), g.cell h13 (by simp)⟩
theorem keepP {w1 : World} {s : Nat} {x0 x1 x2 x3 x4 x5 x6 x7 x8 x9 x10 x11 x12 x13 y0 y1 : Value} (h : w1.cell? ⟨s, 0, none⟩ = some x0 ∧ w1.cell? ⟨s, 1, none⟩ = some x1 ∧ w1.cell? ⟨s, 2, none⟩ = some x2 ∧ w1.cell? ⟨s, 3, none⟩ = some x3 ∧ w1.cell? ⟨s, 4, none⟩ = some x4 ∧ w1.cell? ⟨s, 5, none⟩ = some x5 ∧ w1.cell? ⟨s, 6, none⟩ = some x6 ∧ w1.cell? ⟨s, 7, none⟩ = some x7 ∧ w1.cell? ⟨s + 1, 0, none⟩ = some x8 ∧ w1.cell? ⟨s + 1, 1, none⟩ = some x9 ∧ w1.cell? ⟨s + 1, 2, none⟩ = some x10 ∧ w1.cell? ⟨s + 1 + 1, 0, none⟩ = some x11 ∧ w1.cell? ⟨s + 1 + 1, 1, none⟩ = some x12 ∧ w1.cell? ⟨s + 1 + 1, 2, none⟩ = some x13) : ((w1.setCell ⟨s + 1 + 1 + 1, 0, none⟩ y0).setCell ⟨s + 1 + 1 + 1, 1, none⟩ y1).cell? ⟨s, 0, none⟩ = some x0 ∧ ((w1.setCell ⟨s + 1 + 1 + 1, 0, none⟩ y0).setCell ⟨s + 1 + 1 + 1, 1, none⟩ y1).cell? ⟨s, 1, none⟩ = some x1 ∧ ((w1.setCell ⟨s + 1 + 1 + 1, 0, none⟩ y0).setCell ⟨s + 1 + 1 + 1, 1, none⟩ y1).cell? ⟨s, 2, none⟩ = some x2 ∧ ((w1.setCell ⟨s + 1 + 1 + 1, 0, none⟩ y0).setCell ⟨s + 1 + 1 + 1, 1, none⟩ y1).cell? ⟨s, 3, none⟩ = some x3 ∧ ((w1.setCell ⟨s + 1 + 1 + 1, 0, none⟩ y0).setCell ⟨s + 1 + 1 + 1, 1, none⟩ y1).cell? ⟨s, 4, none⟩ = some x4 ∧ ((w1.setCell ⟨s + 1 + 1 + 1, 0, none⟩ y0).setCell ⟨s + 1 + 1 + 1, 1, none⟩ y1).cell? ⟨s, 5, none⟩ = some x5 ∧ ((w1.setCell ⟨s + 1 + 1 + 1, 0, none⟩ y0).setCell ⟨s + 1 + 1 + 1, 1, none⟩ y1).cell? ⟨s, 6, none⟩ = some x6 ∧ ((w1.setCell ⟨s + 1 + 1 + 1, 0, none⟩ y0).setCell ⟨s + 1 + 1 + 1, 1, none⟩ y1).cell? ⟨s, 7, none⟩ = some x7 ∧ ((w1.setCell ⟨s + 1 + 1 + 1, 0, none⟩ y0).setCell ⟨s + 1 + 1 + 1, 1, none⟩ y1).cell? ⟨s + 1, 0, none⟩ = some x8 ∧ ((w1.setCell ⟨s + 1 + 1 + 1, 0, none⟩ y0).setCell ⟨s + 1 + 1 + 1, 1, none⟩ y1).cell? ⟨s + 1, 1, none⟩ = some x9 ∧ ((w1.setCell ⟨s + 1 + 1 + 1, 0, none⟩ y0).setCell ⟨s + 1 + 1 + 1, 1, none⟩ y1).cell? ⟨s + 1, 2, none⟩ = some x10 ∧ ((w1.setCell ⟨s + 1 + 1 + 1, 0, none⟩ y0).setCell ⟨s + 1 + 1 + 1, 1, none⟩ y1).cell? ⟨s + 1 + 1, 0, none⟩ = some x11 ∧ ((w1.setCell ⟨s + 1 + 1 + 1, 0, none⟩ y0).setCell ⟨s + 1 + 1 + 1, 1, none⟩ y1).cell? ⟨s + 1 + 1, 1, none⟩ = some x12 ∧ ((w1.setCell ⟨s + 1 + 1 + 1, 0, none⟩ y0).setCell ⟨s + 1 + 1 + 1, 1, none⟩ y1).cell? ⟨s + 1 + 1, 2, none⟩ = some x13 := by
  obtain ⟨h0, h1, h2, h3, h4, h5, h6, h7, h8, h9, h10, h11, h12, h13⟩ := h
  exact ⟨(put2_other (by omega)).trans h0, (put2_other (by omega)).trans h1, (put2_other (by omega)).trans h2, (put2_other (by omega)).trans h3, (put2_other (by omega)).trans h4, (put2_other (by omega)).trans h5, (put2_other (by omega)).trans h6, (put2_other (by omega)).trans h7, (put2_other (by omega)).trans h8, (put2_other (by omega)).trans h9, (put2_other (by omega)).trans h10, (put2_other (by omega)).trans h11, (put2_other (by omega)).trans h12, (put2_other (by omega)).trans h13⟩
theorem step_calls_ {ops : Array Oper} {o : Oper} {a : Act} {K : Act → World → Prop} {Q : Exit → Act → World → Prop} {E : Prop} {w : World} (hgd : o.guard = none) (f : FuncId) (args : Array Operand) (ats : Array TypeId)
    (ho : o.op = .call { callee := .value (.func f), args := args, argTypes := ats }) (vals : Array Value) (hv : args.map a.eval = vals) (hcf : (callFunc f vals).run Tryz.prog w = .ok (.enter f vals) w) (h : Calls Tryz.prog f vals w (fun x w' => ∃ v, x = .returned v ∧ K (a.put o.dst v) w')) :
    if Region.wanted o (yielded ops a.tmps) = true then Oper.wp Tryz.prog o a w K Q else E := by
  have hw : Region.wanted o (yielded ops a.tmps) = true := by simp [Region.wanted, hgd]
  rw [if_pos hw]
  unfold Oper.wp
  have he : (execOp a.eval o).run Tryz.prog w = .ok (.enter f vals) w := by
    subst hv
    simp [execOp, ho, resolve, invoke, Act.eval, go_sem]
    exact hcf
  rw [he, Oper.upon_enter]
  refine h.mono ?_
  rintro x w' ⟨v, rfl, hk⟩
  exact hk
theorem step_dies {ops : Array Oper} {o : Oper} {a : Act} {K : Act → World → Prop} {Q : Exit → Act → World → Prop} {E : Prop} {w : World} (hgd : o.guard = none) (f : FuncId) (args : Array Operand) (ats : Array TypeId)
    (ho : o.op = .call { callee := .value (.func f), args := args, argTypes := ats }) (vals : Array Value) (hv : args.map a.eval = vals) (hcf : (callFunc f vals).run Tryz.prog w = .ok (.enter f vals) w) (h : Calls Tryz.prog f vals w (fun x w' => ∃ c, x = .panicked c ∧ Q (.panic c) a w')) :
    if Region.wanted o (yielded ops a.tmps) = true then Oper.wp Tryz.prog o a w K Q else E := by
  have hw : Region.wanted o (yielded ops a.tmps) = true := by simp [Region.wanted, hgd]
  rw [if_pos hw]
  unfold Oper.wp
  have he : (execOp a.eval o).run Tryz.prog w = .ok (.enter f vals) w := by
    subst hv
    simp [execOp, ho, resolve, invoke, Act.eval, go_sem]
    exact hcf
  rw [he, Oper.upon_enter]
  refine h.mono ?_
  rintro x w' ⟨v, rfl, hk⟩
  exact hk
theorem Tryz.callKinds (vals : Array Value) (w : World) : (callFunc 134 vals).run Tryz.prog w = .ok (.enter 134 vals) w := by kernel_rfl
theorem Tryz.callFields (vals : Array Value) (w : World) : (callFunc 138 vals).run Tryz.prog w = .ok (.enter 138 vals) w := by kernel_rfl
theorem Tryz.callField (vals : Array Value) (w : World) : (callFunc 139 vals).run Tryz.prog w = .ok (.enter 139 vals) w := by kernel_rfl
theorem eff_post {o : Option (List Int × List Int)} {n a : Int} {w wf : World} {g : Nat} {T P : Value} {ts ps : List Int} (hq : o = some (ts, ps)) (hgr : Gr w (put2 wf g T P)) (ht : RInts (put2 wf g T P) T ts) (hp : RInts (put2 wf g T P) P ps) : EffR o n a w (.returned (.agg #[T, P])) (put2 wf g T P) := by
  subst hq; exact ⟨hgr, T, P, rfl, ht, hp⟩

set_option maxRecDepth 100000 in
set_option maxHeartbeats 4000000 in
theorem eff_15 (u : PUnit) (f : PFunc) (ja jb : Nat) (ha1 : ja ≤ 65535) (hb1 : jb ≤ 65535) (st : List Int) (v1 v2 v3 v4 v5 vs vst : Value) (n a : Int) (W w : World) (hS : Sc W u (f.params ++ f.locals) v1 v2 v3 v4 vs) (hW : Gr W w) (hst : RInts w vst st) (hcl : f.code.length ≤ 1000000) :
    Calls Tryz.prog 107 #[.agg #[v1, v2, v3, v4, v5, vs, .int .i64 (f.code.length : Int), .int .i64 f.result], .agg #[.int .i64 15, .int .i64 (ja : Int), .int .i64 (jb : Int)], vst, .agg #[.int .i64 10, .int .i64 n, .int .i64 a]] w (EffR (effQ u f ⟨15, (ja : Int), (jb : Int)⟩ st) n a w) := by
  have HQ0 : Hid (∀ sl', f.params ++ f.locals = sl' → effQ u f ⟨15, (ja : Int), (jb : Int)⟩ st = (shapeP u (ja : Int)).map fun s => (s, [(ja : Int)])) := hide (fun sl' h => by subst h; unfold effQ effP; simp [shapeP])
  generalize hsl : f.params ++ f.locals = sl at hS
  have HQ1 := hide (HQ0.out sl hsl)
  clear hsl HQ0
  obtain ⟨a2, c2, rfl⟩ := hS.co
  obtain ⟨a1, c1, rfl⟩ := hS.sh.shape
  obtain ⟨a3, c3, rfl⟩ := hS.fu.shape
  obtain ⟨a4, c4, hv4⟩ : ∃ ao cap, v4 = .slice ao u.imports.length cap := by obtain ⟨ao, cap, h, _⟩ := hS.im; exact ⟨ao, cap, h⟩
  subst hv4
  obtain ⟨al, cs, rfl⟩ := hS.sl.shape
  obtain ⟨at_, ct, rfl⟩ := hst.shape
  have HS := hide hS
  have HWW := hide hW
  have HB := hide (Efb.new w (.slice a1 u.shapes.length c1) (.slice a2 u.consts.length c2) (.slice a3 u.funcs.length c3) (.slice a4 u.imports.length c4) v5 (.slice al sl.length cs) (.int .i64 (f.code.length : Int)) (.int .i64 f.result) 15 (ja : Int) (jb : Int) n a)
  clear hS hst hW
  cases hx : shapeP u (ja : Int) with
  | some s =>
    have HX := hide hx
    have HQ : Hid (effQ u f ⟨15, (ja : Int), (jb : Int)⟩ st = some (s, [(ja : Int)])) := hide (by rw [HQ1.out, hx]; rfl)
    clear hx HQ1
    have HF : Hid (∀ U : World, Gr w U → Calls Tryz.prog 138 #[.agg #[.slice a1 u.shapes.length c1, .slice a2 u.consts.length c2, .slice a3 u.funcs.length c3, .slice a4 u.imports.length c4, v5, .slice al sl.length cs, .int .i64 (f.code.length : Int), .int .i64 f.result], .int .i64 (ja : Int), .agg #[.int .i64 10, .int .i64 n, .int .i64 a]] U fun x w' => Gr U w' ∧ ∃ v, x = .returned v ∧ RInts W v s) := hide (fun U hU => fields_yes HX.out (by omega) (by omega) _ _ _ _ _ _ _ _ _ _ W _ HS.out.sh (HWW.out.trans hU))
    go_enter Tryz.func107, Tryz.ntmps107
    go_wp2_with fail
    rw [efW_eq]
    generalize efW w (.slice a1 u.shapes.length c1) (.slice a2 u.consts.length c2) (.slice a3 u.funcs.length c3) (.slice a4 u.imports.length c4) v5 (.slice al sl.length cs) (.int .i64 (f.code.length : Int)) (.int .i64 f.result) 15 (ja : Int) (jb : Int) n a = V at HB ⊢
    have hszV := HB.out.sz
    obtain ⟨-, -, s0, s1, s2, s3, s4, s5, s6, s7, i0, i1, i2, y0, y1, y2, -, -, -, -⟩ := HB.out
    go_region_held3 (fun w' => w'.cell? ⟨w.heap.size, 0, none⟩ = some (.slice a1 u.shapes.length c1) ∧ w'.cell? ⟨w.heap.size, 1, none⟩ = some (.slice a2 u.consts.length c2) ∧ w'.cell? ⟨w.heap.size, 2, none⟩ = some (.slice a3 u.funcs.length c3) ∧ w'.cell? ⟨w.heap.size, 3, none⟩ = some (.slice a4 u.imports.length c4) ∧ w'.cell? ⟨w.heap.size, 4, none⟩ = some (v5) ∧ w'.cell? ⟨w.heap.size, 5, none⟩ = some (.slice al sl.length cs) ∧ w'.cell? ⟨w.heap.size, 6, none⟩ = some (.int .i64 (f.code.length : Int)) ∧ w'.cell? ⟨w.heap.size, 7, none⟩ = some (.int .i64 f.result) ∧ w'.cell? ⟨w.heap.size + 1, 0, none⟩ = some (.int .i64 15) ∧ w'.cell? ⟨w.heap.size + 1, 1, none⟩ = some (.int .i64 (ja : Int)) ∧ w'.cell? ⟨w.heap.size + 1, 2, none⟩ = some (.int .i64 (jb : Int)) ∧ w'.cell? ⟨w.heap.size + 1 + 1, 0, none⟩ = some (.int .i64 10) ∧ w'.cell? ⟨w.heap.size + 1 + 1, 1, none⟩ = some (.int .i64 n) ∧ w'.cell? ⟨w.heap.size + 1 + 1, 2, none⟩ = some (.int .i64 a)) (first | (go_keep; done) | exact keepE hg' (by assumption) | exact keepE hg2 (by assumption) | exact keepP ⟨hE.s0, hE.s1, hE.s2, hE.s3, hE.s4, hE.s5, hE.s6, hE.s7, hE.i0, hE.i1, hE.i2, hE.y0, hE.y1, hE.y2⟩) (first | (go_at_call 138; refine (HF.out _ (HB.out.gr.trans (by repeat (first | with_reducible exact Gr.refl _ | with_reducible refine Gr.drew ?_ | with_reducible refine Gr.alloc ?_ _ | refine Gr.trans ?_ (by assumption))))).mono ?_; rintro e w' ⟨hg', v, rfl, hrv⟩; obtain ⟨av, cv, rfl⟩ := hrv.shape; have HRV := hide hrv; clear hrv; have hE := HB.out.go (show Gr V w' from (by repeat (first | with_reducible exact Gr.refl _ | with_reducible refine Gr.drew ?_ | with_reducible refine Gr.alloc ?_ _ | refine Gr.trans ?_ (by assumption)))); have hsz := hE.sz; have r0 := hE.r0; have r1 := hE.r1; have z0 := hE.z0; have z1 := hE.z1) | (go_at_call 134; refine (kinds_gr _ _).mono ?_; rintro e w2 ⟨rfl, hg2⟩; have hE := HB.out.go (show Gr V w2 from (by repeat (first | with_reducible exact Gr.refl _ | with_reducible refine Gr.drew ?_ | with_reducible refine Gr.alloc ?_ _ | refine Gr.trans ?_ (by assumption)))); have hsz := hE.sz; have r0 := hE.r0; have r1 := hE.r1; have z0 := hE.z0; have z1 := hE.z1))
    all_goals go_wp2_with fail
    all_goals rw [put2_eq]
    all_goals have hp0 := fun y0 y1 => (put2_at (y0 := y0) (y1 := y1) hE.r0 hE.r1).1
    all_goals have hp1 := fun y0 y1 => (put2_at (y0 := y0) (y1 := y1) hE.r0 hE.r1).2
    all_goals exact bodyPost_ret (by simp [results, Tryz.results107, go_sem, hp0, hp1]) rfl (eff_post HQ.out (put2_gr hE.gr (by omega)) (by first | exact rints_nil _ | exact HRV.out.gr (HWW.out.trans (put2_gr hE.gr (by omega))) | exact one_put (w := w) (by repeat (first | assumption | with_reducible exact cell_new1 _ _ _ | with_reducible exact cell_new1d _ _ _ | with_reducible exact (cell_new2 _ _ _ _).1 | with_reducible exact (cell_new2 _ _ _ _).2 | with_reducible refine cell_drew ?_ | with_reducible refine (World.grownBy_alloc _ _ none).cell ?_ (by simp) | refine World.grownBy.cell (row := none) (by assumption) ?_ (by simp))) (by omega) | exact two_put (w := w) (by repeat (first | assumption | with_reducible exact cell_new1 _ _ _ | with_reducible exact cell_new1d _ _ _ | with_reducible exact (cell_new2 _ _ _ _).1 | with_reducible exact (cell_new2 _ _ _ _).2 | with_reducible refine cell_drew ?_ | with_reducible refine (World.grownBy_alloc _ _ none).cell ?_ (by simp) | refine World.grownBy.cell (row := none) (by assumption) ?_ (by simp))) (by repeat (first | assumption | with_reducible exact cell_new1 _ _ _ | with_reducible exact cell_new1d _ _ _ | with_reducible exact (cell_new2 _ _ _ _).1 | with_reducible exact (cell_new2 _ _ _ _).2 | with_reducible refine cell_drew ?_ | with_reducible refine (World.grownBy_alloc _ _ none).cell ?_ (by simp) | refine World.grownBy.cell (row := none) (by assumption) ?_ (by simp))) (by omega)) (by first | exact rints_nil _ | exact HRV.out.gr (HWW.out.trans (put2_gr hE.gr (by omega))) | exact one_put (w := w) (by repeat (first | assumption | with_reducible exact cell_new1 _ _ _ | with_reducible exact cell_new1d _ _ _ | with_reducible exact (cell_new2 _ _ _ _).1 | with_reducible exact (cell_new2 _ _ _ _).2 | with_reducible refine cell_drew ?_ | with_reducible refine (World.grownBy_alloc _ _ none).cell ?_ (by simp) | refine World.grownBy.cell (row := none) (by assumption) ?_ (by simp))) (by omega) | exact two_put (w := w) (by repeat (first | assumption | with_reducible exact cell_new1 _ _ _ | with_reducible exact cell_new1d _ _ _ | with_reducible exact (cell_new2 _ _ _ _).1 | with_reducible exact (cell_new2 _ _ _ _).2 | with_reducible refine cell_drew ?_ | with_reducible refine (World.grownBy_alloc _ _ none).cell ?_ (by simp) | refine World.grownBy.cell (row := none) (by assumption) ?_ (by simp))) (by repeat (first | assumption | with_reducible exact cell_new1 _ _ _ | with_reducible exact cell_new1d _ _ _ | with_reducible exact (cell_new2 _ _ _ _).1 | with_reducible exact (cell_new2 _ _ _ _).2 | with_reducible refine cell_drew ?_ | with_reducible refine (World.grownBy_alloc _ _ none).cell ?_ (by simp) | refine World.grownBy.cell (row := none) (by assumption) ?_ (by simp))) (by omega)))
  | none =>
    have HX := hide hx
    have HQ : Hid (effQ u f ⟨15, (ja : Int), (jb : Int)⟩ st = none) := hide (by rw [HQ1.out, hx]; rfl)
    clear hx HQ1
    have HF : Hid (∀ U : World, Gr w U → Calls Tryz.prog 138 #[.agg #[.slice a1 u.shapes.length c1, .slice a2 u.consts.length c2, .slice a3 u.funcs.length c3, .slice a4 u.imports.length c4, v5, .slice al sl.length cs, .int .i64 (f.code.length : Int), .int .i64 f.result], .int .i64 (ja : Int), .agg #[.int .i64 10, .int .i64 n, .int .i64 a]] U fun x w' => Gr U w' ∧ x = .panicked (thr3 10 n a)) := hide (fun U hU => fields_no HX.out (by omega) (by omega) _ _ _ _ _ _ _ _ _ _ W _ HS.out.sh (HWW.out.trans hU))
    go_enter Tryz.func107, Tryz.ntmps107
    go_wp2_with fail
    rw [efW_eq]
    generalize efW w (.slice a1 u.shapes.length c1) (.slice a2 u.consts.length c2) (.slice a3 u.funcs.length c3) (.slice a4 u.imports.length c4) v5 (.slice al sl.length cs) (.int .i64 (f.code.length : Int)) (.int .i64 f.result) 15 (ja : Int) (jb : Int) n a = V at HB ⊢
    have hszV := HB.out.sz
    obtain ⟨-, -, s0, s1, s2, s3, s4, s5, s6, s7, i0, i1, i2, y0, y1, y2, -, -, -, -⟩ := HB.out
    obtain ⟨-, -, t0, t1, t2, t3, t4, t5, t6, t7, j0, j1, j2, q0, q1, q2, -, -, -, -⟩ := HB.out.go (Gr.alloc (Gr.refl V) (.cells #[.int .i64 (ja : Int)] 3))
    go_region_law (first | (refine step_dies rfl 138 _ _ rfl #[.agg #[.slice a1 u.shapes.length c1, .slice a2 u.consts.length c2, .slice a3 u.funcs.length c3, .slice a4 u.imports.length c4, v5, .slice al sl.length cs, .int .i64 (f.code.length : Int), .int .i64 f.result], .int .i64 (ja : Int), .agg #[.int .i64 10, .int .i64 n, .int .i64 a]] (by simp [Act.eval, Act.put]) (Tryz.callFields _ _) ((HF.out _ (HB.out.gr.trans (by repeat (first | with_reducible exact Gr.refl _ | with_reducible refine Gr.drew ?_ | with_reducible refine Gr.alloc ?_ _ | refine Gr.trans ?_ (by assumption))))).mono ?_); rintro x w' ⟨hg', rfl⟩; refine ⟨_, rfl, ?_⟩; refine left_region ?_) | (refine step_calls_ rfl 134 _ _ rfl #[.slice (some ⟨V.heap.size, 0, none⟩) 1 1] (by simp [Act.eval, Act.put]) (Tryz.callKinds _ _) ((kinds_gr _ _).mono ?_); rintro x w2 ⟨rfl, hg2⟩; refine ⟨_, rfl, ?_⟩; have hE := HB.out.go (show Gr V w2 from (by repeat (first | with_reducible exact Gr.refl _ | with_reducible refine Gr.drew ?_ | with_reducible refine Gr.alloc ?_ _ | refine Gr.trans ?_ (by assumption)))); have hE' := hE; obtain ⟨-, -, s0, s1, s2, s3, s4, s5, s6, s7, i0, i1, i2, y0, y1, y2, -, -, -, -⟩ := hE'))
    all_goals exact ⟨rfl, HB.out.gr.trans (by repeat (first | with_reducible exact Gr.refl _ | with_reducible refine Gr.drew ?_ | with_reducible refine Gr.alloc ?_ _ | refine Gr.trans ?_ (by assumption))), by rw [HQ.out]⟩
end Go.Proofs.YtkgncijcnlfhiabGreat

