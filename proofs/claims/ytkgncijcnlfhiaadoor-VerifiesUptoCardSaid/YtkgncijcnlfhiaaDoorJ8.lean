import Derived.Test.YtkgncijcnlfhiaaDoorJ4b
import Derived.Test.YtkgncijcnlfhiaaDoorHj
import Derived.Test.YtkgncijcnlfhiaaDoorZq
import Derived.Test.YtkgncijcnlfhiaaDoorCards
import Derived.Test.YtkgncijcnlfhiaaDoorTie
import Derived.ProofKit
import Derived.OpenShut
import Derived.Carry
import Derived.Deep.DeepHandedRow
import Derived.Lib.LaidTab
import Derived.Test.YtkgncijcnlfhiaaDoorHk
namespace Go.Proofs.YtkgncijcnlfhiaaDoor
set_option linter.unusedVariables false
set_option linter.unusedSimpArgs false
open Go.RowKit
attribute [local go_sem ↓] Go.wp_at_zero Go.wp_at_succ
theorem unit_small2 {u : PUnit} (h : unitOk u = true) : u.shapes.length ≤ 20 ∧ (∀ s ∈ u.shapes, s.length ≤ 8) ∧ ∀ g ∈ u.imports, g.params.length ≤ 6 := by
  unfold unitOk shapesOk importsOk wB at h
  simp only [Bool.and_eq_true, decide_eq_true_eq] at h
  obtain ⟨⟨h1, h2⟩, -, -, ⟨-, h6⟩, -⟩ := h
  refine ⟨by omega, fun s hs => ?_, fun g hg => ?_⟩
  · have := List.all_eq_true.1 h2 s hs
    unfold shapeOk wB at this
    simp only [Bool.and_eq_true, decide_eq_true_eq] at this
    omega
  · have := List.all_eq_true.1 h6 g hg
    unfold impOk sigOk wB at this
    simp only [Bool.and_eq_true, decide_eq_true_eq] at this
    omega
theorem verify_ref (u : PUnit) (vu : Value) (w : World) (hU : RUnit w vu u) (hT : Tab w) : Calls Tryd.prog 27 #[vu] w (VerR u w) := by
  have hU0 := hU
  obtain ⟨v1, v2, v3, v4, v5, rfl, h1, h2, h3, h4, h5⟩ := hU
  obtain ⟨a1, c1, rfl⟩ := h1.shape
  obtain ⟨a2, c2, rfl⟩ := h2.shape
  obtain ⟨a3, c3, rfl⟩ := h3.shape
  obtain ⟨a4, c4, rfl⟩ := h4.shape
  obtain ⟨a5, c5, rfl⟩ := h5.shape
  refine verify_ref_of u _ _ _ _ _ w hU0 (by simp) (fun V g => right_ref u _ V (hU0.gr g) (hT.gr g)) (fun hok f hf vp vl vc V hp hl hc g => ?_)
  obtain ⟨us2, us3, us4, usf⟩ := unit_small hok
  obtain ⟨us1, uss, usi⟩ := unit_small2 hok
  obtain ⟨hpl, hll, hcl1, hcl2, hall⟩ := usf f hf
  refine look_ref u f hok hf _ _ _ _ _ vp vl vc V (hU0.gr g) (hp.gr g) (hl.gr g) (hc.gr g) hcl1 hcl2 hall (fun i hi V2 g2 => ?_)
  have gg := g.trans g2
  exact effect_ref u f i hi _ _ _ _ _ vp vl vc V2 (hU0.gr gg) (hp.gr gg) (hl.gr gg) (by obtain ⟨a, c, h⟩ := hc.shape; exact ⟨a, c, h⟩) (by omega) (by omega) (by omega) ⟨by omega, by omega, by omega, by omega⟩ (fun s hs => by have := uss s hs; omega) (fun g hg => by have := (usf g hg).1; omega) (fun g hg => by have := usi g hg; omega)
end Go.Proofs.YtkgncijcnlfhiaaDoor

namespace Go.Proofs.YtkgncijcnlfhiaaDoor
set_option linter.unusedVariables false
set_option linter.unusedSimpArgs false
open Go.RowKit
attribute [local go_sem ↓] Go.wp_at_zero Go.wp_at_succ
set_option maxRecDepth 100000 in
set_option maxHeartbeats 4000000 in
theorem verify_desk (db : Nat) (vo : Value) (os : List Nat) (u : PUnit) (vu : Value) (w : World) (hd : DeskAt w.heap.size w db vo os) (hU : RUnit w vu u) (hF : Fits u) (hW : Few u) (hT : Tab w) (hos : os.length ≤ 100) :
    Calls Tryd.prog 11 #[.pointer (some ⟨db, 0, none⟩), vu] w (Encd db os w) := by
  have HU := hide hU
  obtain ⟨v1, v2, v3, v4, v5, rfl, h1, h2, h3, h4, h5⟩ := hU
  obtain ⟨a1, q1, rfl⟩ := h1.shape
  obtain ⟨a2, q2, rfl⟩ := h2.shape
  obtain ⟨a3, q3, rfl⟩ := h3.shape
  obtain ⟨a4, q4, rfl⟩ := h4.shape
  obtain ⟨a5, q5, rfl⟩ := h5.shape
  have HF := hide hF
  have HW := hide hW
  have HT := hide hT
  have HD := hide hd
  have HE := hide (encD_facts w (.slice a1 u.shapes.length q1) (.slice a2 u.consts.length q2) (.slice a3 u.funcs.length q3) (.slice a4 u.imports.length q4) (.slice a5 u.exports.length q5))
  have hdl := hd.dbl
  clear h1 h2 h3 h4 h5 hF hW hT hd
  go_enter Tryd.func11, Tryd.ntmps11
  go_wp2_with fail
  rw [encD_eq]
  obtain ⟨ho0, hg0, hub0, hs0⟩ := HE.out
  clear HE
  generalize encD w (.slice a1 u.shapes.length q1) (.slice a2 u.consts.length q2) (.slice a3 u.funcs.length q3) (.slice a4 u.imports.length q4) (.slice a5 u.exports.length q5) = W0 at ho0 hg0 hub0 hs0 ⊢
  refine (ownunit_any w.heap.size (w.heap.size + 1) (fun _ => nS) (fun _ => []) u _ w W0 ho0 HU.out (Nat.le_refl _) ((Below.refl _ _).grown hg0 (Nat.le_refl _) (by simp)) HW.out 0 0 0 (by decide) (by decide) (by decide) ⟨by simp, by simp, fun _ _ _ _ => by simp⟩ (by omega)).mono ?_
  rintro x w1 ⟨v, V', S', rfl, hru, how, _, hfr⟩
  have hPu : PO w.heap.size (w.heap.size + 1) (fun _ => nS) w.heap.size := ⟨Nat.le_refl _, by omega, fun f _ => by simp [nS, Value.ownBlock]⟩
  have hub1 := ((hfr.stay w.heap.size hPu (by omega)).1).trans hub0
  have hs1 := hfr.size
  have hB1 : Below w.heap.size w w1 := ((Below.refl _ _).grown hg0 (Nat.le_refl _) (by simp)).trans hfr.low
  have hrv := hru.to
  obtain ⟨y1, y2, y3, y4, y5, rfl, j1, j2, j3, j4, j5⟩ := hrv
  obtain ⟨p1, r1, rfl⟩ := j1.shape
  obtain ⟨p2, r2, rfl⟩ := j2.shape
  obtain ⟨p3, r3, rfl⟩ := j3.shape
  obtain ⟨p4, r4, rfl⟩ := j4.shape
  obtain ⟨p5, r5, rfl⟩ := j5.shape
  have HO1 := hide how
  have HB1 := hide hB1
  have HR1 := hide hru.to
  have HUB := hide hub1
  clear hru how hfr hB1 j1 j2 j3 j4 j5 hub0 hPu ho0 hg0
  go_wp2_with fail
  have hg2 := Gr.alloc (Gr.refl w1) (.cells #[.slice p1 u.shapes.length r1, .slice p2 u.consts.length r2, .slice p3 u.funcs.length r3, .slice p4 u.imports.length r4, .slice p5 u.exports.length r5] 28)
  have hnb := heap_new w1 (.cells #[.slice p1 u.shapes.length r1, .slice p2 u.consts.length r2, .slice p3 u.funcs.length r3, .slice p4 u.imports.length r4, .slice p5 u.exports.length r5] 28)
  have hs2 : (w1.alloc (.cells #[.slice p1 u.shapes.length r1, .slice p2 u.consts.length r2, .slice p3 u.funcs.length r3, .slice p4 u.imports.length r4, .slice p5 u.exports.length r5] 28)).heap.size = w1.heap.size + 1 := by simp
  generalize w1.alloc (.cells #[.slice p1 u.shapes.length r1, .slice p2 u.consts.length r2, .slice p3 u.funcs.length r3, .slice p4 u.imports.length r4, .slice p5 u.exports.length r5] 28) = W2 at hg2 hnb hs2 ⊢
  refine (verify_of u (through_any u) _ _ (HR1.out.gr hg2)).mono ?_
  rintro x w3 ⟨rfl, hb3⟩
  have hbW : Below w1.heap.size w1 w3 := ((Below.refl _ _).grown hg2 (Nat.le_refl _) (by simp)).trans (hb3.mono (by omega))
  have hnb3 := (hb3.block w1.heap.size (by omega)).trans hnb
  have hub3 := (hbW.block w.heap.size (by omega)).trans HUB.out
  have HB3 := hide (HB1.out.trans (hbW.mono (by omega)))
  have HBW := hide hbW
  have hs3 : w1.heap.size + 1 ≤ w3.heap.size := by have := hb3.size; omega
  obtain ⟨e0, e1, e2, e3, e4⟩ := heap_box5 hub3
  have HNB := hide hnb3
  have HUB3 := hide hub3
  clear hg2 hnb hb3 hbW hnb3 hub3
  go_wp2_with fail
  refine (verify_ref u _ _ (HU.out.low HB3.out) (HT.out.low (by omega) HB3.out)).mono ?_
  rintro x w4 ⟨rfl, hg4⟩
  have hub4 := (hg4.block w.heap.size (by omega) (by simp)).trans HUB3.out
  have hnb4 := (hg4.block w1.heap.size (by omega) (by simp)).trans HNB.out
  have HB4 := hide (HB3.out.grown hg4 (by omega) (by simp))
  have HBW4 := hide (HBW.out.grown hg4 (by omega) (by simp))
  have hs4 := hg4.size
  clear e0 e1 e2 e3 e4 hg4
  obtain ⟨e0, e1, e2, e3, e4⟩ := heap_box5 hub4
  obtain ⟨f0, f1, f2, f3, f4⟩ := heap_box5 hnb4
  clear hub4 hnb4 HNB HUB3 HUB
  go_wp2_with fail
  refine (same_unit _ _ u _ (HR1.out.low HBW4.out) (HU.out.low HB4.out)).mono ?_
  rintro x w5 ⟨rfl, hg5⟩
  have HB5 := hide (HB4.out.grown hg5 (by omega) (by simp))
  have HBW5 := hide (HBW4.out.grown hg5 (by omega) (by simp))
  have hs5 := hg5.size
  clear hg5 e0 e1 e2 e3 e4 f0 f1 f2 f3 f4
  have HO5 := hide (HO1.out.keep (w' := w5) fun b _ hl => HBW5.out.block b hl)
  go_wp2_with fail
  refine (put_any w.heap.size db (w.heap.size + 1) vo os V' S' w5 (HD.out.below HB5.out) HO5.out (by omega) hos).mono ?_
  rintro x w6 ⟨vo', rfl, hd6, hb6⟩
  have HD6 := hide hd6
  have HB6 := hide ((HB5.out.mono (Nat.le_of_lt hdl)).trans hb6)
  clear hd6 hb6
  generalize (verifyP u).1 = ve
  generalize (verifyP u).2.1 = vn
  generalize (verifyP u).2.2 = vq
  have hse : (ve == ve) = true := by simp
  have hsn : ((vn : Int) == (vn : Int)) = true := by simp
  have hsq : ((vq : Int) == (vq : Int)) = true := by simp
  go_wp2_with (go_at_call 17; refine (num_any _ _).mono ?_; rintro e w' ⟨rfl, hw'⟩; obtain rfl := hw'.symm)
  go_ret
  exact ⟨_, _, rfl, HD6.out, HB6.out⟩
set_option maxRecDepth 100000 in
set_option maxHeartbeats 4000000 in
theorem verifies_law (u v : PUnit) (vu vv : Value) (w : World) (hU : RUnit w vu u) (hV : RUnit w vv v) (hFu : Fits u) (hFv : Fits v) (hWu : Few u) (hWv : Few v) (hT : Tab w) (h0 : 0 < w.heap.size) :
    Calls Tryd.prog 6 #[vu, vv] w (LawR w) := by
  have HU := hide hU
  have HV := hide hV
  obtain ⟨v1, v2, v3, v4, v5, rfl, h1, h2, h3, h4, h5⟩ := hU
  obtain ⟨a1, q1, rfl⟩ := h1.shape
  obtain ⟨a2, q2, rfl⟩ := h2.shape
  obtain ⟨a3, q3, rfl⟩ := h3.shape
  obtain ⟨a4, q4, rfl⟩ := h4.shape
  obtain ⟨a5, q5, rfl⟩ := h5.shape
  obtain ⟨v1, v2, v3, v4, v5, rfl, j1, j2, j3, j4, j5⟩ := hV
  obtain ⟨b1, r1, rfl⟩ := j1.shape
  obtain ⟨b2, r2, rfl⟩ := j2.shape
  obtain ⟨b3, r3, rfl⟩ := j3.shape
  obtain ⟨b4, r4, rfl⟩ := j4.shape
  obtain ⟨b5, r5, rfl⟩ := j5.shape
  have HE := hide (lawW_facts w (.slice a1 u.shapes.length q1) (.slice a2 u.consts.length q2) (.slice a3 u.funcs.length q3) (.slice a4 u.imports.length q4) (.slice a5 u.exports.length q5) (.slice b1 v.shapes.length r1) (.slice b2 v.consts.length r2) (.slice b3 v.funcs.length r3) (.slice b4 v.imports.length r4) (.slice b5 v.exports.length r5))
  have HFU := hide hFu
  have HFV := hide hFv
  have HWU := hide hWu
  have HWV := hide hWv
  have HT := hide hT
  clear h1 h2 h3 h4 h5 j1 j2 j3 j4 j5 hFu hFv hWu hWv hT
  go_enter Tryd.func6, Tryd.ntmps6
  go_wp2_with fail
  rw [lawW_eq]
  obtain ⟨hg, hu, hv, hdk, hs⟩ := HE.out
  clear HE
  generalize lawW w (.slice a1 u.shapes.length q1) (.slice a2 u.consts.length q2) (.slice a3 u.funcs.length q3) (.slice a4 u.imports.length q4) (.slice a5 u.exports.length q5) (.slice b1 v.shapes.length r1) (.slice b2 v.consts.length r2) (.slice b3 v.funcs.length r3) (.slice b4 v.imports.length r4) (.slice b5 v.exports.length r5) = W at hg hu hv hdk hs ⊢
  have HB0 := hide ((Below.refl w.heap.size w).grown hg (Nat.le_refl _) (by simp))
  have HHU := hide hu
  have HHV := hide hv
  refine (verify_desk (w.heap.size + 2) nS [] u _ W (DeskAt.new hdk) (HU.out.gr hg) HFU.out HWU.out (HT.out.gr hg) (by simp)).mono ?_
  rintro x w1 ⟨vo1, o1, rfl, hd1, hb1⟩
  have HD1 := hide hd1
  have HB1 := hide hb1
  have hv1 := (hb1.block (w.heap.size + 1) (by omega)).trans HHV.out
  obtain ⟨e0, e1, e2, e3, e4⟩ := heap_box5 hv1
  clear hd1 hb1 hv1 hu hv hdk hg
  go_wp2_with fail
  refine (verify_desk (w.heap.size + 2) vo1 _ v _ w1 HD1.out (HV.out.low (HB0.out.trans (HB1.out.mono (by omega)))) HFV.out HWV.out (HT.out.low h0 (HB0.out.trans (HB1.out.mono (by omega)))) (by simp)).mono ?_
  rintro x w2 ⟨vo2, o2, rfl, hd2, hb2⟩
  have HD2 := hide hd2
  have HB2 := hide (HB1.out.trans hb2)
  have hu2 := (HB2.out.block w.heap.size (by omega)).trans HHU.out
  clear hd2 hb2 e0 e1 e2 e3 e4 HD1 HB1
  obtain ⟨e0, e1, e2, e3, e4⟩ := heap_box5 hu2
  clear hu2
  go_wp2_with fail
  refine (verify_desk (w.heap.size + 2) vo2 _ u _ w2 HD2.out (HU.out.low (HB0.out.trans (HB2.out.mono (by omega)))) HFU.out HWU.out (HT.out.low h0 (HB0.out.trans (HB2.out.mono (by omega)))) (by simp)).mono ?_
  rintro x w3 ⟨vo3, o3, rfl, hd3, hb3⟩
  have HD3 := hide hd3
  have HB3 := hide (HB0.out.trans ((HB2.out.trans hb3).mono (by omega)))
  clear hd3 hb3 e0 e1 e2 e3 e4 HD2 HB2
  go_wp2_with (go_at_call 8; refine (holds_any _ _ _ _ _ HD3.out).mono ?_; rintro e w' ⟨rfl, hw'⟩; obtain rfl := hw'.symm)
  go_ret
  exact ⟨rfl, HB3.out⟩
end Go.Proofs.YtkgncijcnlfhiaaDoor

namespace Go.Proofs.YtkgncijcnlfhiaaDoor
set_option linter.unusedVariables false
set_option linter.unusedSimpArgs false
open Go.ChangeShapes Go.WideShapes Go.ChangeAt Go.RowKit

theorem own : ownKnob Tryd.prog.godebug = none := by kernel_rfl
theorem laidOut : laidOutB Tryd.prog = true := by kernel_rfl
theorem gOps : Tryd.prog.globalNamed "kiln/kilnref.operands" = some 0 := by kernel_rfl
theorem gOpsType : (Tryd.prog.globals[0]?).map (·.type) = some 208 := by kernel_rfl
theorem uOps : Tryd.prog.underlying 208 = some (.array 21 3) := by kernel_rfl
theorem cOps : Tryd.prog.cellsOf 208 = 21 := by kernel_rfl
theorem structOf_some {k : Option TypeDesc} {ts : Array (TypeId × Nat)} (h : structOf k = some ts) : ∃ fs, k = some (.struct fs) := by
  unfold structOf at h
  split at h
  · exact ⟨_, rfl⟩
  · cases h
theorem unit_struct : ∃ fs, Tryd.prog.underlying 28 = some (.struct fs) := structOf_some Tryd.uUnit

set_option maxRecDepth 100000 in
/-- what the row's list gives -/
theorem verifies_tab {W : World} (h : laidMetH Tryd.prog Rows.verifiesUptoRow.laid W) : Tab W := by
  have hT : Lib.TabIs Tryd.prog W "kiln/kilnref.operands" .i64 [1, 1, 1, 1, 0, 0, 0, 0, 0, 0, 0, 1, 1, 1, 0, 1, 2, 2, 1, 1, 0] := Lib.tabIs_of_head (rest := []) gOps gOpsType uOps Tryd.underlying3 Tryd.cInt cOps h
  intro j hj
  have h1 := hT.cell gOps j hj
  rw [h1]
  have h2 : ∀ j, j < 21 → ([1, 1, 1, 1, 0, 0, 0, 0, 0, 0, 0, 1, 1, 1, 0, 1, 2, 2, 1, 1, 0] : List Int).getD j 0 = operandsN (j : Int) := by decide
  rw [h2 j hj]
noncomputable def verifiesWorld (os : Os) : World :=
  { World.holding Tryd.prog os ⟨#[], #[], []⟩ with heap := (World.holding Tryd.prog os ⟨#[], #[], []⟩).heap.modify 0 fun
      | .cells _ t frozen => .cells #[.int .i64 1, .int .i64 1, .int .i64 1, .int .i64 1, .int .i64 0, .int .i64 0, .int .i64 0, .int .i64 0, .int .i64 0, .int .i64 0, .int .i64 0, .int .i64 1, .int .i64 1, .int .i64 1, .int .i64 0, .int .i64 1, .int .i64 2, .int .i64 2, .int .i64 1, .int .i64 1, .int .i64 0] t frozen
      | o => o }
theorem verifies_laid_met (os : Os) : laidMet Tryd.prog Rows.verifiesUptoRow.laid ((verifiesWorld os).forCall (fun _ _ => 0) ⟨#[], #[.agg #[.slice none 0 0, .slice none 0 0, .slice none 0 0, .slice none 0 0, .slice none 0 0], .agg #[.slice none 0 0, .slice none 0 0, .slice none 0 0, .slice none 0 0, .slice none 0 0]], []⟩).memory :=
  laidMet_of_run' 8 (by kernel_rfl) (by kernel_rfl)
theorem verifies_reads (os : Os) {H : Type} (enc : TypeId × Value → H) : ∃ places, DataW.whole enc Tryd.prog ((verifiesWorld os).forCall (fun _ _ => 0) ⟨#[], #[.agg #[.slice none 0 0, .slice none 0 0, .slice none 0 0, .slice none 0 0, .slice none 0 0], .agg #[.slice none 0 0, .slice none 0 0, .slice none 0 0, .slice none 0 0, .slice none 0 0]], []⟩).memory Tryd.f6.params.toList Rows.verifiesSpec.vars false (#[.agg #[.slice none 0 0, .slice none 0 0, .slice none 0 0, .slice none 0 0, .slice none 0 0], .agg #[.slice none 0 0, .slice none 0 0, .slice none 0 0, .slice none 0 0, .slice none 0 0]] : Array Value).toList 8 = some ([.agg [.nil, .nil, .nil, .nil, .nil], .agg [.nil, .nil, .nil, .nil, .nil]], [], places) :=
  ⟨[], by kernel_rfl⟩

set_option maxRecDepth 100000 in
set_option maxHeartbeats 2000000 in
theorem verifies_contract (H : Type) (enc : TypeId × Value → H) (F : Stop.Interp) (W : World) (base : Nat) (args : Array Value) (ds gs : List (DataW H)) (before : List MemPlace)
    (hval : ∀ (j : Nat) t v, Tryd.f6.params[j]? = some t → args[j]? = some v → Value.okWide Tryd.prog W .any base t v)
    (hW : DataW.Whole enc Tryd.prog Tryd.f6.params.toList Rows.verifiesSpec.vars false W args.toList ds gs before) (hcond : Rows.uptoSmall H (ds ++ gs) = true) (hL : laidMetH Tryd.prog Rows.verifiesUptoRow.laid W) :
    Calls Tryd.prog 6 args W fun e W' => ∃ v, e = .returned v ∧ Rows.verifiesSpec.post enc Tryd.prog Tryd.f6 false true false false W args v W' := by
  have hW' := hW
  obtain ⟨p, q, hA0, hV, rfl, hfz, hnd⟩ := hW
  have hA : DataW.TrodAll enc Tryd.prog W 0 (fun _ => true) true Tryd.f6.params.toList args.toList ds p := hA0
  rw [Tryd.params6] at hA hval
  obtain ⟨v0, vs0, d0, ds0, p0, q0, hargs, rfl, rfl, h0, r0⟩ := trodAll_cons hA
  obtain ⟨v1, vs1, d1, ds1, p1, q1, rfl, rfl, rfl, h1, r1⟩ := trodAll_cons r0
  obtain ⟨rfl, rfl, rfl⟩ := trodAll_nil r1
  obtain rfl : args = #[v0, v1] := by cases args; simp_all
  obtain ⟨rfl, rfl⟩ := trodVars_none hV
  clear hA0
  simp only [List.append_nil] at hW' hcond
  have hbl : Rows.uptoBulkAll [d0, d1] ≤ 1048576 := of_decide_eq_true hcond
  simp only [Rows.uptoBulkAll] at hbl
  obtain ⟨fs, hfs⟩ := unit_struct
  obtain ⟨cs0, rfl, hz0⟩ := okWide_struct hfs (hval 0 28 v0 rfl rfl)
  obtain ⟨cs1, rfl, hz1⟩ := okWide_struct hfs (hval 1 28 v1 rfl rfl)
  have h0k := h0
  have h1k := h1
  obtain ⟨fuel0, hf0⟩ := h0
  obtain ⟨fuel1, hf1⟩ := h1
  have hlt0 : ∀ x ∈ p0, x.block < W.heap.size := fun x hx => hW'.lt x (by simp [hx])
  have hlt1 : ∀ x ∈ p1, x.block < W.heap.size := fun x hx => hW'.lt x (by simp [hx])
  have hkeep : ∀ (W' : World) (v : Value) (d : DataW H) (p : List MemPlace), DataW.Trod enc Tryd.prog W 0 (fun _ => true) true 28 v d p → (∀ x ∈ p, x.block < W.heap.size) → Below W.heap.size W W' → DataW.Trod enc Tryd.prog W' 0 (fun b => decide (b < W.heap.size)) true 28 v d p :=
    fun W' v d p h hl hn => Below.trod laidOut (by kernel_rfl) (of_decide_eq_true (by kernel_rfl)) h hn hl
  obtain ⟨u, hu, hFu, hWu⟩ := read_unit (x := (d0, p0)) hf0 (by simp only; omega)
  obtain ⟨v, hv, hFv, hWv⟩ := read_unit (x := (d1, p1)) hf1 (by simp only; omega)
  have hTab := verifies_tab hL
  have hW0 : 0 < W.heap.size := World.block_lt_of_cell? W _ (hTab 0 (by decide))
  simp only [Value.cells, Array.toArray_toList] at hu hv
  refine (verifies_law u v _ _ W hu hv hFu hFv hWu hWv hTab hW0).mono fun e W' ⟨he, hg⟩ => ?_
  subst he
  exact ⟨_, rfl, _, _, _, [], _, [], hW', trodAll_cons_mk (shut_bool Tryd.underlying4 _) trodAll_mk0, trodAll_cons_mk (hkeep W' _ _ _ h0k hlt0 hg) (trodAll_cons_mk (hkeep W' _ _ _ h1k hlt1 hg) trodAll_mk0), rfl, hg.frame _, fun h => nomatch h⟩

set_option maxRecDepth 100000 in
theorem verifies_lifted (os : Os) (started : os.Started) (H : Type) (enc : TypeId × Value → H) (F : Stop.Interp) :
    ReturnsInHanded {} Tryd.checked os 6 .any ((Rows.OpenSpec.upto Rows.verifiesSpec).preRow enc Tryd.prog Tryd.f6 Rows.verifiesUptoRow.domain false Rows.verifiesUptoRow.laid) (((Rows.OpenSpec.upto Rows.verifiesSpec).at F).post enc Tryd.prog Tryd.f6 false true false false) := by
  obtain ⟨places, hx⟩ := verifies_reads os enc
  refine returnsInHanded_of_row (C := Tryd.checked) (s := Rows.OpenSpec.upto Rows.verifiesSpec) own started (by kernel_rfl) Tryd.func6
    (witness_row_at (enc := enc) (C := Tryd.checked) false (verifiesWorld os) #[.agg #[.slice none 0 0, .slice none 0 0, .slice none 0 0, .slice none 0 0, .slice none 0 0], .agg #[.slice none 0 0, .slice none 0 0, .slice none 0 0, .slice none 0 0, .slice none 0 0]] rfl (by kernel_rfl) (by kernel_rfl) (by kernel_rfl)
      (OpenSpec.preRow_of_cond 8 hx (by kernel_rfl) (fun k hk => by cases hk; kernel_rfl) (by kernel_rfl) (verifies_laid_met os))) ?_
  intro W base args ds gs before hval hW _ hcond _ hL _ _
  exact verifies_contract H enc F W base args ds gs before hval hW (hcond _ rfl) hL
theorem verifies_upto : Rows.VerifiesUptoSaid :=
  OpenClaim.holds_of_cond 6 Tryd.f6 rfl rfl rfl rfl rfl rfl rfl ⟨rfl, rfl, rfl, rfl, rfl⟩ rfl rfl rfl rfl rfl (by kernel_rfl) Tryd.func6 (by kernel_rfl)
    (of_decide_eq_true (by kernel_rfl)) (by unfold Func.isWrapper; first | (rw [if_pos (by decide +kernel)]; kernel_rfl) | (rw [if_neg (by decide +kernel)]; exact ⟨rfl, rfl⟩))
    (fun os started H enc _ F => by rw [OpenClaim.pre_eq_preRow]; exact verifies_lifted os started H enc F)
theorem verifies_plain (f : FuncId) (fn : Func) (hf : Tryd.pinned.checked.prog.funcNamed "kiln/kilnlaw.Verifies" = some f) (hfn : Tryd.pinned.checked.prog.funcs[f]? = some fn) :
    true = Tryd.pinned.checked.prog.looks [] ∧ ∀ (j : Nat) t, fn.params[j]? = some t → Tryd.pinned.checked.prog.wantsStandIn t = false := by
  obtain rfl : f = 6 := Option.some.inj ((show Tryd.prog.funcNamed "kiln/kilnlaw.Verifies" = some 6 by kernel_rfl).symm.trans hf) |>.symm
  obtain rfl : fn = Tryd.f6 := (Option.some.inj (Tryd.func6.symm.trans hfn)).symm
  refine ⟨by kernel_rfl, fun j t ht => ?_⟩
  rw [Tryd.params6] at ht
  obtain rfl : t = 28 := by simpa using Array.mem_of_getElem? ht
  exact (show Tryd.prog.wantsStandIn 28 = false by kernel_rfl)
theorem verifies_card : Rows.VerifiesUptoCardSaid :=
  Claim7.holds_tied_plain_at .later [] _ _ _ _ verifies_upto (fun _ h => by cases h) (by kernel_rfl) (fun _ h => by cases h) verifiesUpto_row_tie rfl ⟨rfl, rfl⟩ (by kernel_rfl) rfl verifies_plain (by kernel_rfl)
end Go.Proofs.YtkgncijcnlfhiaaDoor

