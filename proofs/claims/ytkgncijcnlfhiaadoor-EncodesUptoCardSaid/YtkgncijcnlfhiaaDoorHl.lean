import Derived.Test.YtkgncijcnlfhiaaDoorCards
import Derived.Test.YtkgncijcnlfhiaaDoorTie
import Derived.Test.YtkgncijcnlfhiaaDoorHk
import Derived.ProofKit
import Derived.OpenShut
import Derived.Carry
import Derived.Deep.DeepHandedRow
import Derived.Lib.LaidTab
namespace Go.Proofs.YtkgncijcnlfhiaaDoor
set_option linter.unusedVariables false
set_option linter.unusedSimpArgs false
open Go.ChangeShapes Go.WideShapes Go.ChangeAt Go.RowKit

theorem own : ownKnob Tryd.prog.godebug = none := by kernel_rfl
theorem laidOut : laidOutB Tryd.prog = true := by kernel_rfl
theorem gOps : Tryd.prog.globalNamed "kiln/kilnref.operands" = some 0 := by kernel_rfl
theorem gOpsType : (Tryd.prog.globals[0]?).map (·.type) = some 208 := by kernel_rfl
theorem uOps : Tryd.prog.underlying 208 = some (.array 21 3) := by kernel_rfl
theorem cOps : Tryd.prog.cellsOf 208 = 21 := by kernel_rfl
theorem structOf_some {k : Option TypeDesc} {ts : Array (TypeId × Nat)} (h : structOf k = some ts) : ∃ fs, k = some (.struct fs) := by
  unfold structOf at h
  split at h
  · exact ⟨_, rfl⟩
  · cases h
theorem unit_struct : ∃ fs, Tryd.prog.underlying 28 = some (.struct fs) := structOf_some Tryd.uUnit

set_option maxRecDepth 100000 in
/-- what the row's list gives -/
theorem encodes_tab {W : World} (h : laidMetH Tryd.prog Rows.encodesUptoRow.laid W) : Tab W := by
  have hT : Lib.TabIs Tryd.prog W "kiln/kilnref.operands" .i64 [1, 1, 1, 1, 0, 0, 0, 0, 0, 0, 0, 1, 1, 1, 0, 1, 2, 2, 1, 1, 0] := Lib.tabIs_of_head (rest := []) gOps gOpsType uOps Tryd.underlying3 Tryd.cInt cOps h
  intro j hj
  have h1 := hT.cell gOps j hj
  rw [h1]
  have h2 : ∀ j, j < 21 → ([1, 1, 1, 1, 0, 0, 0, 0, 0, 0, 0, 1, 1, 1, 0, 1, 2, 2, 1, 1, 0] : List Int).getD j 0 = operandsN (j : Int) := by decide
  rw [h2 j hj]
noncomputable def encodesWorld (os : Os) : World :=
  { World.holding Tryd.prog os ⟨#[], #[], []⟩ with heap := (World.holding Tryd.prog os ⟨#[], #[], []⟩).heap.modify 0 fun
      | .cells _ t frozen => .cells #[.int .i64 1, .int .i64 1, .int .i64 1, .int .i64 1, .int .i64 0, .int .i64 0, .int .i64 0, .int .i64 0, .int .i64 0, .int .i64 0, .int .i64 0, .int .i64 1, .int .i64 1, .int .i64 1, .int .i64 0, .int .i64 1, .int .i64 2, .int .i64 2, .int .i64 1, .int .i64 1, .int .i64 0] t frozen
      | o => o }
theorem encodes_laid_met (os : Os) : laidMet Tryd.prog Rows.encodesUptoRow.laid ((encodesWorld os).forCall (fun _ _ => 0) ⟨#[], #[.agg #[.slice none 0 0, .slice none 0 0, .slice none 0 0, .slice none 0 0, .slice none 0 0], .agg #[.slice none 0 0, .slice none 0 0, .slice none 0 0, .slice none 0 0, .slice none 0 0]], []⟩).memory :=
  laidMet_of_run' 8 (by kernel_rfl) (by kernel_rfl)
theorem encodes_reads (os : Os) {H : Type} (enc : TypeId × Value → H) : ∃ places, DataW.whole enc Tryd.prog ((encodesWorld os).forCall (fun _ _ => 0) ⟨#[], #[.agg #[.slice none 0 0, .slice none 0 0, .slice none 0 0, .slice none 0 0, .slice none 0 0], .agg #[.slice none 0 0, .slice none 0 0, .slice none 0 0, .slice none 0 0, .slice none 0 0]], []⟩).memory Tryd.f3.params.toList Rows.encodesSpec.vars false (#[.agg #[.slice none 0 0, .slice none 0 0, .slice none 0 0, .slice none 0 0, .slice none 0 0], .agg #[.slice none 0 0, .slice none 0 0, .slice none 0 0, .slice none 0 0, .slice none 0 0]] : Array Value).toList 8 = some ([.agg [.nil, .nil, .nil, .nil, .nil], .agg [.nil, .nil, .nil, .nil, .nil]], [], places) :=
  ⟨[], by kernel_rfl⟩

set_option maxRecDepth 100000 in
set_option maxHeartbeats 2000000 in
theorem encodes_contract (H : Type) (enc : TypeId × Value → H) (F : Stop.Interp) (W : World) (base : Nat) (args : Array Value) (ds gs : List (DataW H)) (before : List MemPlace)
    (hval : ∀ (j : Nat) t v, Tryd.f3.params[j]? = some t → args[j]? = some v → Value.okWide Tryd.prog W .any base t v)
    (hW : DataW.Whole enc Tryd.prog Tryd.f3.params.toList Rows.encodesSpec.vars false W args.toList ds gs before) (hcond : Rows.uptoSmall H (ds ++ gs) = true) (hL : laidMetH Tryd.prog Rows.encodesUptoRow.laid W) :
    Calls Tryd.prog 3 args W fun e W' => ∃ v, e = .returned v ∧ Rows.encodesSpec.post enc Tryd.prog Tryd.f3 false true false false W args v W' := by
  have hW' := hW
  obtain ⟨p, q, hA0, hV, rfl, hfz, hnd⟩ := hW
  have hA : DataW.TrodAll enc Tryd.prog W 0 (fun _ => true) true Tryd.f3.params.toList args.toList ds p := hA0
  rw [Tryd.params3] at hA hval
  obtain ⟨v0, vs0, d0, ds0, p0, q0, hargs, rfl, rfl, h0, r0⟩ := trodAll_cons hA
  obtain ⟨v1, vs1, d1, ds1, p1, q1, rfl, rfl, rfl, h1, r1⟩ := trodAll_cons r0
  obtain ⟨rfl, rfl, rfl⟩ := trodAll_nil r1
  obtain rfl : args = #[v0, v1] := by cases args; simp_all
  obtain ⟨rfl, rfl⟩ := trodVars_none hV
  clear hA0
  simp only [List.append_nil] at hW' hcond
  have hbl : Rows.uptoBulkAll [d0, d1] ≤ 1048576 := of_decide_eq_true hcond
  simp only [Rows.uptoBulkAll] at hbl
  obtain ⟨fs, hfs⟩ := unit_struct
  obtain ⟨cs0, rfl, hz0⟩ := okWide_struct hfs (hval 0 28 v0 rfl rfl)
  obtain ⟨cs1, rfl, hz1⟩ := okWide_struct hfs (hval 1 28 v1 rfl rfl)
  have h0k := h0
  have h1k := h1
  obtain ⟨fuel0, hf0⟩ := h0
  obtain ⟨fuel1, hf1⟩ := h1
  have hlt0 : ∀ x ∈ p0, x.block < W.heap.size := fun x hx => hW'.lt x (by simp [hx])
  have hlt1 : ∀ x ∈ p1, x.block < W.heap.size := fun x hx => hW'.lt x (by simp [hx])
  have hkeep : ∀ (W' : World) (v : Value) (d : DataW H) (p : List MemPlace), DataW.Trod enc Tryd.prog W 0 (fun _ => true) true 28 v d p → (∀ x ∈ p, x.block < W.heap.size) → Below W.heap.size W W' → DataW.Trod enc Tryd.prog W' 0 (fun b => decide (b < W.heap.size)) true 28 v d p :=
    fun W' v d p h hl hn => Below.trod laidOut (by kernel_rfl) (of_decide_eq_true (by kernel_rfl)) h hn hl
  obtain ⟨u, hu, hFu, hWu⟩ := read_unit (x := (d0, p0)) hf0 (by simp only; omega)
  obtain ⟨v, hv, hFv, hWv⟩ := read_unit (x := (d1, p1)) hf1 (by simp only; omega)
  have hTab := encodes_tab hL
  have hW0 : 0 < W.heap.size := World.block_lt_of_cell? W _ (hTab 0 (by decide))
  simp only [Value.cells, Array.toArray_toList] at hu hv
  refine (encodes_law u v _ _ W hu hv hFu hFv hWu hWv hTab hW0).mono fun e W' ⟨he, hg⟩ => ?_
  subst he
  exact ⟨_, rfl, _, _, _, [], _, [], hW', trodAll_cons_mk (shut_bool Tryd.underlying4 _) trodAll_mk0, trodAll_cons_mk (hkeep W' _ _ _ h0k hlt0 hg) (trodAll_cons_mk (hkeep W' _ _ _ h1k hlt1 hg) trodAll_mk0), rfl, hg.frame _, fun h => nomatch h⟩

set_option maxRecDepth 100000 in
theorem encodes_lifted (os : Os) (started : os.Started) (H : Type) (enc : TypeId × Value → H) (F : Stop.Interp) :
    ReturnsInHanded {} Tryd.checked os 3 .any ((Rows.OpenSpec.upto Rows.encodesSpec).preRow enc Tryd.prog Tryd.f3 Rows.encodesUptoRow.domain false Rows.encodesUptoRow.laid) (((Rows.OpenSpec.upto Rows.encodesSpec).at F).post enc Tryd.prog Tryd.f3 false true false false) := by
  obtain ⟨places, hx⟩ := encodes_reads os enc
  refine returnsInHanded_of_row (C := Tryd.checked) (s := Rows.OpenSpec.upto Rows.encodesSpec) own started (by kernel_rfl) Tryd.func3
    (witness_row_at (enc := enc) (C := Tryd.checked) false (encodesWorld os) #[.agg #[.slice none 0 0, .slice none 0 0, .slice none 0 0, .slice none 0 0, .slice none 0 0], .agg #[.slice none 0 0, .slice none 0 0, .slice none 0 0, .slice none 0 0, .slice none 0 0]] rfl (by kernel_rfl) (by kernel_rfl) (by kernel_rfl)
      (OpenSpec.preRow_of_cond 8 hx (by kernel_rfl) (fun k hk => by cases hk; kernel_rfl) (by kernel_rfl) (encodes_laid_met os))) ?_
  intro W base args ds gs before hval hW _ hcond _ hL _ _
  exact encodes_contract H enc F W base args ds gs before hval hW (hcond _ rfl) hL
theorem encodes_upto : Rows.EncodesUptoSaid :=
  OpenClaim.holds_of_cond 3 Tryd.f3 rfl rfl rfl rfl rfl rfl rfl ⟨rfl, rfl, rfl, rfl, rfl⟩ rfl rfl rfl rfl rfl (by kernel_rfl) Tryd.func3 (by kernel_rfl)
    (of_decide_eq_true (by kernel_rfl)) (by unfold Func.isWrapper; first | (rw [if_pos (by decide +kernel)]; kernel_rfl) | (rw [if_neg (by decide +kernel)]; exact ⟨rfl, rfl⟩))
    (fun os started H enc _ F => by rw [OpenClaim.pre_eq_preRow]; exact encodes_lifted os started H enc F)
theorem encodes_plain (f : FuncId) (fn : Func) (hf : Tryd.pinned.checked.prog.funcNamed "kiln/kilnlaw.Encodes" = some f) (hfn : Tryd.pinned.checked.prog.funcs[f]? = some fn) :
    true = Tryd.pinned.checked.prog.looks [] ∧ ∀ (j : Nat) t, fn.params[j]? = some t → Tryd.pinned.checked.prog.wantsStandIn t = false := by
  obtain rfl : f = 3 := Option.some.inj ((show Tryd.prog.funcNamed "kiln/kilnlaw.Encodes" = some 3 by kernel_rfl).symm.trans hf) |>.symm
  obtain rfl : fn = Tryd.f3 := (Option.some.inj (Tryd.func3.symm.trans hfn)).symm
  refine ⟨by kernel_rfl, fun j t ht => ?_⟩
  rw [Tryd.params3] at ht
  obtain rfl : t = 28 := by simpa using Array.mem_of_getElem? ht
  exact (show Tryd.prog.wantsStandIn 28 = false by kernel_rfl)
theorem encodes_card : Rows.EncodesUptoCardSaid :=
  Claim7.holds_tied_plain_at .later [] _ _ _ _ encodes_upto (fun _ h => by cases h) (by kernel_rfl) (fun _ h => by cases h) encodesUpto_row_tie rfl ⟨rfl, rfl⟩ (by kernel_rfl) rfl encodes_plain (by kernel_rfl)
end Go.Proofs.YtkgncijcnlfhiaaDoor
