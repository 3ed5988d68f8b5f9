import Derived.Test.YtkgncijcnlfhiaaDoorBkd
import Derived.Test.YtkgncijcnlfhiaaDoorBk8
import Derived.Test.YtkgncijcnlfhiaaDoorCards
import Derived.Test.YtkgncijcnlfhiaaDoorTie
import Derived.ProofKit
import Derived.OpenShut
import Derived.Carry
import Derived.Deep.DeepHandedRow
import Derived.Lib.LaidTab
import Derived.ChangeMaps5
namespace Go.Proofs.YtkgncijcnlfhiaaDoor
set_option linter.unusedVariables false
set_option linter.unusedSimpArgs false
open Go.RowKit
theorem DeskAt.new {w : World} {db : Nat} (h : w.heap[db]? = some (.cells (deskArr nS) 39 (0, 0))) : DeskAt w.heap.size w db nS [] :=
  ⟨h, World.ownsRow_nil _ _ _ _, block_lt h, fun g hg => by simp [nS, Value.ownBlock] at hg, fun _ h => (List.not_mem_nil h).elim⟩
def LawR (w : World) (x : Ending) (w' : World) : Prop := x = .returned (.bool true) ∧ Below w.heap.size w w'

end Go.Proofs.YtkgncijcnlfhiaaDoor

namespace Go.Proofs.YtkgncijcnlfhiaaDoor
set_option linter.unusedVariables false
set_option linter.unusedSimpArgs false
open Go.RowKit
attribute [local go_sem ↓] Go.wp_at_zero Go.wp_at_succ
set_option maxRecDepth 100000 in
set_option maxHeartbeats 2000000 in
theorem desk_holds (db n B0 : Nat) (w : World) (hd : DkB db n B0 w) :
    Calls Tryd.prog 8 #[.pointer (some ⟨db, 0, none⟩)] w fun x w' => x = .returned (.bool true) ∧ Gr w w' := by
  obtain ⟨V, X, ρ, hS, hE, _⟩ := hd
  have hc0 : w.cell? ⟨db, 0, none⟩ = some (.slice none 0 0) := by rw [heap_cell hS.box]; rfl
  have HS := hide hS
  have HE := hide hE
  clear hS hE
  go_enter Tryd.func8, Tryd.ntmps8
  go_wp2_with fail
  go_loopw [3] (fun i wr => i = .int .i64 0 ∧ w = wr) (fun _ _ => 0)
  case atStart => exact ⟨rfl, rfl⟩
  case round =>
    obtain ⟨rfl, rfl⟩ := hrel
    go_wp2_with fail
    refine (book_holds db _ _ V X ρ w HS.out HE.out).mono ?_
    rintro x w1 ⟨rfl, hg⟩
    have HG := hide hg
    clear hg
    go_wp2_with fail
    go_ret
    exact ⟨rfl, HG.out⟩
theorem DkB.new {w : World} {db : Nat} (h : w.heap[db]? = some (.cells #[nS, zI, nS, nS, nS, nS, nS, nS, nS, nS, nS] 39 (0, 0))) : DkB db 0 0 w := by
  refine ⟨fun _ => nS, fun _ => [], fun _ => .no, ⟨h, fun i h1 h2 => ⟨World.ownsRow_nil _ _ _ _, fun k hk => by simp [nS, Value.ownBlock] at hk⟩, fun b hb => absurd rfl hb⟩, ⟨⟨[], rfl, rfl, fun e he => by simp at he⟩, ⟨[], rfl, rfl, fun e he => by simp at he⟩, ⟨[], rfl, rfl, rfl, rfl, rfl, fun e he => by simp at he⟩⟩, fun i => Nat.le_refl _⟩
set_option maxRecDepth 100000 in
set_option maxHeartbeats 4000000 in
theorem decodes_law (s t : ByteArray) (w : World) (hs : s.size ≤ maxLen) (ht : t.size ≤ maxLen) (hT : Tab w) (h0 : 0 < w.heap.size) :
    Calls Tryd.prog 4 #[.string s, .string t] w (LawR w) := by
  have HT := hide hT
  have HN := hide (heap_new w (.cells #[nS, zI, nS, nS, nS, nS, nS, nS, nS, nS, nS] 39))
  have HG := hide ((Gr.refl w).alloc (.cells #[nS, zI, nS, nS, nS, nS, nS, nS, nS, nS, nS] 39))
  clear hT
  go_enter Tryd.func4, Tryd.ntmps4
  go_wp2_with fail
  generalize hW : w.alloc (.cells #[nS, zI, nS, nS, nS, nS, nS, nS, nS, nS, nS] 39) = W at HN HG
  clear hW
  have HB0 := hide ((Below.refl w.heap.size w).grown HG.out (Nat.le_refl _) (by simp))
  refine (decode_desk w.heap.size 0 0 s W (DkB.new HN.out) hs (HT.out.gr HG.out) (by decide) (by decide)).mono ?_
  rintro x w1 ⟨rfl, n1, B1, hn1, hB1, hd1, hb1⟩
  have HD1 := hide hd1
  have HB1 := hide (HB0.out.trans hb1)
  clear hd1 hb1 HN HG HB0
  go_wp2_with fail
  refine (decode_desk w.heap.size n1 B1 t w1 HD1.out ht (HT.out.low h0 HB1.out) (by omega) (by omega)).mono ?_
  rintro x w2 ⟨rfl, n2, B2, hn2, hB2, hd2, hb2⟩
  have HD2 := hide hd2
  have HB2 := hide (HB1.out.trans hb2)
  clear hd2 hb2 HD1 HB1
  go_wp2_with fail
  refine (decode_desk w.heap.size n2 B2 s w2 HD2.out hs (HT.out.low h0 HB2.out) (by omega) (by omega)).mono ?_
  rintro x w3 ⟨rfl, n3, B3, hn3, hB3, hd3, hb3⟩
  have HD3 := hide hd3
  have HB3 := hide (HB2.out.trans hb3)
  clear hd3 hb3 HD2 HB2
  go_wp2_with fail
  refine (desk_holds w.heap.size n3 B3 w3 HD3.out).mono ?_
  rintro x w4 ⟨rfl, hg4⟩
  have HB4 := hide (HB3.out.grown hg4 HB3.out.size (by simp))
  clear hg4
  go_wp2_with fail
  go_ret
  exact ⟨rfl, HB4.out⟩
end Go.Proofs.YtkgncijcnlfhiaaDoor

namespace Go.Proofs.YtkgncijcnlfhiaaDoor
set_option linter.unusedVariables false
set_option linter.unusedSimpArgs false
open Go.ChangeShapes Go.WideShapes Go.ChangeAt Go.RowKit Go.ChangeMaps

theorem own : ownKnob Tryd.prog.godebug = none := by kernel_rfl
theorem gOps : Tryd.prog.globalNamed "kiln/kilnref.operands" = some 0 := by kernel_rfl
theorem gOpsType : (Tryd.prog.globals[0]?).map (·.type) = some 208 := by kernel_rfl
theorem uOps : Tryd.prog.underlying 208 = some (.array 21 3) := by kernel_rfl
theorem cOps : Tryd.prog.cellsOf 208 = 21 := by kernel_rfl
theorem cOne : Tryd.prog.cellsOf 3 = 1 := by kernel_rfl
set_option maxRecDepth 100000 in
/-- what the row's list gives -/
theorem decodes_tab {W : World} (h : laidMetH Tryd.prog Rows.decodesRow.laid W) : Tab W := by
  have hT : Lib.TabIs Tryd.prog W "kiln/kilnref.operands" .i64 [1, 1, 1, 1, 0, 0, 0, 0, 0, 0, 0, 1, 1, 1, 0, 1, 2, 2, 1, 1, 0] := Lib.tabIs_of_head (rest := []) gOps gOpsType uOps Tryd.underlying3 cOne cOps h
  intro j hj
  have h1 := hT.cell gOps j hj
  rw [h1]
  have h2 : ∀ j, j < 21 → ([1, 1, 1, 1, 0, 0, 0, 0, 0, 0, 0, 1, 1, 1, 0, 1, 2, 2, 1, 1, 0] : List Int).getD j 0 = operandsN (j : Int) := by decide
  rw [h2 j hj]
noncomputable def decodesWorld (os : Os) : World :=
  { World.holding Tryd.prog os ⟨#[], #[], []⟩ with heap := (World.holding Tryd.prog os ⟨#[], #[], []⟩).heap.modify 0 fun
      | .cells _ t frozen => .cells #[.int .i64 1, .int .i64 1, .int .i64 1, .int .i64 1, .int .i64 0, .int .i64 0, .int .i64 0, .int .i64 0, .int .i64 0, .int .i64 0, .int .i64 0, .int .i64 1, .int .i64 1, .int .i64 1, .int .i64 0, .int .i64 1, .int .i64 2, .int .i64 2, .int .i64 1, .int .i64 1, .int .i64 0] t frozen
      | o => o }
theorem decodes_laid_met (os : Os) : laidMet Tryd.prog Rows.decodesRow.laid ((decodesWorld os).forCall (fun _ _ => 0) ⟨#[], #[.string ⟨#[]⟩, .string ⟨#[]⟩], []⟩).memory :=
  laidMet_of_run' 8 (by kernel_rfl) (by kernel_rfl)
theorem decodes_reads (os : Os) {H : Type} (enc : TypeId × Value → H) : ∃ ds places, DataW.whole enc Tryd.prog ((decodesWorld os).forCall (fun _ _ => 0) ⟨#[], #[.string ⟨#[]⟩, .string ⟨#[]⟩], []⟩).memory Tryd.f4.params.toList Rows.decodesSpec.vars false (#[.string ⟨#[]⟩, .string ⟨#[]⟩] : Array Value).toList 8 = some (ds, [], places) :=
  ⟨[.lit (.string []), .lit (.string [])], [], by kernel_rfl⟩

set_option maxRecDepth 100000 in
set_option maxHeartbeats 2000000 in
theorem decodes_contract (H : Type) (enc : TypeId × Value → H) (W : World) (base : Nat) (args : Array Value) (ds gs : List (DataW H)) (before : List MemPlace)
    (hval : ∀ (j : Nat) t v, Tryd.f4.params[j]? = some t → args[j]? = some v → Value.okWide Tryd.prog W .any base t v)
    (hW : DataW.Whole enc Tryd.prog Tryd.f4.params.toList Rows.decodesSpec.vars false W args.toList ds gs before) (hL : laidMetH Tryd.prog Rows.decodesRow.laid W) :
    Calls Tryd.prog 4 args W fun e W' => ∃ v, e = .returned v ∧ Rows.decodesSpec.post enc Tryd.prog Tryd.f4 false true false false W args v W' := by
  have hW' := hW
  obtain ⟨p, q, hA0, hV, rfl, hfz, hnd⟩ := hW
  have hA : DataW.TrodAll enc Tryd.prog W 0 (fun _ => true) true Tryd.f4.params.toList args.toList ds p := hA0
  rw [Tryd.params4] at hA hval
  obtain ⟨v0, vs0, d0, ds0, p0, q0, hargs, rfl, rfl, h0, r0⟩ := trodAll_cons hA
  obtain ⟨v1, vs1, d1, ds1, p1, q1, rfl, rfl, rfl, h1, r1⟩ := trodAll_cons r0
  obtain ⟨rfl, rfl, rfl⟩ := trodAll_nil r1
  obtain rfl : args = #[v0, v1] := by cases args; simp_all
  obtain ⟨rfl, rfl⟩ := trodVars_none hV
  clear hA0
  obtain ⟨s, rfl, rfl, rfl, hs⟩ := open_string Tryd.underlying9 (hval 0 9 v0 rfl rfl) h0
  obtain ⟨t, rfl, rfl, rfl, ht⟩ := open_string Tryd.underlying9 (hval 1 9 v1 rfl rfl) h1
  simp only [List.append_nil] at hW'
  have hTab := decodes_tab hL
  have hW0 : 0 < W.heap.size := World.block_lt_of_cell? W _ (hTab 0 (by decide))
  refine (decodes_law s t W hs ht hTab hW0).mono fun e W' ⟨he, hg⟩ => ?_
  subst he
  exact ⟨_, rfl, _, _, _, [], [], [], hW', trodAll_cons_mk (shut_bool Tryd.underlying4 _) trodAll_mk0, trodAll_cons_mk (shut_string Tryd.underlying9 hs) (trodAll_cons_mk (shut_string Tryd.underlying9 ht) trodAll_mk0), rfl, hg.frame _, fun h => nomatch h⟩

set_option maxRecDepth 100000 in
theorem decodes_lifted (os : Os) (started : os.Started) (H : Type) (enc : TypeId × Value → H) :
    ReturnsInHanded {} Tryd.checked os 4 .any ((OpenSpec.ofChange Rows.decodesSpec).preRow enc Tryd.prog Tryd.f4 Rows.decodesRow.domain false Rows.decodesRow.laid) (Rows.decodesSpec.post enc Tryd.prog Tryd.f4 false true false false) := by
  obtain ⟨ds, places, hx⟩ := decodes_reads os enc
  refine returnsInHanded_of_row (F := fun _ _ _ => 0) (C := Tryd.checked) (s := OpenSpec.ofChange Rows.decodesSpec) own started (by kernel_rfl) Tryd.func4
    (witness_row_at (enc := enc) (C := Tryd.checked) false (decodesWorld os) #[.string ⟨#[]⟩, .string ⟨#[]⟩] rfl (by kernel_rfl) (by kernel_rfl) (by kernel_rfl)
      (OpenSpec.preRow_of_cond 8 hx (by kernel_rfl) (fun k hk => by cases hk) (by kernel_rfl) (decodes_laid_met os))) ?_
  intro W base args ds gs before hval hW _ _ _ hL _ _
  exact decodes_contract H enc W base args ds gs before hval hW hL
theorem decodes_over : Rows.DecodesSaid :=
  OpenClaim.holds_of_wide 4 Tryd.f4 rfl rfl rfl rfl rfl rfl rfl ⟨rfl, rfl, rfl, rfl, rfl⟩ rfl rfl rfl rfl rfl (by kernel_rfl) Tryd.func4 (by kernel_rfl)
    (of_decide_eq_true (by kernel_rfl)) (by unfold Func.isWrapper; first | (rw [if_pos (by decide +kernel)]; kernel_rfl) | (rw [if_neg (by decide +kernel)]; exact ⟨rfl, rfl⟩))
    (fun os started H enc _ => by rw [OpenClaim.pre_eq_preRow]; exact decodes_lifted os started H enc)
theorem decodes_plain (f : FuncId) (fn : Func) (hf : Tryd.pinned.checked.prog.funcNamed "kiln/kilnlaw.Decodes" = some f) (hfn : Tryd.pinned.checked.prog.funcs[f]? = some fn) :
    true = Tryd.pinned.checked.prog.looks [] ∧ ∀ (j : Nat) t, fn.params[j]? = some t → Tryd.pinned.checked.prog.wantsStandIn t = false := by
  obtain rfl : f = 4 := Option.some.inj ((show Tryd.prog.funcNamed "kiln/kilnlaw.Decodes" = some 4 by kernel_rfl).symm.trans hf) |>.symm
  obtain rfl : fn = Tryd.f4 := (Option.some.inj (Tryd.func4.symm.trans hfn)).symm
  refine ⟨by kernel_rfl, fun j t ht => ?_⟩
  rw [Tryd.params4] at ht
  obtain rfl : t = 9 := by simpa using Array.mem_of_getElem? ht
  exact (show Tryd.prog.wantsStandIn 9 = false by kernel_rfl)
theorem decodes_card : Rows.DecodesCardSaid :=
  Claim7.holds_tied_plain_at .later [] _ _ _ _ decodes_over (fun _ h => by cases h) (by kernel_rfl) (fun _ h => by cases h) decodes_row_tie rfl ⟨rfl, rfl⟩ (by kernel_rfl) rfl decodes_plain (by kernel_rfl)
end Go.Proofs.YtkgncijcnlfhiaaDoor

