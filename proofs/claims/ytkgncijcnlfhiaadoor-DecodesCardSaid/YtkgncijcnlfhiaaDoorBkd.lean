import Derived.Test.YtkgncijcnlfhiaaDoorG1
import Derived.Test.YtkgncijcnlfhiaaDoorBk3
import Derived.Test.YtkgncijcnlfhiaaDoorH8
import Derived.Test.YtkgncijcnlfhiaaDoorLe
import Derived.Test.YtkgncijcnlfhiaaDoorG2
import Derived.Test.YtkgncijcnlfhiaaDoorL0
import Derived.Test.YtkgncijcnlfhiaaDoorRg6
namespace Go.Proofs.YtkgncijcnlfhiaaDoor
set_option linter.unusedVariables false
set_option linter.unusedSimpArgs false
open Go.RowKit
theorem RUnit.low {W w : World} {v : Value} {u : PUnit} (h : RUnit W v u) (g : Below W.heap.size W w) : RUnit w v u := by
  obtain ⟨v1, v2, v3, v4, v5, hv, h1, h2, h3, h4, h5⟩ := h
  exact ⟨v1, v2, v3, v4, v5, hv, h1.below g, h2.below g, h3.below g, h4.below g, h5.below g⟩
theorem RUnitP.to {P : Nat → Prop} {w : World} {v : Value} {u : PUnit} (h : RUnitP P w v u) : RUnit w v u := by
  obtain ⟨v1, v2, v3, v4, v5, hv, h1, h2, h3, h4, h5⟩ := h
  exact ⟨v1, v2, v3, v4, v5, hv, h1.to.to, h2.to.to, h3.to.to, h4.to.to, h5.to.to⟩
theorem Tab.low {w w' : World} {B : Nat} (h : Tab w) (hB : 0 < B) (g : Below B w w') : Tab w' := fun j hj => (g.cell (p := ⟨0, j, none⟩) hB).trans (h j hj)
def ptrV (ob : Nat) : Value := .pointer (some ⟨ob, 0, none⟩)
def deskArr (vo : Value) : Array Value := #[vo, zI, nS, nS, nS, nS, nS, nS, nS, nS, nS]
/-- one of the caller's, written over: all its blocks lie from lo on, below what was there then -/
structure Kept (db : Nat) (vo : Value) (hi : Nat) (w : World) (ob : Nat) : Prop where
  is : ∃ lo V S w1, OwnAt lo w1 ob true V S ∧ (∀ b, lo ≤ b → b < w1.heap.size → w.heap[b]? = w1.heap[b]?) ∧ w1.heap.size ≤ hi ∧ db < lo ∧ ∀ g, vo.ownBlock = some g → g < lo ∨ w1.heap.size ≤ g
/-- the desk, with an empty book; all below hi -/
structure DeskAt (hi : Nat) (w : World) (db : Nat) (vo : Value) (os : List Nat) : Prop where
  box : w.heap[db]? = some (.cells (deskArr vo) 39 (0, 0))
  own : w.ownsRow (db + 1) 48 1 vo os.length (os.map ptrV)
  dbl : db < hi
  ownl : ∀ g, vo.ownBlock = some g → g < hi
  kept : ∀ ob ∈ os, Kept db vo hi w ob
theorem DeskAt.below {hi : Nat} {w w' : World} {db : Nat} {vo : Value} {os : List Nat} (h : DeskAt hi w db vo os) (g : Below hi w w') : DeskAt hi w' db vo os := by
  refine ⟨(g.block db h.dbl).trans h.box, ownsRow_same h.own fun q hq => g.block q (h.ownl q hq), h.dbl, h.ownl, fun ob hob => ?_⟩
  obtain ⟨lo, V, S, w1, k1, k2, k3, k4, k5⟩ := (h.kept ob hob).is
  exact ⟨lo, V, S, w1, k1, fun b hb hl => (g.block b (by omega)).trans (k2 b hb hl), k3, k4, k5⟩
theorem DeskAt.mono {hi hi' : Nat} {w : World} {db : Nat} {vo : Value} {os : List Nat} (h : DeskAt hi w db vo os) (g : hi ≤ hi') : DeskAt hi' w db vo os :=
  ⟨h.box, h.own, Nat.lt_of_lt_of_le h.dbl g, fun q hq => Nat.lt_of_lt_of_le (h.ownl q hq) g, fun ob hob => by
    obtain ⟨lo, V, S, w1, k1, k2, k3, k4, k5⟩ := (h.kept ob hob).is
    exact ⟨lo, V, S, w1, k1, k2, Nat.le_trans k3 g, k4, k5⟩⟩
theorem DeskAt.not_db {hi : Nat} {w : World} {db : Nat} {vo : Value} {os : List Nat} (h : DeskAt hi w db vo os) : ¬ vo.ownBlock = some db := fun e => by have := (h.own.lt db e).1; omega
/-- one more -/
theorem DeskAt.push {lo : Nat} {w w1 : World} {db ob : Nat} {vo v' : Value} {os : List Nat} {V : Nat → Value} {S : Nat → List (Nat × Nat)} (h : DeskAt lo w db vo os) (ho : OwnAt lo w ob true V S) (hlo : lo ≤ w.heap.size)
    (ha : Ap (db + 1) 48 1 w vo w1 v' (os.length + 1) (os.map ptrV ++ [ptrV ob])) :
    DeskAt w1.heap.size (w1.setCell ⟨db, 0, none⟩ v') db v' (os ++ [ob]) ∧ Below db w (w1.setCell ⟨db, 0, none⟩ v') := by
  have hdbl := h.dbl
  have hs := ha.frm.size
  have hdb1 : w1.heap[db]? = w.heap[db]? := ha.frm.block db (by omega) (fun e => h.not_db e.symm)
  have hvdb : ¬ v'.ownBlock = some db := fun e => by have := (ha.own.lt db e).1; omega
  have hne : ∀ b, ¬ b = db → (w1.setCell ⟨db, 0, none⟩ v').heap[b]? = w1.heap[b]? := fun b hb => Below.heap_setCell _ _ _ _ hb
  refine ⟨⟨?_, ?_, by omega, fun q hq => (ha.own.lt q hq).2, fun o hmem => ?_⟩, ?_⟩
  · have := heap_set (o := 0) (v := v') (hdb1.trans h.box)
    exact this
  · have : w1.ownsRow (db + 1) 48 1 v' (os ++ [ob]).length ((os ++ [ob]).map ptrV) := by
      rw [List.length_append, List.map_append]; exact ha.own
    exact ownsRow_same this fun q hq => hne q (fun e => hvdb (e ▸ hq))
  · rcases List.mem_append.1 hmem with hm | hm
    · obtain ⟨lo', V', S', w', k1, k2, k3, k4, k5⟩ := (h.kept o hm).is
      refine ⟨lo', V', S', w', k1, fun b hb hl => ?_, by omega, k4, fun g hg => ?_⟩
      · refine (hne b (by omega)).trans ((ha.frm.block b (by omega) (fun e => ?_)).trans (k2 b hb hl))
        rcases k5 b e.symm with e | e <;> omega
      · rcases ha.lies g hg with e | e
        · exact k5 g e
        · right; omega
    · rw [List.mem_singleton.1 hm]
      refine ⟨lo, V, S, w, ho, fun b hb hl => ?_, by omega, hdbl, fun g hg => ?_⟩
      · refine (hne b (by omega)).trans (ha.frm.block b hl (fun e => ?_))
        have := h.ownl b e.symm; omega
      · rcases ha.lies g hg with e | e
        · exact .inl (h.ownl g e)
        · exact .inr e
  · have hb1 : Below db w w1 := (Below.refl _ _).grown ha.frm (by omega) (fun q hq => by have := (h.own.lt q hq).1; omega)
    exact hb1.setCell (p := ⟨db, 0, none⟩) (Nat.le_refl _) _
end Go.Proofs.YtkgncijcnlfhiaaDoor

namespace Go.Proofs.YtkgncijcnlfhiaaDoor
set_option linter.unusedVariables false
set_option linter.unusedSimpArgs false
open Go.RowKit
theorem num_any (e : Int) (w : World) : Calls Tryd.prog 17 #[.int .i64 e] w fun x w' => x = .returned (.int .i64 e) ∧ w' = w := by
  go_enter Tryd.func17, Tryd.ntmps17
  go_wp2
  go_ret
  exact ⟨rfl, rfl⟩
/-- an Own of nothing -/
theorem OwnAt.none_ {w : World} {ob lo : Nat} (hl : lo ≤ ob) (h : w.heap[ob]? = some (.cells #[nS, nS, nS, nS, nS, nS, nS, nS] 52 (0, 0))) : OwnAt lo w ob false (fun _ => nS) (fun _ => []) :=
  ⟨h, hl, fun f _ => World.ownsRow_nil _ _ _ _, fun _ _ r hr => (List.not_mem_nil hr).elim⟩
theorem heap_box5 {w : World} {b : Nat} {v1 v2 v3 v4 v5 : Value} {t : TypeId} (h : w.heap[b]? = some (.cells #[v1, v2, v3, v4, v5] t (0, 0))) : w.cell? ⟨b, 0, none⟩ = some v1 ∧ w.cell? ⟨b, 1, none⟩ = some v2 ∧ w.cell? ⟨b, 2, none⟩ = some v3 ∧ w.cell? ⟨b, 3, none⟩ = some v4 ∧ w.cell? ⟨b, 4, none⟩ = some v5 := by
  refine ⟨?_, ?_, ?_, ?_, ?_⟩ <;> rw [heap_cell h] <;> rfl
end Go.Proofs.YtkgncijcnlfhiaaDoor

namespace Go.Proofs.YtkgncijcnlfhiaaDoor
set_option linter.unusedVariables false
set_option linter.unusedSimpArgs false
open Go.RowKit
attribute [local go_sem ↓] Go.wp_at_zero Go.wp_at_succ
theorem Tryd.callBu (vals : Array Value) (w : World) : (callFunc 22 vals).run Tryd.prog w = .ok (.enter 22 vals) w := by kernel_rfl
def DecD (db n B0 : Nat) (w : World) (x : Ending) (w' : World) : Prop := x = .returned (.bool true) ∧ ∃ n' B', n' ≤ n + 1000 ∧ B' ≤ B0 + 1000 ∧ DkB db n' B' w' ∧ Below db w w'
set_option maxRecDepth 100000 in
set_option maxHeartbeats 4000000 in
theorem decode_desk (db n B0 : Nat) (s : ByteArray) (w : World) (hd : DkB db n B0 w) (hs : s.size ≤ maxLen) (hT : Tab w) (hn : n ≤ 100000) (hB0 : B0 ≤ 100000) :
    Calls Tryd.prog 9 #[.pointer (some ⟨db, 0, none⟩), .string s] w (DecD db n B0 w) := by
  have HDk := hide hd
  have HT := hide hT
  have hdl : db < w.heap.size := by obtain ⟨V, X, ρ, hS, _⟩ := hd; exact hS.lt
  clear hd hT
  go_enter Tryd.func9, Tryd.ntmps9
  go_wp2_with fail
  refine (decode_own s w hs).mono ?_
  generalize hD : dec s.data.toList = R
  have HD := hide hD
  clear hD
  intro x w1 h
  cases R with
  | inl u =>
    obtain ⟨v, B, rfl, hB, hu, hg1⟩ := h
    obtain ⟨a1, c1, a2, c2, a3, c3, a4, c4, a5, c5, rfl⟩ := hu.shape
    have hok := (dec_ok HD.out).1
    have HU := hide hu
    clear hu
    have HOk := hide hok
    clear hok
    have HG1 := hide hg1
    have HK : Hid (∀ W, Gr w1 W → w1.heap.size < W.heap.size → Calls Tryd.prog 22 #[.pointer (some ⟨db, 1, none⟩), .agg #[.slice a1 u.shapes.length c1, .slice a2 u.consts.length c2, .slice a3 u.funcs.length c3, .slice a4 u.imports.length c4, .slice a5 u.exports.length c5]] W (BkD db n B0 w1.heap.size W)) := hide (fun W g hl => book_of HDk.out HG1.out hB HU.out HOk.out g hl hn hB0)
    have HR1 := hide (HU.out.f.to)
    clear hg1
    go_wp2_with fail
    have HGA := hide ((Gr.refl w1).alloc (.cells #[.slice a1 u.shapes.length c1, .slice a2 u.consts.length c2, .slice a3 u.funcs.length c3, .slice a4 u.imports.length c4, .slice a5 u.exports.length c5] 28))
    have HBA := hide (heap_alloc_new w1 (.cells #[.slice a1 u.shapes.length c1, .slice a2 u.consts.length c2, .slice a3 u.funcs.length c3, .slice a4 u.imports.length c4, .slice a5 u.exports.length c5] 28))
    have HSA : Hid ((w1.alloc (.cells #[.slice a1 u.shapes.length c1, .slice a2 u.consts.length c2, .slice a3 u.funcs.length c3, .slice a4 u.imports.length c4, .slice a5 u.exports.length c5] 28)).heap.size = w1.heap.size + 1) := hide (by simp)
    generalize w1.alloc (.cells #[.slice a1 u.shapes.length c1, .slice a2 u.consts.length c2, .slice a3 u.funcs.length c3, .slice a4 u.imports.length c4, .slice a5 u.exports.length c5] 28) = W1 at HGA HBA HSA ⊢
    refine (decode_ref s W1 hs (HT.out.gr (HG1.out.trans HGA.out))).mono ?_
    rw [HD.out]
    intro x w2 h
    obtain ⟨v2, rfl, hr2, hg2⟩ := h
    obtain ⟨y1, y2, y3, y4, y5, rfl, k1, k2, k3, k4, k5⟩ := hr2
    obtain ⟨p1, q1, rfl⟩ := k1.shape
    obtain ⟨p2, q2, rfl⟩ := k2.shape
    obtain ⟨p3, q3, rfl⟩ := k3.shape
    obtain ⟨p4, q4, rfl⟩ := k4.shape
    obtain ⟨p5, q5, rfl⟩ := k5.shape
    have hr2 : RUnit w2 (.agg #[.slice p1 u.shapes.length q1, .slice p2 u.consts.length q2, .slice p3 u.funcs.length q3, .slice p4 u.imports.length q4, .slice p5 u.exports.length q5]) u := ⟨_, _, _, _, _, rfl, k1, k2, k3, k4, k5⟩
    clear k1 k2 k3 k4 k5
    have HG2 := hide (HGA.out.trans hg2)
    have HR2 := hide hr2
    have HBB : Hid (w2.heap[w1.heap.size]? = some (.cells #[.slice a1 u.shapes.length c1, .slice a2 u.consts.length c2, .slice a3 u.funcs.length c3, .slice a4 u.imports.length c4, .slice a5 u.exports.length c5] 28 (0, 0))) := hide ((hg2.block _ (by have := HSA.out; omega) (by simp)).trans HBA.out)
    have hs2 : w1.heap.size < w2.heap.size := by have h1 := hg2.size; have h2 := HSA.out; omega
    clear hg2 hr2 HGA HBA
    go_upto_region 3 with fail
    have HGB := hide ((Gr.refl w2).alloc (.cells #[.slice p1 u.shapes.length q1, .slice p2 u.consts.length q2, .slice p3 u.funcs.length q3, .slice p4 u.imports.length q4, .slice p5 u.exports.length q5] 28))
    have hbb := heap_alloc_new w2 (.cells #[.slice p1 u.shapes.length q1, .slice p2 u.consts.length q2, .slice p3 u.funcs.length q3, .slice p4 u.imports.length q4, .slice p5 u.exports.length q5] 28)
    have hba := ((Gr.refl w2).alloc (.cells #[.slice p1 u.shapes.length q1, .slice p2 u.consts.length q2, .slice p3 u.funcs.length q3, .slice p4 u.imports.length q4, .slice p5 u.exports.length q5] 28)).block _ hs2 (by simp)
    have HBC : Hid ((w2.alloc (.cells #[.slice p1 u.shapes.length q1, .slice p2 u.consts.length q2, .slice p3 u.funcs.length q3, .slice p4 u.imports.length q4, .slice p5 u.exports.length q5] 28)).heap[w1.heap.size]? = some (.cells #[.slice a1 u.shapes.length c1, .slice a2 u.consts.length c2, .slice a3 u.funcs.length c3, .slice a4 u.imports.length c4, .slice a5 u.exports.length c5] 28 (0, 0))) := hide (hba.trans HBB.out)
    have hsB : w2.heap.size < (w2.alloc (.cells #[.slice p1 u.shapes.length q1, .slice p2 u.consts.length q2, .slice p3 u.funcs.length q3, .slice p4 u.imports.length q4, .slice p5 u.exports.length q5] 28)).heap.size := by simp
    obtain ⟨e0, e1, e2, e3, e4⟩ := heap_box5 HBC.out
    obtain ⟨f0, f1, f2, f3, f4⟩ := heap_box5 hbb
    clear hba hbb HBB
    generalize w2.alloc (.cells #[.slice p1 u.shapes.length q1, .slice p2 u.consts.length q2, .slice p3 u.funcs.length q3, .slice p4 u.imports.length q4, .slice p5 u.exports.length q5] 28) = W2 at HGB HBC hsB e0 e1 e2 e3 e4 f0 f1 f2 f3 f4 ⊢
    go_wp2_with fail
    refine (same_unit _ _ u _ (HR1.out.gr (HG2.out.trans HGB.out)) (HR2.out.gr HGB.out)).mono ?_
    rintro x w3 ⟨rfl, hg3⟩
    have HG3 := hide ((HG2.out.trans HGB.out).trans hg3)
    have HBX : Hid (w3.heap[w1.heap.size]? = some (.cells #[.slice a1 u.shapes.length c1, .slice a2 u.consts.length c2, .slice a3 u.funcs.length c3, .slice a4 u.imports.length c4, .slice a5 u.exports.length c5] 28 (0, 0))) := hide ((hg3.block _ (by omega) (by simp)).trans HBC.out)
    have hs3 : w1.heap.size < w3.heap.size := by have h1 := hg3.size; omega
    clear e0 e1 e2 e3 e4 f0 f1 f2 f3 f4 hg3 HGB HBC
    have KS : Hid (∀ w' : World, w'.heap[w1.heap.size]? = w3.heap[w1.heap.size]? → (fun w' : World => w'.cell? ⟨w1.heap.size, 0, none⟩ = some (.slice a1 u.shapes.length c1) ∧ w'.cell? ⟨w1.heap.size, 1, none⟩ = some (.slice a2 u.consts.length c2) ∧ w'.cell? ⟨w1.heap.size, 2, none⟩ = some (.slice a3 u.funcs.length c3) ∧ w'.cell? ⟨w1.heap.size, 3, none⟩ = some (.slice a4 u.imports.length c4) ∧ w'.cell? ⟨w1.heap.size, 4, none⟩ = some (.slice a5 u.exports.length c5)) w') := hide (fun w' h => heap_box5 (h.trans HBX.out))
    go_wp2_with fail
    refine wp_region_held_drew (S := (fun w' : World => w'.cell? ⟨w1.heap.size, 0, none⟩ = some (.slice a1 u.shapes.length c1) ∧ w'.cell? ⟨w1.heap.size, 1, none⟩ = some (.slice a2 u.consts.length c2) ∧ w'.cell? ⟨w1.heap.size, 2, none⟩ = some (.slice a3 u.funcs.length c3) ∧ w'.cell? ⟨w1.heap.size, 3, none⟩ = some (.slice a4 u.imports.length c4) ∧ w'.cell? ⟨w1.heap.size, 4, none⟩ = some (.slice a5 u.exports.length c5))) (by kernel_rfl) (KS.out _ rfl) (fun hHeld => ?_)
    refine takeL (i := 0) (v := ?kzgv0) rfl (by kernel_rfl) (by kernel_rfl) (by kernel_rfl) (by intro c a w h; exact h) (by rfl) ?kzghy0 hHeld ?kzgrest0
    case kzghy0 => (intro w hSw; (try dsimp only at hSw); go_simp <;> with_reducible rfl)
    simp only [Act.put, List.setIfInBounds_toArray, List.set_cons_zero, List.set_cons_succ]
    refine takeL (i := 1) (v := ?kzgv1) rfl (by kernel_rfl) (by kernel_rfl) (by kernel_rfl) (by intro c a w h; exact h) (by rfl) ?kzghy1 hHeld ?kzgrest1
    case kzghy1 => (intro w hSw; (try dsimp only at hSw); go_simp <;> with_reducible rfl)
    simp only [Act.put, List.setIfInBounds_toArray, List.set_cons_zero, List.set_cons_succ]
    refine takeL (i := 2) (v := ?kzgv2) rfl (by kernel_rfl) (by kernel_rfl) (by kernel_rfl) (by intro c a w h; exact h) (by rfl) ?kzghy2 hHeld ?kzgrest2
    case kzghy2 => (intro w hSw; (try dsimp only at hSw); go_simp <;> with_reducible rfl)
    simp only [Act.put, List.setIfInBounds_toArray, List.set_cons_zero, List.set_cons_succ]
    refine takeL (i := 3) (v := ?kzgv3) rfl (by kernel_rfl) (by kernel_rfl) (by kernel_rfl) (by intro c a w h; exact h) (by rfl) ?kzghy3 hHeld ?kzgrest3
    case kzghy3 => (intro w hSw; (try dsimp only at hSw); go_simp <;> with_reducible rfl)
    simp only [Act.put, List.setIfInBounds_toArray, List.set_cons_zero, List.set_cons_succ]
    refine aloneL (i := 4) rfl (by kernel_rfl) (fun K hK => ?_)
    refine step_calls_w rfl 22 _ _ rfl #[.pointer (some ⟨db, 1, none⟩), .agg #[.slice a1 u.shapes.length c1, .slice a2 u.consts.length c2, .slice a3 u.funcs.length c3, .slice a4 u.imports.length c4, .slice a5 u.exports.length c5]] (by simp [Act.eval]) (Tryd.callBu _ _) ((HK.out _ (HG3.out.trans (Gr.drew (Gr.refl _))) hs3).mono ?_)
    rintro x w4 ⟨rfl, ⟨n', B', hn', hB', hdk⟩, hbl, hbx⟩
    have HDK := hide hdk
    have HBL : Hid (Below db w w4) := hide ((((Below.refl db w).grown (HG1.out.trans (HG3.out.trans (Gr.drew (Gr.refl _)))) (Nat.le_of_lt hdl) (by simp))).trans hbl)
    refine .inl ⟨_, rfl, ?_⟩
    refine hK.out _ _ (KS.out _ hbx) (fun hHeld => ?_)
    clear hK
    try simp only [Act.put, List.setIfInBounds_toArray, List.set_cons_zero, List.set_cons_succ]
    refine wpAnyH_done (by kernel_rfl) ?_ _
    clear hHeld KS hbl hdk hbx HK
    have hq1 : ((0 : Int) == (0 : Int)) = true := by simp
    have hq2 : ((0 : Int) == (0 : Int)) = true := by simp
    go_wp2_with (go_at_call 17; refine (num_any _ _).mono ?_; rintro e w' ⟨rfl, hw'⟩; obtain rfl := hw'.symm)
    go_ret
    exact ⟨rfl, n', B', hn', hB', HDK.out, HBL.out⟩
  | inr q =>
    obtain ⟨e, p⟩ := q
    obtain ⟨rfl, hg1⟩ := h
    have HG1 := hide hg1
    have HK : Hid (∀ W, Gr w1 W → w1.heap.size < W.heap.size → Calls Tryd.prog 22 #[.pointer (some ⟨db, 1, none⟩), .agg #[.slice none 0 0, .slice none 0 0, .slice none 0 0, .slice none 0 0, .slice none 0 0]] W (BkD db n B0 w1.heap.size W)) := hide (fun W g hl => book_nil HDk.out HG1.out g hl hn hB0)
    have HR1 := hide (RUnit.nils w1)
    clear hg1
    go_wp2_with fail
    have HGA := hide ((Gr.refl w1).alloc (.cells #[.slice none 0 0, .slice none 0 0, .slice none 0 0, .slice none 0 0, .slice none 0 0] 28))
    have HBA := hide (heap_alloc_new w1 (.cells #[.slice none 0 0, .slice none 0 0, .slice none 0 0, .slice none 0 0, .slice none 0 0] 28))
    have HSA : Hid ((w1.alloc (.cells #[.slice none 0 0, .slice none 0 0, .slice none 0 0, .slice none 0 0, .slice none 0 0] 28)).heap.size = w1.heap.size + 1) := hide (by simp)
    generalize w1.alloc (.cells #[.slice none 0 0, .slice none 0 0, .slice none 0 0, .slice none 0 0, .slice none 0 0] 28) = W1 at HGA HBA HSA ⊢
    refine (decode_ref s W1 hs (HT.out.gr (HG1.out.trans HGA.out))).mono ?_
    rw [HD.out]
    intro x w2 h
    obtain ⟨rfl, hg2⟩ := h
    have hr2 : True := trivial
    have HG2 := hide (HGA.out.trans hg2)
    have HR2 := hide hr2
    have HBB : Hid (w2.heap[w1.heap.size]? = some (.cells #[.slice none 0 0, .slice none 0 0, .slice none 0 0, .slice none 0 0, .slice none 0 0] 28 (0, 0))) := hide ((hg2.block _ (by have := HSA.out; omega) (by simp)).trans HBA.out)
    have hs2 : w1.heap.size < w2.heap.size := by have h1 := hg2.size; have h2 := HSA.out; omega
    clear hg2 hr2 HGA HBA
    go_upto_region 3 with fail
    have HGB := hide ((Gr.refl w2).alloc (.cells #[.slice none 0 0, .slice none 0 0, .slice none 0 0, .slice none 0 0, .slice none 0 0] 28))
    have hbb := heap_alloc_new w2 (.cells #[.slice none 0 0, .slice none 0 0, .slice none 0 0, .slice none 0 0, .slice none 0 0] 28)
    have hba := ((Gr.refl w2).alloc (.cells #[.slice none 0 0, .slice none 0 0, .slice none 0 0, .slice none 0 0, .slice none 0 0] 28)).block _ hs2 (by simp)
    have HBC : Hid ((w2.alloc (.cells #[.slice none 0 0, .slice none 0 0, .slice none 0 0, .slice none 0 0, .slice none 0 0] 28)).heap[w1.heap.size]? = some (.cells #[.slice none 0 0, .slice none 0 0, .slice none 0 0, .slice none 0 0, .slice none 0 0] 28 (0, 0))) := hide (hba.trans HBB.out)
    have hsB : w2.heap.size < (w2.alloc (.cells #[.slice none 0 0, .slice none 0 0, .slice none 0 0, .slice none 0 0, .slice none 0 0] 28)).heap.size := by simp
    obtain ⟨e0, e1, e2, e3, e4⟩ := heap_box5 HBC.out
    obtain ⟨f0, f1, f2, f3, f4⟩ := heap_box5 hbb
    clear hba hbb HBB
    generalize w2.alloc (.cells #[.slice none 0 0, .slice none 0 0, .slice none 0 0, .slice none 0 0, .slice none 0 0] 28) = W2 at HGB HBC hsB e0 e1 e2 e3 e4 f0 f1 f2 f3 f4 ⊢
    go_wp2_with fail
    refine (same_unit _ _ ⟨[], [], [], [], []⟩ _ (RUnit.nils _) (RUnit.nils _)).mono ?_
    rintro x w3 ⟨rfl, hg3⟩
    have HG3 := hide ((HG2.out.trans HGB.out).trans hg3)
    have HBX : Hid (w3.heap[w1.heap.size]? = some (.cells #[.slice none 0 0, .slice none 0 0, .slice none 0 0, .slice none 0 0, .slice none 0 0] 28 (0, 0))) := hide ((hg3.block _ (by omega) (by simp)).trans HBC.out)
    have hs3 : w1.heap.size < w3.heap.size := by have h1 := hg3.size; omega
    clear e0 e1 e2 e3 e4 f0 f1 f2 f3 f4 hg3 HGB HBC
    have KS : Hid (∀ w' : World, w'.heap[w1.heap.size]? = w3.heap[w1.heap.size]? → (fun w' : World => w'.cell? ⟨w1.heap.size, 0, none⟩ = some (.slice none 0 0) ∧ w'.cell? ⟨w1.heap.size, 1, none⟩ = some (.slice none 0 0) ∧ w'.cell? ⟨w1.heap.size, 2, none⟩ = some (.slice none 0 0) ∧ w'.cell? ⟨w1.heap.size, 3, none⟩ = some (.slice none 0 0) ∧ w'.cell? ⟨w1.heap.size, 4, none⟩ = some (.slice none 0 0)) w') := hide (fun w' h => heap_box5 (h.trans HBX.out))
    go_wp2_with fail
    refine wp_region_held_drew (S := (fun w' : World => w'.cell? ⟨w1.heap.size, 0, none⟩ = some (.slice none 0 0) ∧ w'.cell? ⟨w1.heap.size, 1, none⟩ = some (.slice none 0 0) ∧ w'.cell? ⟨w1.heap.size, 2, none⟩ = some (.slice none 0 0) ∧ w'.cell? ⟨w1.heap.size, 3, none⟩ = some (.slice none 0 0) ∧ w'.cell? ⟨w1.heap.size, 4, none⟩ = some (.slice none 0 0))) (by kernel_rfl) (KS.out _ rfl) (fun hHeld => ?_)
    refine takeL (i := 0) (v := ?kUnv0) rfl (by kernel_rfl) (by kernel_rfl) (by kernel_rfl) (by intro c a w h; exact h) (by rfl) ?kUnhy0 hHeld ?kUnrest0
    case kUnhy0 => (intro w hSw; (try dsimp only at hSw); go_simp <;> with_reducible rfl)
    simp only [Act.put, List.setIfInBounds_toArray, List.set_cons_zero, List.set_cons_succ]
    refine takeL (i := 1) (v := ?kUnv1) rfl (by kernel_rfl) (by kernel_rfl) (by kernel_rfl) (by intro c a w h; exact h) (by rfl) ?kUnhy1 hHeld ?kUnrest1
    case kUnhy1 => (intro w hSw; (try dsimp only at hSw); go_simp <;> with_reducible rfl)
    simp only [Act.put, List.setIfInBounds_toArray, List.set_cons_zero, List.set_cons_succ]
    refine takeL (i := 2) (v := ?kUnv2) rfl (by kernel_rfl) (by kernel_rfl) (by kernel_rfl) (by intro c a w h; exact h) (by rfl) ?kUnhy2 hHeld ?kUnrest2
    case kUnhy2 => (intro w hSw; (try dsimp only at hSw); go_simp <;> with_reducible rfl)
    simp only [Act.put, List.setIfInBounds_toArray, List.set_cons_zero, List.set_cons_succ]
    refine takeL (i := 3) (v := ?kUnv3) rfl (by kernel_rfl) (by kernel_rfl) (by kernel_rfl) (by intro c a w h; exact h) (by rfl) ?kUnhy3 hHeld ?kUnrest3
    case kUnhy3 => (intro w hSw; (try dsimp only at hSw); go_simp <;> with_reducible rfl)
    simp only [Act.put, List.setIfInBounds_toArray, List.set_cons_zero, List.set_cons_succ]
    refine aloneL (i := 4) rfl (by kernel_rfl) (fun K hK => ?_)
    refine step_calls_w rfl 22 _ _ rfl #[.pointer (some ⟨db, 1, none⟩), .agg #[.slice none 0 0, .slice none 0 0, .slice none 0 0, .slice none 0 0, .slice none 0 0]] (by simp [Act.eval]) (Tryd.callBu _ _) ((HK.out _ (HG3.out.trans (Gr.drew (Gr.refl _))) hs3).mono ?_)
    rintro x w4 ⟨rfl, ⟨n', B', hn', hB', hdk⟩, hbl, hbx⟩
    have HDK := hide hdk
    have HBL : Hid (Below db w w4) := hide ((((Below.refl db w).grown (HG1.out.trans (HG3.out.trans (Gr.drew (Gr.refl _)))) (Nat.le_of_lt hdl) (by simp))).trans hbl)
    refine .inl ⟨_, rfl, ?_⟩
    refine hK.out _ _ (KS.out _ hbx) (fun hHeld => ?_)
    clear hK
    try simp only [Act.put, List.setIfInBounds_toArray, List.set_cons_zero, List.set_cons_succ]
    refine wpAnyH_done (by kernel_rfl) ?_ _
    clear hHeld KS hbl hdk hbx HK
    have hq1 : ((e : Int) == (e : Int)) = true := by simp
    have hq2 : (((p : Int) : Int) == ((p : Int) : Int)) = true := by simp
    go_wp2_with (go_at_call 17; refine (num_any _ _).mono ?_; rintro e w' ⟨rfl, hw'⟩; obtain rfl := hw'.symm)
    go_ret
    exact ⟨rfl, n', B', hn', hB', HDK.out, HBL.out⟩
end Go.Proofs.YtkgncijcnlfhiaaDoor

