import Derived.Test.YtkgncijcnlfhiaaDoorGg
import Derived.Test.YtkgncijcnlfhiaaDoorK4
import Derived.Test.YtkgncijcnlfhiaaDoorG2
import Derived.Test.YtkgncijcnlfhiaaDoorCards
import Derived.Test.YtkgncijcnlfhiaaDoorTie
import Derived.ProofKit
import Derived.OpenShut
import Derived.Carry
import Derived.Deep.DeepHandedRow
import Derived.Lib.LaidTab
import Derived.Test.YtkgncijcnlfhiaaDoorBk1
namespace Go.Proofs.YtkgncijcnlfhiaaDoor
set_option linter.unusedVariables false
set_option linter.unusedSimpArgs false
open Go.RowKit
attribute [local go_sem ↓] Go.wp_at_zero Go.wp_at_succ
theorem Tryd.callBu2 (vals : Array Value) (w : World) : (callFunc 22 vals).run Tryd.prog w = .ok (.enter 22 vals) w := by kernel_rfl
theorem Tryd.callSu (vals : Array Value) (w : World) : (callFunc 15 vals).run Tryd.prog w = .ok (.enter 15 vals) w := by kernel_rfl
def LnkD (db n B0 : Nat) (os : List Nat) (w : World) (x : Ending) (w' : World) : Prop := x = .returned (.bool true) ∧ ∃ n' B' ob, n' ≤ n + 1000 ∧ B' ≤ B0 + 1000 ∧ DkO db n' B' (os ++ [ob]) w' ∧ Below db w w'
set_option maxRecDepth 100000 in
set_option maxHeartbeats 4000000 in
theorem link_desk (db n B0 : Nat) (os : List Nat) (l : List PUnit) (vl : Value) (w00 w : World) (hd : DkO db n B0 os w) (hL0 : RUnits w00 vl l) (h00 : w00.heap.size ≤ db) (hB00 : Below w00.heap.size w00 w) (hF : FewL l) (hT : Tab w) (hn : n ≤ 100000) (hB0 : B0 ≤ 100000) (hos : os.length ≤ 100) :
    Calls Tryd.prog 10 #[.pointer (some ⟨db, 0, none⟩), vl] w (LnkD db n B0 os w) := by
  have hL := hL0.low hB00
  obtain ⟨aL, cL, rfl⟩ := hL.shape
  obtain ⟨V, X, ρ, vo, hds⟩ := hd
  have hdl := hds.s.lt
  have HDk := hide hds
  have HL := hide hL
  have HL0 := hide hL0
  have HB00 := hide hB00
  have HF := hide hF
  have HT := hide hT
  have hln := hF.len
  have HN0 := hide (heap_new w (.cells #[nS, nS, nS, nS, nS, nS, nS, nS] 52))
  have HG0 := hide ((Gr.refl w).alloc (.cells #[nS, nS, nS, nS, nS, nS, nS, nS] 52))
  have hs0 : (w.alloc (.cells #[nS, nS, nS, nS, nS, nS, nS, nS] 52)).heap.size = w.heap.size + 1 := by simp
  clear hds hL hF hT hL0 hB00
  go_enter Tryd.func10, Tryd.ntmps10
  go_wp2_with fail
  generalize w.alloc (.cells #[nS, nS, nS, nS, nS, nS, nS, nS] 52) = W0 at HN0 HG0 hs0 ⊢
  refine (all_any w.heap.size w.heap.size (fun _ => nS) (fun _ => []) l _ w W0 (OwnAt.none_ (Nat.le_refl _) HN0.out) HL.out (Nat.le_refl _) ((Below.refl _ _).grown HG0.out (Nat.le_refl _) (by simp)) HF.out ⟨by simp, by simp, fun _ _ _ _ => by simp⟩ (by omega)).mono ?_
  rintro x w1 ⟨ao, co, V', S', rfl, hru, how, hfr⟩
  have HB1 := hide (((Below.refl w.heap.size w).grown HG0.out (Nat.le_refl _) (by simp)).trans hfr.low)
  have hs1 : w.heap.size + 1 ≤ w1.heap.size := by have := hfr.size; omega
  have HO1 := hide how
  have HR1 := hide hru
  clear hru how hfr HN0 HG0 hs0
  go_wp2_with fail
  refine (link_any w1 l _ HR1.out).mono ?_
  intro x w2 hlk
  obtain ⟨a1, n1, c1, a2, n2, c2, a3, n3, c3, a4, n4, c4, a5, n5, c5, rfl, hg2, hru2, r, es1, k2, es3, k5, hou⟩ := LinkR.uni (db := db) hlk (by omega)
  have HG2 := hide hg2
  have HRU := hide hru2
  have HOU := hide hou
  have hs2 := hg2.size
  clear hlk hg2 hru2 hou
  go_wp2_with fail
  have HGA := hide ((Gr.refl w2).alloc (.cells #[.slice a1 n1 c1, .slice a2 n2 c2, .slice a3 n3 c3, .slice a4 n4 c4, .slice a5 n5 c5] 28))
  have HBA := hide (heap_alloc_new w2 (.cells #[.slice a1 n1 c1, .slice a2 n2 c2, .slice a3 n3 c3, .slice a4 n4 c4, .slice a5 n5 c5] 28))
  have hsA : (w2.alloc (.cells #[.slice a1 n1 c1, .slice a2 n2 c2, .slice a3 n3 c3, .slice a4 n4 c4, .slice a5 n5 c5] 28)).heap.size = w2.heap.size + 1 := by simp
  generalize w2.alloc (.cells #[.slice a1 n1 c1, .slice a2 n2 c2, .slice a3 n3 c3, .slice a4 n4 c4, .slice a5 n5 c5] 28) = W2 at HGA HBA hsA ⊢
  have HB2 : Hid (Below w.heap.size w W2) := hide (HB1.out.grown (HG2.out.trans HGA.out) (by omega) (by simp))
  have HB02 : Hid (Below w00.heap.size w00 W2) := hide (HB00.out.trans (HB2.out.mono (by omega)))
  refine (link_ref l _ w00 W2 HL0.out HB02.out (HT.out.low (by omega) HB2.out)).mono ?_
  intro x w3 h3
  obtain ⟨p1, m1, q1, p2, m2, q2, p3, m3, q3, p4, m4, q4, p5, m5, q5, rfl, hg3, hru3⟩ := LkR.uni h3 HB02.out.size (fun b hb => HB02.out.block b hb)
  generalize (linkO l).2.1 = le
  generalize (linkO l).2.2 = lk
  have HG3 := hide hg3
  have HRV := hide hru3
  have hs3 := hg3.size
  have HBA3 : Hid (w3.heap[w2.heap.size]? = some (.cells #[.slice a1 n1 c1, .slice a2 n2 c2, .slice a3 n3 c3, .slice a4 n4 c4, .slice a5 n5 c5] 28 (0, 0))) := hide ((hg3.block _ (by omega) (by simp)).trans HBA.out)
  clear h3 hg3 hru3 HBA
  go_upto_region 5 with fail
  have HGB := hide ((Gr.refl w3).alloc (.cells #[.slice p1 m1 q1, .slice p2 m2 q2, .slice p3 m3 q3, .slice p4 m4 q4, .slice p5 m5 q5] 28))
  have hbb := heap_alloc_new w3 (.cells #[.slice p1 m1 q1, .slice p2 m2 q2, .slice p3 m3 q3, .slice p4 m4 q4, .slice p5 m5 q5] 28)
  have hba := (((Gr.refl w3).alloc (.cells #[.slice p1 m1 q1, .slice p2 m2 q2, .slice p3 m3 q3, .slice p4 m4 q4, .slice p5 m5 q5] 28)).block w2.heap.size (by omega) (by simp)).trans HBA3.out
  have hsB : (w3.alloc (.cells #[.slice p1 m1 q1, .slice p2 m2 q2, .slice p3 m3 q3, .slice p4 m4 q4, .slice p5 m5 q5] 28)).heap.size = w3.heap.size + 1 := by simp
  generalize w3.alloc (.cells #[.slice p1 m1 q1, .slice p2 m2 q2, .slice p3 m3 q3, .slice p4 m4 q4, .slice p5 m5 q5] 28) = W3 at HGB hbb hba hsB ⊢
  obtain ⟨e0, e1, e2, e3, e4⟩ := heap_box5 hba
  obtain ⟨f0, f1, f2, f3, f4⟩ := heap_box5 hbb
  have HBXA := hide hba
  have HBXB := hide hbb
  have HG23 : Hid (Gr w2 W3) := hide (HGA.out.trans (HG3.out.trans HGB.out))
  have HBl3 : Hid (Below w00.heap.size w00 W3) := hide (HB02.out.grown (HG3.out.trans HGB.out) HB02.out.size (by simp))
  have HRV3 : Hid (∀ W : World, (∀ b, b < w00.heap.size → W.heap[b]? = w00.heap[b]?) → (∀ b, W2.heap.size ≤ b → b < W3.heap.size → W.heap[b]? = W3.heap[b]?) → RUnit W (.agg #[.slice p1 m1 q1, .slice p2 m2 q2, .slice p3 m3 q3, .slice p4 m4 q4, .slice p5 m5 q5]) (linkO l).1) := hide (fun W h1 h2 => HRV.out W h1 (fun b hb hl => (h2 b hb (by omega)).trans (HGB.out.block b hl (by simp))))
  clear hba hbb HBA3 HRV
  go_wp2_with fail
  refine (same_unit _ _ (linkO l).1 _ (HRU.out.gr HG23.out) (HRV3.out W3 (fun b hb => HBl3.out.block b hb) (fun _ _ _ => rfl))).mono ?_
  rintro x w4 ⟨rfl, hg4⟩
  have HG4 := hide hg4
  have hs4 := hg4.size
  clear e0 e1 e2 e3 e4 f0 f1 f2 f3 f4 hg4
  have hq0 : ((l.length : Int) == (l.length : Int)) = true := by simp
  have HR4 : Hid (RUnits w4 (.slice ao l.length co) l) := hide (HR1.out.gr ((HG2.out.trans HG23.out).trans HG4.out))
  have HBl4 : Hid (Below w00.heap.size w00 w4) := hide (HBl3.out.grown HG4.out HBl3.out.size (by simp))
  have HL4 : Hid (RUnits w4 (.slice aL l.length cL) l) := hide (HL0.out.low HBl4.out)
  go_wp2_with fail
  go_loopw [14, 15] (fun kp i wr => ∃ k : Nat, k ≤ l.length ∧ kp = .bool true ∧ i = .int .i64 k ∧ Gr w4 wr) (fun _ i _ => l.length - (intOf i).toNat)
  case atStart => exact ⟨0, Nat.zero_le _, by simp, rfl, Gr.refl _⟩
  case round =>
    obtain ⟨k, hk, rfl, rfl, hgr⟩ := hrel
    have HGr := hide hgr
    clear hgr
    by_cases hlt : k < l.length
    · obtain ⟨u, hu⟩ := getElem?_lt hlt
      obtain ⟨ba, oa, _, x1, y1, x2, y2, x3, y3, x4, y4, x5, y5, hv, g0, g1, g2, g3, g4, hra⟩ := (HR4.out.gr HGr.out).at_all hu
      simp only [Value.slice.injEq, true_and] at hv
      obtain ⟨rfl, rfl⟩ := hv
      obtain ⟨bl, ol, _, z1, t1, z2, t2, z3, t3, z4, t4, z5, t5, hv, j0, j1, j2, j3, j4, hrb⟩ := (HL4.out.gr HGr.out).at_all hu
      simp only [Value.slice.injEq, true_and] at hv
      obtain ⟨rfl, rfl⟩ := hv
      have HRA := hide hra
      have HRB := hide hrb
      have hki : (k : Int) < (l.length : Int) := by omega
      have hk0 : (0 : Int) ≤ (k : Int) := by omega
      have KS : Hid (∀ w' : World, Gr wr w' → (fun w' : World => w'.cell? ⟨ba, oa + k * 5, none⟩ = some (.slice x1 u.shapes.length y1) ∧ w'.cell? ⟨ba, oa + k * 5 + 1, none⟩ = some (.slice x2 u.consts.length y2) ∧ w'.cell? ⟨ba, oa + k * 5 + 2, none⟩ = some (.slice x3 u.funcs.length y3) ∧ w'.cell? ⟨ba, oa + k * 5 + 3, none⟩ = some (.slice x4 u.imports.length y4) ∧ w'.cell? ⟨ba, oa + k * 5 + 4, none⟩ = some (.slice x5 u.exports.length y5) ∧ w'.cell? ⟨bl, ol + k * 5, none⟩ = some (.slice z1 u.shapes.length t1) ∧ w'.cell? ⟨bl, ol + k * 5 + 1, none⟩ = some (.slice z2 u.consts.length t2) ∧ w'.cell? ⟨bl, ol + k * 5 + 2, none⟩ = some (.slice z3 u.funcs.length t3) ∧ w'.cell? ⟨bl, ol + k * 5 + 3, none⟩ = some (.slice z4 u.imports.length t4) ∧ w'.cell? ⟨bl, ol + k * 5 + 4, none⟩ = some (.slice z5 u.exports.length t5)) w') := hide (fun w' g => ⟨g.cell g0 (by simp), g.cell g1 (by simp), g.cell g2 (by simp), g.cell g3 (by simp), g.cell g4 (by simp), g.cell j0 (by simp), g.cell j1 (by simp), g.cell j2 (by simp), g.cell j3 (by simp), g.cell j4 (by simp)⟩)
      clear hra hrb hu g0 g1 g2 g3 g4 j0 j1 j2 j3 j4
      go_wp2_with fail
      refine wp_region_held_drew (S := (fun w' : World => w'.cell? ⟨ba, oa + k * 5, none⟩ = some (.slice x1 u.shapes.length y1) ∧ w'.cell? ⟨ba, oa + k * 5 + 1, none⟩ = some (.slice x2 u.consts.length y2) ∧ w'.cell? ⟨ba, oa + k * 5 + 2, none⟩ = some (.slice x3 u.funcs.length y3) ∧ w'.cell? ⟨ba, oa + k * 5 + 3, none⟩ = some (.slice x4 u.imports.length y4) ∧ w'.cell? ⟨ba, oa + k * 5 + 4, none⟩ = some (.slice x5 u.exports.length y5) ∧ w'.cell? ⟨bl, ol + k * 5, none⟩ = some (.slice z1 u.shapes.length t1) ∧ w'.cell? ⟨bl, ol + k * 5 + 1, none⟩ = some (.slice z2 u.consts.length t2) ∧ w'.cell? ⟨bl, ol + k * 5 + 2, none⟩ = some (.slice z3 u.funcs.length t3) ∧ w'.cell? ⟨bl, ol + k * 5 + 3, none⟩ = some (.slice z4 u.imports.length t4) ∧ w'.cell? ⟨bl, ol + k * 5 + 4, none⟩ = some (.slice z5 u.exports.length t5))) (by kernel_rfl) (KS.out _ (Gr.drew (Gr.refl _))) (fun hHeld => ?_)
      refine takeL (i := 0) (v := ?kav0) rfl (by kernel_rfl) (by kernel_rfl) (by kernel_rfl) (by intro c a w h; exact h) (by rfl) ?kahy0 hHeld ?karest0
      case kahy0 => (intro w hSw; (try dsimp only at hSw); go_simp <;> with_reducible rfl)
      simp only [Act.put, List.setIfInBounds_toArray, List.set_cons_zero, List.set_cons_succ]
      refine takeL (i := 1) (v := ?kav1) rfl (by kernel_rfl) (by kernel_rfl) (by kernel_rfl) (by intro c a w h; exact h) (by rfl) ?kahy1 hHeld ?karest1
      case kahy1 => (intro w hSw; (try dsimp only at hSw); go_simp <;> with_reducible rfl)
      simp only [Act.put, List.setIfInBounds_toArray, List.set_cons_zero, List.set_cons_succ]
      refine takeL (i := 2) (v := ?kav2) rfl (by kernel_rfl) (by kernel_rfl) (by kernel_rfl) (by intro c a w h; exact h) (by rfl) ?kahy2 hHeld ?karest2
      case kahy2 => (intro w hSw; (try dsimp only at hSw); go_simp <;> with_reducible rfl)
      simp only [Act.put, List.setIfInBounds_toArray, List.set_cons_zero, List.set_cons_succ]
      refine takeL (i := 3) (v := ?kav3) rfl (by kernel_rfl) (by kernel_rfl) (by kernel_rfl) (by intro c a w h; exact h) (by rfl) ?kahy3 hHeld ?karest3
      case kahy3 => (intro w hSw; (try dsimp only at hSw); go_simp <;> with_reducible rfl)
      simp only [Act.put, List.setIfInBounds_toArray, List.set_cons_zero, List.set_cons_succ]
      refine takeL (i := 4) (v := ?kav4) rfl (by kernel_rfl) (by kernel_rfl) (by kernel_rfl) (by intro c a w h; exact h) (by rfl) ?kahy4 hHeld ?karest4
      case kahy4 => (intro w hSw; (try dsimp only at hSw); go_simp <;> with_reducible rfl)
      simp only [Act.put, List.setIfInBounds_toArray, List.set_cons_zero, List.set_cons_succ]
      refine takeL (i := 5) (v := ?kav5) rfl (by kernel_rfl) (by kernel_rfl) (by kernel_rfl) (by intro c a w h; exact h) (by rfl) ?kahy5 hHeld ?karest5
      case kahy5 => (intro w hSw; (try dsimp only at hSw); go_simp <;> with_reducible rfl)
      simp only [Act.put, List.setIfInBounds_toArray, List.set_cons_zero, List.set_cons_succ]
      refine takeL (i := 6) (v := ?kav6) rfl (by kernel_rfl) (by kernel_rfl) (by kernel_rfl) (by intro c a w h; exact h) (by rfl) ?kahy6 hHeld ?karest6
      case kahy6 => (intro w hSw; (try dsimp only at hSw); go_simp <;> with_reducible rfl)
      simp only [Act.put, List.setIfInBounds_toArray, List.set_cons_zero, List.set_cons_succ]
      refine takeL (i := 7) (v := ?kav7) rfl (by kernel_rfl) (by kernel_rfl) (by kernel_rfl) (by intro c a w h; exact h) (by rfl) ?kahy7 hHeld ?karest7
      case kahy7 => (intro w hSw; (try dsimp only at hSw); go_simp <;> with_reducible rfl)
      simp only [Act.put, List.setIfInBounds_toArray, List.set_cons_zero, List.set_cons_succ]
      refine aloneL (i := 8) rfl (by kernel_rfl) (fun K hK => ?_)
      refine step_calls_w rfl 15 _ _ rfl #[.agg #[.slice x1 u.shapes.length y1, .slice x2 u.consts.length y2, .slice x3 u.funcs.length y3, .slice x4 u.imports.length y4, .slice x5 u.exports.length y5], .agg #[.slice z1 u.shapes.length t1, .slice z2 u.consts.length t2, .slice z3 u.funcs.length t3, .slice z4 u.imports.length t4, .slice z5 u.exports.length t5]] (by simp [Act.eval]) (Tryd.callSu _ _) ((same_unit _ _ u _ (HRA.out.gr (Gr.drew (Gr.refl _))) (HRB.out.gr (Gr.drew (Gr.refl _)))).mono ?_)
      rintro x w5 ⟨rfl, hg5⟩
      have HG5 : Hid (Gr wr w5) := hide ((Gr.drew (Gr.refl _)).trans hg5)
      refine .inl ⟨_, rfl, ?_⟩
      refine hK.out _ _ (KS.out _ HG5.out) (fun hHeld => ?_)
      clear hK
      try simp only [Act.put, List.setIfInBounds_toArray, List.set_cons_zero, List.set_cons_succ]
      refine takeL (i := 9) (v := ?kav9) rfl (by kernel_rfl) (by kernel_rfl) (by kernel_rfl) (by intro c a w h; exact h) (by rfl) ?kahy9 hHeld ?karest9
      case kahy9 => (intro w hSw; (try dsimp only at hSw); go_simp <;> with_reducible rfl)
      simp only [Act.put, List.setIfInBounds_toArray, List.set_cons_zero, List.set_cons_succ]
      refine wpAnyH_done (by kernel_rfl) ?_ _
      clear hHeld KS hg5
      go_wp2_with fail
      go_roundw
      case rel => exact ⟨k + 1, by omega, rfl, by go_num, HGr.out.trans HG5.out⟩
      case measure => simp [intOf]; omega
    · have hkn : k = l.length := by omega
      subst hkn
      clear hlt hk
      have HG1r : Hid (Gr w1 wr) := hide ((HG2.out.trans HG23.out).trans (HG4.out.trans HGr.out))
      have HBr : Hid (Below w.heap.size w wr) := hide (HB1.out.grown HG1r.out (by omega) (by simp))
      have hsr := HGr.out.size
      have HOr := hide (HO1.out.gr HG1r.out)
      have HDr := hide (HDk.out.below HBr.out)
      go_wp2_with fail
      refine (put_own w.heap.size db w.heap.size n B0 vo os V' S' V X ρ w1 wr HDr.out HO1.out (by omega) HG1r.out.size HOr.out hos).mono ?_
      rintro x w6 ⟨rfl, vo', hd6, hfr6, hb6⟩
      have HD6 := hide hd6
      have HFR6 := hide hfr6
      have hs6 := hb6.size
      have HBx6 : Hid (w6.heap[w2.heap.size]? = some (.cells #[.slice a1 n1 c1, .slice a2 n2 c2, .slice a3 n3 c3, .slice a4 n4 c4, .slice a5 n5 c5] 28 (0, 0))) := hide ((hfr6 _ (by omega) (by omega)).trans (((HG4.out.trans HGr.out).block _ (by omega) (by simp)).trans HBXA.out))
      have HBy6 : Hid (w6.heap[w3.heap.size]? = some (.cells #[.slice p1 m1 q1, .slice p2 m2 q2, .slice p3 m3 q3, .slice p4 m4 q4, .slice p5 m5 q5] 28 (0, 0))) := hide ((hfr6 _ (by omega) (by omega)).trans (((HG4.out.trans HGr.out).block _ (by omega) (by simp)).trans HBXB.out))
      have HBdb : Hid (Below db w w6) := hide ((HBr.out.mono (by omega)).trans hb6)
      have HRV6 : Hid (RUnit w6 (.agg #[.slice p1 m1 q1, .slice p2 m2 q2, .slice p3 m3 q3, .slice p4 m4 q4, .slice p5 m5 q5]) (linkO l).1) := hide (HRV3.out w6 (fun b hb => ((HB00.out.trans (HBdb.out.mono (by omega))).block b hb)) (fun b hb hl => (hfr6 b (by omega) (by omega)).trans ((HG4.out.trans HGr.out).block b hl (by simp))))
      have hst6 : ∀ k, w1.heap.size ≤ k → k < w2.heap.size → w6.heap[k]? = w2.heap[k]? := fun k h1 h2 => (hfr6 k h1 (by omega)).trans ((HG23.out.trans (HG4.out.trans HGr.out)).block k h2 (by simp))
      have HST6 := hide hst6
      obtain ⟨e0, e1, e2, e3, e4⟩ := heap_box5 HBx6.out
      obtain ⟨f0, f1, f2, f3, f4⟩ := heap_box5 HBy6.out
      clear hd6 hfr6 hb6 hst6
      have HRU6 : Hid (RUnit w6 (.agg #[.slice a1 n1 c1, .slice a2 n2 c2, .slice a3 n3 c3, .slice a4 n4 c4, .slice a5 n5 c5]) (linkO l).1) := hide (HOU.out.back w6 (by omega) HST6.out)
      go_wp2_with fail
      refine (same_unit _ _ (linkO l).1 _ HRU6.out HRV6.out).mono ?_
      rintro x w7 ⟨rfl, hg7⟩
      have HG7 := hide hg7
      have hs7 := hg7.size
      have HBX7 : Hid (w7.heap[w2.heap.size]? = some (.cells #[.slice a1 n1 c1, .slice a2 n2 c2, .slice a3 n3 c3, .slice a4 n4 c4, .slice a5 n5 c5] 28 (0, 0))) := hide ((hg7.block _ (by omega) (by simp)).trans HBx6.out)
      clear e0 e1 e2 e3 e4 f0 f1 f2 f3 f4 hg7
      have HK : Hid (Calls Tryd.prog 22 #[.pointer (some ⟨db, 1, none⟩), .agg #[.slice a1 n1 c1, .slice a2 n2 c2, .slice a3 n3 c3, .slice a4 n4 c4, .slice a5 n5 c5]] w7.drew (BkO db n B0 (os ++ [w.heap.size]) w2.heap.size w7.drew)) := hide (by
        have hdd := HD6.out.gr (HG7.out.trans (Gr.drew (Gr.refl _)))
        refine hdd.book (r := r) (fun k hk => ?_) (HOU.out.uno w7.drew (fun k h1 h2 => ((HG7.out.trans (Gr.drew (Gr.refl _))).block k (by omega) (by simp)).trans (HST6.out k h1 h2))) HOU.out.l1 HOU.out.l3 (by decide) HOU.out.l5 hn hB0 ?_ ?_ (by omega) (by show _ < w7.heap.size; omega)
        · have := HOU.out.role k hk
          exact ⟨⟨this.1, by omega⟩, by omega, by show k < w7.heap.size; omega⟩
        · by_cases e : r w2.heap.size = .no
          · exact e
          · have := (HOU.out.role _ e).2; omega
        · by_cases e : ρ w2.heap.size = .no
          · exact e
          · exact absurd ⟨by omega, by omega⟩ (HD6.out.zr _ e))
      have KS : Hid (∀ w' : World, w'.heap[w2.heap.size]? = w7.heap[w2.heap.size]? → (fun w' : World => w'.cell? ⟨w2.heap.size, 0, none⟩ = some (.slice a1 n1 c1) ∧ w'.cell? ⟨w2.heap.size, 1, none⟩ = some (.slice a2 n2 c2) ∧ w'.cell? ⟨w2.heap.size, 2, none⟩ = some (.slice a3 n3 c3) ∧ w'.cell? ⟨w2.heap.size, 3, none⟩ = some (.slice a4 n4 c4) ∧ w'.cell? ⟨w2.heap.size, 4, none⟩ = some (.slice a5 n5 c5)) w') := hide (fun w' h => heap_box5 (h.trans HBX7.out))
      go_wp2_with fail
      refine wp_region_held_drew (S := (fun w' : World => w'.cell? ⟨w2.heap.size, 0, none⟩ = some (.slice a1 n1 c1) ∧ w'.cell? ⟨w2.heap.size, 1, none⟩ = some (.slice a2 n2 c2) ∧ w'.cell? ⟨w2.heap.size, 2, none⟩ = some (.slice a3 n3 c3) ∧ w'.cell? ⟨w2.heap.size, 3, none⟩ = some (.slice a4 n4 c4) ∧ w'.cell? ⟨w2.heap.size, 4, none⟩ = some (.slice a5 n5 c5))) (by kernel_rfl) (KS.out _ rfl) (fun hHeld => ?_)
      refine takeL (i := 0) (v := ?kbv0) rfl (by kernel_rfl) (by kernel_rfl) (by kernel_rfl) (by intro c a w h; exact h) (by rfl) ?kbhy0 hHeld ?kbrest0
      case kbhy0 => (intro w hSw; (try dsimp only at hSw); go_simp <;> with_reducible rfl)
      simp only [Act.put, List.setIfInBounds_toArray, List.set_cons_zero, List.set_cons_succ]
      refine takeL (i := 1) (v := ?kbv1) rfl (by kernel_rfl) (by kernel_rfl) (by kernel_rfl) (by intro c a w h; exact h) (by rfl) ?kbhy1 hHeld ?kbrest1
      case kbhy1 => (intro w hSw; (try dsimp only at hSw); go_simp <;> with_reducible rfl)
      simp only [Act.put, List.setIfInBounds_toArray, List.set_cons_zero, List.set_cons_succ]
      refine takeL (i := 2) (v := ?kbv2) rfl (by kernel_rfl) (by kernel_rfl) (by kernel_rfl) (by intro c a w h; exact h) (by rfl) ?kbhy2 hHeld ?kbrest2
      case kbhy2 => (intro w hSw; (try dsimp only at hSw); go_simp <;> with_reducible rfl)
      simp only [Act.put, List.setIfInBounds_toArray, List.set_cons_zero, List.set_cons_succ]
      refine takeL (i := 3) (v := ?kbv3) rfl (by kernel_rfl) (by kernel_rfl) (by kernel_rfl) (by intro c a w h; exact h) (by rfl) ?kbhy3 hHeld ?kbrest3
      case kbhy3 => (intro w hSw; (try dsimp only at hSw); go_simp <;> with_reducible rfl)
      simp only [Act.put, List.setIfInBounds_toArray, List.set_cons_zero, List.set_cons_succ]
      refine aloneL (i := 4) rfl (by kernel_rfl) (fun K hK => ?_)
      refine step_calls_w rfl 22 _ _ rfl #[.pointer (some ⟨db, 1, none⟩), .agg #[.slice a1 n1 c1, .slice a2 n2 c2, .slice a3 n3 c3, .slice a4 n4 c4, .slice a5 n5 c5]] (by simp [Act.eval]) (Tryd.callBu2 _ _) (HK.out.mono ?_)
      rintro x w8 ⟨rfl, ⟨n', B', hn', hB', hdk⟩, hbl, hbx⟩
      have HDK := hide hdk
      have HBL : Hid (Below db w w8) := hide ((HBdb.out.grown (HG7.out.trans (Gr.drew (Gr.refl _))) (by omega) (by simp)).trans hbl)
      refine .inl ⟨_, rfl, ?_⟩
      refine hK.out _ _ (KS.out _ hbx) (fun hHeld => ?_)
      clear hK
      try simp only [Act.put, List.setIfInBounds_toArray, List.set_cons_zero, List.set_cons_succ]
      refine wpAnyH_done (by kernel_rfl) ?_ _
      clear hHeld KS hbl hdk hbx HK
      have hse : (le == le) = true := by simp
      have hsk : ((lk : Int) == (lk : Int)) = true := by simp
      go_wp2_with (go_at_call 17; refine (num_any _ _).mono ?_; rintro e w' ⟨rfl, hw'⟩; obtain rfl := hw'.symm)
      go_ret
      exact ⟨rfl, n', B', _, hn', hB', HDK.out, HBL.out⟩
end Go.Proofs.YtkgncijcnlfhiaaDoor

namespace Go.Proofs.YtkgncijcnlfhiaaDoor
set_option linter.unusedVariables false
set_option linter.unusedSimpArgs false
open Go.RowKit
attribute [local go_sem ↓] Go.wp_at_zero Go.wp_at_succ
set_option maxRecDepth 100000 in
set_option maxHeartbeats 4000000 in
theorem links_law (l m : List PUnit) (vl vm : Value) (w : World) (hL : RUnits w vl l) (hM : RUnits w vm m) (hFl : FewL l) (hFm : FewL m) (hT : Tab w) (h0 : 0 < w.heap.size) :
    Calls Tryd.prog 5 #[vl, vm] w (LawR w) := by
  have HT := hide hT
  have HL := hide hL
  have HM := hide hM
  have HFl := hide hFl
  have HFm := hide hFm
  obtain ⟨aL, cL, rfl⟩ := hL.shape
  obtain ⟨aM, cM, rfl⟩ := hM.shape
  have HN := hide (heap_new w (.cells #[nS, zI, nS, nS, nS, nS, nS, nS, nS, nS, nS] 39))
  have HG := hide ((Gr.refl w).alloc (.cells #[nS, zI, nS, nS, nS, nS, nS, nS, nS, nS, nS] 39))
  clear hT hL hM hFl hFm
  go_enter Tryd.func5, Tryd.ntmps5
  go_wp2_with fail
  generalize hW : w.alloc (.cells #[nS, zI, nS, nS, nS, nS, nS, nS, nS, nS, nS] 39) = W at HN HG
  clear hW
  have HB0 := hide ((Below.refl w.heap.size w).grown HG.out (Nat.le_refl _) (by simp))
  refine (link_desk w.heap.size 0 0 [] l _ w W (DkO.new HN.out) HL.out (Nat.le_refl _) HB0.out HFl.out (HT.out.gr HG.out) (by decide) (by decide) (by decide)).mono ?_
  rintro x w1 ⟨rfl, n1, B1, o1, hn1, hB1, hd1, hb1⟩
  have HD1 := hide hd1
  have HB1 := hide (HB0.out.trans hb1)
  clear hd1 hb1 HN HG HB0
  go_wp2_with fail
  refine (link_desk w.heap.size n1 B1 _ m _ w w1 HD1.out HM.out (Nat.le_refl _) HB1.out HFm.out (HT.out.low h0 HB1.out) (by omega) (by omega) (by simp)).mono ?_
  rintro x w2 ⟨rfl, n2, B2, o2, hn2, hB2, hd2, hb2⟩
  have HD2 := hide hd2
  have HB2 := hide (HB1.out.trans hb2)
  clear hd2 hb2 HD1 HB1
  go_wp2_with fail
  refine (link_desk w.heap.size n2 B2 _ l _ w w2 HD2.out HL.out (Nat.le_refl _) HB2.out HFl.out (HT.out.low h0 HB2.out) (by omega) (by omega) (by simp)).mono ?_
  rintro x w3 ⟨rfl, n3, B3, o3, hn3, hB3, hd3, hb3⟩
  have HD3 := hide hd3
  have HB3 := hide (HB2.out.trans hb3)
  clear hd3 hb3 HD2 HB2
  go_wp2_with fail
  refine (deskO_holds w.heap.size n3 B3 _ w3 HD3.out).mono ?_
  rintro x w4 ⟨rfl, hg4⟩
  have HB4 := hide (HB3.out.grown hg4 HB3.out.size (by simp))
  clear hg4
  go_wp2_with fail
  go_ret
  exact ⟨rfl, HB4.out⟩
end Go.Proofs.YtkgncijcnlfhiaaDoor

namespace Go.Proofs.YtkgncijcnlfhiaaDoor
set_option linter.unusedVariables false
set_option linter.unusedSimpArgs false
open Go.ChangeShapes Go.WideShapes Go.ChangeAt Go.RowKit

theorem own : ownKnob Tryd.prog.godebug = none := by kernel_rfl
theorem laidOut : laidOutB Tryd.prog = true := by kernel_rfl
theorem gOps : Tryd.prog.globalNamed "kiln/kilnref.operands" = some 0 := by kernel_rfl
theorem gOpsType : (Tryd.prog.globals[0]?).map (·.type) = some 208 := by kernel_rfl
theorem uOps : Tryd.prog.underlying 208 = some (.array 21 3) := by kernel_rfl
theorem cOps : Tryd.prog.cellsOf 208 = 21 := by kernel_rfl

set_option maxRecDepth 100000 in
/-- what the row's list gives -/
theorem links_tab {W : World} (h : laidMetH Tryd.prog Rows.linksUptoRow.laid W) : Tab W := by
  have hT : Lib.TabIs Tryd.prog W "kiln/kilnref.operands" .i64 [1, 1, 1, 1, 0, 0, 0, 0, 0, 0, 0, 1, 1, 1, 0, 1, 2, 2, 1, 1, 0] := Lib.tabIs_of_head (rest := []) gOps gOpsType uOps Tryd.underlying3 Tryd.cInt cOps h
  intro j hj
  have h1 := hT.cell gOps j hj
  rw [h1]
  have h2 : ∀ j, j < 21 → ([1, 1, 1, 1, 0, 0, 0, 0, 0, 0, 0, 1, 1, 1, 0, 1, 2, 2, 1, 1, 0] : List Int).getD j 0 = operandsN (j : Int) := by decide
  rw [h2 j hj]
noncomputable def linksWorld (os : Os) : World :=
  { World.holding Tryd.prog os ⟨#[], #[], []⟩ with heap := (World.holding Tryd.prog os ⟨#[], #[], []⟩).heap.modify 0 fun
      | .cells _ t frozen => .cells #[.int .i64 1, .int .i64 1, .int .i64 1, .int .i64 1, .int .i64 0, .int .i64 0, .int .i64 0, .int .i64 0, .int .i64 0, .int .i64 0, .int .i64 0, .int .i64 1, .int .i64 1, .int .i64 1, .int .i64 0, .int .i64 1, .int .i64 2, .int .i64 2, .int .i64 1, .int .i64 1, .int .i64 0] t frozen
      | o => o }
theorem links_laid_met (os : Os) : laidMet Tryd.prog Rows.linksUptoRow.laid ((linksWorld os).forCall (fun _ _ => 0) ⟨#[], #[.slice none 0 0, .slice none 0 0], []⟩).memory :=
  laidMet_of_run' 8 (by kernel_rfl) (by kernel_rfl)
theorem links_reads (os : Os) {H : Type} (enc : TypeId × Value → H) : ∃ places, DataW.whole enc Tryd.prog ((linksWorld os).forCall (fun _ _ => 0) ⟨#[], #[.slice none 0 0, .slice none 0 0], []⟩).memory Tryd.f5.params.toList Rows.linksSpec.vars false (#[.slice none 0 0, .slice none 0 0] : Array Value).toList 8 = some ([.nil, .nil], [], places) :=
  ⟨[], by kernel_rfl⟩

set_option maxRecDepth 100000 in
set_option maxHeartbeats 2000000 in
theorem links_contract (H : Type) (enc : TypeId × Value → H) (F : Stop.Interp) (W : World) (base : Nat) (args : Array Value) (ds gs : List (DataW H)) (before : List MemPlace)
    (hval : ∀ (j : Nat) t v, Tryd.f5.params[j]? = some t → args[j]? = some v → Value.okWide Tryd.prog W .any base t v)
    (hW : DataW.Whole enc Tryd.prog Tryd.f5.params.toList Rows.linksSpec.vars false W args.toList ds gs before) (hcond : Rows.uptoSmall H (ds ++ gs) = true) (hL : laidMetH Tryd.prog Rows.linksUptoRow.laid W) :
    Calls Tryd.prog 5 args W fun e W' => ∃ v, e = .returned v ∧ Rows.linksSpec.post enc Tryd.prog Tryd.f5 false true false false W args v W' := by
  have hW' := hW
  obtain ⟨p, q, hA0, hV, rfl, hfz, hnd⟩ := hW
  have hA : DataW.TrodAll enc Tryd.prog W 0 (fun _ => true) true Tryd.f5.params.toList args.toList ds p := hA0
  rw [Tryd.params5] at hA hval
  obtain ⟨v0, vs0, d0, ds0, p0, q0, hargs, rfl, rfl, h0, r0⟩ := trodAll_cons hA
  obtain ⟨v1, vs1, d1, ds1, p1, q1, rfl, rfl, rfl, h1, r1⟩ := trodAll_cons r0
  obtain ⟨rfl, rfl, rfl⟩ := trodAll_nil r1
  obtain rfl : args = #[v0, v1] := by cases args; simp_all
  obtain ⟨rfl, rfl⟩ := trodVars_none hV
  clear hA0
  simp only [List.append_nil] at hW' hcond
  have hbl : Rows.uptoBulkAll [d0, d1] ≤ 1048576 := of_decide_eq_true hcond
  simp only [Rows.uptoBulkAll] at hbl
  obtain ⟨a0, len0, cap0, rfl⟩ := okWide_slice Tryd.underlying45 (hval 0 45 v0 rfl rfl)
  obtain ⟨a1, len1, cap1, rfl⟩ := okWide_slice Tryd.underlying45 (hval 1 45 v1 rfl rfl)
  have h0k := h0
  have h1k := h1
  obtain ⟨fuel0, hf0⟩ := h0
  obtain ⟨fuel1, hf1⟩ := h1
  have hlt0 : ∀ x ∈ p0, x.block < W.heap.size := fun x hx => hW'.lt x (by simp [hx])
  have hlt1 : ∀ x ∈ p1, x.block < W.heap.size := fun x hx => hW'.lt x (by simp [hx])
  have hkeep : ∀ (W' : World) (v : Value) (d : DataW H) (p : List MemPlace), DataW.Trod enc Tryd.prog W 0 (fun _ => true) true 45 v d p → (∀ x ∈ p, x.block < W.heap.size) → Below W.heap.size W W' → DataW.Trod enc Tryd.prog W' 0 (fun b => decide (b < W.heap.size)) true 45 v d p :=
    fun W' v d p h hl hn => Below.trod laidOut (by kernel_rfl) (of_decide_eq_true (by kernel_rfl)) h hn hl
  obtain ⟨u, hu, hWu⟩ := read_units (v := .slice a0 len0 cap0) (x := (d0, p0)) hf0 (by simp only; omega)
  obtain ⟨v, hv, hWv⟩ := read_units (v := .slice a1 len1 cap1) (x := (d1, p1)) hf1 (by simp only; omega)
  have hTab := links_tab hL
  have hW0 : 0 < W.heap.size := World.block_lt_of_cell? W _ (hTab 0 (by decide))
  refine (links_law u v _ _ W hu hv hWu hWv hTab hW0).mono fun e W' ⟨he, hg⟩ => ?_
  subst he
  exact ⟨_, rfl, _, _, _, [], _, [], hW', trodAll_cons_mk (shut_bool Tryd.underlying4 _) trodAll_mk0, trodAll_cons_mk (hkeep W' _ _ _ h0k hlt0 hg) (trodAll_cons_mk (hkeep W' _ _ _ h1k hlt1 hg) trodAll_mk0), rfl, hg.frame _, fun h => nomatch h⟩

set_option maxRecDepth 100000 in
theorem links_lifted (os : Os) (started : os.Started) (H : Type) (enc : TypeId × Value → H) (F : Stop.Interp) :
    ReturnsInHanded {} Tryd.checked os 5 .any ((Rows.OpenSpec.upto Rows.linksSpec).preRow enc Tryd.prog Tryd.f5 Rows.linksUptoRow.domain false Rows.linksUptoRow.laid) (((Rows.OpenSpec.upto Rows.linksSpec).at F).post enc Tryd.prog Tryd.f5 false true false false) := by
  obtain ⟨places, hx⟩ := links_reads os enc
  refine returnsInHanded_of_row (C := Tryd.checked) (s := Rows.OpenSpec.upto Rows.linksSpec) own started (by kernel_rfl) Tryd.func5
    (witness_row_at (enc := enc) (C := Tryd.checked) false (linksWorld os) #[.slice none 0 0, .slice none 0 0] rfl (by kernel_rfl) (by kernel_rfl) (by kernel_rfl)
      (OpenSpec.preRow_of_cond 8 hx (by kernel_rfl) (fun k hk => by cases hk; kernel_rfl) (by kernel_rfl) (links_laid_met os))) ?_
  intro W base args ds gs before hval hW _ hcond _ hL _ _
  exact links_contract H enc F W base args ds gs before hval hW (hcond _ rfl) hL
theorem links_upto : Rows.LinksUptoSaid :=
  OpenClaim.holds_of_cond 5 Tryd.f5 rfl rfl rfl rfl rfl rfl rfl ⟨rfl, rfl, rfl, rfl, rfl⟩ rfl rfl rfl rfl rfl (by kernel_rfl) Tryd.func5 (by kernel_rfl)
    (of_decide_eq_true (by kernel_rfl)) (by unfold Func.isWrapper; first | (rw [if_pos (by decide +kernel)]; kernel_rfl) | (rw [if_neg (by decide +kernel)]; exact ⟨rfl, rfl⟩))
    (fun os started H enc _ F => by rw [OpenClaim.pre_eq_preRow]; exact links_lifted os started H enc F)
theorem links_plain (f : FuncId) (fn : Func) (hf : Tryd.pinned.checked.prog.funcNamed "kiln/kilnlaw.Links" = some f) (hfn : Tryd.pinned.checked.prog.funcs[f]? = some fn) :
    true = Tryd.pinned.checked.prog.looks [] ∧ ∀ (j : Nat) t, fn.params[j]? = some t → Tryd.pinned.checked.prog.wantsStandIn t = false := by
  obtain rfl : f = 5 := Option.some.inj ((show Tryd.prog.funcNamed "kiln/kilnlaw.Links" = some 5 by kernel_rfl).symm.trans hf) |>.symm
  obtain rfl : fn = Tryd.f5 := (Option.some.inj (Tryd.func5.symm.trans hfn)).symm
  refine ⟨by kernel_rfl, fun j t ht => ?_⟩
  rw [Tryd.params5] at ht
  obtain rfl : t = 45 := by simpa using Array.mem_of_getElem? ht
  exact (show Tryd.prog.wantsStandIn 45 = false by kernel_rfl)
theorem links_card : Rows.LinksUptoCardSaid :=
  Claim7.holds_tied_plain_at .later [] _ _ _ _ links_upto (fun _ h => by cases h) (by kernel_rfl) (fun _ h => by cases h) linksUpto_row_tie rfl ⟨rfl, rfl⟩ (by kernel_rfl) rfl links_plain (by kernel_rfl)
end Go.Proofs.YtkgncijcnlfhiaaDoor

