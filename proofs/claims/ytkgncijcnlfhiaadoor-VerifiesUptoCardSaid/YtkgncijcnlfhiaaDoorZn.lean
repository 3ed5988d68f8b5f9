import Derived.Test.YtkgncijcnlfhiaaDoorE1
import Derived.Test.YtkgncijcnlfhiaaDoorZ3
namespace Go.Proofs.YtkgncijcnlfhiaaDoor
set_option linter.unusedVariables false
set_option linter.unusedSimpArgs false
open Go.RowKit
def ThroughR (u : PUnit) (w : World) (x : Ending) (w' : World) : Prop := Below w.heap.size w w' ∧ ((x = .returned (.tuple #[]) ∧ verifyP u = (0, 0, 0)) ∨ (x = .panicked (thrown3 (verifyP u).1 ((verifyP u).2.1 : Int) ((verifyP u).2.2 : Int))))
def VfyR (u : PUnit) (w : World) (x : Ending) (w' : World) : Prop := x = .returned (.tuple #[.int .i64 (verifyP u).1, .int .i64 ((verifyP u).2.1 : Int), .int .i64 ((verifyP u).2.2 : Int)]) ∧ Below w.heap.size w w'
def ThroughC (u : PUnit) : Prop := ∀ (V : World) (vu : Value), RUnit V vu u → Calls Tryd.prog 53 #[vu] V (ThroughR u V)

set_option maxRecDepth 100000 in
set_option maxHeartbeats 1000000 in
theorem work_vfy (u : PUnit) (HT : ThroughC u) (ub : Nat) (x0 x1 x2 x3 x4 : Value) (W : World) (hb : Box5 W ub x0 x1 x2 x3 x4) (hR : RUnit W (.agg #[x0, x1, x2, x3, x4]) u) :
    Calls Tryd.prog 52 #[.pointer (some ⟨ub, 0, none⟩)] W (ThroughR u W) := by
  obtain ⟨v1, v2, v3, v4, v5, he, k1, k2, k3, k4, k5⟩ := hR
  have HR : Hid (RUnit W (.agg #[x0, x1, x2, x3, x4]) u) := hide ⟨v1, v2, v3, v4, v5, he, k1, k2, k3, k4, k5⟩
  simp only [Value.agg.injEq, Array.mk.injEq, List.cons.injEq, and_true] at he
  obtain ⟨rfl, rfl, rfl, rfl, rfl⟩ := he
  obtain ⟨a1, c1, rfl⟩ := k1.shape
  obtain ⟨a2, c2, rfl⟩ := k2.shape
  obtain ⟨a3, c3, rfl⟩ := k3.shape
  obtain ⟨a4, c4, rfl⟩ := k4.shape
  obtain ⟨a5, c5, rfl⟩ := k5.shape
  obtain ⟨l0, l1, l2, l3, l4, n0, n1, n2, n3, n4⟩ := hb
  have HTC := hide HT
  clear k1 k2 k3 k4 k5 n0 n1 n2 n3 n4 HT
  go_enter Tryd.func52, Tryd.ntmps52
  go_wp2_with fail
  refine (HTC.out W _ HR.out).mono ?_
  rintro x w1 ⟨hlow, ⟨rfl, hv⟩ | rfl⟩
  · have HLo := hide hlow
    have HV := hide hv
    clear hlow hv
    go_wp2_with fail
    go_end0
    exact ⟨HLo.out, .inl ⟨rfl, HV.out⟩⟩
  · exact ⟨rfl, hlow, .inr rfl⟩
theorem vfyW_box (W : World) (v1 v2 v3 v4 v5 : Value) : Box5 ((W.alloc (.cells #[v1, v2, v3, v4, v5] 28)).alloc (.cells #[.int .i64 0, .int .i64 0, .int .i64 0] 83)) W.heap.size v1 v2 v3 v4 v5 := (Box5.new W 28 v1 v2 v3 v4 v5).gr ((Gr.refl _).alloc _)

set_option maxRecDepth 100000 in
set_option maxHeartbeats 2000000 in
theorem verify_of (u : PUnit) (HT : ThroughC u) (vu : Value) (W : World) (hR : RUnit W vu u) :
    Calls Tryd.prog 26 #[vu] W (VfyR u W) := by
  have hmf : ∀ (fn : Fn) (first cap : Array Value) (w : World), (Instr.makeFunc fn first cap).run Tryd.prog w = .ok (.func fn first cap) w := fun _ _ _ _ => rfl
  have HRU := hide hR
  obtain ⟨v1, v2, v3, v4, v5, rfl, h1, h2, h3, h4, h5⟩ := hR
  obtain ⟨a1, c1, rfl⟩ := h1.shape
  obtain ⟨a2, c2, rfl⟩ := h2.shape
  obtain ⟨a3, c3, rfl⟩ := h3.shape
  obtain ⟨a4, c4, rfl⟩ := h4.shape
  obtain ⟨a5, c5, rfl⟩ := h5.shape
  have HTC := hide HT
  clear h1 h2 h3 h4 h5 HT
  have HBX := hide (vfyW_box W (.slice a1 u.shapes.length c1) (.slice a2 u.consts.length c2) (.slice a3 u.funcs.length c3) (.slice a4 u.imports.length c4) (.slice a5 u.exports.length c5))
  have hga := Gr.alloc (Gr.refl W) (.cells #[.slice a1 u.shapes.length c1, .slice a2 u.consts.length c2, .slice a3 u.funcs.length c3, .slice a4 u.imports.length c4, .slice a5 u.exports.length c5] 28)
  have HGA := hide hga
  have hszV : (W.alloc (.cells #[.slice a1 u.shapes.length c1, .slice a2 u.consts.length c2, .slice a3 u.funcs.length c3, .slice a4 u.imports.length c4, .slice a5 u.exports.length c5] 28)).heap.size = W.heap.size + 1 := by simp
  have HSZ := hide hszV
  clear hga hszV
  go_enter Tryd.func26, Tryd.ntmps26
  go_wp2_with fail
  generalize W.alloc (.cells #[.slice a1 u.shapes.length c1, .slice a2 u.consts.length c2, .slice a3 u.funcs.length c3, .slice a4 u.imports.length c4, .slice a5 u.exports.length c5] 28) = V at HBX HGA HSZ ⊢
  have hwb : Box3 (V.alloc (.cells #[.int .i64 0, .int .i64 0, .int .i64 0] 83)) V.heap.size (.int .i64 0) (.int .i64 0) (.int .i64 0) := Box3.new V 83 (.int .i64 0) (.int .i64 0) (.int .i64 0)
  have hgV := HGA.out.alloc (.cells #[.int .i64 0, .int .i64 0, .int .i64 0] 83)
  refine (refusal_any 52 #[.pointer (some ⟨W.heap.size, 0, none⟩)] V
    (fun w1 => verifyP u = (0, 0, 0) ∧ Below W.heap.size W w1)
    (fun e n a w1 => e = (verifyP u).1 ∧ n = ((verifyP u).2.1 : Int) ∧ a = ((verifyP u).2.2 : Int) ∧ Below W.heap.size W w1) (fun w => rfl)
    ((work_vfy u HTC.out W.heap.size _ _ _ _ _ _ HBX.out (HRU.out.gr hgV)).mono ?_)).mono ?_
  · rintro x w' ⟨hlow, ⟨rfl, hv⟩ | rfl⟩
    · exact ⟨hwb.below hlow, .inl ⟨rfl, hv, below_gr hgV hlow⟩⟩
    · exact ⟨hwb.below hlow, .inr ⟨_, _, _, rfl, rfl, rfl, rfl, below_gr hgV hlow⟩⟩
  · rintro x w2 ⟨w1, hgc, _, hx⟩
    have hy : ∃ e n a : Int, x = .returned (.agg #[.int .i64 e, .int .i64 n, .int .i64 a]) ∧ e = (verifyP u).1 ∧ n = ((verifyP u).2.1 : Int) ∧ a = ((verifyP u).2.2 : Int) ∧ Below W.heap.size W w1 := by
      rcases hx with ⟨rfl, hv, hb⟩ | ⟨e, n, a, rfl, e1, e2, e3, hb⟩
      · exact ⟨0, 0, 0, rfl, by rw [hv], by rw [hv]; rfl, by rw [hv]; rfl, hb⟩
      · exact ⟨e, n, a, rfl, e1, e2, e3, hb⟩
    obtain ⟨e, n, a, rfl, e1, e2, e3, hlow⟩ := hy
    have HE := hide (And.intro e1 (And.intro e2 e3))
    have HB := hide (hlow.grown hgc hlow.size (by intro k hk; simp only [Option.some.injEq] at hk; have := HSZ.out; omega))
    clear hx e1 e2 e3 hlow hgc hmf hwb hgV HBX HRU HTC HGA HSZ
    have hb2 := Box3.new w2 83 (.int .i64 e) (.int .i64 n) (.int .i64 a)
    have hg2 := Gr.alloc (Gr.refl w2) (.cells #[.int .i64 e, .int .i64 n, .int .i64 a] 83)
    have HB2 := hide (HB.out.grown hg2 HB.out.size (by simp))
    obtain ⟨p0, p1, p2, _⟩ := hb2
    clear hg2 HB
    go_wp2
    generalize w2.alloc (.cells #[.int .i64 e, .int .i64 n, .int .i64 a] 83) = W3 at p0 p1 p2 HB2 ⊢
    go_quiet (fail)
    go_wp2_with fail
    go_ret3
    obtain ⟨e1, e2, e3⟩ := HE.out
    subst e1 e2 e3
    exact ⟨rfl, by first | exact HB2.out | exact ⟨HB2.out.os, HB2.out.tape, HB2.out.output, HB2.out.size, HB2.out.block⟩⟩
end Go.Proofs.YtkgncijcnlfhiaaDoor

