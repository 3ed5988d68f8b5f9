import Derived.Test.YtkgncijcnlfhiabGreatNq
import Derived.Test.YtkgncijcnlfhiabGreatR4
import Derived.Test.YtkgncijcnlfhiabGreatE1
import Derived.Test.YtkgncijcnlfhiabGreatZ3
namespace Go.Proofs.YtkgncijcnlfhiabGreat
set_option linter.unusedVariables false
set_option linter.unusedSimpArgs false
open Go.RowKit
/-- every cell that is there is as it was -/
def Kc (w w' : World) : Prop := ∀ (a : Addr) (x : Value), w.cell? a = some x → w'.cell? a = some x
theorem RInts.kc {w w' : World} {v : Value} {l : List Int} (h : RInts w v l) (g : Kc w w') : RInts w' v l := by
  obtain ⟨ao, cap, hv, hm, hc⟩ := h
  refine ⟨ao, cap, hv, hm, fun i hi => ?_⟩
  obtain ⟨b, off, h1, h2⟩ := hc i hi
  exact ⟨b, off, h1, g _ _ h2⟩
theorem RCode.kc {w w' : World} {v : Value} {l : List PIns} (h : RCode w v l) (g : Kc w w') : RCode w' v l := by
  obtain ⟨ao, cap, hv, hm, hc⟩ := h
  refine ⟨ao, cap, hv, hm, fun i x hi => ?_⟩
  obtain ⟨b, off, h1, h2, h3, h4⟩ := hc i x hi
  exact ⟨b, off, h1, g _ _ h2, g _ _ h3, g _ _ h4⟩
theorem RShapes.kc {w w' : World} {v : Value} {l : List (List Int)} (h : RShapes w v l) (g : Kc w w') : RShapes w' v l := by
  obtain ⟨ao, cap, hv, hm, hc⟩ := h
  refine ⟨ao, cap, hv, hm, fun i x hi => ?_⟩
  obtain ⟨b, off, vx, h1, h2, h3⟩ := hc i x hi
  exact ⟨b, off, vx, h1, g _ _ h2, h3.kc g⟩
theorem RFuncs.kc {w w' : World} {v : Value} {l : List PFunc} (h : RFuncs w v l) (g : Kc w w') : RFuncs w' v l := by
  obtain ⟨ao, cap, hv, hm, hc⟩ := h
  refine ⟨ao, cap, hv, hm, fun i x hi => ?_⟩
  obtain ⟨b, off, vp, vl, vc, h1, h2, h3, h4, h5, h6, h7, h8⟩ := hc i x hi
  exact ⟨b, off, vp, vl, vc, h1, g _ _ h2, g _ _ h3, g _ _ h4, g _ _ h5, h6.kc g, h7.kc g, h8.kc g⟩
theorem RImports.kc {w w' : World} {v : Value} {l : List PImp} (h : RImports w v l) (g : Kc w w') : RImports w' v l := by
  obtain ⟨ao, cap, hv, hm, hc⟩ := h
  refine ⟨ao, cap, hv, hm, fun i x hi => ?_⟩
  obtain ⟨b, off, vs, vp, h1, h2, h3, h4, h5, h6⟩ := hc i x hi
  exact ⟨b, off, vs, vp, h1, g _ _ h2, g _ _ h3, g _ _ h4, h5, h6.kc g⟩
theorem RExports.kc {w w' : World} {v : Value} {l : List PExp} (h : RExports w v l) (g : Kc w w') : RExports w' v l := by
  obtain ⟨ao, cap, hv, hm, hc⟩ := h
  refine ⟨ao, cap, hv, hm, fun i x hi => ?_⟩
  obtain ⟨b, off, vs, h1, h2, h3, h4⟩ := hc i x hi
  exact ⟨b, off, vs, h1, g _ _ h2, g _ _ h3, h4⟩
theorem RUnit.kc {w w' : World} {v : Value} {u : PUnit} (h : RUnit w v u) (g : Kc w w') : RUnit w' v u := by
  obtain ⟨v1, v2, v3, v4, v5, e, h1, h2, h3, h4, h5⟩ := h
  exact ⟨v1, v2, v3, v4, v5, e, h1.kc g, h2.kc g, h3.kc g, h4.kc g, h5.kc g⟩
/-- without that block -/
def wout (w : World) (o : Option Nat) : World := match o with
  | some b => w.setRow b #[]
  | none => w
theorem wout_heap (w : World) (o : Option Nat) (k : Nat) (h : ¬ o = some k) : (wout w o).heap[k]? = w.heap[k]? := by
  cases o with
  | none => rfl
  | some b => exact setRow_other w b k _ (fun e => h (by rw [e]))
theorem wout_size (w : World) (o : Option Nat) : (wout w o).heap.size = w.heap.size := by cases o <;> simp [wout]
/-- what is read without that block, is read without another, too, and behind an append -/
theorem wout_kc {w w3 : World} {o o' : Option Nat} {base : Nat} {e : TypeId} {n len : Nat} {v : Value} {xs : List Value} (hv : w.ownsRow base e n v len xs) (ho : v.ownBlock = o) (g : w.grownBy w3 o) (hl : o' = o ∨ o' = some w.heap.size) : Kc (wout w o) (wout w3 o') := by
  intro a x h
  have hlt := World.block_lt_of_cell? _ _ h
  rw [wout_size] at hlt
  by_cases hb : o = some a.block
  · exfalso
    subst hb
    rcases hv.2 with ⟨rfl, _⟩ | ⟨g', cap, cur, rfl, _, hh, _⟩
    · simp [Value.ownBlock] at ho
    · simp only [Value.ownBlock, Option.some.injEq] at ho
      rw [ho] at hh
      have h2 := setRow_heap w a.block cur #[] e (0, 0) hh
      have h3 : (wout w (some a.block)).heap[a.block]? = some (.cells #[] e (0, 0)) := h2
      have h4 : (wout w (some a.block)).cell? a = none := by
        unfold World.cell?
        rw [h3]
        simp
      rw [h4] at h; cases h
  · have hb' : ¬ o' = some a.block := by
      rcases hl with rfl | rfl
      · exact hb
      · intro e; have := Option.some.inj e; omega
    have e1 : (wout w3 o').heap[a.block]? = (wout w o).heap[a.block]? := by
      rw [wout_heap _ _ _ hb', wout_heap _ _ _ hb]
      exact g.block a.block hlt (fun e => hb e.symm)
    exact (World.cell?_of_block e1).trans h
theorem wout_gr {w w' : World} {o : Option Nat} (g : Gr w w') (ho : ∀ b, o = some b → b < w.heap.size) : Gr (wout w o) (wout w' o) := by
  refine ⟨?_, ?_, ?_, by rw [wout_size, wout_size]; exact g.size, fun k hk hne => ?_⟩
  · cases o <;> exact g.os
  · cases o <;> exact g.tape
  · cases o <;> exact g.output
  · rw [wout_size] at hk
    cases o with
    | none => exact g.block k hk hne
    | some b =>
      by_cases hb : k = b
      · subst hb
        have e := g.block k hk (by simp)
        have hk' : k < w'.heap.size := Nat.lt_of_lt_of_le hk g.size
        unfold wout World.setRow
        simp only [Array.getElem?_modify, if_true, e]
      · show (w'.setRow b #[]).heap[k]? = (w.setRow b #[]).heap[k]?
        rw [setRow_other _ _ _ _ hb, setRow_other _ _ _ _ hb]
        exact g.block k hk hne
theorem wout_to {w : World} {o : Option Nat} {base : Nat} {e : TypeId} {n len : Nat} {v : Value} {xs : List Value} (hv : w.ownsRow base e n v len xs) (ho : v.ownBlock = o) : Kc (wout w o) w := by
  have := wout_kc (o' := some w.heap.size) hv ho (World.grownBy.refl w o) (.inr rfl)
  intro a x h
  have h2 := this a x h
  have hlt := World.block_lt_of_cell? _ _ h
  rw [wout_size] at hlt
  have e := wout_heap w (some w.heap.size) a.block (by intro e; have := Option.some.inj e; omega)
  exact (World.cell?_of_block e).symm.trans h2
/-- bytes that are decoded, one after another -/
def decAll : Nat → List (List UInt8) → List PUnit ⊕ (Int × Nat × Nat)
  | _, [] => .inl []
  | k, s :: l => match dec s with
    | .inr (e, p) => .inr (e, k, p)
    | .inl u => match decAll (k + 1) l with
      | .inl us => .inl (u :: us)
      | .inr r => .inr r
def glueD (us : List PUnit) : List PUnit ⊕ (Int × Nat × Nat) → List PUnit ⊕ (Int × Nat × Nat)
  | .inl vs => .inl (us ++ vs)
  | .inr r => .inr r
theorem glueD_step {us : List PUnit} {k : Nat} {s : List UInt8} {l : List (List UInt8)} {u : PUnit} (h : dec s = .inl u) : glueD us (decAll k (s :: l)) = glueD (us ++ [u]) (decAll (k + 1) l) := by
  rw [decAll, h]
  cases decAll (k + 1) l with
  | inl vs => simp [glueD]
  | inr r => rfl
theorem glueD_stop {us : List PUnit} {k : Nat} {s : List UInt8} {l : List (List UInt8)} {e : Int} {p : Nat} (h : dec s = .inr (e, p)) : glueD us (decAll k (s :: l)) = .inr (e, k, p) := by
  rw [decAll, h]; rfl
theorem link_take (us : List PUnit) : linkP (us.take 7) = linkP us := by
  by_cases h : us.length ≤ 7
  · rw [List.take_of_length_le h]
  · cases us with
    | nil => rfl
    | cons a t =>
      have e : (a :: t).take 7 = a :: t.take 6 := rfl
      rw [e, linkP, linkP, if_pos (by simp at h ⊢; omega), if_pos (by simp at h ⊢; omega)]
structure POut where
  why : Int
  unit : Int
  at_ : Int
  e : Int
  result : Int
  told : List Int
  steps : Int
def runP (M : PUnit → POut) (ss : List (List UInt8)) (fuel heap : Int) : POut :=
  if fuel < 0 ∨ 200000 < fuel ∨ heap < 0 ∨ 5000 < heap then ⟨1, 0, 0, 0, 0, [], 0⟩ else match decAll 0 ss with
  | .inr (e, k, p) => ⟨2, (k : Int), (p : Int), e, 0, [], 0⟩
  | .inl us => match linkP us with
    | .inr (e, k) => ⟨3, (k : Int), 0, e, 0, [], 0⟩
    | .inl u => if (verifyP u).1 ≠ 0 then ⟨4, ((verifyP u).2.1 : Int), ((verifyP u).2.2 : Int), (verifyP u).1, 0, [], 0⟩ else M u
def RTexts (w : World) (v : Value) (l : List (List UInt8)) : Prop := ∃ ao cap, v = .slice ao l.length cap ∧ l.length ≤ maxLen ∧ ∀ (i : Nat) (x : List UInt8), l[i]? = some x → ∃ (b off : Nat) (s : ByteArray), ao = some ⟨b, off, none⟩ ∧ w.cell? ⟨b, off + i, none⟩ = some (.string s) ∧ s.data.toList = x ∧ s.size ≤ maxLen
end Go.Proofs.YtkgncijcnlfhiabGreat

namespace Go.Proofs.YtkgncijcnlfhiabGreat
set_option linter.unusedVariables false
set_option linter.unusedSimpArgs false
open Go.RowKit
def ThroughR (u : PUnit) (w : World) (x : Ending) (w' : World) : Prop := Below w.heap.size w w' ∧ ((x = .returned (.tuple #[]) ∧ verifyP u = (0, 0, 0)) ∨ (x = .panicked (thrown3 (verifyP u).1 ((verifyP u).2.1 : Int) ((verifyP u).2.2 : Int))))
def VfyR (u : PUnit) (w : World) (x : Ending) (w' : World) : Prop := x = .returned (.tuple #[.int .i64 (verifyP u).1, .int .i64 ((verifyP u).2.1 : Int), .int .i64 ((verifyP u).2.2 : Int)]) ∧ Below w.heap.size w w'
def ThroughC (u : PUnit) : Prop := ∀ (V : World) (vu : Value), RUnit V vu u → Calls Tryz.prog 18 #[vu] V (ThroughR u V)

set_option maxRecDepth 100000 in
set_option maxHeartbeats 1000000 in
theorem work_vfy (u : PUnit) (HT : ThroughC u) (ub : Nat) (x0 x1 x2 x3 x4 : Value) (W : World) (hb : Box5 W ub x0 x1 x2 x3 x4) (hR : RUnit W (.agg #[x0, x1, x2, x3, x4]) u) :
    Calls Tryz.prog 17 #[.pointer (some ⟨ub, 0, none⟩)] W (ThroughR u W) := by
  obtain ⟨v1, v2, v3, v4, v5, he, k1, k2, k3, k4, k5⟩ := hR
  have HR : Hid (RUnit W (.agg #[x0, x1, x2, x3, x4]) u) := hide ⟨v1, v2, v3, v4, v5, he, k1, k2, k3, k4, k5⟩
  simp only [Value.agg.injEq, Array.mk.injEq, List.cons.injEq, and_true] at he
  obtain ⟨rfl, rfl, rfl, rfl, rfl⟩ := he
  obtain ⟨a1, c1, rfl⟩ := k1.shape
  obtain ⟨a2, c2, rfl⟩ := k2.shape
  obtain ⟨a3, c3, rfl⟩ := k3.shape
  obtain ⟨a4, c4, rfl⟩ := k4.shape
  obtain ⟨a5, c5, rfl⟩ := k5.shape
  obtain ⟨l0, l1, l2, l3, l4, n0, n1, n2, n3, n4⟩ := hb
  have HTC := hide HT
  clear k1 k2 k3 k4 k5 n0 n1 n2 n3 n4 HT
  go_enter Tryz.func17, Tryz.ntmps17
  go_wp2_with fail
  refine (HTC.out W _ HR.out).mono ?_
  rintro x w1 ⟨hlow, ⟨rfl, hv⟩ | rfl⟩
  · have HLo := hide hlow
    have HV := hide hv
    clear hlow hv
    go_wp2_with fail
    go_end0
    exact ⟨HLo.out, .inl ⟨rfl, HV.out⟩⟩
  · exact ⟨rfl, hlow, .inr rfl⟩
theorem vfyW_box (W : World) (v1 v2 v3 v4 v5 : Value) : Box5 ((W.alloc (.cells #[v1, v2, v3, v4, v5] 29)).alloc (.cells #[.int .i64 0, .int .i64 0, .int .i64 0] 62)) W.heap.size v1 v2 v3 v4 v5 := (Box5.new W 29 v1 v2 v3 v4 v5).gr ((Gr.refl _).alloc _)

set_option maxRecDepth 100000 in
set_option maxHeartbeats 2000000 in
theorem verify_of (u : PUnit) (HT : ThroughC u) (vu : Value) (W : World) (hR : RUnit W vu u) :
    Calls Tryz.prog 12 #[vu] W (VfyR u W) := by
  have hmf : ∀ (fn : Fn) (first cap : Array Value) (w : World), (Instr.makeFunc fn first cap).run Tryz.prog w = .ok (.func fn first cap) w := fun _ _ _ _ => rfl
  have HRU := hide hR
  obtain ⟨v1, v2, v3, v4, v5, rfl, h1, h2, h3, h4, h5⟩ := hR
  obtain ⟨a1, c1, rfl⟩ := h1.shape
  obtain ⟨a2, c2, rfl⟩ := h2.shape
  obtain ⟨a3, c3, rfl⟩ := h3.shape
  obtain ⟨a4, c4, rfl⟩ := h4.shape
  obtain ⟨a5, c5, rfl⟩ := h5.shape
  have HTC := hide HT
  clear h1 h2 h3 h4 h5 HT
  have HBX := hide (vfyW_box W (.slice a1 u.shapes.length c1) (.slice a2 u.consts.length c2) (.slice a3 u.funcs.length c3) (.slice a4 u.imports.length c4) (.slice a5 u.exports.length c5))
  have hga := Gr.alloc (Gr.refl W) (.cells #[.slice a1 u.shapes.length c1, .slice a2 u.consts.length c2, .slice a3 u.funcs.length c3, .slice a4 u.imports.length c4, .slice a5 u.exports.length c5] 29)
  have HGA := hide hga
  have hszV : (W.alloc (.cells #[.slice a1 u.shapes.length c1, .slice a2 u.consts.length c2, .slice a3 u.funcs.length c3, .slice a4 u.imports.length c4, .slice a5 u.exports.length c5] 29)).heap.size = W.heap.size + 1 := by simp
  have HSZ := hide hszV
  clear hga hszV
  go_enter Tryz.func12, Tryz.ntmps12
  go_wp2_with fail
  generalize W.alloc (.cells #[.slice a1 u.shapes.length c1, .slice a2 u.consts.length c2, .slice a3 u.funcs.length c3, .slice a4 u.imports.length c4, .slice a5 u.exports.length c5] 29) = V at HBX HGA HSZ ⊢
  have hwb : Box3 (V.alloc (.cells #[.int .i64 0, .int .i64 0, .int .i64 0] 62)) V.heap.size (.int .i64 0) (.int .i64 0) (.int .i64 0) := Box3.new V 62 (.int .i64 0) (.int .i64 0) (.int .i64 0)
  have hgV := HGA.out.alloc (.cells #[.int .i64 0, .int .i64 0, .int .i64 0] 62)
  refine (refusal_any 17 #[.pointer (some ⟨W.heap.size, 0, none⟩)] V
    (fun w1 => verifyP u = (0, 0, 0) ∧ Below W.heap.size W w1)
    (fun e n a w1 => e = (verifyP u).1 ∧ n = ((verifyP u).2.1 : Int) ∧ a = ((verifyP u).2.2 : Int) ∧ Below W.heap.size W w1) (fun w => rfl)
    ((work_vfy u HTC.out W.heap.size _ _ _ _ _ _ HBX.out (HRU.out.gr hgV)).mono ?_)).mono ?_
  · rintro x w' ⟨hlow, ⟨rfl, hv⟩ | rfl⟩
    · exact ⟨hwb.below hlow, .inl ⟨rfl, hv, below_gr hgV hlow⟩⟩
    · exact ⟨hwb.below hlow, .inr ⟨_, _, _, rfl, rfl, rfl, rfl, below_gr hgV hlow⟩⟩
  · rintro x w2 ⟨w1, hgc, _, hx⟩
    have hy : ∃ e n a : Int, x = .returned (.agg #[.int .i64 e, .int .i64 n, .int .i64 a]) ∧ e = (verifyP u).1 ∧ n = ((verifyP u).2.1 : Int) ∧ a = ((verifyP u).2.2 : Int) ∧ Below W.heap.size W w1 := by
      rcases hx with ⟨rfl, hv, hb⟩ | ⟨e, n, a, rfl, e1, e2, e3, hb⟩
      · exact ⟨0, 0, 0, rfl, by rw [hv], by rw [hv]; rfl, by rw [hv]; rfl, hb⟩
      · exact ⟨e, n, a, rfl, e1, e2, e3, hb⟩
    obtain ⟨e, n, a, rfl, e1, e2, e3, hlow⟩ := hy
    have HE := hide (And.intro e1 (And.intro e2 e3))
    have HB := hide (hlow.grown hgc hlow.size (by intro k hk; simp only [Option.some.injEq] at hk; have := HSZ.out; omega))
    clear hx e1 e2 e3 hlow hgc hmf hwb hgV HBX HRU HTC HGA HSZ
    have hb2 := Box3.new w2 62 (.int .i64 e) (.int .i64 n) (.int .i64 a)
    have hg2 := Gr.alloc (Gr.refl w2) (.cells #[.int .i64 e, .int .i64 n, .int .i64 a] 62)
    have HB2 := hide (HB.out.grown hg2 HB.out.size (by simp))
    obtain ⟨p0, p1, p2, _⟩ := hb2
    clear hg2 HB
    go_wp2
    generalize w2.alloc (.cells #[.int .i64 e, .int .i64 n, .int .i64 a] 62) = W3 at p0 p1 p2 HB2 ⊢
    go_quiet (fail)
    go_wp2_with fail
    go_ret3
    obtain ⟨e1, e2, e3⟩ := HE.out
    subst e1 e2 e3
    exact ⟨rfl, by first | exact HB2.out | exact ⟨HB2.out.os, HB2.out.tape, HB2.out.output, HB2.out.size, HB2.out.block⟩⟩
end Go.Proofs.YtkgncijcnlfhiabGreat

