import Derived.Test.YtkgncijcnlfhiaaDoorQ3
import Derived.Test.YtkgncijcnlfhiaaDoorV6
import Derived.Test.YtkgncijcnlfhiaaDoorE1
namespace Go.Proofs.YtkgncijcnlfhiaaDoor
set_option linter.unusedVariables false
set_option linter.unusedSimpArgs false
open Go.RowKit
attribute [local go_sem ↓] Go.wp_at_zero Go.wp_at_succ

theorem magic_eq (l : List UInt8) : (l == [75, 73, 76, 78, 1]) = decide (l = magic) := by rw [Bool.eq_iff_iff, beq_iff_eq, decide_eq_true_eq]; rfl

set_option maxRecDepth 100000 in
set_option maxHeartbeats 1000000 in
theorem hasPrefix_any (s : ByteArray) (w : World) (hs : s.size ≤ maxLen) :
    Calls Tryd.prog 126 #[.string s, .string ⟨#[75, 73, 76, 78, 1]⟩] w fun x w' => x = .returned (.bool (decide (s.data.toList.take 5 = magic))) ∧ w' = w := by
  unfold maxLen at hs
  by_cases h5 : 5 ≤ s.size
  · have hd : (5 : Int) ≤ (s.size : Int) := by omega
    have hd2 : decide ((5 : Int) ≤ (s.size : Int)) = true := by simpa using hd
    have hex := take_bytes s 5
    go_enter Tryd.func126, Tryd.ntmps126
    go_wp2
    go_ret
    exact ⟨by rw [← magic_eq]; rfl, rfl⟩
  · have hd2 : decide ((5 : Int) ≤ (s.size : Int)) = false := by rw [decide_eq_false_iff_not]; omega
    have hl : s.data.toList.length = s.size := by rw [Array.length_toList]; rfl
    go_enter Tryd.func126, Tryd.ntmps126
    go_wp2
    go_ret
    have hf : decide (s.data.toList.take 5 = magic) = false := by
      rw [decide_eq_false_iff_not]; intro h
      have := congrArg List.length h
      rw [List.length_take] at this
      have hm : magic.length = 5 := rfl
      omega
    exact ⟨by rw [hf]; rfl, rfl⟩

/-- how a section's reader ends -/
def SectR {α : Type} (sb : Nat) (t : List UInt8) (p B : Nat) (w : World) (R : Nat → World → Value → List α → Prop) : Option (List α × List UInt8) → Ending → World → Prop
  | some (y, r), x, w' => ∃ v, x = .returned (.tuple #[v, .agg #[.int .i64 2, .int .i64 0, .int .i64 (p : Int)]]) ∧ R B w' v y ∧ Sec w' sb t (t.length - r.length) ∧ Gc sb w w'
  | none, x, w' => x = .panicked (thrown 2 p) ∧ Gc sb w w'
def SaidSect (K fn : FuncId) (z : Int) (n : Nat) {α : Type} (R : Nat → World → Value → List α → Prop) (rd : List UInt8 → Option (List α × List UInt8)) : Prop :=
  ∀ (sb B : Nat) (t : List UInt8) (p : Nat) (w : World), Sec w sb t p → sb < B → B ≤ w.heap.size →
    Calls Tryd.prog K #[.pointer (some ⟨sb, 0, none⟩), .int .u8 z, .func (.func fn) #[] #[]] w (SectR sb t p B w R (rdSect n rd (t.drop p)))
structure Sections : Prop where
  s1 : SaidSect 78 79 1 1 RShapesG (rdList rdKinds)
  s2 : SaidSect 81 82 2 2 RIntsG (rdList rdSigned)
  s3 : SaidSect 84 85 3 3 RFuncsG (rdList rdFunc)
  s4 : SaidSect 87 88 4 4 RImportsG (rdList rdImp)
  s5 : SaidSect 90 91 5 5 RExportsG (rdList rdExp)

def dec5 (t : List UInt8) (sh : List (List Int)) (cs : List Int) (fs : List PFunc) (im : List PImp) (r4 : List UInt8) : PUnit ⊕ (Int × Nat) := match rdSect 5 (rdList rdExp) r4 with
  | none => .inr (2, pl t r4)
  | some (ex, r5) => if exportsOk ex fs.length = false then .inr (2, pl t r4) else if r5 = [] then .inl ⟨sh, cs, fs, im, ex⟩ else .inr (2, pl t r5)
def dec4 (t : List UInt8) (sh : List (List Int)) (cs : List Int) (fs : List PFunc) (r3 : List UInt8) : PUnit ⊕ (Int × Nat) := match rdSect 4 (rdList rdImp) r3 with
  | none => .inr (2, pl t r3)
  | some (im, r4) => if importsOk im sh.length = false then .inr (2, pl t r3) else dec5 t sh cs fs im r4
def dec3 (t : List UInt8) (sh : List (List Int)) (cs : List Int) (r2 : List UInt8) : PUnit ⊕ (Int × Nat) := match rdSect 3 (rdList rdFunc) r2 with
  | none => .inr (2, pl t r2)
  | some (fs, r3) => if funcsOk fs sh.length = false then .inr (2, pl t r2) else dec4 t sh cs fs r3
def dec2 (t : List UInt8) (sh : List (List Int)) (r1 : List UInt8) : PUnit ⊕ (Int × Nat) := match rdSect 2 (rdList rdSigned) r1 with
  | none => .inr (2, pl t r1)
  | some (cs, r2) => if constsOk cs = false then .inr (2, pl t r1) else dec3 t sh cs r2
theorem dec_head {t : List UInt8} (h1 : ¬ 20000 < t.length) (h2 : t.take 5 = magic) : dec t = match rdSect 1 (rdList rdKinds) (t.drop 5) with
    | none => .inr (2, 5)
    | some (sh, r1) => if shapesOk sh = false then .inr (2, 5) else dec2 t sh r1 := by
  unfold dec; rw [if_neg h1, if_neg (fun h => h h2)]; rfl
theorem drop_pl {t x r : List UInt8} {p : Nat} (h : t.drop p = x ++ r) : t.drop (pl t r) = r := by
  have e : r = t.drop (p + x.length) := by rw [← List.drop_drop, h]; simp
  unfold pl
  by_cases hp : p + x.length ≤ t.length
  · have hl : r.length = t.length - (p + x.length) := by rw [e, List.length_drop]
    rw [hl, show t.length - (t.length - (p + x.length)) = p + x.length by omega]; exact e.symm
  · have hr : r = [] := by rw [e]; exact List.drop_eq_nil_of_le (by omega)
    rw [hr]; simp
theorem rdSect_suffix {α : Type} {n : Nat} {f : List UInt8 → Option (List α × List UInt8)} {r r' : List UInt8} {y : List α} (h : rdSect n f r = some (y, r')) : ∃ x, r = x ++ r' := by
  unfold rdSect at h
  cases ho : rdOpen n r with
  | none => rw [ho] at h; cases h
  | some p =>
    obtain ⟨b, r1⟩ := p
    rw [ho] at h
    simp only at h
    cases hb : rdBody f b with
    | none => rw [hb] at h; cases h
    | some z =>
      rw [hb] at h
      simp only [Option.some.injEq, Prod.mk.injEq] at h
      rw [← h.2]; exact ⟨_, open_inv ho⟩
/-- a unit in new memory: all its blocks from B on -/
def RUnitF (B : Nat) (w : World) (v : Value) (u : PUnit) : Prop :=
  ∃ v1 v2 v3 v4 v5, v = .agg #[v1, v2, v3, v4, v5] ∧ RShapesF B w v1 u.shapes ∧ RIntsF B w v2 u.consts ∧ RFuncsF B w v3 u.funcs ∧ RImportsF B w v4 u.imports ∧ RExportsF B w v5 u.exports
theorem RUnitF.to {B : Nat} {w : World} {v : Value} {u : PUnit} (h : RUnitF B w v u) : RUnit w v u := by
  obtain ⟨v1, v2, v3, v4, v5, h, h1, h2, h3, h4, h5⟩ := h
  exact ⟨v1, v2, v3, v4, v5, h, h1.to, h2.to, h3.to, h4.to, h5.to⟩
theorem RUnitF.kp {B : Nat} {w w' : World} {v : Value} {u : PUnit} (h : RUnitF B w v u) (g : Kp B w w') : RUnitF B w' v u := by
  obtain ⟨v1, v2, v3, v4, v5, h, h1, h2, h3, h4, h5⟩ := h
  exact ⟨v1, v2, v3, v4, v5, h, h1.kp g, h2.kp g, h3.kp g, h4.kp g, h5.kp g⟩
/-- a unit that was made: each of its lists in a block of its own -/
def RUnitG (B : Nat) (w : World) (v : Value) (u : PUnit) : Prop :=
  ∃ v1 v2 v3 v4 v5 a1 b1 a2 b2 a3 b3 a4 b4 a5 b5, v = .agg #[v1, v2, v3, v4, v5] ∧ (B ≤ a1 ∧ a1 ≤ b1 ∧ b1 ≤ a2 ∧ a2 ≤ b2 ∧ b2 ≤ a3 ∧ a3 ≤ b3 ∧ b3 ≤ a4 ∧ a4 ≤ b4 ∧ b4 ≤ a5 ∧ a5 ≤ b5) ∧
    Iv RShapesG a1 b1 w v1 u.shapes ∧ Iv RIntsG a2 b2 w v2 u.consts ∧ Iv RFuncsG a3 b3 w v3 u.funcs ∧ Iv RImportsG a4 b4 w v4 u.imports ∧ Iv RExportsG a5 b5 w v5 u.exports
theorem Iv.shapes {a b : Nat} {w : World} {v : Value} {l : List (List Int)} (h : Iv RShapesG a b w v l) : RShapesG a w v l := by
  obtain ⟨W, _, h2, h3⟩ := h; exact h2.kp h3
theorem Iv.ints {a b : Nat} {w : World} {v : Value} {l : List Int} (h : Iv RIntsG a b w v l) : RIntsG a w v l := by
  obtain ⟨W, _, h2, h3⟩ := h; exact h2.kp h3
theorem Iv.funcs {a b : Nat} {w : World} {v : Value} {l : List PFunc} (h : Iv RFuncsG a b w v l) : RFuncsG a w v l := by
  obtain ⟨W, _, h2, h3⟩ := h; exact h2.kp h3
theorem Iv.imps {a b : Nat} {w : World} {v : Value} {l : List PImp} (h : Iv RImportsG a b w v l) : RImportsG a w v l := by
  obtain ⟨W, _, h2, h3⟩ := h; exact h2.kp h3
theorem Iv.exps {a b : Nat} {w : World} {v : Value} {l : List PExp} (h : Iv RExportsG a b w v l) : RExportsG a w v l := by
  obtain ⟨W, _, h2, h3⟩ := h; exact h2.kp h3
theorem RUnitG.kp {B : Nat} {w w' : World} {v : Value} {u : PUnit} (h : RUnitG B w v u) (g : Kp B w w') : RUnitG B w' v u := by
  obtain ⟨v1, v2, v3, v4, v5, a1, b1, a2, b2, a3, b3, a4, b4, a5, b5, h, hb, h1, h2, h3, h4, h5⟩ := h
  exact ⟨v1, v2, v3, v4, v5, a1, b1, a2, b2, a3, b3, a4, b4, a5, b5, h, hb, h1.kp (g.mono (by omega)), h2.kp (g.mono (by omega)), h3.kp (g.mono (by omega)), h4.kp (g.mono (by omega)), h5.kp (g.mono (by omega))⟩
theorem RUnitG.shape {B : Nat} {w : World} {v : Value} {u : PUnit} (h : RUnitG B w v u) : ∃ a1 c1 a2 c2 a3 c3 a4 c4 a5 c5, v = .agg #[.slice a1 u.shapes.length c1, .slice a2 u.consts.length c2, .slice a3 u.funcs.length c3, .slice a4 u.imports.length c4, .slice a5 u.exports.length c5] := by
  obtain ⟨v1, v2, v3, v4, v5, a1, b1, a2, b2, a3, b3, a4, b4, a5, b5, rfl, hb, h1, h2, h3, h4, h5⟩ := h
  obtain ⟨a1, c1, rfl⟩ := h1.shapes.shape
  obtain ⟨a2, c2, rfl⟩ := h2.ints.shape
  obtain ⟨a3, c3, rfl⟩ := h3.funcs.shape
  obtain ⟨a4, c4, rfl⟩ := h4.imps.shape
  obtain ⟨a5, c5, rfl⟩ := h5.exps.shape
  exact ⟨_, _, _, _, _, _, _, _, _, _, rfl⟩
def ReadR (w : World) : PUnit ⊕ (Int × Nat) → Ending → World → Prop
  | .inl u, x, w' => ∃ v B, x = .returned v ∧ w.heap.size ≤ B ∧ RUnitG B w' v u ∧ Gr w w'
  | .inr (e, p), x, w' => x = .panicked (thrown e p) ∧ Gr w w'
end Go.Proofs.YtkgncijcnlfhiaaDoor

namespace Go.Proofs.YtkgncijcnlfhiaaDoor
set_option linter.unusedVariables false
set_option linter.unusedSimpArgs false
open Go.RowKit
attribute [local go_sem ↓] Go.wp_at_zero Go.wp_at_succ
theorem RShapesF.shape {B : Nat} {w : World} {v : Value} {l : List (List Int)} (h : RShapesF B w v l) : ∃ ao cap, v = .slice ao l.length cap := by
  obtain ⟨ao, cap, hv, _⟩ := h; exact ⟨ao, cap, hv⟩
theorem RFuncsF.shape {B : Nat} {w : World} {v : Value} {l : List PFunc} (h : RFuncsF B w v l) : ∃ ao cap, v = .slice ao l.length cap := by
  obtain ⟨ao, cap, hv, _⟩ := h; exact ⟨ao, cap, hv⟩
theorem RImportsF.shape {B : Nat} {w : World} {v : Value} {l : List PImp} (h : RImportsF B w v l) : ∃ ao cap, v = .slice ao l.length cap := by
  obtain ⟨ao, cap, hv, _⟩ := h; exact ⟨ao, cap, hv⟩
theorem RExportsF.shape {B : Nat} {w : World} {v : Value} {l : List PExp} (h : RExportsF B w v l) : ∃ ao cap, v = .slice ao l.length cap := by
  obtain ⟨ao, cap, hv, _⟩ := h; exact ⟨ao, cap, hv⟩
theorem RShapesF.mono {B B' : Nat} {w : World} {v : Value} {l : List (List Int)} (h : RShapesF B' w v l) (hB : B ≤ B') : RShapesF B w v l := by
  obtain ⟨ao, cap, hv, hm, hc⟩ := h
  refine ⟨ao, cap, hv, hm, fun i x hi => ?_⟩
  obtain ⟨b, off, vx, h1, h2, h3, h4⟩ := hc i x hi
  exact ⟨b, off, vx, h1, Nat.le_trans hB h2, h3, h4.mono hB⟩
theorem RFuncsF.mono {B B' : Nat} {w : World} {v : Value} {l : List PFunc} (h : RFuncsF B' w v l) (hB : B ≤ B') : RFuncsF B w v l := by
  obtain ⟨ao, cap, hv, hm, hc⟩ := h
  refine ⟨ao, cap, hv, hm, fun i x hi => ?_⟩
  obtain ⟨b, off, vp, vl, vc, h1, h2, h3, h4, h5, h6, h7, h8, h9⟩ := hc i x hi
  exact ⟨b, off, vp, vl, vc, h1, Nat.le_trans hB h2, h3, h4, h5, h6, h7.mono hB, h8.mono hB, h9.mono hB⟩
theorem RImportsF.mono {B B' : Nat} {w : World} {v : Value} {l : List PImp} (h : RImportsF B' w v l) (hB : B ≤ B') : RImportsF B w v l := by
  obtain ⟨ao, cap, hv, hm, hc⟩ := h
  refine ⟨ao, cap, hv, hm, fun i x hi => ?_⟩
  obtain ⟨b, off, vs, vp, h1, h2, h3, h4, h5, h6, h7⟩ := hc i x hi
  exact ⟨b, off, vs, vp, h1, Nat.le_trans hB h2, h3, h4, h5, h6, h7.mono hB⟩
theorem RExportsF.mono {B B' : Nat} {w : World} {v : Value} {l : List PExp} (h : RExportsF B' w v l) (hB : B ≤ B') : RExportsF B w v l := by
  obtain ⟨ao, cap, hv, hm, hc⟩ := h
  refine ⟨ao, cap, hv, hm, fun i x hi => ?_⟩
  obtain ⟨b, off, vs, h1, h2, h3, h4, h5⟩ := hc i x hi
  exact ⟨b, off, vs, h1, Nat.le_trans hB h2, h3, h4, h5⟩
theorem RUnitG.f {B : Nat} {w : World} {v : Value} {u : PUnit} (h : RUnitG B w v u) : RUnitF B w v u := by
  obtain ⟨v1, v2, v3, v4, v5, a1, b1, a2, b2, a3, b3, a4, b4, a5, b5, h, hb, h1, h2, h3, h4, h5⟩ := h
  exact ⟨v1, v2, v3, v4, v5, h, h1.shapes.f.mono (by omega), h2.ints.f.mono (by omega), h3.funcs.f.mono (by omega), h4.imps.f.mono (by omega), h5.exps.f.mono (by omega)⟩
theorem Sec.set {w : World} {sb g o : Nat} {v : Value} {t : List UInt8} {p : Nat} (h : Sec w sb t p) (hne : ¬ g = sb) : Sec (w.setCell ⟨g, o, none⟩ v) sb t p := by
  obtain ⟨⟨s, h0, hs⟩, hl, hp, h1, z1⟩ := h
  have hc : ∀ q, (w.setCell ⟨g, o, none⟩ v).cell? ⟨sb, q, none⟩ = w.cell? ⟨sb, q, none⟩ := fun q => World.cell?_setCell_other w _ _ _ (by intro e; simp only [Addr.mk.injEq] at e; exact hne e.1)
  exact ⟨⟨s, (hc 0).trans h0, hs⟩, hl, hp, (hc 1).trans h1, by rw [World.frozen?_setCell]; exact z1⟩
theorem Box2.gr {w w' : World} {b : Nat} {x0 x1 : Value} (h : Box2 w b x0 x1) (g : Gr w w') : Box2 w' b x0 x1 := h.gc (cb := b + 1) g.toGc (by omega)
theorem Box3.put {w : World} {b : Nat} {x0 x1 x2 : Value} (v v' v2 : Value) (h : Box3 w b x0 x1 x2) : Box3 (((w.setCell ⟨b, 0, none⟩ v).setCell ⟨b, 1, none⟩ v').setCell ⟨b, 2, none⟩ v2) b v v' v2 := ((h.set0 v).set1 v').set2 v2
theorem why_box (w : World) :
    (w.alloc (.cells #[.int .i64 0, .int .i64 0, .int .i64 0] 83)).cell? ⟨w.heap.size, 0, none⟩ = some (.int .i64 0) ∧
    (w.alloc (.cells #[.int .i64 0, .int .i64 0, .int .i64 0] 83)).cell? ⟨w.heap.size, 1, none⟩ = some (.int .i64 0) ∧
    (w.alloc (.cells #[.int .i64 0, .int .i64 0, .int .i64 0] 83)).cell? ⟨w.heap.size, 2, none⟩ = some (.int .i64 0) ∧
    (w.alloc (.cells #[.int .i64 0, .int .i64 0, .int .i64 0] 83)).frozen? ⟨w.heap.size, 0, none⟩ = false ∧
    (w.alloc (.cells #[.int .i64 0, .int .i64 0, .int .i64 0] 83)).frozen? ⟨w.heap.size, 1, none⟩ = false ∧
    (w.alloc (.cells #[.int .i64 0, .int .i64 0, .int .i64 0] 83)).frozen? ⟨w.heap.size, 2, none⟩ = false := by
  refine ⟨?_, ?_, ?_, ?_, ?_, ?_⟩ <;> simp [go_sem]
theorem gc_new3 {cb : Nat} {w w' : World} (h : Gc cb w w') {g : Nat} {v v' v2 : Value} (hg : w.heap.size ≤ g) : Gc cb w (((w'.setCell ⟨g, 0, none⟩ v).setCell ⟨g, 1, none⟩ v').setCell ⟨g, 2, none⟩ v2).drew := (gc_new (gc_new (gc_new h hg) hg) hg).drew

set_option maxRecDepth 100000 in
set_option maxHeartbeats 2000000 in
theorem sect_shapes : SaidSect 78 79 1 1 RShapesG (rdList rdKinds) := by
  intro sb B t p w hS hb hB
  have hsl : sb < w.heap.size := World.block_lt_of_cell? w _ hS.2.2.2.1
  have HS := hide hS
  clear hS
  go_enter Tryd.func78, Tryd.ntmps78
  go_wp2_with fail
  obtain ⟨q0, q1, q2, z0, z1, z2⟩ := why_box w
  have hg0 : Gr w (w.alloc (.cells #[.int .i64 0, .int .i64 0, .int .i64 0] 83)) := Gr.alloc (Gr.refl w) _
  have hs0 : (w.alloc (.cells #[.int .i64 0, .int .i64 0, .int .i64 0] 83)).heap.size = w.heap.size + 1 := by simp
  refine (open_any sb t p 1 (by omega) _ (HS.out.gc (cb := w.heap.size) hg0.toGc (by omega))).mono ?_
  generalize (w.alloc (.cells #[.int .i64 0, .int .i64 0, .int .i64 0] 83)) = W0 at q0 q1 q2 z0 z1 z2 hg0 hs0 ⊢
  intro x w1 h
  cases ho : rdOpen 1 (t.drop p) with
  | none =>
    rw [ho] at h
    obtain ⟨rfl, hg⟩ := h
    exact ⟨rfl, by unfold rdSect; rw [ho]; exact ⟨rfl, Gc.trans_ hg0.toGc hg⟩⟩
  | some q =>
    obtain ⟨body, r⟩ := q
    rw [ho] at h
    obtain ⟨nb, rfl, hnb, hnb2, hcur, hsec, hg⟩ := h
    have HE : Hid (rdSect 1 (rdList rdKinds) (t.drop p) = match rdBody (rdList rdKinds) body with
      | none => none
      | some y => some (y, r)) := hide (by unfold rdSect; rw [ho]; cases hb : rdBody (rdList rdKinds) body <;> simp only [hb])
    have p0 := hg.box (show ¬ w.heap.size = sb by omega) q0
    have p1 := hg.box (show ¬ w.heap.size = sb by omega) q1
    have p2 := hg.box (show ¬ w.heap.size = sb by omega) q2
    have y0 := hg.boxz (show ¬ w.heap.size = sb by omega) q0 z0
    have y1 := hg.boxz (show ¬ w.heap.size = sb by omega) q1 z1
    have y2 := hg.boxz (show ¬ w.heap.size = sb by omega) q2 z2
    have HG := hide (Gc.trans_ (hg0.toGc (cb := sb)) hg)
    have hs1 : w.heap.size < w1.heap.size := by have := hg.size; omega
    have HC := hide hcur
    have HSec := hide hsec
    clear ho q0 q1 q2 z0 z1 z2 hg hg0 hcur hsec HS
    go_wp2_with fail
    refine (rlist_shape nb w1.heap.size body 2 p _ HC.out hnb2 (Nat.le_refl _)).mono ?_
    intro x w2 h
    cases hl : rdList rdKinds body with
    | none =>
      obtain ⟨rfl, hg2⟩ := h.none_ hl
      exact ⟨rfl, by rw [HE.out]; simp only [rdBody, hl]; exact ⟨rfl, HG.out.over hg2 (by omega)⟩⟩
    | some q =>
      obtain ⟨y, r2⟩ := q
      obtain ⟨v, rfl, hy, hcur2, hg2⟩ := h.some_ hl
      obtain ⟨a1, c1, rfl⟩ := hy.shape
      have HY := hide hy
      have HL := hide hl
      have m0 := hg2.box (show ¬ w.heap.size = nb by omega) p0
      have m1 := hg2.box (show ¬ w.heap.size = nb by omega) p1
      have m2 := hg2.box (show ¬ w.heap.size = nb by omega) p2
      have n0 := hg2.boxz (show ¬ w.heap.size = nb by omega) p0 y0
      have n1 := hg2.boxz (show ¬ w.heap.size = nb by omega) p1 y1
      have n2 := hg2.boxz (show ¬ w.heap.size = nb by omega) p2 y2
      have HG2 := hide (HG.out.over hg2 (by omega))
      have HSec2 := hide (HSec.out.gc hg2 (by omega))
      have hs2 : w1.heap.size ≤ w2.heap.size := hg2.size
      obtain ⟨⟨s, e0, es⟩, el, e1, e2, ez, e3⟩ := hcur2
      clear h hl hy hg2 p0 p1 p2 y0 y1 y2 HC HSec HG ez el
      by_cases hr2 : r2 = []
      · have hse : s = ⟨#[]⟩ := by
          have : s.data.toList = [] := es.trans hr2
          cases s with | mk d => simp at this; rw [this]
        subst hse
        have HF : Hid (rdSect 1 (rdList rdKinds) (t.drop p) = some (y, r)) := hide (by rw [HE.out]; simp only [rdBody, HL.out, hr2])
        clear es hr2 HE HL
        go_wp2
        go_region_held3 (fun w' => w'.cell? ⟨nb, 0, none⟩ = some (.string ⟨#[]⟩) ∧ w'.cell? ⟨nb, 1, none⟩ = some (.int .i64 2) ∧ w'.cell? ⟨nb, 3, none⟩ = some (.int .i64 (p : Int)) ∧ w'.cell? ⟨nb, 2, none⟩ = some (.int .i64 0)) (first | go_keep | (refine ⟨?_, ?_, ?_, ?_⟩ <;> exact hg'.cell (by assumption) (by simp))) (first | (go_at_call 76; refine (unless_yes _ _ _).mono ?_; rintro e w' ⟨rfl, hg'⟩))
        have hgx := Gr.trans (Gr.drew (Gr.refl _)) hg'
        have k0 := hgx.cell m0 (by simp)
        have k1 := hgx.cell m1 (by simp)
        have k2 := hgx.cell m2 (by simp)
        have f0 := gr_frozen hgx m0 n0
        have f1 := gr_frozen hgx m1 n1
        have f2 := gr_frozen hgx m2 n2
        have g1 := hgx.cell e1 (by simp)
        have g2 := hgx.cell e2 (by simp)
        have g3 := hgx.cell e3 (by simp)
        have HY3 := hide (HY.out.kp hgx.kp)
        have HG3 := hide (Gc.trans_ HG2.out hgx.toGc)
        have HSec3 := hide (HSec2.out.gc (hgx.toGc (cb := nb)) (by omega))
        have hn : ¬ w.heap.size = nb := by omega
        have hn' : ¬ nb = w.heap.size := by omega
        have hs3 : w1.heap.size ≤ w'.heap.size := Nat.le_trans hs2 hgx.size
        clear hg' hgx m0 m1 m2 n0 n1 n2 e0 e1 e2 e3 HY HG2 HSec2
        generalize w' = W3 at k0 k1 k2 f0 f1 f2 g1 g2 g3 HY3 HG3 HSec3 hs3 ⊢
        go_wp2
        go_region_held3 (fun w' => w'.cell? ⟨nb, 1, none⟩ = some (.int .i64 2) ∧ w'.cell? ⟨nb, 3, none⟩ = some (.int .i64 (p : Int)) ∧ w'.cell? ⟨nb, 2, none⟩ = some (.int .i64 0)) (go_keep) (fail)
        have t0 : (((W3.setCell ⟨w.heap.size, 0, none⟩ (.int .i64 2)).setCell ⟨w.heap.size, 1, none⟩ (.int .i64 0)).setCell ⟨w.heap.size, 2, none⟩ (.int .i64 (p : Int))).drew.cell? ⟨w.heap.size, 0, none⟩ = some (.int .i64 2) := (cell_set_ne (w := ((W3.setCell ⟨w.heap.size, 0, none⟩ (.int .i64 2)).setCell ⟨w.heap.size, 1, none⟩ (.int .i64 0))) (by omega)).trans ((cell_set_ne (w := (W3.setCell ⟨w.heap.size, 0, none⟩ (.int .i64 2))) (by omega)).trans (World.cell?_setCell_same W3 _ _ k0))
        have t1 : (((W3.setCell ⟨w.heap.size, 0, none⟩ (.int .i64 2)).setCell ⟨w.heap.size, 1, none⟩ (.int .i64 0)).setCell ⟨w.heap.size, 2, none⟩ (.int .i64 (p : Int))).drew.cell? ⟨w.heap.size, 1, none⟩ = some (.int .i64 0) := (cell_set_ne (w := ((W3.setCell ⟨w.heap.size, 0, none⟩ (.int .i64 2)).setCell ⟨w.heap.size, 1, none⟩ (.int .i64 0))) (by omega)).trans (World.cell?_setCell_same (W3.setCell ⟨w.heap.size, 0, none⟩ (.int .i64 2)) _ _ ((cell_set_ne (by omega)).trans k1))
        have t2 : (((W3.setCell ⟨w.heap.size, 0, none⟩ (.int .i64 2)).setCell ⟨w.heap.size, 1, none⟩ (.int .i64 0)).setCell ⟨w.heap.size, 2, none⟩ (.int .i64 (p : Int))).drew.cell? ⟨w.heap.size, 2, none⟩ = some (.int .i64 (p : Int)) := World.cell?_setCell_same ((W3.setCell ⟨w.heap.size, 0, none⟩ (.int .i64 2)).setCell ⟨w.heap.size, 1, none⟩ (.int .i64 0)) _ _ ((cell_set_ne (w := (W3.setCell ⟨w.heap.size, 0, none⟩ (.int .i64 2))) (by omega)).trans ((cell_set_ne (by omega)).trans k2))
        have HY4 : Hid (RShapesG B (((W3.setCell ⟨w.heap.size, 0, none⟩ (.int .i64 2)).setCell ⟨w.heap.size, 1, none⟩ (.int .i64 0)).setCell ⟨w.heap.size, 2, none⟩ (.int .i64 (p : Int))).drew (.slice a1 y.length c1) y) := hide (((((HY3.out.kp (kp_set (o := 0) (v := .int .i64 2) hs1)).kp (kp_set (o := 1) (v := .int .i64 0) hs1)).kp (kp_set (o := 2) (v := .int .i64 (p : Int)) hs1)).kp (Gr.drew (Gr.refl _)).kp).mono (by omega))
        have HSec4 : Hid (Sec (((W3.setCell ⟨w.heap.size, 0, none⟩ (.int .i64 2)).setCell ⟨w.heap.size, 1, none⟩ (.int .i64 0)).setCell ⟨w.heap.size, 2, none⟩ (.int .i64 (p : Int))).drew sb t (t.length - r.length)) := hide (((((HSec3.out.set (g := w.heap.size) (o := 0) (v := .int .i64 2) (by omega)).set (g := w.heap.size) (o := 1) (v := .int .i64 0) (by omega)).set (g := w.heap.size) (o := 2) (v := .int .i64 (p : Int)) (by omega))).gc (cb := w.heap.size) (Gr.drew (Gr.refl _)).toGc (by omega))
        have HG4 := hide (gc_new3 (v := .int .i64 2) (v' := .int .i64 0) (v2 := .int .i64 (p : Int)) HG3.out (Nat.le_refl _))
        generalize (((W3.setCell ⟨w.heap.size, 0, none⟩ (.int .i64 2)).setCell ⟨w.heap.size, 1, none⟩ (.int .i64 0)).setCell ⟨w.heap.size, 2, none⟩ (.int .i64 (p : Int))).drew = W4 at t0 t1 t2 HY4 HSec4 HG4 ⊢
        clear k0 k1 k2 f0 f1 f2 g1 g2 g3 HY3 HG3 HSec3
        go_wp2
        exact bodyPost_ret (v := .tuple #[.slice a1 y.length c1, .agg #[.int .i64 2, .int .i64 0, .int .i64 (p : Int)]]) (by simp [results, Tryd.results78, go_sem, t0, t1, t2]) rfl (by rw [HF.out]; exact ⟨_, rfl, HY4.out, HSec4.out, HG4.out⟩)
      · have hbl : s.toList.isEmpty = false := by
          rw [ByteArray.toList_eq, es]
          cases r2 with
          | nil => exact absurd rfl hr2
          | cons b l => rfl
        have HF : Hid (rdSect 1 (rdList rdKinds) (t.drop p) = none) := hide (by
          rw [HE.out]; cases r2 with
          | nil => exact absurd rfl hr2
          | cons b l => simp only [rdBody, HL.out])
        clear es hr2 HE HL
        go_wp2
        go_region_with (first | (go_at_call 76; refine (unless_no _ _ _).mono ?_; rintro e w' ⟨rfl, hg'⟩; refine left_region ?_))
        all_goals exact ⟨rfl, by rw [HF.out]; exact ⟨rfl, HG2.out.trans (Gr.trans (Gr.drew (Gr.refl w2)) hg').toGc⟩⟩
end Go.Proofs.YtkgncijcnlfhiaaDoor

