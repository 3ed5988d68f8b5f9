import Derived.Test.YtkgncijcnlfhiaaT4
import Derived.Test.YtkgncijcnlfhiaaR0
namespace Go.Proofs.Ytkgncijcnlfhiaa
set_option linter.unusedVariables false
set_option linter.unusedSimpArgs false
open Go.RowKit
/- what was read, in new memory: all its blocks from B on -/
def RIntsF (B : Nat) (w : World) (v : Value) (l : List Int) : Prop :=
  ∃ ao cap, v = .slice ao l.length cap ∧ l.length ≤ maxLen ∧ ∀ i y, l[i]? = some y → ∃ b off, ao = some ⟨b, off, none⟩ ∧ B ≤ b ∧ w.cell? ⟨b, off + i, none⟩ = some (.int .i64 y)
def RShapesF (B : Nat) (w : World) (v : Value) (l : List (List Int)) : Prop :=
  ∃ ao cap, v = .slice ao l.length cap ∧ l.length ≤ maxLen ∧ ∀ i x, l[i]? = some x → ∃ b off vx, ao = some ⟨b, off, none⟩ ∧ B ≤ b ∧ w.cell? ⟨b, off + i, none⟩ = some vx ∧ RIntsF B w vx x
def RCodeF (B : Nat) (w : World) (v : Value) (l : List PIns) : Prop :=
  ∃ ao cap, v = .slice ao l.length cap ∧ l.length ≤ maxLen ∧ ∀ i x, l[i]? = some x → ∃ b off, ao = some ⟨b, off, none⟩ ∧ B ≤ b ∧
    w.cell? ⟨b, off + i * 3, none⟩ = some (.int .i64 x.op) ∧ w.cell? ⟨b, off + i * 3 + 1, none⟩ = some (.int .i64 x.a) ∧ w.cell? ⟨b, off + i * 3 + 2, none⟩ = some (.int .i64 x.b)
def RFuncsF (B : Nat) (w : World) (v : Value) (l : List PFunc) : Prop :=
  ∃ ao cap, v = .slice ao l.length cap ∧ l.length ≤ maxLen ∧ ∀ i x, l[i]? = some x → ∃ b off vp vl vc, ao = some ⟨b, off, none⟩ ∧ B ≤ b ∧
    w.cell? ⟨b, off + i * 4, none⟩ = some vp ∧ w.cell? ⟨b, off + i * 4 + 1, none⟩ = some (.int .i64 x.result) ∧ w.cell? ⟨b, off + i * 4 + 2, none⟩ = some vl ∧ w.cell? ⟨b, off + i * 4 + 3, none⟩ = some vc ∧
    RIntsF B w vp x.params ∧ RIntsF B w vl x.locals ∧ RCodeF B w vc x.code
def RImportsF (B : Nat) (w : World) (v : Value) (l : List PImp) : Prop :=
  ∃ ao cap, v = .slice ao l.length cap ∧ l.length ≤ maxLen ∧ ∀ i x, l[i]? = some x → ∃ b off vs vp, ao = some ⟨b, off, none⟩ ∧ B ≤ b ∧
    w.cell? ⟨b, off + i * 3, none⟩ = some vs ∧ w.cell? ⟨b, off + i * 3 + 1, none⟩ = some vp ∧ w.cell? ⟨b, off + i * 3 + 2, none⟩ = some (.int .i64 x.result) ∧
    RText vs x.name ∧ RIntsF B w vp x.params
def RExportsF (B : Nat) (w : World) (v : Value) (l : List PExp) : Prop :=
  ∃ ao cap, v = .slice ao l.length cap ∧ l.length ≤ maxLen ∧ ∀ i x, l[i]? = some x → ∃ b off vs, ao = some ⟨b, off, none⟩ ∧ B ≤ b ∧
    w.cell? ⟨b, off + i * 2, none⟩ = some vs ∧ w.cell? ⟨b, off + i * 2 + 1, none⟩ = some (.int .i64 x.func) ∧ RText vs x.name

/-- the blocks from B on that were there are as they were -/
def Kp (B : Nat) (w w' : World) : Prop := ∀ k, B ≤ k → k < w.heap.size → w'.heap[k]? = w.heap[k]?
theorem Kp.cell {B : Nat} {w w' : World} (h : Kp B w w') {b o : Nat} {x : Value} (hb : B ≤ b) (hx : w.cell? ⟨b, o, none⟩ = some x) : w'.cell? ⟨b, o, none⟩ = some x :=
  (World.cell?_of_block (a := ⟨b, o, none⟩) (h b hb (World.block_lt_of_cell? w _ hx))).trans hx
theorem Kp.mono {B B' : Nat} {w w' : World} (h : Kp B w w') (hB : B ≤ B') : Kp B' w w' := fun k h1 h2 => h k (Nat.le_trans hB h1) h2
theorem Gc.kp {cb B : Nat} {w w' : World} (h : Gc cb w w') (hb : cb < B) : Kp B w w' := fun k h1 h2 => h.block k h2 (by intro e; simp only [Option.some.injEq] at e; omega)
theorem Kp.set {B g o : Nat} {w : World} (v : Value) (hg : g < B) : Kp B w (w.setCell ⟨g, o, none⟩ v) := fun k h1 _ => Below.heap_setCell _ _ _ _ (by show k ≠ g; omega)
theorem Kp.trans {B : Nat} {a b c : World} (h : Kp B a b) (k : Kp B b c) (hs : a.heap.size ≤ b.heap.size) : Kp B a c := fun i h1 h2 => (k i h1 (Nat.lt_of_lt_of_le h2 hs)).trans (h i h1 h2)
theorem Gr.kp {B : Nat} {w w' : World} (h : Gr w w') : Kp B w w' := fun k _ h2 => h.block k h2 (by simp)

theorem RIntsF.kp {B : Nat} {w w' : World} {v : Value} {l : List Int} (h : RIntsF B w v l) (g : Kp B w w') : RIntsF B w' v l := by
  obtain ⟨ao, cap, hv, hm, hc⟩ := h
  refine ⟨ao, cap, hv, hm, fun i x hi => ?_⟩
  obtain ⟨b, off, h1, h2, h3⟩ := hc i x hi
  exact ⟨b, off, h1, h2, g.cell h2 h3⟩
theorem RCodeF.kp {B : Nat} {w w' : World} {v : Value} {l : List PIns} (h : RCodeF B w v l) (g : Kp B w w') : RCodeF B w' v l := by
  obtain ⟨ao, cap, hv, hm, hc⟩ := h
  refine ⟨ao, cap, hv, hm, fun i x hi => ?_⟩
  obtain ⟨b, off, h1, h2, h3, h4, h5⟩ := hc i x hi
  exact ⟨b, off, h1, h2, g.cell h2 h3, g.cell h2 h4, g.cell h2 h5⟩
theorem RShapesF.kp {B : Nat} {w w' : World} {v : Value} {l : List (List Int)} (h : RShapesF B w v l) (g : Kp B w w') : RShapesF B w' v l := by
  obtain ⟨ao, cap, hv, hm, hc⟩ := h
  refine ⟨ao, cap, hv, hm, fun i x hi => ?_⟩
  obtain ⟨b, off, vx, h1, h2, h3, h4⟩ := hc i x hi
  exact ⟨b, off, vx, h1, h2, g.cell h2 h3, h4.kp g⟩
theorem RFuncsF.kp {B : Nat} {w w' : World} {v : Value} {l : List PFunc} (h : RFuncsF B w v l) (g : Kp B w w') : RFuncsF B w' v l := by
  obtain ⟨ao, cap, hv, hm, hc⟩ := h
  refine ⟨ao, cap, hv, hm, fun i x hi => ?_⟩
  obtain ⟨b, off, vp, vl, vc, h1, h2, h3, h4, h5, h6, h7, h8, h9⟩ := hc i x hi
  exact ⟨b, off, vp, vl, vc, h1, h2, g.cell h2 h3, g.cell h2 h4, g.cell h2 h5, g.cell h2 h6, h7.kp g, h8.kp g, h9.kp g⟩
theorem RImportsF.kp {B : Nat} {w w' : World} {v : Value} {l : List PImp} (h : RImportsF B w v l) (g : Kp B w w') : RImportsF B w' v l := by
  obtain ⟨ao, cap, hv, hm, hc⟩ := h
  refine ⟨ao, cap, hv, hm, fun i x hi => ?_⟩
  obtain ⟨b, off, vs, vp, h1, h2, h3, h4, h5, h6, h7⟩ := hc i x hi
  exact ⟨b, off, vs, vp, h1, h2, g.cell h2 h3, g.cell h2 h4, g.cell h2 h5, h6, h7.kp g⟩
theorem RExportsF.kp {B : Nat} {w w' : World} {v : Value} {l : List PExp} (h : RExportsF B w v l) (g : Kp B w w') : RExportsF B w' v l := by
  obtain ⟨ao, cap, hv, hm, hc⟩ := h
  refine ⟨ao, cap, hv, hm, fun i x hi => ?_⟩
  obtain ⟨b, off, vs, h1, h2, h3, h4, h5⟩ := hc i x hi
  exact ⟨b, off, vs, h1, h2, g.cell h2 h3, g.cell h2 h4, h5⟩
theorem RIntsF.mono {B B' : Nat} {w : World} {v : Value} {l : List Int} (h : RIntsF B' w v l) (hB : B ≤ B') : RIntsF B w v l := by
  obtain ⟨ao, cap, hv, hm, hc⟩ := h
  refine ⟨ao, cap, hv, hm, fun i x hi => ?_⟩
  obtain ⟨b, off, h1, h2, h3⟩ := hc i x hi
  exact ⟨b, off, h1, Nat.le_trans hB h2, h3⟩
theorem RCodeF.mono {B B' : Nat} {w : World} {v : Value} {l : List PIns} (h : RCodeF B' w v l) (hB : B ≤ B') : RCodeF B w v l := by
  obtain ⟨ao, cap, hv, hm, hc⟩ := h
  refine ⟨ao, cap, hv, hm, fun i x hi => ?_⟩
  obtain ⟨b, off, h1, h2, h3⟩ := hc i x hi
  exact ⟨b, off, h1, Nat.le_trans hB h2, h3⟩
theorem RIntsF.to {B : Nat} {w : World} {v : Value} {l : List Int} (h : RIntsF B w v l) : RInts w v l := by
  obtain ⟨ao, cap, hv, hm, hc⟩ := h
  refine ⟨ao, cap, hv, hm, fun i hi => ?_⟩
  obtain ⟨b, off, h1, h2, h3⟩ := hc i l[i] (List.getElem?_eq_getElem hi)
  exact ⟨b, off, h1, by rw [h3]; simp [List.getD_eq_getElem?_getD, hi]⟩
theorem RCodeF.to {B : Nat} {w : World} {v : Value} {l : List PIns} (h : RCodeF B w v l) : RCode w v l := by
  obtain ⟨ao, cap, hv, hm, hc⟩ := h
  refine ⟨ao, cap, hv, hm, fun i x hi => ?_⟩
  obtain ⟨b, off, h1, h2, h3⟩ := hc i x hi
  exact ⟨b, off, h1, h3⟩
theorem RShapesF.to {B : Nat} {w : World} {v : Value} {l : List (List Int)} (h : RShapesF B w v l) : RShapes w v l := by
  obtain ⟨ao, cap, hv, hm, hc⟩ := h
  refine ⟨ao, cap, hv, hm, fun i x hi => ?_⟩
  obtain ⟨b, off, vx, h1, h2, h3, h4⟩ := hc i x hi
  exact ⟨b, off, vx, h1, h3, h4.to⟩
theorem RFuncsF.to {B : Nat} {w : World} {v : Value} {l : List PFunc} (h : RFuncsF B w v l) : RFuncs w v l := by
  obtain ⟨ao, cap, hv, hm, hc⟩ := h
  refine ⟨ao, cap, hv, hm, fun i x hi => ?_⟩
  obtain ⟨b, off, vp, vl, vc, h1, h2, h3, h4, h5, h6, h7, h8, h9⟩ := hc i x hi
  exact ⟨b, off, vp, vl, vc, h1, h3, h4, h5, h6, h7.to, h8.to, h9.to⟩
theorem RImportsF.to {B : Nat} {w : World} {v : Value} {l : List PImp} (h : RImportsF B w v l) : RImports w v l := by
  obtain ⟨ao, cap, hv, hm, hc⟩ := h
  refine ⟨ao, cap, hv, hm, fun i x hi => ?_⟩
  obtain ⟨b, off, vs, vp, h1, h2, h3, h4, h5, h6, h7⟩ := hc i x hi
  exact ⟨b, off, vs, vp, h1, h3, h4, h5, h6, h7.to⟩
theorem RExportsF.to {B : Nat} {w : World} {v : Value} {l : List PExp} (h : RExportsF B w v l) : RExports w v l := by
  obtain ⟨ao, cap, hv, hm, hc⟩ := h
  refine ⟨ao, cap, hv, hm, fun i x hi => ?_⟩
  obtain ⟨b, off, vs, h1, h2, h3, h4, h5⟩ := hc i x hi
  exact ⟨b, off, vs, h1, h3, h4, h5⟩
theorem RIntsF.shape {B : Nat} {w : World} {v : Value} {l : List Int} (h : RIntsF B w v l) : ∃ ao cap, v = .slice ao l.length cap := by
  obtain ⟨ao, cap, hv, _⟩ := h; exact ⟨ao, cap, hv⟩
theorem RCodeF.shape {B : Nat} {w : World} {v : Value} {l : List PIns} (h : RCodeF B w v l) : ∃ ao cap, v = .slice ao l.length cap := by
  obtain ⟨ao, cap, hv, _⟩ := h; exact ⟨ao, cap, hv⟩

/-- lists, read -/
def rdN {α : Type} (f : List UInt8 → Option (α × List UInt8)) : Nat → List UInt8 → Option (List α × List UInt8)
  | 0, r => some ([], r)
  | n + 1, r => match f r with
    | none => none
    | some (y, r1) => match rdN f n r1 with
      | none => none
      | some (ys, r2) => some (y :: ys, r2)
def rdList {α : Type} (f : List UInt8 → Option (α × List UInt8)) (r : List UInt8) : Option (List α × List UInt8) := match rdNum 0 0 r with
  | none => none
  | some (n, r1) => if n ≤ r1.length then rdN f n r1 else none
def glue {α : Type} (ys : List α) : Option (List α × List UInt8) → Option (List α × List UInt8)
  | none => none
  | some (zs, r) => some (ys ++ zs, r)
theorem glue_nil {α : Type} (o : Option (List α × List UInt8)) : glue [] o = o := by cases o <;> rfl
theorem glue_some {α : Type} {f : List UInt8 → Option (α × List UInt8)} {ys : List α} {m : Nat} {r r1 : List UInt8} {y : α} (h : f r = some (y, r1)) : glue ys (rdN f (m + 1) r) = glue (ys ++ [y]) (rdN f m r1) := by
  simp only [rdN, h]
  cases rdN f m r1 with
  | none => rfl
  | some p => obtain ⟨zs, r2⟩ := p; simp [glue]
theorem glue_none {α : Type} {f : List UInt8 → Option (α × List UInt8)} {ys : List α} {m : Nat} {r : List UInt8} (h : f r = none) : glue ys (rdN f (m + 1) r) = none := by
  simp only [rdN, h]; rfl
theorem glue_end {α : Type} {f : List UInt8 → Option (α × List UInt8)} {ys : List α} {r : List UInt8} : glue ys (rdN f 0 r) = some (ys, r) := by simp [rdN, glue]
end Go.Proofs.Ytkgncijcnlfhiaa
