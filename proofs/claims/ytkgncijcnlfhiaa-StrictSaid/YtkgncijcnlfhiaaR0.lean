import Derived.Test.YtkgncijcnlfhiaaW3
namespace Go.Proofs.Ytkgncijcnlfhiaa
set_option linter.unusedVariables false
set_option linter.unusedSimpArgs false
open Go.RowKit
/- how units lie in memory -/
/-- lists of numbers, in a list -/
def RShapes (w : World) (v : Value) (l : List (List Int)) : Prop :=
  ∃ ao cap, v = .slice ao l.length cap ∧ l.length ≤ maxLen ∧ ∀ i x, l[i]? = some x → ∃ b off vx, ao = some ⟨b, off, none⟩ ∧ w.cell? ⟨b, off + i, none⟩ = some vx ∧ RInts w vx x
/-- instructions -/
def RCode (w : World) (v : Value) (l : List PIns) : Prop :=
  ∃ ao cap, v = .slice ao l.length cap ∧ l.length ≤ maxLen ∧ ∀ i x, l[i]? = some x → ∃ b off, ao = some ⟨b, off, none⟩ ∧
    w.cell? ⟨b, off + i * 3, none⟩ = some (.int .i64 x.op) ∧ w.cell? ⟨b, off + i * 3 + 1, none⟩ = some (.int .i64 x.a) ∧ w.cell? ⟨b, off + i * 3 + 2, none⟩ = some (.int .i64 x.b)
/-- a text -/
def RText (v : Value) (l : List UInt8) : Prop := ∃ s : ByteArray, v = .string s ∧ s.data.toList = l ∧ s.size ≤ maxLen
/-- functions -/
def RFuncs (w : World) (v : Value) (l : List PFunc) : Prop :=
  ∃ ao cap, v = .slice ao l.length cap ∧ l.length ≤ maxLen ∧ ∀ i x, l[i]? = some x → ∃ b off vp vl vc, ao = some ⟨b, off, none⟩ ∧
    w.cell? ⟨b, off + i * 4, none⟩ = some vp ∧ w.cell? ⟨b, off + i * 4 + 1, none⟩ = some (.int .i64 x.result) ∧ w.cell? ⟨b, off + i * 4 + 2, none⟩ = some vl ∧ w.cell? ⟨b, off + i * 4 + 3, none⟩ = some vc ∧
    RInts w vp x.params ∧ RInts w vl x.locals ∧ RCode w vc x.code
/-- imports -/
def RImports (w : World) (v : Value) (l : List PImp) : Prop :=
  ∃ ao cap, v = .slice ao l.length cap ∧ l.length ≤ maxLen ∧ ∀ i x, l[i]? = some x → ∃ b off vs vp, ao = some ⟨b, off, none⟩ ∧
    w.cell? ⟨b, off + i * 3, none⟩ = some vs ∧ w.cell? ⟨b, off + i * 3 + 1, none⟩ = some vp ∧ w.cell? ⟨b, off + i * 3 + 2, none⟩ = some (.int .i64 x.result) ∧
    RText vs x.name ∧ RInts w vp x.params
/-- exports -/
def RExports (w : World) (v : Value) (l : List PExp) : Prop :=
  ∃ ao cap, v = .slice ao l.length cap ∧ l.length ≤ maxLen ∧ ∀ i x, l[i]? = some x → ∃ b off vs, ao = some ⟨b, off, none⟩ ∧
    w.cell? ⟨b, off + i * 2, none⟩ = some vs ∧ w.cell? ⟨b, off + i * 2 + 1, none⟩ = some (.int .i64 x.func) ∧ RText vs x.name
/-- a unit -/
def RUnit (w : World) (v : Value) (u : PUnit) : Prop :=
  ∃ v1 v2 v3 v4 v5, v = .agg #[v1, v2, v3, v4, v5] ∧ RShapes w v1 u.shapes ∧ RInts w v2 u.consts ∧ RFuncs w v3 u.funcs ∧ RImports w v4 u.imports ∧ RExports w v5 u.exports

theorem RShapes.gr {w w' : World} {v : Value} {l : List (List Int)} (h : RShapes w v l) (g : Gr w w') : RShapes w' v l := by
  obtain ⟨ao, cap, hv, hm, hc⟩ := h
  refine ⟨ao, cap, hv, hm, fun i x hi => ?_⟩
  obtain ⟨b, off, vx, h1, h2, h3⟩ := hc i x hi
  exact ⟨b, off, vx, h1, g.cell h2 (by simp), h3.gr g⟩
theorem RCode.gr {w w' : World} {v : Value} {l : List PIns} (h : RCode w v l) (g : Gr w w') : RCode w' v l := by
  obtain ⟨ao, cap, hv, hm, hc⟩ := h
  refine ⟨ao, cap, hv, hm, fun i x hi => ?_⟩
  obtain ⟨b, off, h1, h2, h3, h4⟩ := hc i x hi
  exact ⟨b, off, h1, g.cell h2 (by simp), g.cell h3 (by simp), g.cell h4 (by simp)⟩
theorem RFuncs.gr {w w' : World} {v : Value} {l : List PFunc} (h : RFuncs w v l) (g : Gr w w') : RFuncs w' v l := by
  obtain ⟨ao, cap, hv, hm, hc⟩ := h
  refine ⟨ao, cap, hv, hm, fun i x hi => ?_⟩
  obtain ⟨b, off, vp, vl, vc, h1, h2, h3, h4, h5, h6, h7, h8⟩ := hc i x hi
  exact ⟨b, off, vp, vl, vc, h1, g.cell h2 (by simp), g.cell h3 (by simp), g.cell h4 (by simp), g.cell h5 (by simp), h6.gr g, h7.gr g, h8.gr g⟩
theorem RImports.gr {w w' : World} {v : Value} {l : List PImp} (h : RImports w v l) (g : Gr w w') : RImports w' v l := by
  obtain ⟨ao, cap, hv, hm, hc⟩ := h
  refine ⟨ao, cap, hv, hm, fun i x hi => ?_⟩
  obtain ⟨b, off, vs, vp, h1, h2, h3, h4, h5, h6⟩ := hc i x hi
  exact ⟨b, off, vs, vp, h1, g.cell h2 (by simp), g.cell h3 (by simp), g.cell h4 (by simp), h5, h6.gr g⟩
theorem RExports.gr {w w' : World} {v : Value} {l : List PExp} (h : RExports w v l) (g : Gr w w') : RExports w' v l := by
  obtain ⟨ao, cap, hv, hm, hc⟩ := h
  refine ⟨ao, cap, hv, hm, fun i x hi => ?_⟩
  obtain ⟨b, off, vs, h1, h2, h3, h4⟩ := hc i x hi
  exact ⟨b, off, vs, h1, g.cell h2 (by simp), g.cell h3 (by simp), h4⟩
theorem RUnit.gr {w w' : World} {v : Value} {u : PUnit} (h : RUnit w v u) (g : Gr w w') : RUnit w' v u := by
  obtain ⟨v1, v2, v3, v4, v5, h, h1, h2, h3, h4, h5⟩ := h
  exact ⟨v1, v2, v3, v4, v5, h, h1.gr g, h2.gr g, h3.gr g, h4.gr g, h5.gr g⟩
theorem RShapes.shape {w : World} {v : Value} {l : List (List Int)} (h : RShapes w v l) : ∃ ao cap, v = .slice ao l.length cap := by
  obtain ⟨ao, cap, hv, _⟩ := h; exact ⟨ao, cap, hv⟩
theorem RCode.shape {w : World} {v : Value} {l : List PIns} (h : RCode w v l) : ∃ ao cap, v = .slice ao l.length cap := by
  obtain ⟨ao, cap, hv, _⟩ := h; exact ⟨ao, cap, hv⟩
theorem RFuncs.shape {w : World} {v : Value} {l : List PFunc} (h : RFuncs w v l) : ∃ ao cap, v = .slice ao l.length cap := by
  obtain ⟨ao, cap, hv, _⟩ := h; exact ⟨ao, cap, hv⟩
theorem getElem?_lt {α : Type} {l : List α} {k : Nat} (h : k < l.length) : ∃ x, l[k]? = some x := ⟨l[k], List.getElem?_eq_getElem h⟩
end Go.Proofs.Ytkgncijcnlfhiaa
