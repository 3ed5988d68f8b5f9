import Derived.Test.YtkgncijcnlfhiaaDoorW4
import Derived.Test.YtkgncijcnlfhiaaDoorE1
import Derived.Deep.AppendLies
import Derived.Laws.CopyOwn
import Derived.Lib.OwnKind
namespace Go.Proofs.YtkgncijcnlfhiaaDoor
set_option linter.unusedVariables false
set_option linter.unusedSimpArgs false
open Go.RowKit
attribute [local go_sem ↓] Go.wp_at_zero Go.wp_at_succ

/-- a unit in new memory: all its blocks from B on -/
def RUnitF (B : Nat) (w : World) (v : Value) (u : PUnit) : Prop :=
  ∃ v1 v2 v3 v4 v5, v = .agg #[v1, v2, v3, v4, v5] ∧ RShapesF B w v1 u.shapes ∧ RIntsF B w v2 u.consts ∧ RFuncsF B w v3 u.funcs ∧ RImportsF B w v4 u.imports ∧ RExportsF B w v5 u.exports
theorem RUnitF.to {B : Nat} {w : World} {v : Value} {u : PUnit} (h : RUnitF B w v u) : RUnit w v u := by
  obtain ⟨v1, v2, v3, v4, v5, h, h1, h2, h3, h4, h5⟩ := h
  exact ⟨v1, v2, v3, v4, v5, h, h1.to, h2.to, h3.to, h4.to, h5.to⟩
end Go.Proofs.YtkgncijcnlfhiaaDoor

namespace Go.Proofs.YtkgncijcnlfhiaaDoor
set_option linter.unusedVariables false
set_option linter.unusedSimpArgs false
open Go.RowKit
attribute [local go_sem ↓] Go.wp_at_zero Go.wp_at_succ
theorem RShapesF.shape {B : Nat} {w : World} {v : Value} {l : List (List Int)} (h : RShapesF B w v l) : ∃ ao cap, v = .slice ao l.length cap := by
  obtain ⟨ao, cap, hv, _⟩ := h; exact ⟨ao, cap, hv⟩
theorem RFuncsF.shape {B : Nat} {w : World} {v : Value} {l : List PFunc} (h : RFuncsF B w v l) : ∃ ao cap, v = .slice ao l.length cap := by
  obtain ⟨ao, cap, hv, _⟩ := h; exact ⟨ao, cap, hv⟩
theorem RImportsF.shape {B : Nat} {w : World} {v : Value} {l : List PImp} (h : RImportsF B w v l) : ∃ ao cap, v = .slice ao l.length cap := by
  obtain ⟨ao, cap, hv, _⟩ := h; exact ⟨ao, cap, hv⟩
theorem RExportsF.shape {B : Nat} {w : World} {v : Value} {l : List PExp} (h : RExportsF B w v l) : ∃ ao cap, v = .slice ao l.length cap := by
  obtain ⟨ao, cap, hv, _⟩ := h; exact ⟨ao, cap, hv⟩
theorem RShapesF.mono {B B' : Nat} {w : World} {v : Value} {l : List (List Int)} (h : RShapesF B' w v l) (hB : B ≤ B') : RShapesF B w v l := by
  obtain ⟨ao, cap, hv, hm, hc⟩ := h
  refine ⟨ao, cap, hv, hm, fun i x hi => ?_⟩
  obtain ⟨b, off, vx, h1, h2, h3, h4⟩ := hc i x hi
  exact ⟨b, off, vx, h1, Nat.le_trans hB h2, h3, h4.mono hB⟩
theorem RFuncsF.mono {B B' : Nat} {w : World} {v : Value} {l : List PFunc} (h : RFuncsF B' w v l) (hB : B ≤ B') : RFuncsF B w v l := by
  obtain ⟨ao, cap, hv, hm, hc⟩ := h
  refine ⟨ao, cap, hv, hm, fun i x hi => ?_⟩
  obtain ⟨b, off, vp, vl, vc, h1, h2, h3, h4, h5, h6, h7, h8, h9⟩ := hc i x hi
  exact ⟨b, off, vp, vl, vc, h1, Nat.le_trans hB h2, h3, h4, h5, h6, h7.mono hB, h8.mono hB, h9.mono hB⟩
theorem RImportsF.mono {B B' : Nat} {w : World} {v : Value} {l : List PImp} (h : RImportsF B' w v l) (hB : B ≤ B') : RImportsF B w v l := by
  obtain ⟨ao, cap, hv, hm, hc⟩ := h
  refine ⟨ao, cap, hv, hm, fun i x hi => ?_⟩
  obtain ⟨b, off, vs, vp, h1, h2, h3, h4, h5, h6, h7⟩ := hc i x hi
  exact ⟨b, off, vs, vp, h1, Nat.le_trans hB h2, h3, h4, h5, h6, h7.mono hB⟩
theorem RExportsF.mono {B B' : Nat} {w : World} {v : Value} {l : List PExp} (h : RExportsF B' w v l) (hB : B ≤ B') : RExportsF B w v l := by
  obtain ⟨ao, cap, hv, hm, hc⟩ := h
  refine ⟨ao, cap, hv, hm, fun i x hi => ?_⟩
  obtain ⟨b, off, vs, h1, h2, h3, h4, h5⟩ := hc i x hi
  exact ⟨b, off, vs, h1, Nat.le_trans hB h2, h3, h4, h5⟩
theorem Sec.set {w : World} {sb g o : Nat} {v : Value} {t : List UInt8} {p : Nat} (h : Sec w sb t p) (hne : ¬ g = sb) : Sec (w.setCell ⟨g, o, none⟩ v) sb t p := by
  obtain ⟨⟨s, h0, hs⟩, hl, hp, h1, z1⟩ := h
  have hc : ∀ q, (w.setCell ⟨g, o, none⟩ v).cell? ⟨sb, q, none⟩ = w.cell? ⟨sb, q, none⟩ := fun q => World.cell?_setCell_other w _ _ _ (by intro e; simp only [Addr.mk.injEq] at e; exact hne e.1)
  exact ⟨⟨s, (hc 0).trans h0, hs⟩, hl, hp, (hc 1).trans h1, by rw [World.frozen?_setCell]; exact z1⟩
theorem Box2.gr {w w' : World} {b : Nat} {x0 x1 : Value} (h : Box2 w b x0 x1) (g : Gr w w') : Box2 w' b x0 x1 := h.gc (cb := b + 1) g.toGc (by omega)
theorem Box3.put {w : World} {b : Nat} {x0 x1 x2 : Value} (v v' v2 : Value) (h : Box3 w b x0 x1 x2) : Box3 (((w.setCell ⟨b, 0, none⟩ v).setCell ⟨b, 1, none⟩ v').setCell ⟨b, 2, none⟩ v2) b v v' v2 := ((h.set0 v).set1 v').set2 v2
end Go.Proofs.YtkgncijcnlfhiaaDoor

namespace Go.Proofs.YtkgncijcnlfhiaaDoor
set_option linter.unusedVariables false
set_option linter.unusedSimpArgs false
open Go.RowKit
attribute [local go_sem ↓] Go.wp_at_zero Go.wp_at_succ
theorem Sec.new (w : World) (s : ByteArray) (t : List UInt8) (hs : s.data.toList = t) (hl : t.length ≤ 1000000) (h5 : 5 ≤ t.length) : Sec (w.alloc (.cells #[.string s, .int .i64 5] 133)) w.heap.size t 5 := by
  refine ⟨⟨s, by simp [go_sem], hs⟩, hl, h5, by simp [go_sem], by simp [go_sem]⟩

end Go.Proofs.YtkgncijcnlfhiaaDoor

namespace Go.Proofs.YtkgncijcnlfhiaaDoor
set_option linter.unusedVariables false
set_option linter.unusedSimpArgs false
open Go.RowKit
/-- the five cells of a unit, written anew -/
def put5 (w : World) (b : Nat) (x0 x1 x2 x3 x4 : Value) : World := ((((w.setCell ⟨b, 0, none⟩ x0).setCell ⟨b, 1, none⟩ x1).setCell ⟨b, 2, none⟩ x2).setCell ⟨b, 3, none⟩ x3).setCell ⟨b, 4, none⟩ x4
theorem put5_eq (w : World) (b : Nat) (x0 x1 x2 x3 x4 : Value) : ((((w.setCell ⟨b, 0, none⟩ x0).setCell ⟨b, 1, none⟩ x1).setCell ⟨b, 2, none⟩ x2).setCell ⟨b, 3, none⟩ x3).setCell ⟨b, 4, none⟩ x4 = put5 w b x0 x1 x2 x3 x4 := rfl
theorem put5_box {w : World} {b : Nat} {x0 x1 x2 x3 x4 : Value} (y0 y1 y2 y3 y4 : Value) (h : Box5 w b x0 x1 x2 x3 x4) : Box5 (put5 w b y0 y1 y2 y3 y4) b y0 y1 y2 y3 y4 := ((((h.set0 y0).set1 y1).set2 y2).set3 y3).set4 y4
end Go.Proofs.YtkgncijcnlfhiaaDoor

namespace Go.Proofs.YtkgncijcnlfhiaaDoor
set_option linter.unusedVariables false
set_option linter.unusedSimpArgs false
open Go.RowKit

structure Ap (base : Nat) (e : TypeId) (n : Nat) (w : World) (v : Value) (w' : World) (v' : Value) (len : Nat) (xs : List Value) : Prop where
  own : w'.ownsRow base e n v' len xs
  frm : w.grownBy w' v.ownBlock
  lies : ∀ k, v'.ownBlock = some k → v.ownBlock = some k ∨ w.heap.size ≤ k

theorem cells_new (w : World) (ys : Array Value) (t : TypeId) : ∀ j u, ys.toList[j]? = some u → (w.alloc (.cells ys t)).cell? ((⟨w.heap.size, 0, none⟩ : Addr).add j) = some u := by
  intro j u hj
  have e : (⟨w.heap.size, 0, none⟩ : Addr).add j = ⟨w.heap.size, j, none⟩ := by simp [Addr.add]; try (intro h; exact h.symm)
  rw [e]
  have h := World.cell?_alloc_mark w ys t (0, 0) j
  exact h.trans (by rw [← Array.getElem?_toList]; exact hj)
section
variable {ops : Array Oper} {rest : List Oper} {o : Oper} {a : Act} {Q : Exit → Act → World → Prop}
/-- append of one element, whose cells lie in a block of their own -/
theorem wpList_append_vals (w : World) (hgd : o.guard = none) (s x : Operand) (t e : TypeId) (n bytes : Nat) (zero : Value) (inf : (Tryd.prog.info? e).map (fun i => (i.zero, i.size, i.bytes)) = some (some zero, n, bytes)) (ht : Tryd.prog.underlying t = some (.slice e)) (hzs : zero.cells.size = n) (hn : 0 < n) (hby : bytes ≤ 1000)
    (ho : o.op = .call { callee := .builtin .append, args := #[s, x], argTypes := #[t, t] })
    (base : Nat) (v : Value) (len : Nat) (xs : List Value) (hs : a.eval s = v) (hown : w.ownsRow base e n v len xs) (ys : Array Value) (hys : ys.size = n) (h1 : ∀ u ∈ ys.toList, u.oneCell' = true)
    (H : Nat) (hx : a.eval x = .slice (some ⟨H, 0, none⟩) 1 1) (hH : w.heap.size = H) (hlen : len ≤ 10000000) (hbase : base ≤ w.heap.size)
    (h : ∀ v' w', Ap base e n w v w' v' (len + 1) (xs ++ ys.toList) → wpList Tryd.prog ops Q rest (a.put o.dst v') w') :
    wpList Tryd.prog ops Q (o :: rest) a (w.alloc (.cells ys e)) := by
  subst hH
  obtain ⟨i0, hi, hz0, hz1, hz2⟩ := info_parts inf
  refine wpList_append_own_at _ hgd s x t ho base e i0 zero n bytes ht hi hz0 hz1 hz2 hzs hn v len xs hs (hown.alloc _) ⟨w.heap.size, 0, none⟩ 1 1 ys.toList hx (by rw [Array.length_toList, hys, Nat.one_mul]) (cells_new _ _ _) h1 (by unfold maxLen; omega) (Nat.le_trans (Nat.mul_le_mul (Nat.add_le_add_right hlen 1) hby) (by decide)) (by simp; omega) ?_
  intro v' w' k1 k2 _ k4
  refine h v' w' ⟨k1, (World.grownBy_alloc w _ _).trans k2, fun k hk => ?_⟩
  rcases k4 with e | e
  · exact .inl (e ▸ hk)
  · rw [hk] at e; simp at e; right; omega
end

end Go.Proofs.YtkgncijcnlfhiaaDoor

namespace Go.Proofs.YtkgncijcnlfhiaaDoor
set_option linter.unusedVariables false
set_option linter.unusedSimpArgs false
open Go.RowKit
def RIntsP (P : Nat → Prop) (w : World) (v : Value) (l : List Int) : Prop :=
  ∃ ao cap, v = .slice ao l.length cap ∧ l.length ≤ maxLen ∧ ∀ i y, l[i]? = some y → ∃ b off, ao = some ⟨b, off, none⟩ ∧ P b ∧ w.cell? ⟨b, off + i, none⟩ = some (.int .i64 y)
def RShapesP (P : Nat → Prop) (w : World) (v : Value) (l : List (List Int)) : Prop :=
  ∃ ao cap, v = .slice ao l.length cap ∧ l.length ≤ maxLen ∧ ∀ i x, l[i]? = some x → ∃ b off vx, ao = some ⟨b, off, none⟩ ∧ P b ∧ w.cell? ⟨b, off + i, none⟩ = some vx ∧ RIntsP P w vx x
def RCodeP (P : Nat → Prop) (w : World) (v : Value) (l : List PIns) : Prop :=
  ∃ ao cap, v = .slice ao l.length cap ∧ l.length ≤ maxLen ∧ ∀ i x, l[i]? = some x → ∃ b off, ao = some ⟨b, off, none⟩ ∧ P b ∧
    w.cell? ⟨b, off + i * 3, none⟩ = some (.int .i64 x.op) ∧ w.cell? ⟨b, off + i * 3 + 1, none⟩ = some (.int .i64 x.a) ∧ w.cell? ⟨b, off + i * 3 + 2, none⟩ = some (.int .i64 x.b)
def RFuncsP (P : Nat → Prop) (w : World) (v : Value) (l : List PFunc) : Prop :=
  ∃ ao cap, v = .slice ao l.length cap ∧ l.length ≤ maxLen ∧ ∀ i x, l[i]? = some x → ∃ b off vp vl vc, ao = some ⟨b, off, none⟩ ∧ P b ∧
    w.cell? ⟨b, off + i * 4, none⟩ = some vp ∧ w.cell? ⟨b, off + i * 4 + 1, none⟩ = some (.int .i64 x.result) ∧ w.cell? ⟨b, off + i * 4 + 2, none⟩ = some vl ∧ w.cell? ⟨b, off + i * 4 + 3, none⟩ = some vc ∧
    RIntsP P w vp x.params ∧ RIntsP P w vl x.locals ∧ RCodeP P w vc x.code
def RImportsP (P : Nat → Prop) (w : World) (v : Value) (l : List PImp) : Prop :=
  ∃ ao cap, v = .slice ao l.length cap ∧ l.length ≤ maxLen ∧ ∀ i x, l[i]? = some x → ∃ b off vs vp, ao = some ⟨b, off, none⟩ ∧ P b ∧
    w.cell? ⟨b, off + i * 3, none⟩ = some vs ∧ w.cell? ⟨b, off + i * 3 + 1, none⟩ = some vp ∧ w.cell? ⟨b, off + i * 3 + 2, none⟩ = some (.int .i64 x.result) ∧
    RText vs x.name ∧ RIntsP P w vp x.params
def RExportsP (P : Nat → Prop) (w : World) (v : Value) (l : List PExp) : Prop :=
  ∃ ao cap, v = .slice ao l.length cap ∧ l.length ≤ maxLen ∧ ∀ i x, l[i]? = some x → ∃ b off vs, ao = some ⟨b, off, none⟩ ∧ P b ∧
    w.cell? ⟨b, off + i * 2, none⟩ = some vs ∧ w.cell? ⟨b, off + i * 2 + 1, none⟩ = some (.int .i64 x.func) ∧ RText vs x.name

/-- such blocks have not turned, and are such ones again -/
def Stay (P P' : Nat → Prop) (w w' : World) : Prop := ∀ b, P b → b < w.heap.size → w'.heap[b]? = w.heap[b]? ∧ P' b
theorem Stay.cell {P P' : Nat → Prop} {w w' : World} (h : Stay P P' w w') {b o : Nat} {x : Value} (hb : P b) (hx : w.cell? ⟨b, o, none⟩ = some x) : w'.cell? ⟨b, o, none⟩ = some x ∧ P' b := by
  obtain ⟨h1, h2⟩ := h b hb (World.block_lt_of_cell? w _ hx)
  exact ⟨(World.cell?_of_block (a := ⟨b, o, none⟩) h1).trans hx, h2⟩
theorem RIntsP.stay {P P' : Nat → Prop} {w w' : World} {v : Value} {l : List Int} (h : RIntsP P w v l) (g : Stay P P' w w') : RIntsP P' w' v l := by
  obtain ⟨ao, cap, hv, hm, hc⟩ := h
  refine ⟨ao, cap, hv, hm, fun i x hi => ?_⟩
  obtain ⟨b, off, h1, h2, h3⟩ := hc i x hi
  exact ⟨b, off, h1, (g.cell h2 h3).2, (g.cell h2 h3).1⟩
theorem RCodeP.stay {P P' : Nat → Prop} {w w' : World} {v : Value} {l : List PIns} (h : RCodeP P w v l) (g : Stay P P' w w') : RCodeP P' w' v l := by
  obtain ⟨ao, cap, hv, hm, hc⟩ := h
  refine ⟨ao, cap, hv, hm, fun i x hi => ?_⟩
  obtain ⟨b, off, h1, h2, h3, h4, h5⟩ := hc i x hi
  exact ⟨b, off, h1, (g.cell h2 h3).2, (g.cell h2 h3).1, (g.cell h2 h4).1, (g.cell h2 h5).1⟩
theorem RShapesP.stay {P P' : Nat → Prop} {w w' : World} {v : Value} {l : List (List Int)} (h : RShapesP P w v l) (g : Stay P P' w w') : RShapesP P' w' v l := by
  obtain ⟨ao, cap, hv, hm, hc⟩ := h
  refine ⟨ao, cap, hv, hm, fun i x hi => ?_⟩
  obtain ⟨b, off, vx, h1, h2, h3, h4⟩ := hc i x hi
  exact ⟨b, off, vx, h1, (g.cell h2 h3).2, (g.cell h2 h3).1, h4.stay g⟩
theorem RFuncsP.stay {P P' : Nat → Prop} {w w' : World} {v : Value} {l : List PFunc} (h : RFuncsP P w v l) (g : Stay P P' w w') : RFuncsP P' w' v l := by
  obtain ⟨ao, cap, hv, hm, hc⟩ := h
  refine ⟨ao, cap, hv, hm, fun i x hi => ?_⟩
  obtain ⟨b, off, vp, vl, vc, h1, h2, h3, h4, h5, h6, h7, h8, h9⟩ := hc i x hi
  exact ⟨b, off, vp, vl, vc, h1, (g.cell h2 h3).2, (g.cell h2 h3).1, (g.cell h2 h4).1, (g.cell h2 h5).1, (g.cell h2 h6).1, h7.stay g, h8.stay g, h9.stay g⟩
theorem RImportsP.stay {P P' : Nat → Prop} {w w' : World} {v : Value} {l : List PImp} (h : RImportsP P w v l) (g : Stay P P' w w') : RImportsP P' w' v l := by
  obtain ⟨ao, cap, hv, hm, hc⟩ := h
  refine ⟨ao, cap, hv, hm, fun i x hi => ?_⟩
  obtain ⟨b, off, vs, vp, h1, h2, h3, h4, h5, h6, h7⟩ := hc i x hi
  exact ⟨b, off, vs, vp, h1, (g.cell h2 h3).2, (g.cell h2 h3).1, (g.cell h2 h4).1, (g.cell h2 h5).1, h6, h7.stay g⟩
theorem RExportsP.stay {P P' : Nat → Prop} {w w' : World} {v : Value} {l : List PExp} (h : RExportsP P w v l) (g : Stay P P' w w') : RExportsP P' w' v l := by
  obtain ⟨ao, cap, hv, hm, hc⟩ := h
  refine ⟨ao, cap, hv, hm, fun i x hi => ?_⟩
  obtain ⟨b, off, vs, h1, h2, h3, h4, h5⟩ := hc i x hi
  exact ⟨b, off, vs, h1, (g.cell h2 h3).2, (g.cell h2 h3).1, (g.cell h2 h4).1, h5⟩
theorem RIntsP.to {P : Nat → Prop} {w : World} {v : Value} {l : List Int} (h : RIntsP P w v l) : RIntsF 0 w v l := h.stay (P' := fun b => 0 ≤ b) fun _ _ _ => ⟨rfl, Nat.zero_le _⟩
theorem RShapesP.to {P : Nat → Prop} {w : World} {v : Value} {l : List (List Int)} (h : RShapesP P w v l) : RShapesF 0 w v l := h.stay (P' := fun b => 0 ≤ b) fun _ _ _ => ⟨rfl, Nat.zero_le _⟩
theorem RFuncsP.to {P : Nat → Prop} {w : World} {v : Value} {l : List PFunc} (h : RFuncsP P w v l) : RFuncsF 0 w v l := h.stay (P' := fun b => 0 ≤ b) fun _ _ _ => ⟨rfl, Nat.zero_le _⟩
theorem RImportsP.to {P : Nat → Prop} {w : World} {v : Value} {l : List PImp} (h : RImportsP P w v l) : RImportsF 0 w v l := h.stay (P' := fun b => 0 ≤ b) fun _ _ _ => ⟨rfl, Nat.zero_le _⟩
theorem RExportsP.to {P : Nat → Prop} {w : World} {v : Value} {l : List PExp} (h : RExportsP P w v l) : RExportsF 0 w v l := h.stay (P' := fun b => 0 ≤ b) fun _ _ _ => ⟨rfl, Nat.zero_le _⟩

/-- all but the row that grows (and, behind it, one block more) -/
def Bt (B : Nat) (v : Value) (b : Nat) : Prop := B ≤ b ∧ ¬ v.ownBlock = some b
/-- an element at its place -/
theorem flat_at {α : Type} {f : α → List Value} {n : Nat} (hf : ∀ x, (f x).length = n) : ∀ {l : List α} {i j : Nat} {x : α}, l[i]? = some x → j < n → (l.flatMap f)[i * n + j]? = (f x)[j]?
  | [], i, j, x, h, _ => by simp at h
  | a :: l, 0, j, x, h, hj => by
    simp only [List.getElem?_cons_zero, Option.some.injEq] at h
    subst h
    rw [List.flatMap_cons, Nat.zero_mul, Nat.zero_add, List.getElem?_append_left (by rw [hf]; exact hj)]
  | a :: l, i + 1, j, x, h, hj => by
    rw [List.getElem?_cons_succ] at h
    rw [List.flatMap_cons, List.getElem?_append_right (by rw [hf, Nat.add_mul]; omega), hf, show (i + 1) * n + j - n = i * n + j by rw [Nat.add_mul]; omega]
    exact flat_at hf h hj
theorem flat_size {α : Type} {f : α → List Value} {n : Nat} (hf : ∀ x, (f x).length = n) : ∀ (l : List α), (l.flatMap f).length = l.length * n
  | [] => by simp
  | a :: l => by rw [List.flatMap_cons, List.length_append, hf, flat_size hf l, List.length_cons, Nat.add_mul]; omega
theorem own_at {w : World} {B : Nat} {e : TypeId} {n len : Nat} {v : Value} {xs : List Value} (h : w.ownsRow B e n v len xs) {j : Nat} (hj : j < len * n) : ∃ g, v.ownBlock = some g ∧ B ≤ g ∧ (∃ cap, v = .slice (some ⟨g, 0, none⟩) len cap) ∧ w.cell? ⟨g, 0 + j, none⟩ = xs[j]? := by
  have h' := h
  rcases h.2 with ⟨rfl, rfl⟩ | ⟨g, cap, cur, rfl, hg, _⟩
  · simp at hj
  · exact ⟨g, rfl, hg, ⟨cap, rfl⟩, by rw [Nat.zero_add]; exact h'.cellAt j hj⟩
theorem own_form {w : World} {B : Nat} {e : TypeId} {n len : Nat} {v : Value} {xs : List Value} (h : w.ownsRow B e n v len xs) : (∃ ao cap, v = .slice ao len cap) ∧ len ≤ maxLen := by
  rcases h.2 with ⟨rfl, rfl⟩ | ⟨g, cap, cur, rfl, hg, _, h1, h2, _⟩
  · exact ⟨⟨none, 0, rfl⟩, by decide⟩
  · exact ⟨⟨_, _, rfl⟩, Nat.le_trans h1 h2⟩
def fC (i : PIns) : List Value := [.int .i64 i.op, .int .i64 i.a, .int .i64 i.b]
structure BF where
  vp : Value
  vl : Value
  vc : Value
  f : PFunc
def fF (e : BF) : List Value := [e.vp, .int .i64 e.f.result, e.vl, e.vc]
structure BI where
  vs : Value
  vp : Value
  i : PImp
def fM (e : BI) : List Value := [e.vs, e.vp, .int .i64 e.i.result]
structure BE where
  vs : Value
  e : PExp
def fE (e : BE) : List Value := [e.vs, .int .i64 e.e.func]

/-- a row has grown by an element: what lies elsewhere has stayed -/
theorem Ap.stay {B : Nat} {e : TypeId} {n : Nat} {w w' : World} {v v' : Value} {len : Nat} {xs : List Value} (h : Ap B e n w v w' v' len xs) : Stay (Bt B v) (Bt B v') w w' := by
  intro b hb hl
  refine ⟨h.frm.block b hl (fun e => hb.2 e.symm), hb.1, fun e => ?_⟩
  rcases h.lies b e with k | k
  · exact hb.2 k
  · omega
theorem Stay.set {P P' : Nat → Prop} {w w' : World} {g o : Nat} {u : Value} (h : Stay P P' w w') (hg : ∀ b, P b → ¬ b = g) : Stay P P' w (w'.setCell ⟨g, o, none⟩ u) := by
  intro b hb hl
  exact ⟨by rw [Below.heap_setCell _ _ _ _ (hg b hb)]; exact (h b hb hl).1, (h b hb hl).2⟩
theorem Stay.gc {P : Nat → Prop} {w w' : World} {mb : Nat} (h : Gc mb w w') (hg : ∀ b, P b → ¬ b = mb) : Stay P P w w' := by
  intro b hb hl
  exact ⟨h.block b hl (by intro e; simp only [Option.some.injEq] at e; exact hg b hb e), hb⟩
theorem Stay.trans {P P' P'' : Nat → Prop} {w w' w'' : World} (h : Stay P P' w w') (k : Stay P' P'' w' w'') (hs : w.heap.size ≤ w'.heap.size) : Stay P P'' w w'' := by
  intro b hb hl
  obtain ⟨h1, h2⟩ := h b hb hl
  obtain ⟨k1, k2⟩ := k b h2 (Nat.lt_of_lt_of_le hl hs)
  exact ⟨k1.trans h1, k2⟩
end Go.Proofs.YtkgncijcnlfhiaaDoor

namespace Go.Proofs.YtkgncijcnlfhiaaDoor
set_option linter.unusedVariables false
set_option linter.unusedSimpArgs false
open Go.RowKit
theorem run_copy_n {P : Program} (w : World) (dT sT ty elem : TypeId) (n g dLen dCap : Nat) (sp : Option Addr) (sLen sCap : Nat) (cur : Array Value) (t : TypeId) (cs : List Value)
    (hu : P.underlying dT = some (.slice elem)) (hs : (P.info? elem).map (·.size) = some n) (hg : w.heap[g]? = some (.cells cur t (0, 0))) (hle : sLen ≤ dLen) (hn : cs.length = sLen * n)
    (hpos : 0 < sLen → ∃ ad, sp = some ad ∧ ∀ j v, cs[j]? = some v → w.cell? (ad.add j) = some v) (hfit : cs.length ≤ cur.size) (h1 : ∀ v ∈ cs, v.oneCell' = true) :
    (Builtin.copy_ #[dT, sT] ty #[.slice (some ⟨g, 0, none⟩) dLen dCap, .slice sp sLen sCap]).run P w = .ok (goInt sLen) (w.setRow g (cs ++ cur.toList.drop cs.length).toArray) := by
  have hmin : Nat.min sLen dLen = sLen := Nat.min_eq_left hle
  cases hq : P.info? elem with
  | none => simp [hq] at hs
  | some i =>
    have hi : i.size = n := by simpa [hq] using hs
    have hst := run_storeCells_at P g 0 t cs 0 cur w hg (by simpa using hfit) h1
    simp only [Nat.add_zero, List.take_zero, List.nil_append, Nat.zero_add] at hst
    by_cases h0 : sLen = 0
    · subst h0
      obtain rfl : cs = [] := List.eq_nil_of_length_eq_zero (by rw [hn]; simp)
      simp only [List.nil_append, List.length_nil, List.drop_zero, Array.toArray_toList]
      rw [setRow_self w g cur t (0, 0) hg]
      cases sp with
      | none => simp [Builtin.copy_, run_underlying hu, Builtin.lenOf, Builtin.firstCells, sizeOf, typeInfo, hq, storeCells]
      | some ad =>
        have hl := run_loadCells_list (P := P) w ad [] (by simp)
        simp at hl
        simp [Builtin.copy_, run_underlying hu, Builtin.lenOf, Builtin.firstCells, sizeOf, typeInfo, hq, storeCells, hl]
    · obtain ⟨ad, rfl, hsrc⟩ := hpos (by omega)
      have hl := run_loadCells_list (P := P) w ad cs hsrc
      rw [hn] at hl
      simp [Builtin.copy_, run_underlying hu, Builtin.lenOf, Builtin.firstCells, sizeOf, typeInfo, hq, hi, hmin, hl, hst]
end Go.Proofs.YtkgncijcnlfhiaaDoor

