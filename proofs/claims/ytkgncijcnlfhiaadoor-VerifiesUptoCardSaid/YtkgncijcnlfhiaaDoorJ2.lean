import Derived.Deep.Cut
import Derived.Deep.CutRange
import Derived.Test.YtkgncijcnlfhiaaDoorZ6
import Derived.Test.YtkgncijcnlfhiaaDoorZ7
import Derived.Test.YtkgncijcnlfhiaaDoorZ4
import Derived.Test.YtkgncijcnlfhiaaDoorZp
import Derived.Test.YtkgncijcnlfhiaaDoorRg
import Derived.Test.YtkgncijcnlfhiaaDoorW7
import Derived.Test.YtkgncijcnlfhiaaDoorRg2
namespace Go.Proofs.YtkgncijcnlfhiaaDoor
set_option linter.unusedVariables false
set_option linter.unusedSimpArgs false
open Go.RowKit
attribute [local go_sem ↓] Go.wp_at_zero Go.wp_at_succ
def shapeO (u : PUnit) (a : Int) : Option (List Int) := if 1 ≤ a then u.shapes[(a - 1).toNat]? else none
theorem ins_natJ {i : PIns} (h : insOk i = true) : (0 ≤ i.op ∧ i.op ≤ 20) ∧ (i.op = 1 ∨ ((0 ≤ i.a ∧ i.a ≤ 65535) ∧ 0 ≤ i.b ∧ i.b ≤ 65535)) := by
  unfold insOk operandOk wB at h
  simp only [Bool.and_eq_true, decide_eq_true_eq] at h
  obtain ⟨h1, h2, h3⟩ := h
  refine ⟨h1, ?_⟩
  by_cases e : i.op = 1
  · exact .inl e
  · right
    rw [if_neg e] at h2
    constructor
    · by_cases c : 1 ≤ operandsN i.op
      · rw [if_pos c] at h2; simpa using h2
      · rw [if_neg c] at h2; simp at h2; omega
    · by_cases c : 2 ≤ operandsN i.op
      · rw [if_pos c] at h3; simpa using h3
      · rw [if_neg c] at h3; simp at h3; omega
theorem effP_15 {u : PUnit} {f : PFunc} {i : PIns} (ho : i.op = 15) : effP u f i = (shapeO u i.a).map fun s => (s, [i.a]) := by unfold effP; simp [ho, shapeO]
theorem effP_16 {u : PUnit} {f : PFunc} {i : PIns} (ho : i.op = 16) : effP u f i = (shapeO u i.a).bind fun s => s[i.b.toNat]?.map fun k => ([i.a], [k]) := by unfold effP; simp [ho, shapeO]
theorem effP_17 {u : PUnit} {f : PFunc} {i : PIns} (ho : i.op = 17) : effP u f i = (shapeO u i.a).bind fun s => s[i.b.toNat]?.map fun k => ([i.a, k], []) := by unfold effP; simp [ho, shapeO]
theorem effP_18 {u : PUnit} {f : PFunc} {i : PIns} (ho : i.op = 18) : effP u f i = (shapeO u i.a).map fun _ => ([], [i.a]) := by unfold effP; simp [ho, shapeO]
theorem effP_19 {u : PUnit} {f : PFunc} {i : PIns} (ho : i.op = 19) : effP u f i = (shapeO u i.a).map fun _ => ([i.a], [0]) := by unfold effP; simp [ho, shapeO]
theorem field_none {u : PUnit} {a : Int} {jb : Nat} {α : Type} {h : Int → α} (hjs : ¬ jb < ((shapeO u a).getD []).length) : ((shapeO u a).bind fun s => s[jb]?.map h) = none := by
  cases hs : shapeO u a with
  | none => rfl
  | some s => rw [hs] at hjs; simp at hjs; simp [List.getElem?_eq_none hjs]
/-- what it answers -/
def ErfR (o : Option (List Int × List Int)) (w : World) (x : Ending) (w' : World) : Prop := Gr w w' ∧ ∃ vt vp ts ps, x = .returned (.tuple #[.agg #[vt, vp], .bool o.isSome]) ∧ RInts w' vt ts ∧ RInts w' vp ps ∧ ts.length ≤ 1000000 ∧ ps.length ≤ 2 ∧ (o.isSome = true → o = some (ts, ps))
theorem gr_row2 {W w : World} {g : Nat} {cs : Array Value} (h : Gr W w) (hg : W.heap.size ≤ g) : Gr W (w.setRow g cs) :=
  ⟨h.os, h.tape, h.output, by simpa using h.size, fun i hi hne => by rw [setRow_other w g i cs (by omega)]; exact h.block i hi hne⟩
theorem erf_yes {o : Option (List Int × List Int)} {w w' : World} {vt vp : Value} {ts ps : List Int} (h : o = some (ts, ps)) (g : Gr w w') (rt : RInts w' vt ts) (rp : RInts w' vp ps) (lt : ts.length ≤ 1000000) (lp : ps.length ≤ 2) : ErfR o w (.returned (.tuple #[.agg #[vt, vp], .bool true])) w' := by
  subst h; exact ⟨g, vt, vp, ts, ps, rfl, rt, rp, lt, lp, fun _ => rfl⟩
theorem erf_no {o : Option (List Int × List Int)} {w w' : World} {vt vp : Value} {ts ps : List Int} (h : o = none) (g : Gr w w') (rt : RInts w' vt ts) (rp : RInts w' vp ps) (lt : ts.length ≤ 1000000) (lp : ps.length ≤ 2) : ErfR o w (.returned (.tuple #[.agg #[vt, vp], .bool false])) w' := by
  subst h; exact ⟨g, vt, vp, ts, ps, rfl, rt, rp, lt, lp, fun h => by cases h⟩
/-- the boxes -/
structure EfB (w wx : World) (u : PUnit) (f : PFunc) (i : PIns) (a1 a2 a3 a4 a5 ap al ac : Option Addr) (c1 c2 c3 c4 c5 cp cl cc : Nat) : Prop where
  gr : Gr w wx
  sz : w.heap.size + 4 ≤ wx.heap.size
  cs : wx.cell? ⟨w.heap.size, 0, none⟩ = some (.slice a1 u.shapes.length c1) ∧ wx.cell? ⟨w.heap.size, 1, none⟩ = some (.slice a2 u.consts.length c2) ∧ wx.cell? ⟨w.heap.size, 2, none⟩ = some (.slice a3 u.funcs.length c3) ∧ wx.cell? ⟨w.heap.size, 3, none⟩ = some (.slice a4 u.imports.length c4) ∧ wx.cell? ⟨w.heap.size, 4, none⟩ = some (.slice a5 u.exports.length c5) ∧ wx.cell? ⟨w.heap.size + 1, 0, none⟩ = some (.slice ap f.params.length cp) ∧ wx.cell? ⟨w.heap.size + 1, 1, none⟩ = some (.int .i64 f.result) ∧ wx.cell? ⟨w.heap.size + 1, 2, none⟩ = some (.slice al f.locals.length cl) ∧ wx.cell? ⟨w.heap.size + 1, 3, none⟩ = some (.slice ac f.code.length cc) ∧ wx.cell? ⟨w.heap.size + 1 + 1, 0, none⟩ = some (.int .i64 i.op) ∧ wx.cell? ⟨w.heap.size + 1 + 1, 1, none⟩ = some (.int .i64 i.a) ∧ wx.cell? ⟨w.heap.size + 1 + 1, 2, none⟩ = some (.int .i64 i.b)
  eb : wx.heap[w.heap.size + 1 + 1 + 1]? = some (.cells #[.slice none 0 0, .slice none 0 0] 223 (0, 0))
theorem EfB.new (w : World) (u : PUnit) (f : PFunc) (i : PIns) (a1 a2 a3 a4 a5 ap al ac : Option Addr) (c1 c2 c3 c4 c5 cp cl cc : Nat) : EfB w ((((w.alloc (.cells #[.slice a1 u.shapes.length c1, .slice a2 u.consts.length c2, .slice a3 u.funcs.length c3, .slice a4 u.imports.length c4, .slice a5 u.exports.length c5] 28)).alloc (.cells #[.slice ap f.params.length cp, .int .i64 f.result, .slice al f.locals.length cl, .slice ac f.code.length cc] 76)).alloc (.cells #[.int .i64 i.op, .int .i64 i.a, .int .i64 i.b] 91)).alloc (.cells #[.slice none 0 0, .slice none 0 0] 223)) u f i a1 a2 a3 a4 a5 ap al ac c1 c2 c3 c4 c5 cp cl cc := by
  refine ⟨((((Gr.refl w).alloc _).alloc _).alloc _).alloc _, by simp, ?_, ?_⟩
  · refine ⟨?_, ?_, ?_, ?_, ?_, ?_, ?_, ?_, ?_, ?_, ?_, ?_⟩ <;> simp [go_sem]
  · have := heap_alloc_new (((w.alloc (.cells #[.slice a1 u.shapes.length c1, .slice a2 u.consts.length c2, .slice a3 u.funcs.length c3, .slice a4 u.imports.length c4, .slice a5 u.exports.length c5] 28)).alloc (.cells #[.slice ap f.params.length cp, .int .i64 f.result, .slice al f.locals.length cl, .slice ac f.code.length cc] 76)).alloc (.cells #[.int .i64 i.op, .int .i64 i.a, .int .i64 i.b] 91)) (.cells #[.slice none 0 0, .slice none 0 0] 223)
    simpa using this
theorem EfB.go {w wx wy : World} {u : PUnit} {f : PFunc} {i : PIns} {a1 a2 a3 a4 a5 ap al ac : Option Addr} {c1 c2 c3 c4 c5 cp cl cc : Nat} (h : EfB w wx u f i a1 a2 a3 a4 a5 ap al ac c1 c2 c3 c4 c5 cp cl cc) (g : Gr wx wy) : EfB w wy u f i a1 a2 a3 a4 a5 ap al ac c1 c2 c3 c4 c5 cp cl cc := by
  have hs := h.sz
  obtain ⟨k0, k1, k2, k3, k4, k5, k6, k7, k8, k9, k10, k11⟩ := h.cs
  exact ⟨h.gr.trans g, Nat.le_trans h.sz g.size, ⟨g.cell k0 (by simp), g.cell k1 (by simp), g.cell k2 (by simp), g.cell k3 (by simp), g.cell k4 (by simp), g.cell k5 (by simp), g.cell k6 (by simp), g.cell k7 (by simp), g.cell k8 (by simp), g.cell k9 (by simp), g.cell k10 (by simp), g.cell k11 (by simp)⟩, (g.block _ (by omega) (by simp)).trans h.eb⟩
theorem keep12 {w1 w2 : World} {p0 p1 p2 p3 p4 p5 p6 p7 p8 p9 p10 p11 : Addr} {x0 x1 x2 x3 x4 x5 x6 x7 x8 x9 x10 x11 : Value} (g : Gr w1 w2) (h : w1.cell? p0 = some x0 ∧ w1.cell? p1 = some x1 ∧ w1.cell? p2 = some x2 ∧ w1.cell? p3 = some x3 ∧ w1.cell? p4 = some x4 ∧ w1.cell? p5 = some x5 ∧ w1.cell? p6 = some x6 ∧ w1.cell? p7 = some x7 ∧ w1.cell? p8 = some x8 ∧ w1.cell? p9 = some x9 ∧ w1.cell? p10 = some x10 ∧ w1.cell? p11 = some x11) : w2.cell? p0 = some x0 ∧ w2.cell? p1 = some x1 ∧ w2.cell? p2 = some x2 ∧ w2.cell? p3 = some x3 ∧ w2.cell? p4 = some x4 ∧ w2.cell? p5 = some x5 ∧ w2.cell? p6 = some x6 ∧ w2.cell? p7 = some x7 ∧ w2.cell? p8 = some x8 ∧ w2.cell? p9 = some x9 ∧ w2.cell? p10 = some x10 ∧ w2.cell? p11 = some x11 := by
  obtain ⟨h0, h1, h2, h3, h4, h5, h6, h7, h8, h9, h10, h11⟩ := h
  exact ⟨g.cell h0 (by simp), g.cell h1 (by simp), g.cell h2 (by simp), g.cell h3 (by simp), g.cell h4 (by simp), g.cell h5 (by simp), g.cell h6 (by simp), g.cell h7 (by simp), g.cell h8 (by simp), g.cell h9 (by simp), g.cell h10 (by simp), g.cell h11 (by simp)⟩
theorem cell_row_ {w : World} {g b o : Nat} {cs : Array Value} {x : Value} (h : ¬ b = g) (e : w.cell? ⟨b, o, none⟩ = some x) : (w.setRow g cs).cell? ⟨b, o, none⟩ = some x :=
  (World.cell?_of_block (a := ⟨b, o, none⟩) (setRow_other w g b cs h)).trans e
theorem row12 {w1 : World} {s : Nat} {cs : Array Value} {x0 x1 x2 x3 x4 x5 x6 x7 x8 x9 x10 x11 : Value} (h : w1.cell? ⟨s, 0, none⟩ = some x0 ∧ w1.cell? ⟨s, 1, none⟩ = some x1 ∧ w1.cell? ⟨s, 2, none⟩ = some x2 ∧ w1.cell? ⟨s, 3, none⟩ = some x3 ∧ w1.cell? ⟨s, 4, none⟩ = some x4 ∧ w1.cell? ⟨s + 1, 0, none⟩ = some x5 ∧ w1.cell? ⟨s + 1, 1, none⟩ = some x6 ∧ w1.cell? ⟨s + 1, 2, none⟩ = some x7 ∧ w1.cell? ⟨s + 1, 3, none⟩ = some x8 ∧ w1.cell? ⟨s + 1 + 1, 0, none⟩ = some x9 ∧ w1.cell? ⟨s + 1 + 1, 1, none⟩ = some x10 ∧ w1.cell? ⟨s + 1 + 1, 2, none⟩ = some x11) : (w1.setRow (s + 1 + 1 + 1) cs).cell? ⟨s, 0, none⟩ = some x0 ∧ (w1.setRow (s + 1 + 1 + 1) cs).cell? ⟨s, 1, none⟩ = some x1 ∧ (w1.setRow (s + 1 + 1 + 1) cs).cell? ⟨s, 2, none⟩ = some x2 ∧ (w1.setRow (s + 1 + 1 + 1) cs).cell? ⟨s, 3, none⟩ = some x3 ∧ (w1.setRow (s + 1 + 1 + 1) cs).cell? ⟨s, 4, none⟩ = some x4 ∧ (w1.setRow (s + 1 + 1 + 1) cs).cell? ⟨s + 1, 0, none⟩ = some x5 ∧ (w1.setRow (s + 1 + 1 + 1) cs).cell? ⟨s + 1, 1, none⟩ = some x6 ∧ (w1.setRow (s + 1 + 1 + 1) cs).cell? ⟨s + 1, 2, none⟩ = some x7 ∧ (w1.setRow (s + 1 + 1 + 1) cs).cell? ⟨s + 1, 3, none⟩ = some x8 ∧ (w1.setRow (s + 1 + 1 + 1) cs).cell? ⟨s + 1 + 1, 0, none⟩ = some x9 ∧ (w1.setRow (s + 1 + 1 + 1) cs).cell? ⟨s + 1 + 1, 1, none⟩ = some x10 ∧ (w1.setRow (s + 1 + 1 + 1) cs).cell? ⟨s + 1 + 1, 2, none⟩ = some x11 := by
  obtain ⟨h0, h1, h2, h3, h4, h5, h6, h7, h8, h9, h10, h11⟩ := h
  exact ⟨cell_row_ (by omega) h0, cell_row_ (by omega) h1, cell_row_ (by omega) h2, cell_row_ (by omega) h3, cell_row_ (by omega) h4, cell_row_ (by omega) h5, cell_row_ (by omega) h6, cell_row_ (by omega) h7, cell_row_ (by omega) h8, cell_row_ (by omega) h9, cell_row_ (by omega) h10, cell_row_ (by omega) h11⟩
theorem Tryd.infErf : (Tryd.prog.info? 223).map (·.size) = some 2 := by kernel_rfl
def NewOne (W : World) (y : Int) (v : Value) (w : World) : Prop := ∃ b, v = .slice (some ⟨b, 0, none⟩) 1 1 ∧ W.heap.size ≤ b ∧ w.cell? ⟨b, 0, none⟩ = some (.int .i64 y)
theorem NewOne.gr {W w w' : World} {y : Int} {v : Value} (h : NewOne W y v w) (g : Gr w w') : NewOne W y v w' := by
  obtain ⟨b, h1, h2, h3⟩ := h
  exact ⟨b, h1, h2, g.cell h3 (by simp)⟩
end Go.Proofs.YtkgncijcnlfhiaaDoor

