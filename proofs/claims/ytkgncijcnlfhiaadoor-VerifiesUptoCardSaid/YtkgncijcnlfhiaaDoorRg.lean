import Derived.Test.YtkgncijcnlfhiaaDoorZl
import Derived.Test.YtkgncijcnlfhiaaDoorZ7
import Derived.Test.YtkgncijcnlfhiaaDoorW3
namespace Go.Proofs.YtkgncijcnlfhiaaDoor
set_option linter.unusedVariables false
set_option linter.unusedSimpArgs false
open Go.RowKit
attribute [local go_sem ↓] Go.wp_at_zero Go.wp_at_succ
def put8 (w : World) (g : Nat) (y0 y1 y2 y3 y4 y5 y6 y7 : Value) : World := (((((((w.setCell ⟨g, 0, none⟩ y0).setCell ⟨g, 1, none⟩ y1).setCell ⟨g, 2, none⟩ y2).setCell ⟨g, 3, none⟩ y3).setCell ⟨g, 4, none⟩ y4).setCell ⟨g, 5, none⟩ y5).setCell ⟨g, 6, none⟩ y6).setCell ⟨g, 7, none⟩ y7
theorem put8_eq (w : World) (g : Nat) (y0 y1 y2 y3 y4 y5 y6 y7 : Value) : (((((((w.setCell ⟨g, 0, none⟩ y0).setCell ⟨g, 1, none⟩ y1).setCell ⟨g, 2, none⟩ y2).setCell ⟨g, 3, none⟩ y3).setCell ⟨g, 4, none⟩ y4).setCell ⟨g, 5, none⟩ y5).setCell ⟨g, 6, none⟩ y6).setCell ⟨g, 7, none⟩ y7 = put8 w g y0 y1 y2 y3 y4 y5 y6 y7 := rfl
theorem put8_other {w : World} {g b : Nat} {y0 y1 y2 y3 y4 y5 y6 y7 : Value} (h : ¬ b = g) : (put8 w g y0 y1 y2 y3 y4 y5 y6 y7).heap[b]? = w.heap[b]? := by
  unfold put8
  rw [Below.heap_setCell _ _ _ _ h, Below.heap_setCell _ _ _ _ h, Below.heap_setCell _ _ _ _ h, Below.heap_setCell _ _ _ _ h, Below.heap_setCell _ _ _ _ h, Below.heap_setCell _ _ _ _ h, Below.heap_setCell _ _ _ _ h, Below.heap_setCell _ _ _ _ h]
theorem put8_gr {w w1 : World} {g : Nat} {y0 y1 y2 y3 y4 y5 y6 y7 : Value} (h : Gr w w1) (hg : w.heap.size ≤ g) : Gr w (put8 w1 g y0 y1 y2 y3 y4 y5 y6 y7) := (gr_put (gr_put (gr_put (gr_put (gr_put (gr_put (gr_put (gr_put h hg) hg) hg) hg) hg) hg) hg) hg)
theorem put8_box {w : World} {g : Nat} {x0 x1 x2 x3 x4 x5 x6 x7 y0 y1 y2 y3 y4 y5 y6 y7 : Value} {t : TypeId} (h : w.heap[g]? = some (.cells #[x0, x1, x2, x3, x4, x5, x6, x7] t (0, 0))) : (put8 w g y0 y1 y2 y3 y4 y5 y6 y7).heap[g]? = some (.cells #[y0, y1, y2, y3, y4, y5, y6, y7] t (0, 0)) := by
  unfold put8
  have h0 := heap_setCell_same w g 0 _ t y0 h
  have h1 := heap_setCell_same _ g 1 _ t y1 h0
  have h2 := heap_setCell_same _ g 2 _ t y2 h1
  have h3 := heap_setCell_same _ g 3 _ t y3 h2
  have h4 := heap_setCell_same _ g 4 _ t y4 h3
  have h5 := heap_setCell_same _ g 5 _ t y5 h4
  have h6 := heap_setCell_same _ g 6 _ t y6 h5
  have h7 := heap_setCell_same _ g 7 _ t y7 h6
  simpa using h7
def TyI (w : World) (b : Nat) : Prop := ∃ arr, w.heap[b]? = some (.cells arr 3 (0, 0))
/-- a function's scope -/
def ScpR (w : World) (v1 v2 v3 v4 v5 : Value) (N : Nat) (res : Int) (sl : List Int) (x : Ending) (w' : World) : Prop := ∃ vs, x = .returned (.agg #[v1, v2, v3, v4, v5, vs, .int .i64 (N : Int), .int .i64 res]) ∧ Gr w w' ∧ RIntsQ (fun b => w.heap.size ≤ b ∧ TyI w' b) w' vs sl
theorem own_rints {w : World} {B : Nat} {v : Value} {l : List Int} (h : w.ownsRow B 3 1 v l.length (ivL l)) : RIntsQ (fun b => B ≤ b ∧ TyI w b) w v l := by
  obtain ⟨h1, h2⟩ := h
  rcases h2 with ⟨rfl, h3⟩ | ⟨g, cap, cur, rfl, hb, hh, h4, h5, h6, h7⟩
  · have : l = [] := List.length_eq_zero_iff.1 h3
    subst this; exact rintsq_nil _ _
  · refine ⟨_, cap, rfl, ⟨by omega, by omega⟩, fun i hi => ⟨g, 0, rfl, ⟨hb, _, hh⟩, ?_⟩⟩
    have e := heap_cell_ (o := 0 + i) hh
    rw [e, ← Array.getElem?_toList]
    have h8 : (cur.toList.take (l.length * 1))[i]? = cur.toList[i]? := by rw [List.getElem?_take, if_pos (by omega)]
    rw [Nat.zero_add, ← h8, h7, ivL_at hi]; rfl
def scoW (w : World) (v1 v2 v3 v4 v5 vp vl vc : Value) (res : Int) : World := ((w.alloc (.cells #[v1, v2, v3, v4, v5] 28)).alloc (.cells #[vp, .int .i64 res, vl, vc] 76)).alloc (.cells #[.slice none 0 0, .slice none 0 0, .slice none 0 0, .slice none 0 0, .slice none 0 0, .slice none 0 0, .int .i64 0, .int .i64 0] 167)
theorem scoW_eq (w : World) (v1 v2 v3 v4 v5 vp vl vc : Value) (res : Int) : ((w.alloc (.cells #[v1, v2, v3, v4, v5] 28)).alloc (.cells #[vp, .int .i64 res, vl, vc] 76)).alloc (.cells #[.slice none 0 0, .slice none 0 0, .slice none 0 0, .slice none 0 0, .slice none 0 0, .slice none 0 0, .int .i64 0, .int .i64 0] 167) = scoW w v1 v2 v3 v4 v5 vp vl vc res := rfl
theorem scoW_facts (w : World) (v1 v2 v3 v4 v5 vp vl vc : Value) (res : Int) : Gr w (scoW w v1 v2 v3 v4 v5 vp vl vc res) ∧ (scoW w v1 v2 v3 v4 v5 vp vl vc res).heap.size = w.heap.size + 1 + 1 + 1 ∧ (scoW w v1 v2 v3 v4 v5 vp vl vc res).heap[w.heap.size]? = some (.cells #[v1, v2, v3, v4, v5] 28 (0, 0)) ∧ (scoW w v1 v2 v3 v4 v5 vp vl vc res).heap[w.heap.size + 1]? = some (.cells #[vp, .int .i64 res, vl, vc] 76 (0, 0)) ∧ (scoW w v1 v2 v3 v4 v5 vp vl vc res).heap[w.heap.size + 1 + 1]? = some (.cells #[.slice none 0 0, .slice none 0 0, .slice none 0 0, .slice none 0 0, .slice none 0 0, .slice none 0 0, .int .i64 0, .int .i64 0] 167 (0, 0)) := by
  have s1 : (w.alloc (.cells #[v1, v2, v3, v4, v5] 28)).heap.size = w.heap.size + 1 := by simp
  have s2 : ((w.alloc (.cells #[v1, v2, v3, v4, v5] 28)).alloc (.cells #[vp, .int .i64 res, vl, vc] 76)).heap.size = w.heap.size + 1 + 1 := by simp
  have h1 := heap_alloc_new w (.cells #[v1, v2, v3, v4, v5] 28)
  have h2 := heap_alloc_new (w.alloc (.cells #[v1, v2, v3, v4, v5] 28)) (.cells #[vp, .int .i64 res, vl, vc] 76)
  have h3 := heap_alloc_new ((w.alloc (.cells #[v1, v2, v3, v4, v5] 28)).alloc (.cells #[vp, .int .i64 res, vl, vc] 76)) (.cells #[.slice none 0 0, .slice none 0 0, .slice none 0 0, .slice none 0 0, .slice none 0 0, .slice none 0 0, .int .i64 0, .int .i64 0] 167)
  rw [s1] at h2
  rw [s2] at h3
  have g2 := Gr.alloc (Gr.refl (w.alloc (.cells #[v1, v2, v3, v4, v5] 28))) (.cells #[vp, .int .i64 res, vl, vc] 76)
  have g3 := Gr.alloc (Gr.refl ((w.alloc (.cells #[v1, v2, v3, v4, v5] 28)).alloc (.cells #[vp, .int .i64 res, vl, vc] 76))) (.cells #[.slice none 0 0, .slice none 0 0, .slice none 0 0, .slice none 0 0, .slice none 0 0, .slice none 0 0, .int .i64 0, .int .i64 0] 167)
  exact ⟨(((Gr.refl w).alloc _).alloc _).alloc _, by simp [scoW], ((g2.trans g3).block _ (by omega) (by simp)).trans h1, (g3.block _ (by omega) (by simp)).trans h2, h3⟩

set_option maxRecDepth 100000 in
set_option maxHeartbeats 2000000 in
theorem scope_any (v1 v2 v3 v4 v5 vp vl vc : Value) (f : PFunc) (w : World) (hu : ∀ v ∈ [v1, v2, v3, v4, v5], ∃ a n c, v = .slice a n c) (hp : RInts w vp f.params) (hl : RInts w vl f.locals) (hc : ∃ a c, vc = .slice a f.code.length c) (hpl : f.params.length ≤ 10000) (hll : f.locals.length ≤ 10000) :
    Calls Tryd.prog 110 #[.agg #[v1, v2, v3, v4, v5], .agg #[vp, .int .i64 f.result, vl, vc]] w (ScpR w v1 v2 v3 v4 v5 f.code.length f.result (f.params ++ f.locals)) := by
  obtain ⟨q1, n1, c1, rfl⟩ := hu v1 (by simp)
  obtain ⟨q2, n2, c2, rfl⟩ := hu v2 (by simp)
  obtain ⟨q3, n3, c3, rfl⟩ := hu v3 (by simp)
  obtain ⟨q4, n4, c4, rfl⟩ := hu v4 (by simp)
  obtain ⟨q5, n5, c5, rfl⟩ := hu v5 (by simp)
  obtain ⟨qp, cp, rfl⟩ := hp.shape
  obtain ⟨ql, cl, rfl⟩ := hl.shape
  obtain ⟨qc, cc, rfl⟩ := hc
  have HP := hide hp
  have HLL := hide hl
  have HF := hide (scoW_facts w (.slice q1 n1 c1) (.slice q2 n2 c2) (.slice q3 n3 c3) (.slice q4 n4 c4) (.slice q5 n5 c5) (.slice qp f.params.length cp) (.slice ql f.locals.length cl) (.slice qc f.code.length cc) f.result)
  clear hu hp hl
  go_enter Tryd.func110, Tryd.ntmps110
  go_wp2_with fail
  rw [scoW_eq]
  generalize scoW w (.slice q1 n1 c1) (.slice q2 n2 c2) (.slice q3 n3 c3) (.slice q4 n4 c4) (.slice q5 n5 c5) (.slice qp f.params.length cp) (.slice ql f.locals.length cl) (.slice qc f.code.length cc) f.result = V at HF ⊢
  obtain ⟨hgV, hsV, hb0, hb1, hb2⟩ := HF.out
  have KS : Hid (∀ w', Gr V w' → w'.cell? ⟨w.heap.size, 0, none⟩ = some (.slice q1 n1 c1) ∧ w'.cell? ⟨w.heap.size, 1, none⟩ = some (.slice q2 n2 c2) ∧ w'.cell? ⟨w.heap.size, 2, none⟩ = some (.slice q3 n3 c3) ∧ w'.cell? ⟨w.heap.size, 3, none⟩ = some (.slice q4 n4 c4) ∧ w'.cell? ⟨w.heap.size, 4, none⟩ = some (.slice q5 n5 c5) ∧ w'.cell? ⟨w.heap.size + 1, 0, none⟩ = some (.slice qp f.params.length cp) ∧ w'.cell? ⟨w.heap.size + 1, 1, none⟩ = some (.int .i64 f.result) ∧ w'.cell? ⟨w.heap.size + 1, 2, none⟩ = some (.slice ql f.locals.length cl) ∧ w'.cell? ⟨w.heap.size + 1, 3, none⟩ = some (.slice qc f.code.length cc)) := hide (fun w' g => by
    have e0 := (g.block w.heap.size (by omega) (by simp)).trans hb0
    have e1 := (g.block (w.heap.size + 1) (by omega) (by simp)).trans hb1
    refine ⟨?_, ?_, ?_, ?_, ?_, ?_, ?_, ?_, ?_⟩ <;> first | (rw [heap_cell_ e0]; rfl) | (rw [heap_cell_ e1]; rfl))
  have KR : Hid (∀ w', Gr V w' → w'.heap[w.heap.size + 1 + 1]? = some (.cells #[.slice none 0 0, .slice none 0 0, .slice none 0 0, .slice none 0 0, .slice none 0 0, .slice none 0 0, .int .i64 0, .int .i64 0] 167 (0, 0))) := hide (fun w' g => (g.block _ (by omega) (by simp)).trans hb2)
  have KP : Hid (∀ (w' : World) (y0 y1 y2 y3 y4 y5 y6 y7 : Value), Gr V w' → (put8 w' (w.heap.size + 1 + 1) y0 y1 y2 y3 y4 y5 y6 y7).cell? ⟨w.heap.size, 0, none⟩ = some (.slice q1 n1 c1) ∧ (put8 w' (w.heap.size + 1 + 1) y0 y1 y2 y3 y4 y5 y6 y7).cell? ⟨w.heap.size, 1, none⟩ = some (.slice q2 n2 c2) ∧ (put8 w' (w.heap.size + 1 + 1) y0 y1 y2 y3 y4 y5 y6 y7).cell? ⟨w.heap.size, 2, none⟩ = some (.slice q3 n3 c3) ∧ (put8 w' (w.heap.size + 1 + 1) y0 y1 y2 y3 y4 y5 y6 y7).cell? ⟨w.heap.size, 3, none⟩ = some (.slice q4 n4 c4) ∧ (put8 w' (w.heap.size + 1 + 1) y0 y1 y2 y3 y4 y5 y6 y7).cell? ⟨w.heap.size, 4, none⟩ = some (.slice q5 n5 c5) ∧ (put8 w' (w.heap.size + 1 + 1) y0 y1 y2 y3 y4 y5 y6 y7).cell? ⟨w.heap.size + 1, 0, none⟩ = some (.slice qp f.params.length cp) ∧ (put8 w' (w.heap.size + 1 + 1) y0 y1 y2 y3 y4 y5 y6 y7).cell? ⟨w.heap.size + 1, 1, none⟩ = some (.int .i64 f.result) ∧ (put8 w' (w.heap.size + 1 + 1) y0 y1 y2 y3 y4 y5 y6 y7).cell? ⟨w.heap.size + 1, 2, none⟩ = some (.slice ql f.locals.length cl) ∧ (put8 w' (w.heap.size + 1 + 1) y0 y1 y2 y3 y4 y5 y6 y7).cell? ⟨w.heap.size + 1, 3, none⟩ = some (.slice qc f.code.length cc)) := hide (fun w' y0 y1 y2 y3 y4 y5 y6 y7 g => by
    have e0 : (put8 w' (w.heap.size + 1 + 1) y0 y1 y2 y3 y4 y5 y6 y7).heap[w.heap.size]? = _ := (put8_other (by omega)).trans ((g.block w.heap.size (by omega) (by simp)).trans hb0)
    have e1 : (put8 w' (w.heap.size + 1 + 1) y0 y1 y2 y3 y4 y5 y6 y7).heap[w.heap.size + 1]? = _ := (put8_other (by omega)).trans ((g.block (w.heap.size + 1) (by omega) (by simp)).trans hb1)
    refine ⟨?_, ?_, ?_, ?_, ?_, ?_, ?_, ?_, ?_⟩ <;> first | (rw [heap_cell_ e0]; rfl) | (rw [heap_cell_ e1]; rfl))
  have HG := hide hgV
  have HSZ := hide hsV
  obtain ⟨s0, s1, s2, s3, s4, s5, s6, s7, s8⟩ := KS.out V (Gr.refl V)
  clear hgV hb0 hb1 hb2 HF hsV
  go_region_held3 (fun w' => w'.cell? ⟨w.heap.size, 0, none⟩ = some (.slice q1 n1 c1) ∧ w'.cell? ⟨w.heap.size, 1, none⟩ = some (.slice q2 n2 c2) ∧ w'.cell? ⟨w.heap.size, 2, none⟩ = some (.slice q3 n3 c3) ∧ w'.cell? ⟨w.heap.size, 3, none⟩ = some (.slice q4 n4 c4) ∧ w'.cell? ⟨w.heap.size, 4, none⟩ = some (.slice q5 n5 c5) ∧ w'.cell? ⟨w.heap.size + 1, 0, none⟩ = some (.slice qp f.params.length cp) ∧ w'.cell? ⟨w.heap.size + 1, 1, none⟩ = some (.int .i64 f.result) ∧ w'.cell? ⟨w.heap.size + 1, 2, none⟩ = some (.slice ql f.locals.length cl) ∧ w'.cell? ⟨w.heap.size + 1, 3, none⟩ = some (.slice qc f.code.length cc)) (first | with_reducible exact KS.out _ HG2.out | exact KP.out w2 _ _ _ _ _ _ _ _ HG2.out | exact KS.out _ (by repeat (first | with_reducible exact Gr.refl _ | with_reducible refine Gr.drew ?_ | with_reducible refine Gr.alloc ?_ _ | with_reducible refine Gr.trans ?_ (by with_reducible assumption)))) (first | (go_at_call 147; refine (concat_any V.heap.size (.slice qp f.params.length cp) (.slice ql f.locals.length cl) f.params f.locals _ (by simp [go_sem]) (by simp [go_sem]) (HP.out.gr (HG.out.trans (by repeat (first | with_reducible exact Gr.refl _ | with_reducible refine Gr.drew ?_ | with_reducible refine Gr.alloc ?_ _ | with_reducible refine Gr.trans ?_ (by with_reducible assumption))))) (HLL.out.gr (HG.out.trans (by repeat (first | with_reducible exact Gr.refl _ | with_reducible refine Gr.drew ?_ | with_reducible refine Gr.alloc ?_ _ | with_reducible refine Gr.trans ?_ (by with_reducible assumption))))) hpl hll).mono ?_; rintro x w2 ⟨v2, rfl, ho2, hg2⟩; obtain ⟨q9, c9, rfl⟩ := own_shape_ ho2; have HO2 := hide ho2; clear ho2; have HG2 : Hid (Gr V w2) := hide (Gr.trans (Gr.drew (Gr.alloc (Gr.refl V) _)) hg2); clear hg2; have HRR := hide (KR.out w2 HG2.out); have r0 := heap_cell_ (o := 0) HRR.out; have f0 := heap_frozen_ (o := 0) HRR.out; have r1 := heap_cell_ (o := 1) HRR.out; have f1 := heap_frozen_ (o := 1) HRR.out; have r2 := heap_cell_ (o := 2) HRR.out; have f2 := heap_frozen_ (o := 2) HRR.out; have r3 := heap_cell_ (o := 3) HRR.out; have f3 := heap_frozen_ (o := 3) HRR.out; have r4 := heap_cell_ (o := 4) HRR.out; have f4 := heap_frozen_ (o := 4) HRR.out; have r5 := heap_cell_ (o := 5) HRR.out; have f5 := heap_frozen_ (o := 5) HRR.out; have r6 := heap_cell_ (o := 6) HRR.out; have f6 := heap_frozen_ (o := 6) HRR.out; have r7 := heap_cell_ (o := 7) HRR.out; have f7 := heap_frozen_ (o := 7) HRR.out; simp at r0 r1 r2 r3 r4 r5 r6 r7))
  all_goals go_wp2_with fail
  all_goals rw [put8_eq]
  all_goals
    have hbx := put8_box (y0 := .slice q1 n1 c1) (y1 := .slice q2 n2 c2) (y2 := .slice q3 n3 c3) (y3 := .slice q4 n4 c4) (y4 := .slice q5 n5 c5) (y5 := .slice q9 (f.params ++ f.locals).length c9) (y6 := .int .i64 (f.code.length : Int)) (y7 := .int .i64 f.result) HRR.out
    have p0 := (heap_cell_ (o := 0) hbx).trans (show _ = some (.slice q1 n1 c1) from rfl)
    have p1 := (heap_cell_ (o := 1) hbx).trans (show _ = some (.slice q2 n2 c2) from rfl)
    have p2 := (heap_cell_ (o := 2) hbx).trans (show _ = some (.slice q3 n3 c3) from rfl)
    have p3 := (heap_cell_ (o := 3) hbx).trans (show _ = some (.slice q4 n4 c4) from rfl)
    have p4 := (heap_cell_ (o := 4) hbx).trans (show _ = some (.slice q5 n5 c5) from rfl)
    have p5 := (heap_cell_ (o := 5) hbx).trans (show _ = some (.slice q9 (f.params ++ f.locals).length c9) from rfl)
    have p6 := (heap_cell_ (o := 6) hbx).trans (show _ = some (.int .i64 (f.code.length : Int)) from rfl)
    have p7 := (heap_cell_ (o := 7) hbx).trans (show _ = some (.int .i64 f.result) from rfl)
    have hsz := HSZ.out
    have hG : Gr w (put8 w2 (w.heap.size + 1 + 1) (.slice q1 n1 c1) (.slice q2 n2 c2) (.slice q3 n3 c3) (.slice q4 n4 c4) (.slice q5 n5 c5) (.slice q9 (f.params ++ f.locals).length c9) (.int .i64 (f.code.length : Int)) (.int .i64 f.result)) := put8_gr (HG.out.trans HG2.out) (by omega)
    have hRI : RIntsQ (fun b => w.heap.size ≤ b ∧ TyI (put8 w2 (w.heap.size + 1 + 1) (.slice q1 n1 c1) (.slice q2 n2 c2) (.slice q3 n3 c3) (.slice q4 n4 c4) (.slice q5 n5 c5) (.slice q9 (f.params ++ f.locals).length c9) (.int .i64 (f.code.length : Int)) (.int .i64 f.result)) b) (put8 w2 (w.heap.size + 1 + 1) (.slice q1 n1 c1) (.slice q2 n2 c2) (.slice q3 n3 c3) (.slice q4 n4 c4) (.slice q5 n5 c5) (.slice q9 (f.params ++ f.locals).length c9) (.int .i64 (f.code.length : Int)) (.int .i64 f.result)) (.slice q9 (f.params ++ f.locals).length c9) (f.params ++ f.locals) := (own_rints HO2.out).mono (fun b hb hl => by
      have hb' : V.heap.size + 1 ≤ b := by simpa using hb.1
      obtain ⟨arr, harr⟩ := hb.2
      exact ⟨put8_other (by omega), by omega, arr, (put8_other (by omega)).trans harr⟩)
    have HGF := hide hG
    have HRF := hide hRI
    clear hbx hG hRI
    simp only [List.length_append] at p0 p1 p2 p3 p4 p5 p6 p7 HGF HRF ⊢
    exact bodyPost_ret (v := .agg #[.slice q1 n1 c1, .slice q2 n2 c2, .slice q3 n3 c3, .slice q4 n4 c4, .slice q5 n5 c5, .slice q9 (f.params.length + f.locals.length) c9, .int .i64 (f.code.length : Int), .int .i64 f.result]) (by simp [results, Tryd.results110, go_sem, p0, p1, p2, p3, p4, p5, p6, p7]) rfl ⟨_, rfl, HGF.out, HRF.out⟩
end Go.Proofs.YtkgncijcnlfhiaaDoor

namespace Go.Proofs.YtkgncijcnlfhiaaDoor
set_option linter.unusedVariables false
set_option linter.unusedSimpArgs false
open Go.RowKit
theorem takeL {P : Program} {l : List Oper} {md : Region.Mode} {Q : Exit → Act → World → Prop} {S : World → Prop} {i : Nat} {oi : Oper} {v : Value} {fuel : Nat} {listed : Array Bool} {a : Act} {w : World} (hi : l[i]? = some oi)
    (hs : Region.noSelect l.toArray = true) (hf : Region.free md l.toArray listed i = true) (hr : (Region.ready md l.toArray listed).contains i = true)
    (hQ : ∀ c a w, Q (.panic c) (a.put oi.dst v) w → Q (.panic c) a w) (hw : Region.wanted oi (yielded l.toArray a.tmps) = true) (hy : ∀ w, S w → (execOp a.eval oi).run P w = .ok (.value v) w) (hS : S w)
    (h : wpAnyH P md l.toArray Q S fuel (listed.setIfInBounds i true) (a.put oi.dst v) w) : wpAnyH P md l.toArray Q S (fuel + 1) listed a w :=
  wpAnyH_take (by simpa using hi) hs hf hr hQ (.inl ⟨hw, hy⟩) hS h
theorem skipL {P : Program} {l : List Oper} {md : Region.Mode} {Q : Exit → Act → World → Prop} {S : World → Prop} {i : Nat} {oi : Oper} {fuel : Nat} {listed : Array Bool} {a : Act} {w : World} (hi : l[i]? = some oi)
    (hs : Region.noSelect l.toArray = true) (hf : Region.free md l.toArray listed i = true) (hr : (Region.ready md l.toArray listed).contains i = true)
    (hQ : ∀ c a w, Q (.panic c) (a.put oi.dst undef) w → Q (.panic c) a w) (hw : Region.wanted oi (yielded l.toArray a.tmps) = false) (hS : S w)
    (h : wpAnyH P md l.toArray Q S fuel (listed.setIfInBounds i true) (a.put oi.dst undef) w) : wpAnyH P md l.toArray Q S (fuel + 1) listed a w :=
  wpAnyH_take (by simpa using hi) hs hf hr hQ (.inr ⟨hw, rfl⟩) hS h
/-- one alone may come up -/
theorem aloneL {P : Program} {l : List Oper} {md : Region.Mode} {Q : Exit → Act → World → Prop} {S : World → Prop} {i : Nat} {o : Oper} {fuel : Nat} {listed : Array Bool} {a : Act} {w : World} (ho : l[i]? = some o) (hr : Region.ready md l.toArray listed = [i])
    (h : ∀ K' : Act → World → Prop, Shut (∀ a w, S w → (S w → wpAnyH P md l.toArray Q S fuel (listed.setIfInBounds i true) a w) → K' a w) → if Region.wanted o (yielded l.toArray a.tmps) = true then Oper.wp P o a w K' Q else K' (a.put o.dst undef) w) : wpAnyH P md l.toArray Q S (fuel + 1) listed a w :=
  wpAnyH_ready hr (by simp) (AllReadyH.cons (by simpa using ho) h AllReadyH.nil)
theorem want_yes {c : Bool} {A B : Prop} (hc : c = true) (h : A) : if c = true then A else B := by rw [if_pos hc]; exact h
/-- a call of a Go function: it comes back, or throws -/
theorem wp_calls {o : Oper} {a : Act} {K : Act → World → Prop} {Q : Exit → Act → World → Prop} {w : World} (f : FuncId) (args : Array Operand) (ats : Array TypeId)
    (ho : o.op = .call { callee := .value (.func f), args := args, argTypes := ats }) (vals : Array Value) (hv : args.map a.eval = vals) (hcf : (callFunc f vals).run Tryd.prog w = .ok (.enter f vals) w) (h : Calls Tryd.prog f vals w (fun x w' => (∃ v, x = .returned v ∧ K (a.put o.dst v) w') ∨ (∃ c, x = .panicked c ∧ Q (.panic c) a w'))) :
    Oper.wp Tryd.prog o a w K Q := by
  unfold Oper.wp
  have he : (execOp a.eval o).run Tryd.prog w = .ok (.enter f vals) w := by
    subst hv
    simp [execOp, ho, resolve, invoke, Act.eval, go_sem]
    exact hcf
  rw [he, Oper.upon_enter]
  refine h.mono ?_
  rintro x w' (⟨v, rfl, hk⟩ | ⟨v, rfl, hk⟩)
  · exact hk
  · exact hk
theorem step_calls_w {ops : Array Oper} {o : Oper} {a : Act} {K : Act → World → Prop} {Q : Exit → Act → World → Prop} {E : Prop} {w : World} (hw : Region.wanted o (yielded ops a.tmps) = true) (f : FuncId) (args : Array Operand) (ats : Array TypeId)
    (ho : o.op = .call { callee := .value (.func f), args := args, argTypes := ats }) (vals : Array Value) (hv : args.map a.eval = vals) (hcf : (callFunc f vals).run Tryd.prog w = .ok (.enter f vals) w) (h : Calls Tryd.prog f vals w (fun x w' => (∃ v, x = .returned v ∧ K (a.put o.dst v) w') ∨ (∃ c, x = .panicked c ∧ Q (.panic c) a w'))) :
    if Region.wanted o (yielded ops a.tmps) = true then Oper.wp Tryd.prog o a w K Q else E := by
  rw [if_pos hw]
  unfold Oper.wp
  have he : (execOp a.eval o).run Tryd.prog w = .ok (.enter f vals) w := by
    subst hv
    simp [execOp, ho, resolve, invoke, Act.eval, go_sem]
    exact hcf
  rw [he, Oper.upon_enter]
  refine h.mono ?_
  rintro x w' (⟨v, rfl, hk⟩ | ⟨v, rfl, hk⟩)
  · exact hk
  · exact hk
end Go.Proofs.YtkgncijcnlfhiaaDoor

