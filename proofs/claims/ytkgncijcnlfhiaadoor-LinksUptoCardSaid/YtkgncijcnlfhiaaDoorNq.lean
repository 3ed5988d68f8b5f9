import Derived.Test.YtkgncijcnlfhiaaDoorNp
import Derived.Test.YtkgncijcnlfhiaaDoorH1
namespace Go.Proofs.YtkgncijcnlfhiaaDoor
set_option linter.unusedVariables false
set_option linter.unusedSimpArgs false
open Go.RowKit
def WkR (l : List PUnit) (ob : Nat) (W : World) (x : Ending) (w' : World) : Prop :=
  (∃ u p0 p1 p2 p4 n0 n1 n2 n4 q0 q1 q2 q4 w1, linkP l = .inl u ∧ x = .returned (.tuple #[]) ∧ LnkV W.heap.size w1 (.agg #[.slice p0 n0 q0, .slice p1 n1 q1, .slice p2 n2 q2, .slice none 0 0, .slice p4 n4 q4]) u ∧ Gr W w1 ∧ w' = put5j w1 ob (.slice p0 n0 q0) (.slice p1 n1 q1) (.slice p2 n2 q2) (.slice none 0 0) (.slice p4 n4 q4)) ∨
  ∃ (e : Int) (k : Nat), linkP l = .inr (e, k) ∧ x = .panicked (thrown e (k : Int)) ∧ Gr W w'
set_option maxRecDepth 100000 in
set_option maxHeartbeats 1000000 in
theorem work_link (l : List PUnit) (vl : Value) (ub ob : Nat) (W : World) (hR : RUnits W vl l) (hu : W.cell? ⟨ub, 0, none⟩ = some vl) (ho : W.heap[ob]? = some (.cells #[.slice none 0 0, .slice none 0 0, .slice none 0 0, .slice none 0 0, .slice none 0 0] 28 (0, 0))) :
    Calls Tryd.prog 47 #[.pointer (some ⟨ub, 0, none⟩), .pointer (some ⟨ob, 0, none⟩)] W (WkR l ob W) := by
  obtain ⟨al, cl, rfl⟩ := hR.shape
  have HUN := hide (units_any W l _ hR)
  have HO := hide ho
  clear hR ho
  go_enter Tryd.func47, Tryd.ntmps47
  go_wp2_with fail
  refine HUN.out.mono ?_
  rintro x w1 ⟨hg, ⟨v, u, hl, rfl, hv⟩ | ⟨e, k, hl, rfl⟩⟩
  · obtain ⟨p0, p1, p2, p4, n0, n1, n2, n4, q0, q1, q2, q4, rfl⟩ := hv.slices
    have hob := (hg.block ob (Array.getElem?_eq_some_iff.1 HO.out).1 (by simp)).trans HO.out
    have c0 : w1.cell? ⟨ob, 0, none⟩ = some (.slice none 0 0) := by rw [hcell_ hob]; rfl
    have c1 : w1.cell? ⟨ob, 1, none⟩ = some (.slice none 0 0) := by rw [hcell_ hob]; rfl
    have c2 : w1.cell? ⟨ob, 2, none⟩ = some (.slice none 0 0) := by rw [hcell_ hob]; rfl
    have c3 : w1.cell? ⟨ob, 3, none⟩ = some (.slice none 0 0) := by rw [hcell_ hob]; rfl
    have c4 : w1.cell? ⟨ob, 4, none⟩ = some (.slice none 0 0) := by rw [hcell_ hob]; rfl
    have z0 : w1.frozen? ⟨ob, 0, none⟩ = false := hfrozen_ hob
    have z1 : w1.frozen? ⟨ob, 1, none⟩ = false := hfrozen_ hob
    have z2 : w1.frozen? ⟨ob, 2, none⟩ = false := hfrozen_ hob
    have z3 : w1.frozen? ⟨ob, 3, none⟩ = false := hfrozen_ hob
    have z4 : w1.frozen? ⟨ob, 4, none⟩ = false := hfrozen_ hob
    have HL := hide hl
    have HV := hide hv
    have HG := hide hg
    clear hl hv hg hob HUN
    go_wp2_with fail
    go_end0
    exact .inl ⟨u, p0, p1, p2, p4, n0, n1, n2, n4, q0, q1, q2, q4, w1, HL.out, rfl, HV.out, HG.out, rfl⟩
  · exact ⟨rfl, .inr ⟨e, k, hl, rfl, hg⟩⟩
/-- what the work leaves, whatever it was -/
def LkFin (W : World) (l : List PUnit) (e a : Int) (w1 : World) : Prop := ∃ p0 p1 p2 p3 p4 n0 n1 n2 n3 n4 q0 q1 q2 q3 q4, w1.heap[W.heap.size + 2]? = some (.cells #[.slice p0 n0 q0, .slice p1 n1 q1, .slice p2 n2 q2, .slice p3 n3 q3, .slice p4 n4 q4] 28 (0, 0)) ∧ w1.heap[W.heap.size + 1]? = some (.cells #[.slice none 0 0, .slice none 0 0, .slice none 0 0, .slice none 0 0, .slice none 0 0] 28 (0, 0)) ∧ Gr W w1 ∧ W.heap.size + 4 ≤ w1.heap.size ∧
  ((∃ u, linkP l = .inl u ∧ e = 0 ∧ a = 0 ∧ LnkV (W.heap.size + 4) w1 (.agg #[.slice p0 n0 q0, .slice p1 n1 q1, .slice p2 n2 q2, .slice p3 n3 q3, .slice p4 n4 q4]) u) ∨ ∃ k : Nat, linkP l = .inr (e, k) ∧ a = (k : Int) ∧ (.agg #[.slice p0 n0 q0, .slice p1 n1 q1, .slice p2 n2 q2, .slice p3 n3 q3, .slice p4 n4 q4] : Value) = .agg #[.slice none 0 0, .slice none 0 0, .slice none 0 0, .slice none 0 0, .slice none 0 0])
def LinkR (W : World) (l : List PUnit) (x : Ending) (w' : World) : Prop := Gr W w' ∧ ((∃ v u, linkP l = .inl u ∧ x = .returned (.tuple #[v, .int .i64 0, .int .i64 0]) ∧ LnkV W.heap.size w' v u) ∨ ∃ (e : Int) (k : Nat), linkP l = .inr (e, k) ∧ x = .returned (.tuple #[.agg #[.slice none 0 0, .slice none 0 0, .slice none 0 0, .slice none 0 0, .slice none 0 0], .int .i64 e, .int .i64 (k : Int)]))
theorem LnkV.less {C C' : Nat} {w : World} {v : Value} {u : PUnit} (h : LnkV C w v u) (hc : C' ≤ C) : LnkV C' w v u := by
  obtain ⟨v1, v2, v3, v5, es1, cs, es3, es5, ρ, B, e1, hb, r⟩ := h
  exact ⟨v1, v2, v3, v5, es1, cs, es3, es5, ρ, B, e1, Nat.le_trans hc hb, r⟩
theorem put5j_box3 {w : World} {b g : Nat} {x0 x1 x2 y0 y1 y2 y3 y4 : Value} (h : Box3 w g x0 x1 x2) (hg : ¬ g = b) : Box3 (put5j w b y0 y1 y2 y3 y4) g x0 x1 x2 := by
  obtain ⟨h0, h1, h2, z0, z1, z2⟩ := h
  have e := put5j_other (w := w) (b := b) (y0 := y0) (y1 := y1) (y2 := y2) (y3 := y3) (y4 := y4) hg
  exact ⟨(World.cell?_of_block (a := ⟨g, 0, none⟩) e).trans h0, (World.cell?_of_block (a := ⟨g, 1, none⟩) e).trans h1, (World.cell?_of_block (a := ⟨g, 2, none⟩) e).trans h2, (World.frozen?_of_block (a := ⟨g, 0, none⟩) e).trans z0, (World.frozen?_of_block (a := ⟨g, 1, none⟩) e).trans z1, (World.frozen?_of_block (a := ⟨g, 2, none⟩) e).trans z2⟩
theorem Tryd.infUn : (Tryd.prog.info? 28).map (·.size) = some 5 := by kernel_rfl

set_option maxRecDepth 100000 in
set_option maxHeartbeats 2000000 in
theorem link_any (W : World) (l : List PUnit) (vl : Value) (hR : RUnits W vl l) : Calls Tryd.prog 24 #[vl] W (LinkR W l) := by
  have hmf : ∀ (fn : Fn) (first cap : Array Value) (w : World), (Instr.makeFunc fn first cap).run Tryd.prog w = .ok (.func fn first cap) w := fun _ _ _ _ => rfl
  obtain ⟨al, cl, rfl⟩ := hR.shape
  have hb0 := heap_alloc_new W (.cells #[.slice al l.length cl] 45)
  have hb1 := heap_alloc_new (W.alloc (.cells #[.slice al l.length cl] 45)) (.cells #[.slice none 0 0, .slice none 0 0, .slice none 0 0, .slice none 0 0, .slice none 0 0] 28)
  have hb2 := heap_alloc_new ((W.alloc (.cells #[.slice al l.length cl] 45)).alloc (.cells #[.slice none 0 0, .slice none 0 0, .slice none 0 0, .slice none 0 0, .slice none 0 0] 28)) (.cells #[.slice none 0 0, .slice none 0 0, .slice none 0 0, .slice none 0 0, .slice none 0 0] 28)
  have s1 : (W.alloc (.cells #[.slice al l.length cl] 45)).heap.size = W.heap.size + 1 := by simp
  have s2 : ((W.alloc (.cells #[.slice al l.length cl] 45)).alloc (.cells #[.slice none 0 0, .slice none 0 0, .slice none 0 0, .slice none 0 0, .slice none 0 0] 28)).heap.size = W.heap.size + 2 := by simp
  have s3 : (((W.alloc (.cells #[.slice al l.length cl] 45)).alloc (.cells #[.slice none 0 0, .slice none 0 0, .slice none 0 0, .slice none 0 0, .slice none 0 0] 28)).alloc (.cells #[.slice none 0 0, .slice none 0 0, .slice none 0 0, .slice none 0 0, .slice none 0 0] 28)).heap.size = W.heap.size + 3 := by simp
  rw [s1] at hb1
  rw [s2] at hb2
  have gV : Gr W (((W.alloc (.cells #[.slice al l.length cl] 45)).alloc (.cells #[.slice none 0 0, .slice none 0 0, .slice none 0 0, .slice none 0 0, .slice none 0 0] 28)).alloc (.cells #[.slice none 0 0, .slice none 0 0, .slice none 0 0, .slice none 0 0, .slice none 0 0] 28)) := (((Gr.refl W).alloc _).alloc _).alloc _
  have g2 : Gr ((W.alloc (.cells #[.slice al l.length cl] 45)).alloc (.cells #[.slice none 0 0, .slice none 0 0, .slice none 0 0, .slice none 0 0, .slice none 0 0] 28)) (((W.alloc (.cells #[.slice al l.length cl] 45)).alloc (.cells #[.slice none 0 0, .slice none 0 0, .slice none 0 0, .slice none 0 0, .slice none 0 0] 28)).alloc (.cells #[.slice none 0 0, .slice none 0 0, .slice none 0 0, .slice none 0 0, .slice none 0 0] 28)) := (Gr.refl _).alloc _
  have g1 : Gr (W.alloc (.cells #[.slice al l.length cl] 45)) (((W.alloc (.cells #[.slice al l.length cl] 45)).alloc (.cells #[.slice none 0 0, .slice none 0 0, .slice none 0 0, .slice none 0 0, .slice none 0 0] 28)).alloc (.cells #[.slice none 0 0, .slice none 0 0, .slice none 0 0, .slice none 0 0, .slice none 0 0] 28)) := ((Gr.refl _).alloc _).alloc _
  have k0 : (((W.alloc (.cells #[.slice al l.length cl] 45)).alloc (.cells #[.slice none 0 0, .slice none 0 0, .slice none 0 0, .slice none 0 0, .slice none 0 0] 28)).alloc (.cells #[.slice none 0 0, .slice none 0 0, .slice none 0 0, .slice none 0 0, .slice none 0 0] 28)).cell? ⟨W.heap.size, 0, none⟩ = some (.slice al l.length cl) := g1.cell (by rw [hcell_ hb0]; rfl) (by simp)
  have k1 := (g2.block (W.heap.size + 1) (by rw [s2]; omega) (by simp)).trans hb1
  have HV := hide (And.intro gV (And.intro s3 (And.intro k0 (And.intro k1 hb2))))
  have HR := hide hR
  clear hb0 hb1 hb2 s1 s2 s3 gV g2 g1 k0 k1 hR
  go_enter Tryd.func24, Tryd.ntmps24
  go_wp2_with fail
  generalize (((W.alloc (.cells #[.slice al l.length cl] 45)).alloc (.cells #[.slice none 0 0, .slice none 0 0, .slice none 0 0, .slice none 0 0, .slice none 0 0] 28)).alloc (.cells #[.slice none 0 0, .slice none 0 0, .slice none 0 0, .slice none 0 0, .slice none 0 0] 28)) = V at HV ⊢
  obtain ⟨gV, hsV, k0, k1, k2⟩ := HV.out
  clear HV
  have hwb : Box3 (V.alloc (.cells #[.int .i64 0, .int .i64 0, .int .i64 0] 83)) V.heap.size (.int .i64 0) (.int .i64 0) (.int .i64 0) := Box3.new V 83 (.int .i64 0) (.int .i64 0) (.int .i64 0)
  have hgr := Gr.alloc (Gr.refl V) (.cells #[.int .i64 0, .int .i64 0, .int .i64 0] 83)
  have hgs : (V.alloc (.cells #[.int .i64 0, .int .i64 0, .int .i64 0] 83)).heap.size = V.heap.size + 1 := by simp
  refine (refusal_any 47 #[.pointer (some ⟨W.heap.size, 0, none⟩), .pointer (some ⟨W.heap.size + 2, 0, none⟩)] V (fun w1 => LkFin W l 0 0 w1) (fun e n a w1 => n = 0 ∧ LkFin W l e a w1) (fun w => rfl)
    ((work_link l _ W.heap.size (W.heap.size + 2) _ (HR.out.gr (gV.trans hgr)) (hgr.cell k0 (by simp)) ((hgr.block _ (by omega) (by simp)).trans k2)).mono ?_)).mono ?_
  · intro x w' h
    rcases h with ⟨u, p0, p1, p2, p4, n0, n1, n2, n4, q0, q1, q2, q4, w1, hl, rfl, hv, hg, rfl⟩ | ⟨e, k, hl, rfl, hg⟩
    · have hsz : (put5j w1 (W.heap.size + 2) (.slice p0 n0 q0) (.slice p1 n1 q1) (.slice p2 n2 q2) (.slice none 0 0) (.slice p4 n4 q4)).heap.size = w1.heap.size := by unfold put5j; simp
      have hs4 : W.heap.size + 4 ≤ w1.heap.size := by have := hg.size; omega
      have gW := gV.trans (hgr.trans hg)
      refine ⟨put5j_box3 (hwb.gr hg) (by omega), .inl ⟨rfl, p0, p1, p2, none, p4, n0, n1, n2, 0, n4, q0, q1, q2, 0, q4, ?_, ?_, ?_, by rw [hsz]; exact hs4, .inl ⟨u, hl, rfl, rfl, ?_⟩⟩⟩
      · exact put5j_same ((hg.block _ (by omega) (by simp)).trans ((hgr.block _ (by omega) (by simp)).trans k2))
      · exact (put5j_other (by omega)).trans ((hg.block _ (by omega) (by simp)).trans ((hgr.block _ (by omega) (by simp)).trans k1))
      · exact ⟨gW.os, gW.tape, gW.output, by rw [hsz]; exact gW.size, fun i hi hne => (put5j_other (by omega)).trans (gW.block i hi hne)⟩
      · rw [hgs, hsV] at hv
        exact hv.mv (by omega) (fun k hk _ => put5j_other (by omega))
    · have hs4 : W.heap.size + 4 ≤ w'.heap.size := by have := hg.size; omega
      exact ⟨hwb.gr hg, .inr ⟨e, 0, (k : Int), rfl, rfl, none, none, none, none, none, 0, 0, 0, 0, 0, 0, 0, 0, 0, 0, (hg.block _ (by omega) (by simp)).trans ((hgr.block _ (by omega) (by simp)).trans k2), (hg.block _ (by omega) (by simp)).trans ((hgr.block _ (by omega) (by simp)).trans k1), gV.trans (hgr.trans hg), hs4, .inr ⟨k, hl, rfl, rfl⟩⟩⟩
  · rintro x w2 ⟨w1, hgc, _, hx⟩
    have hy : ∃ e n a : Int, x = .returned (.agg #[.int .i64 e, .int .i64 n, .int .i64 a]) ∧ LkFin W l e a w1 := by
      rcases hx with ⟨rfl, h⟩ | ⟨e, n, a, rfl, -, h⟩
      · exact ⟨0, 0, 0, rfl, h⟩
      · exact ⟨e, n, a, rfl, h⟩
    obtain ⟨e, n, a, rfl, p0, p1, p2, p3, p4, n0, n1, n2, n3, n4, q0, q1, q2, q3, q4, hone, hres, hgW, hs4, hfin⟩ := hy
    have hgc2 : ∀ k, k < w1.heap.size → ¬ k = W.heap.size + 3 → w2.heap[k]? = w1.heap[k]? := fun k hk hn => hgc.block k hk (by simp; omega)
    have hone2 := (hgc2 _ (by omega) (by omega)).trans hone
    have hres2 := (hgc2 _ (by omega) (by omega)).trans hres
    have hgW2 : Gr W w2 := ⟨hgc.os.trans hgW.os, hgc.tape.trans hgW.tape, hgc.output.trans hgW.output, Nat.le_trans hgW.size hgc.size, fun i hi hne => (hgc2 i (by have := hgW.size; omega) (by omega)).trans (hgW.block i hi hne)⟩
    have hfin2 : (∃ u, linkP l = .inl u ∧ e = 0 ∧ a = 0 ∧ LnkV (W.heap.size + 4) w2 (.agg #[.slice p0 n0 q0, .slice p1 n1 q1, .slice p2 n2 q2, .slice p3 n3 q3, .slice p4 n4 q4]) u) ∨ ∃ k : Nat, linkP l = .inr (e, k) ∧ a = (k : Int) ∧ (.agg #[.slice p0 n0 q0, .slice p1 n1 q1, .slice p2 n2 q2, .slice p3 n3 q3, .slice p4 n4 q4] : Value) = .agg #[.slice none 0 0, .slice none 0 0, .slice none 0 0, .slice none 0 0, .slice none 0 0] := by
      rcases hfin with ⟨u, h1, h2, h3, h4⟩ | h
      · exact .inl ⟨u, h1, h2, h3, h4.mv hgc.size (fun k hk hl => hgc2 k hl (by omega))⟩
      · exact .inr h
    have hs42 : W.heap.size + 4 ≤ w2.heap.size := Nat.le_trans hs4 hgc.size
    have hb3 := heap_alloc_new w2 (.cells #[.int .i64 e, .int .i64 n, .int .i64 a] 83)
    have g3 := (Gr.refl w2).alloc (.cells #[.int .i64 e, .int .i64 n, .int .i64 a] 83)
    have KH : Hid (∀ w', Gr (w2.alloc (.cells #[.int .i64 e, .int .i64 n, .int .i64 a] 83)) w' → w'.heap[W.heap.size + 2]? = some (.cells #[.slice p0 n0 q0, .slice p1 n1 q1, .slice p2 n2 q2, .slice p3 n3 q3, .slice p4 n4 q4] 28 (0, 0)) ∧ w'.heap[W.heap.size + 1]? = some (.cells #[.slice none 0 0, .slice none 0 0, .slice none 0 0, .slice none 0 0, .slice none 0 0] 28 (0, 0)) ∧ w'.heap[w2.heap.size]? = some (.cells #[.int .i64 e, .int .i64 n, .int .i64 a] 83 (0, 0))) := hide (fun w' g =>
      ⟨((g3.trans g).block _ (by omega) (by simp)).trans hone2, ((g3.trans g).block _ (by omega) (by simp)).trans hres2, (g.block _ (by simp) (by simp)).trans hb3⟩)
    have KS : Hid (∀ w', Gr (w2.alloc (.cells #[.int .i64 e, .int .i64 n, .int .i64 a] 83)) w' → w'.cell? ⟨W.heap.size + 2, 0, none⟩ = some (.slice p0 n0 q0) ∧ w'.cell? ⟨W.heap.size + 2, 1, none⟩ = some (.slice p1 n1 q1) ∧ w'.cell? ⟨W.heap.size + 2, 2, none⟩ = some (.slice p2 n2 q2) ∧ w'.cell? ⟨W.heap.size + 2, 3, none⟩ = some (.slice p3 n3 q3) ∧ w'.cell? ⟨W.heap.size + 2, 4, none⟩ = some (.slice p4 n4 q4) ∧ w'.cell? ⟨w2.heap.size, 0, none⟩ = some (.int .i64 e) ∧ w'.cell? ⟨w2.heap.size, 2, none⟩ = some (.int .i64 a)) := hide (fun w' g => by
      obtain ⟨d1, _, d3⟩ := KH.out w' g
      refine ⟨?_, ?_, ?_, ?_, ?_, ?_, ?_⟩ <;> first | (rw [hcell_ d1]; rfl) | (rw [hcell_ d3]; rfl))
    have KSR : Hid (∀ w', Gr (w2.alloc (.cells #[.int .i64 e, .int .i64 n, .int .i64 a] 83)) w' → (w'.setRow (W.heap.size + 1) #[.slice p0 n0 q0, .slice p1 n1 q1, .slice p2 n2 q2, .slice p3 n3 q3, .slice p4 n4 q4]).cell? ⟨W.heap.size + 2, 0, none⟩ = some (.slice p0 n0 q0) ∧ (w'.setRow (W.heap.size + 1) #[.slice p0 n0 q0, .slice p1 n1 q1, .slice p2 n2 q2, .slice p3 n3 q3, .slice p4 n4 q4]).cell? ⟨W.heap.size + 2, 1, none⟩ = some (.slice p1 n1 q1) ∧ (w'.setRow (W.heap.size + 1) #[.slice p0 n0 q0, .slice p1 n1 q1, .slice p2 n2 q2, .slice p3 n3 q3, .slice p4 n4 q4]).cell? ⟨W.heap.size + 2, 2, none⟩ = some (.slice p2 n2 q2) ∧ (w'.setRow (W.heap.size + 1) #[.slice p0 n0 q0, .slice p1 n1 q1, .slice p2 n2 q2, .slice p3 n3 q3, .slice p4 n4 q4]).cell? ⟨W.heap.size + 2, 3, none⟩ = some (.slice p3 n3 q3) ∧ (w'.setRow (W.heap.size + 1) #[.slice p0 n0 q0, .slice p1 n1 q1, .slice p2 n2 q2, .slice p3 n3 q3, .slice p4 n4 q4]).cell? ⟨W.heap.size + 2, 4, none⟩ = some (.slice p4 n4 q4) ∧ (w'.setRow (W.heap.size + 1) #[.slice p0 n0 q0, .slice p1 n1 q1, .slice p2 n2 q2, .slice p3 n3 q3, .slice p4 n4 q4]).cell? ⟨w2.heap.size, 0, none⟩ = some (.int .i64 e) ∧ (w'.setRow (W.heap.size + 1) #[.slice p0 n0 q0, .slice p1 n1 q1, .slice p2 n2 q2, .slice p3 n3 q3, .slice p4 n4 q4]).cell? ⟨w2.heap.size, 2, none⟩ = some (.int .i64 a)) := hide (fun w' g => by
      obtain ⟨d1, _, d3⟩ := KH.out w' g
      have e1 : (w'.setRow (W.heap.size + 1) #[.slice p0 n0 q0, .slice p1 n1 q1, .slice p2 n2 q2, .slice p3 n3 q3, .slice p4 n4 q4]).heap[W.heap.size + 2]? = _ := (setRow_other _ _ _ _ (by omega)).trans d1
      have e3 : (w'.setRow (W.heap.size + 1) #[.slice p0 n0 q0, .slice p1 n1 q1, .slice p2 n2 q2, .slice p3 n3 q3, .slice p4 n4 q4]).heap[w2.heap.size]? = _ := (setRow_other _ _ _ _ (by omega)).trans d3
      refine ⟨?_, ?_, ?_, ?_, ?_, ?_, ?_⟩ <;> first | (rw [hcell_ e1]; rfl) | (rw [hcell_ e3]; rfl))
    have HG2 := hide (hgW2.trans g3)
    have HFN := hide hfin2
    have HG3 := hide g3
    clear hx hone hres hgW hs4 hfin hgc2 hone2 hres2 hgW2 hfin2 hb3 g3 hgc hwb hgr hgs k0 k1 k2 gV hmf
    go_upto_region 3 with fail
    generalize w2.alloc (.cells #[.int .i64 e, .int .i64 n, .int .i64 a] 83) = W4 at KH KS KSR HG2 HG3 ⊢
    refine wp_region_held_drew (S := (fun w' => w'.cell? ⟨W.heap.size + 2, 0, none⟩ = some (.slice p0 n0 q0) ∧ w'.cell? ⟨W.heap.size + 2, 1, none⟩ = some (.slice p1 n1 q1) ∧ w'.cell? ⟨W.heap.size + 2, 2, none⟩ = some (.slice p2 n2 q2) ∧ w'.cell? ⟨W.heap.size + 2, 3, none⟩ = some (.slice p3 n3 q3) ∧ w'.cell? ⟨W.heap.size + 2, 4, none⟩ = some (.slice p4 n4 q4) ∧ w'.cell? ⟨w2.heap.size, 0, none⟩ = some (.int .i64 e) ∧ w'.cell? ⟨w2.heap.size, 2, none⟩ = some (.int .i64 a))) (by kernel_rfl) (KS.out _ (Gr.drew (Gr.refl _))) (fun hHeld => ?_)
    refine takeL (i := 0) (v := ?av0) rfl (by kernel_rfl) (by kernel_rfl) (by kernel_rfl) (by intro c a w h; exact h) (by rfl) ?ahy0 hHeld ?arest0
    case ahy0 => (intro w hSw; (try dsimp only at hSw); go_simp <;> with_reducible rfl)
    simp only [Act.put, List.setIfInBounds_toArray, List.set_cons_zero, List.set_cons_succ]
    refine takeL (i := 1) (v := ?av1) rfl (by kernel_rfl) (by kernel_rfl) (by kernel_rfl) (by intro c a w h; exact h) (by rfl) ?ahy1 hHeld ?arest1
    case ahy1 => (intro w hSw; (try dsimp only at hSw); go_simp <;> with_reducible rfl)
    simp only [Act.put, List.setIfInBounds_toArray, List.set_cons_zero, List.set_cons_succ]
    refine takeL (i := 2) (v := ?av2) rfl (by kernel_rfl) (by kernel_rfl) (by kernel_rfl) (by intro c a w h; exact h) (by rfl) ?ahy2 hHeld ?arest2
    case ahy2 => (intro w hSw; (try dsimp only at hSw); go_simp <;> with_reducible rfl)
    simp only [Act.put, List.setIfInBounds_toArray, List.set_cons_zero, List.set_cons_succ]
    refine takeL (i := 3) (v := ?av3) rfl (by kernel_rfl) (by kernel_rfl) (by kernel_rfl) (by intro c a w h; exact h) (by rfl) ?ahy3 hHeld ?arest3
    case ahy3 => (intro w hSw; (try dsimp only at hSw); go_simp <;> with_reducible rfl)
    simp only [Act.put, List.setIfInBounds_toArray, List.set_cons_zero, List.set_cons_succ]
    refine takeL (i := 4) (v := ?av4) rfl (by kernel_rfl) (by kernel_rfl) (by kernel_rfl) (by intro c a w h; exact h) (by rfl) ?ahy4 hHeld ?arest4
    case ahy4 => (intro w hSw; (try dsimp only at hSw); go_simp <;> with_reducible rfl)
    simp only [Act.put, List.setIfInBounds_toArray, List.set_cons_zero, List.set_cons_succ]
    refine aloneL (i := 5) rfl (by kernel_rfl) (fun K hK => ?_)
    refine want_yes (by rfl) (wp_store_row (P := Tryd.prog) 28 _ _ rfl (W.heap.size + 1) #[.slice p0 n0 q0, .slice p1 n1 q1, .slice p2 n2 q2, .slice p3 n3 q3, .slice p4 n4 q4] (by rfl) (by simp [Act.eval]) 28 _ (KH.out W4.drew (Gr.drew (Gr.refl _))).2.1 Tryd.infUn rfl (by simp [Value.oneCell']) ?_)
    refine hK.out _ _ (KSR.out _ (Gr.drew (Gr.refl _))) (fun hHeld => ?_)
    clear hK
    try simp only [Act.put, List.setIfInBounds_toArray, List.set_cons_zero, List.set_cons_succ]
    refine takeL (i := 6) (v := ?bv6) rfl (by kernel_rfl) (by kernel_rfl) (by kernel_rfl) (by intro c a w h; exact h) (by rfl) ?bhy6 hHeld ?brest6
    case bhy6 => (intro w hSw; (try dsimp only at hSw); go_simp <;> with_reducible rfl)
    simp only [Act.put, List.setIfInBounds_toArray, List.set_cons_zero, List.set_cons_succ]
    refine takeL (i := 7) (v := ?bv7) rfl (by kernel_rfl) (by kernel_rfl) (by kernel_rfl) (by intro c a w h; exact h) (by rfl) ?bhy7 hHeld ?brest7
    case bhy7 => (intro w hSw; (try dsimp only at hSw); go_simp <;> with_reducible rfl)
    simp only [Act.put, List.setIfInBounds_toArray, List.set_cons_zero, List.set_cons_succ]
    refine wpAnyH_done (by kernel_rfl) ?_ _
    clear hHeld KS KSR
    have hbr := setRow_heap W4.drew (W.heap.size + 1) _ #[.slice p0 n0 q0, .slice p1 n1 q1, .slice p2 n2 q2, .slice p3 n3 q3, .slice p4 n4 q4] _ _ (KH.out W4.drew (Gr.drew (Gr.refl _))).2.1
    have t0 : (W4.drew.setRow (W.heap.size + 1) #[.slice p0 n0 q0, .slice p1 n1 q1, .slice p2 n2 q2, .slice p3 n3 q3, .slice p4 n4 q4]).cell? ⟨W.heap.size + 1, 0, none⟩ = some (.slice p0 n0 q0) := by rw [hcell_ hbr]; rfl
    have t1 : (W4.drew.setRow (W.heap.size + 1) #[.slice p0 n0 q0, .slice p1 n1 q1, .slice p2 n2 q2, .slice p3 n3 q3, .slice p4 n4 q4]).cell? ⟨W.heap.size + 1, 1, none⟩ = some (.slice p1 n1 q1) := by rw [hcell_ hbr]; rfl
    have t2 : (W4.drew.setRow (W.heap.size + 1) #[.slice p0 n0 q0, .slice p1 n1 q1, .slice p2 n2 q2, .slice p3 n3 q3, .slice p4 n4 q4]).cell? ⟨W.heap.size + 1, 2, none⟩ = some (.slice p2 n2 q2) := by rw [hcell_ hbr]; rfl
    have t3 : (W4.drew.setRow (W.heap.size + 1) #[.slice p0 n0 q0, .slice p1 n1 q1, .slice p2 n2 q2, .slice p3 n3 q3, .slice p4 n4 q4]).cell? ⟨W.heap.size + 1, 3, none⟩ = some (.slice p3 n3 q3) := by rw [hcell_ hbr]; rfl
    have t4 : (W4.drew.setRow (W.heap.size + 1) #[.slice p0 n0 q0, .slice p1 n1 q1, .slice p2 n2 q2, .slice p3 n3 q3, .slice p4 n4 q4]).cell? ⟨W.heap.size + 1, 4, none⟩ = some (.slice p4 n4 q4) := by rw [hcell_ hbr]; rfl
    clear hbr
    go_wp2_with fail
    refine bodyPost_ret (v := .tuple #[.agg #[.slice p0 n0 q0, .slice p1 n1 q1, .slice p2 n2 q2, .slice p3 n3 q3, .slice p4 n4 q4], .int .i64 e, .int .i64 a]) (by simp [results, Tryd.results24, go_sem, t0, t1, t2, t3, t4]) rfl ?_
    have hgE : Gr W (W4.drew.setRow (W.heap.size + 1) #[.slice p0 n0 q0, .slice p1 n1 q1, .slice p2 n2 q2, .slice p3 n3 q3, .slice p4 n4 q4]) := gr_row_ HG2.out.drew (by omega)
    refine ⟨hgE, ?_⟩
    rcases HFN.out with ⟨u, h1, rfl, rfl, h4⟩ | ⟨k, h1, rfl, h3⟩
    · refine .inl ⟨_, u, h1, rfl, LnkV.less ((h4.mv HG3.out.size (fun k hk hl => HG3.out.block k hl (by simp))).mv (w' := W4.drew.setRow (W.heap.size + 1) #[.slice p0 n0 q0, .slice p1 n1 q1, .slice p2 n2 q2, .slice p3 n3 q3, .slice p4 n4 q4]) (by simp) (fun k hk hl => ?_)) (by omega)⟩
      exact setRow_other _ _ _ _ (by omega)
    · exact .inr ⟨e, k, h1, by rw [h3]⟩
end Go.Proofs.YtkgncijcnlfhiaaDoor

