import Derived.Test.YtncihcnpnfhdaaaR3
namespace Go.Proofs.Ytncihcnpnfhdaaa
set_option linter.unusedVariables false
set_option linter.unusedSimpArgs false
open Go.RowKit

def DecR (w : World) : PUnit ⊕ (Int × Nat) → Ending → World → Prop
  | .inl u, x, w' => ∃ v B, x = .returned (.tuple #[v, .int .i64 0, .int .i64 0]) ∧ w.heap.size ≤ B ∧ RUnitF B w' v u ∧ Gr w w'
  | .inr (e, p), x, w' => x = .returned (.tuple #[.agg #[.slice none 0 0, .slice none 0 0, .slice none 0 0, .slice none 0 0, .slice none 0 0], .int .i64 e, .int .i64 p]) ∧ Gr w w'

theorem dec_boxes (w : World) :
    Box5 (((w.alloc (.cells #[.slice none 0 0, .slice none 0 0, .slice none 0 0, .slice none 0 0, .slice none 0 0] 28)).alloc (.cells #[.int .i64 0] 30)).alloc (.cells #[.int .i64 0] 3)) w.heap.size (.slice none 0 0) (.slice none 0 0) (.slice none 0 0) (.slice none 0 0) (.slice none 0 0) ∧
    (((w.alloc (.cells #[.slice none 0 0, .slice none 0 0, .slice none 0 0, .slice none 0 0, .slice none 0 0] 28)).alloc (.cells #[.int .i64 0] 30)).alloc (.cells #[.int .i64 0] 3)).cell? ⟨w.heap.size + 1, 0, none⟩ = some (.int .i64 0) ∧
    (((w.alloc (.cells #[.slice none 0 0, .slice none 0 0, .slice none 0 0, .slice none 0 0, .slice none 0 0] 28)).alloc (.cells #[.int .i64 0] 30)).alloc (.cells #[.int .i64 0] 3)).cell? ⟨w.heap.size + 1 + 1, 0, none⟩ = some (.int .i64 0) ∧
    (((w.alloc (.cells #[.slice none 0 0, .slice none 0 0, .slice none 0 0, .slice none 0 0, .slice none 0 0] 28)).alloc (.cells #[.int .i64 0] 30)).alloc (.cells #[.int .i64 0] 3)).frozen? ⟨w.heap.size + 1, 0, none⟩ = false ∧
    (((w.alloc (.cells #[.slice none 0 0, .slice none 0 0, .slice none 0 0, .slice none 0 0, .slice none 0 0] 28)).alloc (.cells #[.int .i64 0] 30)).alloc (.cells #[.int .i64 0] 3)).frozen? ⟨w.heap.size + 1 + 1, 0, none⟩ = false ∧
    Gr w (((w.alloc (.cells #[.slice none 0 0, .slice none 0 0, .slice none 0 0, .slice none 0 0, .slice none 0 0] 28)).alloc (.cells #[.int .i64 0] 30)).alloc (.cells #[.int .i64 0] 3)) ∧
    w.heap.size + 3 ≤ (((w.alloc (.cells #[.slice none 0 0, .slice none 0 0, .slice none 0 0, .slice none 0 0, .slice none 0 0] 28)).alloc (.cells #[.int .i64 0] 30)).alloc (.cells #[.int .i64 0] 3)).heap.size := by
  refine ⟨⟨?_, ?_, ?_, ?_, ?_, ?_, ?_, ?_, ?_, ?_⟩, ?_, ?_, ?_, ?_, (((Gr.refl _).alloc _).alloc _).alloc _, by simp⟩ <;> simp [go_sem]

set_option maxRecDepth 100000 in
set_option maxHeartbeats 4000000 in
theorem answer_dec (s : ByteArray) (tb : Nat) (w : World) (ht : w.cell? ⟨tb, 0, none⟩ = some (.string s)) (hs : s.size ≤ maxLen) :
    Calls Try.prog 14 #[.func (.func 15) #[] #[.pointer (some ⟨tb, 0, none⟩)]] w (DecR w (dec s.data.toList)) := by
  have hmf : ∀ (fn : Fn) (first cap : Array Value) (w : World), (Instr.makeFunc fn first cap).run Try.prog w = .ok (.func fn first cap) w := fun _ _ _ _ => rfl
  obtain ⟨hb, hq, hr, hzq, hzr, hg, hsz⟩ := dec_boxes w
  have HB := hide hb
  have HQ := hide hq
  have HR := hide hr
  have HZQ := hide hzq
  have HZR := hide hzr
  have HG := hide hg
  have HSZ := hide hsz
  have HT := hide (hg.cell ht (by simp))
  clear hb hq hr hzq hzr hg hsz
  generalize hD : dec s.data.toList = D
  go_enter_defers Try.func14, Try.ntmps14
  go_wp2_with fail
  refine (work_dec s tb _ HT.out hs).mono ?_
  rw [hD]
  clear hD
  generalize (((w.alloc (.cells #[.slice none 0 0, .slice none 0 0, .slice none 0 0, .slice none 0 0, .slice none 0 0] 28)).alloc (.cells #[.int .i64 0] 30)).alloc (.cells #[.int .i64 0] 3)) = W3 at HB HQ HR HZQ HZR HG HSZ HT ⊢
  intro x w1 h
  cases D with
  | inl u =>
    obtain ⟨v, B, rfl, hB, hu, hg1⟩ := h
    have hsB := HSZ.out
    obtain ⟨v1, v2, v3, v4, v5, rfl, k1, k2, k3, k4, k5⟩ := hu
    obtain ⟨a1, c1, rfl⟩ := k1.shape
    obtain ⟨a2, c2, rfl⟩ := k2.shape
    obtain ⟨a3, c3, rfl⟩ := k3.shape
    obtain ⟨a4, c4, rfl⟩ := k4.shape
    obtain ⟨a5, c5, rfl⟩ := k5.shape
    have HU : Hid (RUnitF B w1 (.agg #[.slice a1 u.shapes.length c1, .slice a2 u.consts.length c2, .slice a3 u.funcs.length c3, .slice a4 u.imports.length c4, .slice a5 u.exports.length c5]) u) := hide ⟨_, _, _, _, _, rfl, k1, k2, k3, k4, k5⟩
    have hb := HB.out.gr hg1
    have hbx := put5_box (.slice a1 u.shapes.length c1) (.slice a2 u.consts.length c2) (.slice a3 u.funcs.length c3) (.slice a4 u.imports.length c4) (.slice a5 u.exports.length c5) hb
    have hby := put5_box (.slice a1 u.shapes.length c1) (.slice a2 u.consts.length c2) (.slice a3 u.funcs.length c3) (.slice a4 u.imports.length c4) (.slice a5 u.exports.length c5) hbx
    have q1 := hg1.cell HQ.out (by simp)
    have r1 := hg1.cell HR.out (by simp)
    have zq1 := gr_frozen hg1 HQ.out HZQ.out
    have zr1 := gr_frozen hg1 HR.out HZR.out
    have HGx := hide (HG.out.trans hg1)
    have hBB : w.heap.size + 3 ≤ B := Nat.le_trans hsB hB
    clear k1 k2 k3 k4 k5 hg1 HB HQ HR HZQ HZR HSZ HT hsB hB ht
    have HG2 := hide (put5_gr (b := w.heap.size) (y0 := .slice a1 u.shapes.length c1) (y1 := .slice a2 u.consts.length c2) (y2 := .slice a3 u.funcs.length c3) (y3 := .slice a4 u.imports.length c4) (y4 := .slice a5 u.exports.length c5) (put5_gr (b := w.heap.size) (y0 := .slice a1 u.shapes.length c1) (y1 := .slice a2 u.consts.length c2) (y2 := .slice a3 u.funcs.length c3) (y3 := .slice a4 u.imports.length c4) (y4 := .slice a5 u.exports.length c5) HGx.out (Nat.le_refl _)) (Nat.le_refl _))
    have HU2 := hide (put5_unit (b := w.heap.size) (y0 := .slice a1 u.shapes.length c1) (y1 := .slice a2 u.consts.length c2) (y2 := .slice a3 u.funcs.length c3) (y3 := .slice a4 u.imports.length c4) (y4 := .slice a5 u.exports.length c5) (put5_unit (b := w.heap.size) (y0 := .slice a1 u.shapes.length c1) (y1 := .slice a2 u.consts.length c2) (y2 := .slice a3 u.funcs.length c3) (y3 := .slice a4 u.imports.length c4) (y4 := .slice a5 u.exports.length c5) HU.out (by omega)) (by omega))
    obtain ⟨b0, b1, b2, b3, b4, d0, d1, d2, d3, d4⟩ := hb
    go_wp2
    rw [put5_eq, put5_eq]
    have hq2 : (put5 (put5 w1 w.heap.size (.slice a1 u.shapes.length c1) (.slice a2 u.consts.length c2) (.slice a3 u.funcs.length c3) (.slice a4 u.imports.length c4) (.slice a5 u.exports.length c5)) w.heap.size (.slice a1 u.shapes.length c1) (.slice a2 u.consts.length c2) (.slice a3 u.funcs.length c3) (.slice a4 u.imports.length c4) (.slice a5 u.exports.length c5)).cell? ⟨w.heap.size + 1, 0, none⟩ = some (.int .i64 0) := by rw [put5_other (by omega), put5_other (by omega)]; exact q1
    have hr2 : (put5 (put5 w1 w.heap.size (.slice a1 u.shapes.length c1) (.slice a2 u.consts.length c2) (.slice a3 u.funcs.length c3) (.slice a4 u.imports.length c4) (.slice a5 u.exports.length c5)) w.heap.size (.slice a1 u.shapes.length c1) (.slice a2 u.consts.length c2) (.slice a3 u.funcs.length c3) (.slice a4 u.imports.length c4) (.slice a5 u.exports.length c5)).cell? ⟨w.heap.size + 1 + 1, 0, none⟩ = some (.int .i64 0) := by rw [put5_other (by omega), put5_other (by omega)]; exact r1
    clear q1 r1 zq1 zr1 b0 b1 b2 b3 b4 d0 d1 d2 d3 d4 hbx HU HGx HG hmf
    generalize put5 (put5 w1 w.heap.size (.slice a1 u.shapes.length c1) (.slice a2 u.consts.length c2) (.slice a3 u.funcs.length c3) (.slice a4 u.imports.length c4) (.slice a5 u.exports.length c5)) w.heap.size (.slice a1 u.shapes.length c1) (.slice a2 u.consts.length c2) (.slice a3 u.funcs.length c3) (.slice a4 u.imports.length c4) (.slice a5 u.exports.length c5) = WP at hq2 hr2 HG2 HU2 hby ⊢
    have HGF := hide (gr_set (g := w.heap.size + 1 + 1) (o := 0) (v := .int .i64 0) (gr_set (g := w.heap.size + 1) (o := 0) (v := .int .i64 0) HG2.out (by omega)) (by omega))
    have HUF := hide ((HU2.out.kp (kp_set (g := w.heap.size + 1) (o := 0) (v := .int .i64 0) (by omega))).kp (kp_set (g := w.heap.size + 1 + 1) (o := 0) (v := .int .i64 0) (by omega)))
    obtain ⟨b0, b1, b2, b3, b4, d0, d1, d2, d3, d4⟩ := (hby.other (g := w.heap.size + 1) (o := 0) (v := .int .i64 0) (by omega)).other (g := w.heap.size + 1 + 1) (o := 0) (v := .int .i64 0) (by omega)
    have c1 : ((WP.setCell ⟨w.heap.size + 1, 0, none⟩ (.int .i64 0)).setCell ⟨w.heap.size + 1 + 1, 0, none⟩ (.int .i64 0)).cell? ⟨w.heap.size + 1, 0, none⟩ = some (.int .i64 0) := (World.cell?_setCell_other (WP.setCell ⟨w.heap.size + 1, 0, none⟩ (.int .i64 0)) _ _ _ (by intro h; simp only [Addr.mk.injEq] at h; omega)).trans (World.cell?_setCell_same WP _ _ hq2)
    have c2 : ((WP.setCell ⟨w.heap.size + 1, 0, none⟩ (.int .i64 0)).setCell ⟨w.heap.size + 1 + 1, 0, none⟩ (.int .i64 0)).cell? ⟨w.heap.size + 1 + 1, 0, none⟩ = some (.int .i64 0) := World.cell?_setCell_same _ _ _ ((World.cell?_setCell_other WP _ _ _ (by intro h; simp only [Addr.mk.injEq] at h; omega)).trans hr2)
    clear hq2 hr2 hby d0 d1 d2 d3 d4 HG2 HU2
    generalize (WP.setCell ⟨w.heap.size + 1, 0, none⟩ (.int .i64 0)).setCell ⟨w.heap.size + 1 + 1, 0, none⟩ (.int .i64 0) = WF at HGF HUF b0 b1 b2 b3 b4 c1 c2 ⊢
    refine leaves_cons (f := 37) (args := #[.pointer (some ⟨w.heap.size + 1, 0, none⟩), .pointer (some ⟨w.heap.size + 1 + 1, 0, none⟩)]) (by simp) (by simp [go_sem]) ?_
    refine (idle_unit _ _ _).mono ?_
    rintro x u' w2 ⟨rfl, rfl, rfl⟩
    simp [Leaves, settle, results, Try.results14, go_sem, b0, b1, b2, b3, b4, c1, c2]
    exact ⟨_, B, rfl, by omega, HUF.out, HGF.out⟩
  | inr q =>
    obtain ⟨e, p⟩ := q
    obtain ⟨rfl, hg1⟩ := h
    have hb1 := HB.out.gr hg1
    have q1 := hg1.cell HQ.out (by simp)
    have r1 := hg1.cell HR.out (by simp)
    have zq1 := gr_frozen hg1 HQ.out HZQ.out
    have zr1 := gr_frozen hg1 HR.out HZR.out
    have HGx := hide (HG.out.trans hg1)
    clear hg1 HB HQ HR HZQ HZR HG HSZ HT ht
    refine leaves_cons (f := 37) (args := #[.pointer (some ⟨w.heap.size + 1, 0, none⟩), .pointer (some ⟨w.heap.size + 1 + 1, 0, none⟩)]) (by simp) (by simp [go_sem]) ?_
    refine (catch_unit (w.heap.size + 1) (w.heap.size + 1 + 1) (by omega) e p 0 0 [] w1 q1 r1 zq1 zr1).mono ?_
    rintro x u' w'' ⟨rfl, rfl, w2, hg2, rfl⟩
    obtain ⟨c1, c2⟩ := caught (e := e) (a := p) (show ¬ w.heap.size + 1 = w.heap.size + 1 + 1 by omega) (hg2.cell q1 (by simp)) (hg2.cell r1 (by simp))
    have HF := hide (gr_set (g := w.heap.size + 1 + 1) (o := 0) (v := .int .i64 (p : Int)) (gr_set (g := w.heap.size + 1) (o := 0) (v := .int .i64 e) (HGx.out.trans hg2) (by omega)) (by omega)).drew
    obtain ⟨b0, b1, b2, b3, b4, d0, d1, d2, d3, d4⟩ := (((hb1.gr hg2).other (g := w.heap.size + 1) (o := 0) (v := .int .i64 e) (by omega)).other (g := w.heap.size + 1 + 1) (o := 0) (v := .int .i64 (p : Int)) (by omega)).gr (Gr.drew (Gr.refl _))
    clear q1 r1 zq1 zr1 hg2 hmf hb1 d0 d1 d2 d3 d4
    generalize ((w2.setCell ⟨w.heap.size + 1, 0, none⟩ (.int .i64 e)).setCell ⟨w.heap.size + 1 + 1, 0, none⟩ (.int .i64 (p : Int))).drew = WF at c1 c2 HF b0 b1 b2 b3 b4 ⊢
    simp [Leaves, settle, results, Try.results14, go_sem, b0, b1, b2, b3, b4, c1, c2]
    exact ⟨rfl, HF.out⟩

set_option maxRecDepth 100000 in
set_option maxHeartbeats 2000000 in
theorem decode_any (s : ByteArray) (w : World) (hs : s.size ≤ maxLen) :
    Calls Try.prog 7 #[.string s] w (DecR w (dec s.data.toList)) := by
  have hmf : ∀ (fn : Fn) (first cap : Array Value) (w : World), (Instr.makeFunc fn first cap).run Try.prog w = .ok (.func fn first cap) w := fun _ _ _ _ => rfl
  have hg0 := Gr.alloc (Gr.refl w) (.cells #[.string s] 9)
  have ht : (w.alloc (.cells #[.string s] 9)).cell? ⟨w.heap.size, 0, none⟩ = some (.string s) := by simp [go_sem]
  have hg1 := Gr.alloc (Gr.refl (w.alloc (.cells #[.string s] 9))) (.cells #[.slice none 0 0, .slice none 0 0, .slice none 0 0, .slice none 0 0, .slice none 0 0] 28)
  have hb := Box5.new (w.alloc (.cells #[.string s] 9)) 28 (.slice none 0 0) (.slice none 0 0) (.slice none 0 0) (.slice none 0 0) (.slice none 0 0)
  rw [show (w.alloc (.cells #[.string s] 9)).heap.size = w.heap.size + 1 by simp] at hb
  have HT := hide (hg1.cell ht (by simp))
  have HG := hide (hg0.trans hg1)
  have HB := hide hb
  have HSZ : Hid (w.heap.size + 2 ≤ ((w.alloc (.cells #[.string s] 9)).alloc (.cells #[.slice none 0 0, .slice none 0 0, .slice none 0 0, .slice none 0 0, .slice none 0 0] 28)).heap.size) := hide (by simp)
  clear hg0 ht hg1 hb
  generalize hD : dec s.data.toList = D
  go_enter Try.func7, Try.ntmps7
  go_wp2_with fail
  refine (answer_dec s w.heap.size _ HT.out hs).mono ?_
  rw [hD]
  clear hD
  generalize (w.alloc (.cells #[.string s] 9)).alloc (.cells #[.slice none 0 0, .slice none 0 0, .slice none 0 0, .slice none 0 0, .slice none 0 0] 28) = W2 at HT HG HB HSZ ⊢
  intro x w1 h
  cases D with
  | inl u =>
    obtain ⟨v, B, rfl, hB, hu, hg1⟩ := h
    obtain ⟨v1, v2, v3, v4, v5, rfl, k1, k2, k3, k4, k5⟩ := hu
    obtain ⟨a1, c1, rfl⟩ := k1.shape
    obtain ⟨a2, c2, rfl⟩ := k2.shape
    obtain ⟨a3, c3, rfl⟩ := k3.shape
    obtain ⟨a4, c4, rfl⟩ := k4.shape
    obtain ⟨a5, c5, rfl⟩ := k5.shape
    have HU : Hid (RUnitF B w1 (.agg #[.slice a1 u.shapes.length c1, .slice a2 u.consts.length c2, .slice a3 u.funcs.length c3, .slice a4 u.imports.length c4, .slice a5 u.exports.length c5]) u) := hide ⟨_, _, _, _, _, rfl, k1, k2, k3, k4, k5⟩
    have hb := HB.out.gr hg1
    have HBX := hide (put5_box (.slice a1 u.shapes.length c1) (.slice a2 u.consts.length c2) (.slice a3 u.funcs.length c3) (.slice a4 u.imports.length c4) (.slice a5 u.exports.length c5) hb)
    have HGx := hide (HG.out.trans hg1)
    have hBB : w.heap.size + 2 ≤ B := Nat.le_trans HSZ.out hB
    obtain ⟨b0, b1, b2, b3, b4, d0, d1, d2, d3, d4⟩ := hb
    clear k1 k2 k3 k4 k5 hg1 HB HG HSZ hB HT hmf
    go_wp2
    rw [put5_eq]
    obtain ⟨b0, b1, b2, b3, b4, d0, d1, d2, d3, d4⟩ := HBX.out
    exact bodyPost_ret (v := .tuple #[.agg #[.slice a1 u.shapes.length c1, .slice a2 u.consts.length c2, .slice a3 u.funcs.length c3, .slice a4 u.imports.length c4, .slice a5 u.exports.length c5], .int .i64 0, .int .i64 0]) (by simp [results, Try.results7, go_sem, b0, b1, b2, b3, b4]) rfl ⟨_, B, rfl, by omega, put5_unit HU.out (by omega), put5_gr HGx.out (by omega)⟩
  | inr q =>
    obtain ⟨e, p⟩ := q
    obtain ⟨rfl, hg1⟩ := h
    have hb := HB.out.gr hg1
    have HBX := hide (put5_box (.slice none 0 0) (.slice none 0 0) (.slice none 0 0) (.slice none 0 0) (.slice none 0 0) hb)
    have HGx := hide (HG.out.trans hg1)
    obtain ⟨b0, b1, b2, b3, b4, d0, d1, d2, d3, d4⟩ := hb
    clear hg1 HB HG HSZ HT hmf
    go_wp2
    rw [put5_eq]
    obtain ⟨b0, b1, b2, b3, b4, d0, d1, d2, d3, d4⟩ := HBX.out
    exact bodyPost_ret (v := .tuple #[.agg #[.slice none 0 0, .slice none 0 0, .slice none 0 0, .slice none 0 0, .slice none 0 0], .int .i64 e, .int .i64 p]) (by simp [results, Try.results7, go_sem, b0, b1, b2, b3, b4]) rfl ⟨rfl, put5_gr HGx.out (by omega)⟩
end Go.Proofs.Ytncihcnpnfhdaaa
