import Derived.Test.YtkgncijcnlfhiabGreatR2
namespace Go.Proofs.YtkgncijcnlfhiabGreat
set_option linter.unusedVariables false
set_option linter.unusedSimpArgs false
open Go.RowKit
/-- the five cells of a unit, written anew -/
def put5 (w : World) (b : Nat) (x0 x1 x2 x3 x4 : Value) : World := ((((w.setCell ⟨b, 0, none⟩ x0).setCell ⟨b, 1, none⟩ x1).setCell ⟨b, 2, none⟩ x2).setCell ⟨b, 3, none⟩ x3).setCell ⟨b, 4, none⟩ x4
theorem put5_eq (w : World) (b : Nat) (x0 x1 x2 x3 x4 : Value) : ((((w.setCell ⟨b, 0, none⟩ x0).setCell ⟨b, 1, none⟩ x1).setCell ⟨b, 2, none⟩ x2).setCell ⟨b, 3, none⟩ x3).setCell ⟨b, 4, none⟩ x4 = put5 w b x0 x1 x2 x3 x4 := rfl
theorem put5_box {w : World} {b : Nat} {x0 x1 x2 x3 x4 : Value} (y0 y1 y2 y3 y4 : Value) (h : Box5 w b x0 x1 x2 x3 x4) : Box5 (put5 w b y0 y1 y2 y3 y4) b y0 y1 y2 y3 y4 := ((((h.set0 y0).set1 y1).set2 y2).set3 y3).set4 y4
theorem put5_gr {w w1 : World} {b : Nat} {y0 y1 y2 y3 y4 : Value} (h : Gr w w1) (hb : w.heap.size ≤ b) : Gr w (put5 w1 b y0 y1 y2 y3 y4) := gr_set (gr_set (gr_set (gr_set (gr_set h hb) hb) hb) hb) hb
theorem put5_unit {B b : Nat} {w : World} {v : Value} {u : PUnit} {y0 y1 y2 y3 y4 : Value} (h : RUnitF B w v u) (hb : b < B) : RUnitF B (put5 w b y0 y1 y2 y3 y4) v u := ((((h.kp (kp_set hb)).kp (kp_set hb)).kp (kp_set hb)).kp (kp_set hb)).kp (kp_set hb)
theorem put5_box3 {w : World} {b g : Nat} {x0 x1 x2 y0 y1 y2 y3 y4 : Value} (h : ¬ b = g) (hb : Box3 w g x0 x1 x2) : Box3 (put5 w b y0 y1 y2 y3 y4) g x0 x1 x2 := ((((hb.other h).other h).other h).other h).other h
theorem put5_box5 {w : World} {b g : Nat} {x0 x1 x2 x3 x4 y0 y1 y2 y3 y4 : Value} (h : ¬ b = g) (hb : Box5 w g x0 x1 x2 x3 x4) : Box5 (put5 w b y0 y1 y2 y3 y4) g x0 x1 x2 x3 x4 := ((((hb.other h).other h).other h).other h).other h
def WorkD (w : World) (ub : Nat) : PUnit ⊕ (Int × Nat) → Ending → World → Prop
  | .inl u, x, w' => ∃ v1 v2 v3 v4 v5 B w1, x = .returned (.tuple #[]) ∧ w.heap.size ≤ B ∧ RUnitF B w1 (.agg #[v1, v2, v3, v4, v5]) u ∧ Gr w w1 ∧ w' = put5 w1 ub v1 v2 v3 v4 v5
  | .inr (e, p), x, w' => x = .panicked (thrown e p) ∧ Gr w w'

set_option maxRecDepth 100000 in
set_option maxHeartbeats 2000000 in
theorem work_dec (s : ByteArray) (tb ub : Nat) (x0 x1 x2 x3 x4 : Value) (w : World) (ht : w.cell? ⟨tb, 0, none⟩ = some (.string s)) (hs : s.size ≤ maxLen) (hub : Box5 w ub x0 x1 x2 x3 x4) :
    Calls Tryz.prog 45 #[.pointer (some ⟨tb, 0, none⟩), .pointer (some ⟨ub, 0, none⟩)] w (WorkD w ub (dec s.data.toList)) := by
  have HB := hide hub
  clear hub
  generalize hT : dec s.data.toList = D
  go_enter Tryz.func45, Tryz.ntmps45
  go_wp2_with fail
  refine (read_any sections s _ hs).mono ?_
  rw [hT]
  clear hT
  intro x w1 h
  cases D with
  | inl u =>
    obtain ⟨v, B, rfl, hB, hu, hg1⟩ := h
    obtain ⟨v1, v2, v3, v4, v5, rfl, k1, k2, k3, k4, k5⟩ := hu
    obtain ⟨a1, c1, rfl⟩ := k1.shape
    obtain ⟨a2, c2, rfl⟩ := k2.shape
    obtain ⟨a3, c3, rfl⟩ := k3.shape
    obtain ⟨a4, c4, rfl⟩ := k4.shape
    obtain ⟨a5, c5, rfl⟩ := k5.shape
    have HU : Hid (RUnitF B w1 (.agg #[.slice a1 u.shapes.length c1, .slice a2 u.consts.length c2, .slice a3 u.funcs.length c3, .slice a4 u.imports.length c4, .slice a5 u.exports.length c5]) u) := hide ⟨_, _, _, _, _, rfl, k1, k2, k3, k4, k5⟩
    have HG := hide hg1
    have HBB := hide hB
    obtain ⟨b0, b1, b2, b3, b4, d0, d1, d2, d3, d4⟩ := HB.out.gr hg1
    clear k1 k2 k3 k4 k5 hg1 HB hB
    go_wp2
    rw [put5_eq]
    go_end0
    exact ⟨_, _, _, _, _, B, w1, rfl, HBB.out, HU.out, HG.out, rfl⟩
  | inr q =>
    obtain ⟨e, p⟩ := q
    obtain ⟨rfl, hg1⟩ := h
    exact ⟨rfl, rfl, hg1⟩
end Go.Proofs.YtkgncijcnlfhiabGreat

namespace Go.Proofs.YtkgncijcnlfhiabGreat
set_option linter.unusedVariables false
set_option linter.unusedSimpArgs false
open Go.RowKit

def DecR (w : World) : PUnit ⊕ (Int × Nat) → Ending → World → Prop
  | .inl u, x, w' => ∃ v B, x = .returned (.tuple #[v, .int .i64 0, .int .i64 0]) ∧ w.heap.size ≤ B ∧ RUnitF B w' v u ∧ Gr w w'
  | .inr (e, p), x, w' => x = .returned (.tuple #[.agg #[.slice none 0 0, .slice none 0 0, .slice none 0 0, .slice none 0 0, .slice none 0 0], .int .i64 e, .int .i64 p]) ∧ Gr w w'
def decOk (w : World) : PUnit ⊕ (Int × Nat) → World → Prop
  | .inl u, w1 => ∃ v1 v2 v3 v4 v5 B, w.heap.size + 4 ≤ B ∧ RUnitF B w1 (.agg #[v1, v2, v3, v4, v5]) u ∧ Gr w w1 ∧ Box5 w1 (w.heap.size + 2) v1 v2 v3 v4 v5 ∧ Box5 w1 (w.heap.size + 1) (.slice none 0 0) (.slice none 0 0) (.slice none 0 0) (.slice none 0 0) (.slice none 0 0)
  | .inr _, _ => False
def decBad (w : World) : PUnit ⊕ (Int × Nat) → Int → Int → Int → World → Prop
  | .inl _, _, _, _, _ => False
  | .inr (e, p), e', _, p', w1 => e' = e ∧ p' = p ∧ Gr w w1 ∧ Box5 w1 (w.heap.size + 2) (.slice none 0 0) (.slice none 0 0) (.slice none 0 0) (.slice none 0 0) (.slice none 0 0) ∧ Box5 w1 (w.heap.size + 1) (.slice none 0 0) (.slice none 0 0) (.slice none 0 0) (.slice none 0 0) (.slice none 0 0)
def decW (w : World) (s : ByteArray) : World := ((((w.alloc (.cells #[.string s] 9)).alloc (.cells #[.slice none 0 0, .slice none 0 0, .slice none 0 0, .slice none 0 0, .slice none 0 0] 29)).alloc (.cells #[.slice none 0 0, .slice none 0 0, .slice none 0 0, .slice none 0 0, .slice none 0 0] 29)))
theorem decW_eq (w : World) (s : ByteArray) : ((((w.alloc (.cells #[.string s] 9)).alloc (.cells #[.slice none 0 0, .slice none 0 0, .slice none 0 0, .slice none 0 0, .slice none 0 0] 29)).alloc (.cells #[.slice none 0 0, .slice none 0 0, .slice none 0 0, .slice none 0 0, .slice none 0 0] 29))) = decW w s := rfl
theorem decW_facts (w : World) (s : ByteArray) : (decW w s).cell? ⟨w.heap.size, 0, none⟩ = some (.string s) ∧ Box5 (decW w s) (w.heap.size + 1) (.slice none 0 0) (.slice none 0 0) (.slice none 0 0) (.slice none 0 0) (.slice none 0 0) ∧ Box5 (decW w s) (w.heap.size + 2) (.slice none 0 0) (.slice none 0 0) (.slice none 0 0) (.slice none 0 0) (.slice none 0 0) ∧ Gr w (decW w s) ∧ (decW w s).heap.size = w.heap.size + 3 := by
  unfold decW
  refine ⟨by simp [go_sem], ⟨?_, ?_, ?_, ?_, ?_, ?_, ?_, ?_, ?_, ?_⟩, ⟨?_, ?_, ?_, ?_, ?_, ?_, ?_, ?_, ?_, ?_⟩, (((Gr.refl _).alloc _).alloc _).alloc _, by simp⟩ <;> simp [go_sem]

set_option maxRecDepth 100000 in
set_option maxHeartbeats 2000000 in
theorem decode_any (s : ByteArray) (w : World) (hs : s.size ≤ maxLen) :
    Calls Tryz.prog 26 #[.string s] w (DecR w (dec s.data.toList)) := by
  have hmf : ∀ (fn : Fn) (first cap : Array Value) (w : World), (Instr.makeFunc fn first cap).run Tryz.prog w = .ok (.func fn first cap) w := fun _ _ _ _ => rfl
  have HF := hide (decW_facts w s)
  generalize hD : dec s.data.toList = D
  go_enter Tryz.func26, Tryz.ntmps26
  go_wp2_with fail
  rw [decW_eq]
  obtain ⟨ht, hrb, hub, hgV, hsz⟩ := HF.out
  clear HF
  generalize decW w s = V at ht hrb hub hgV hsz ⊢
  have hwb : Box3 (V.alloc (.cells #[.int .i64 0, .int .i64 0, .int .i64 0] 62)) V.heap.size (.int .i64 0) (.int .i64 0) (.int .i64 0) := Box3.new V 62 (.int .i64 0) (.int .i64 0) (.int .i64 0)
  have hgr := Gr.alloc (Gr.refl V) (.cells #[.int .i64 0, .int .i64 0, .int .i64 0] 62)
  have hgs : (V.alloc (.cells #[.int .i64 0, .int .i64 0, .int .i64 0] 62)).heap.size = V.heap.size + 1 := by simp
  refine (refusal_any 45 #[.pointer (some ⟨w.heap.size, 0, none⟩), .pointer (some ⟨w.heap.size + 2, 0, none⟩)] V (decOk w D) (decBad w D) (fun w => rfl)
    ((work_dec s w.heap.size (w.heap.size + 2) _ _ _ _ _ _ (hgr.cell ht (by simp)) hs (hub.gr hgr)).mono ?_)).mono ?_
  · rw [hD]
    clear hD
    intro x w' h
    cases D with
    | inl u =>
      obtain ⟨v1, v2, v3, v4, v5, B, w1, rfl, hB, hu, hg, rfl⟩ := h
      refine ⟨?_, .inl ⟨rfl, v1, v2, v3, v4, v5, B, by omega, put5_unit hu (by omega), put5_gr ((hgV.trans hgr).trans hg) (by omega), put5_box _ _ _ _ _ ((hub.gr hgr).gr hg), put5_box5 (by omega) ((hrb.gr hgr).gr hg)⟩⟩
      exact put5_box3 (by omega) (hwb.gr hg)
    | inr q =>
      obtain ⟨e, p⟩ := q
      obtain ⟨rfl, hg⟩ := h
      exact ⟨hwb.gr hg, .inr ⟨e, 0, p, rfl, rfl, rfl, (hgV.trans hgr).trans hg, (hub.gr hgr).gr hg, (hrb.gr hgr).gr hg⟩⟩
  · clear hwb hgr hgs ht hgV hub hrb hD hs
    rintro x w2 ⟨w1, hgc, hbS, h⟩
    cases D with
    | inl u =>
      rcases h with ⟨rfl, h⟩ | ⟨e, n, a, rfl, h⟩
      · obtain ⟨v1, v2, v3, v4, v5, B, hB, hu, hg, hbx, hrb⟩ := h
        have HU := hide (hu.kp (hgc.kp (by omega)))
        have HG := hide (gr_over hg hgc (by omega))
        have HBB := hide hB
        have hbx2 := hbx.gc hgc (by omega)
        have hrb2 := hrb.gc hgc (by omega)
        have hs2 : w.heap.size + 3 < w2.heap.size := by have h1 := hbS; have h2 := hgc.size; omega
        clear hu hg hbx hrb hgc hmf hB hsz
        obtain ⟨v1', v2', v3', v4', v5', he, k1, k2, k3, k4, k5⟩ := HU.out
        simp only [Value.agg.injEq, Array.mk.injEq, List.cons.injEq, and_true] at he
        obtain ⟨rfl, rfl, rfl, rfl, rfl⟩ := he
        obtain ⟨a1, c1, rfl⟩ := k1.shape
        obtain ⟨a2, c2, rfl⟩ := k2.shape
        obtain ⟨a3, c3, rfl⟩ := k3.shape
        obtain ⟨a4, c4, rfl⟩ := k4.shape
        obtain ⟨a5, c5, rfl⟩ := k5.shape
        clear k1 k2 k3 k4 k5
        have hg2 := Gr.alloc (Gr.refl w2) (.cells #[.int .i64 0, .int .i64 0, .int .i64 0] 62)
        have hb2 := Box3.new w2 62 (.int .i64 0) (.int .i64 0) (.int .i64 0)
        have HG2 := hide (HG.out.trans hg2)
        have HU2 := hide (HU.out.kp hg2.kp)
        obtain ⟨b0, b1, b2, b3, b4, d0, d1, d2, d3, d4⟩ := hbx2.gr hg2
        have HRX := hide (hrb2.gr hg2)
        obtain ⟨r0, r1, r2, r3, r4, s0, s1, s2, s3, s4⟩ := HRX.out
        have he0 := hb2.1
        have he2 := hb2.2.2.1
        have hn1 : ¬ w2.heap.size = w.heap.size + 1 := by omega
        have hn2 : ¬ w.heap.size + 1 = w2.heap.size := by omega
        clear hbx2 hrb2 hg2 hb2 HG d0 d1 d2 d3 d4 HU
        go_wp2
        generalize w2.alloc (.cells #[.int .i64 0, .int .i64 0, .int .i64 0] 62) = W3 at b0 b1 b2 b3 b4 r0 r1 r2 r3 r4 s0 s1 s2 s3 s4 he0 he2 HG2 HRX HU2 ⊢
        go_region_held3 (fun w' => w'.cell? ⟨w2.heap.size, 0, none⟩ = some (.int .i64 0) ∧ w'.cell? ⟨w2.heap.size, 2, none⟩ = some (.int .i64 0) ∧ w'.cell? ⟨w.heap.size + 2, 0, none⟩ = some (.slice a1 u.shapes.length c1) ∧ w'.cell? ⟨w.heap.size + 2, 1, none⟩ = some (.slice a2 u.consts.length c2) ∧ w'.cell? ⟨w.heap.size + 2, 2, none⟩ = some (.slice a3 u.funcs.length c3) ∧ w'.cell? ⟨w.heap.size + 2, 3, none⟩ = some (.slice a4 u.imports.length c4) ∧ w'.cell? ⟨w.heap.size + 2, 4, none⟩ = some (.slice a5 u.exports.length c5)) (go_keep) (fail)
        rw [put5_eq]
        have hry := put5_box (.slice a1 u.shapes.length c1) (.slice a2 u.consts.length c2) (.slice a3 u.funcs.length c3) (.slice a4 u.imports.length c4) (.slice a5 u.exports.length c5) HRX.out
        have HG3 := hide (put5_gr (b := w.heap.size + 1) (y0 := .slice a1 u.shapes.length c1) (y1 := .slice a2 u.consts.length c2) (y2 := .slice a3 u.funcs.length c3) (y3 := .slice a4 u.imports.length c4) (y4 := .slice a5 u.exports.length c5) HG2.out (by omega))
        have HU3 := hide (put5_unit (b := w.heap.size + 1) (y0 := .slice a1 u.shapes.length c1) (y1 := .slice a2 u.consts.length c2) (y2 := .slice a3 u.funcs.length c3) (y3 := .slice a4 u.imports.length c4) (y4 := .slice a5 u.exports.length c5) HU2.out (by have := HBB.out; omega))
        clear b0 b1 b2 b3 b4 r0 r1 r2 r3 r4 s0 s1 s2 s3 s4 he0 he2 hn1 hn2 HG2 HU2 HRX
        generalize put5 W3 (w.heap.size + 1) (.slice a1 u.shapes.length c1) (.slice a2 u.consts.length c2) (.slice a3 u.funcs.length c3) (.slice a4 u.imports.length c4) (.slice a5 u.exports.length c5) = W4 at hry HG3 HU3 ⊢
        obtain ⟨r0, r1, r2, r3, r4, s0, s1, s2, s3, s4⟩ := (show Box5 W4.drew _ _ _ _ _ _ from hry)
        go_wp2
        exact bodyPost_ret (v := .tuple #[.agg #[.slice a1 u.shapes.length c1, .slice a2 u.consts.length c2, .slice a3 u.funcs.length c3, .slice a4 u.imports.length c4, .slice a5 u.exports.length c5], .int .i64 0, .int .i64 0]) (by simp [results, Tryz.results26, go_sem, r0, r1, r2, r3, r4]) rfl ⟨_, B, rfl, by have := HBB.out; omega, HU3.out.kp (Gr.drew (Gr.refl _)).kp, HG3.out.drew⟩
      · exact h.elim
    | inr q =>
      obtain ⟨e, p⟩ := q
      rcases h with ⟨rfl, h⟩ | ⟨e', n, a, rfl, h⟩
      · exact h.elim
      · obtain ⟨rfl, rfl, hg, hbx, hrb⟩ := h
        have HG := hide (gr_over hg hgc (by omega))
        have hbx2 := hbx.gc hgc (by omega)
        have hrb2 := hrb.gc hgc (by omega)
        have hs2 : w.heap.size + 3 < w2.heap.size := by have h1 := hbS; have h2 := hgc.size; omega
        clear hg hbx hrb hgc hmf hsz
        have hg2 := Gr.alloc (Gr.refl w2) (.cells #[.int .i64 e', .int .i64 n, .int .i64 (p : Int)] 62)
        have hb2 := Box3.new w2 62 (.int .i64 e') (.int .i64 n) (.int .i64 (p : Int))
        have HG2 := hide (HG.out.trans hg2)
        obtain ⟨b0, b1, b2, b3, b4, d0, d1, d2, d3, d4⟩ := hbx2.gr hg2
        have HRX := hide (hrb2.gr hg2)
        obtain ⟨r0, r1, r2, r3, r4, s0, s1, s2, s3, s4⟩ := HRX.out
        have he0 := hb2.1
        have he2 := hb2.2.2.1
        have hn1 : ¬ w2.heap.size = w.heap.size + 1 := by omega
        have hn2 : ¬ w.heap.size + 1 = w2.heap.size := by omega
        clear hbx2 hrb2 hg2 hb2 HG d0 d1 d2 d3 d4
        go_wp2
        generalize w2.alloc (.cells #[.int .i64 e', .int .i64 n, .int .i64 (p : Int)] 62) = W3 at b0 b1 b2 b3 b4 r0 r1 r2 r3 r4 s0 s1 s2 s3 s4 he0 he2 HG2 HRX ⊢
        go_region_held3 (fun w' => w'.cell? ⟨w2.heap.size, 0, none⟩ = some (.int .i64 e') ∧ w'.cell? ⟨w2.heap.size, 2, none⟩ = some (.int .i64 (p : Int)) ∧ w'.cell? ⟨w.heap.size + 2, 0, none⟩ = some (.slice none 0 0) ∧ w'.cell? ⟨w.heap.size + 2, 1, none⟩ = some (.slice none 0 0) ∧ w'.cell? ⟨w.heap.size + 2, 2, none⟩ = some (.slice none 0 0) ∧ w'.cell? ⟨w.heap.size + 2, 3, none⟩ = some (.slice none 0 0) ∧ w'.cell? ⟨w.heap.size + 2, 4, none⟩ = some (.slice none 0 0)) (go_keep) (fail)
        rw [put5_eq]
        have hry := put5_box (.slice none 0 0) (.slice none 0 0) (.slice none 0 0) (.slice none 0 0) (.slice none 0 0) HRX.out
        have HG3 := hide (put5_gr (b := w.heap.size + 1) (y0 := .slice none 0 0) (y1 := .slice none 0 0) (y2 := .slice none 0 0) (y3 := .slice none 0 0) (y4 := .slice none 0 0) HG2.out (by omega))
        clear b0 b1 b2 b3 b4 r0 r1 r2 r3 r4 s0 s1 s2 s3 s4 he0 he2 hn1 hn2 HG2 HRX
        generalize put5 W3 (w.heap.size + 1) (.slice none 0 0) (.slice none 0 0) (.slice none 0 0) (.slice none 0 0) (.slice none 0 0) = W4 at hry HG3 ⊢
        obtain ⟨r0, r1, r2, r3, r4, s0, s1, s2, s3, s4⟩ := (show Box5 W4.drew _ _ _ _ _ _ from hry)
        go_wp2
        exact bodyPost_ret (v := .tuple #[.agg #[.slice none 0 0, .slice none 0 0, .slice none 0 0, .slice none 0 0, .slice none 0 0], .int .i64 e', .int .i64 p]) (by simp [results, Tryz.results26, go_sem, r0, r1, r2, r3, r4]) rfl ⟨rfl, HG3.out.drew⟩
end Go.Proofs.YtkgncijcnlfhiabGreat

