import Derived.Test.YtkgncijcnlfhiaaDoorR2
import Derived.Deep.AppendLies
namespace Go.Proofs.YtkgncijcnlfhiaaDoor
set_option linter.unusedVariables false
set_option linter.unusedSimpArgs false
open Go.RowKit
/-- the five cells of a unit, written anew -/
def put5 (w : World) (b : Nat) (x0 x1 x2 x3 x4 : Value) : World := ((((w.setCell ⟨b, 0, none⟩ x0).setCell ⟨b, 1, none⟩ x1).setCell ⟨b, 2, none⟩ x2).setCell ⟨b, 3, none⟩ x3).setCell ⟨b, 4, none⟩ x4
theorem put5_eq (w : World) (b : Nat) (x0 x1 x2 x3 x4 : Value) : ((((w.setCell ⟨b, 0, none⟩ x0).setCell ⟨b, 1, none⟩ x1).setCell ⟨b, 2, none⟩ x2).setCell ⟨b, 3, none⟩ x3).setCell ⟨b, 4, none⟩ x4 = put5 w b x0 x1 x2 x3 x4 := rfl
theorem put5_box {w : World} {b : Nat} {x0 x1 x2 x3 x4 : Value} (y0 y1 y2 y3 y4 : Value) (h : Box5 w b x0 x1 x2 x3 x4) : Box5 (put5 w b y0 y1 y2 y3 y4) b y0 y1 y2 y3 y4 := ((((h.set0 y0).set1 y1).set2 y2).set3 y3).set4 y4
theorem put5_gr {w w1 : World} {b : Nat} {y0 y1 y2 y3 y4 : Value} (h : Gr w w1) (hb : w.heap.size ≤ b) : Gr w (put5 w1 b y0 y1 y2 y3 y4) := gr_set (gr_set (gr_set (gr_set (gr_set h hb) hb) hb) hb) hb
theorem put5_unitG {B b : Nat} {w : World} {v : Value} {u : PUnit} {y0 y1 y2 y3 y4 : Value} (h : RUnitG B w v u) (hb : b < B) : RUnitG B (put5 w b y0 y1 y2 y3 y4) v u := ((((h.kp (kp_set hb)).kp (kp_set hb)).kp (kp_set hb)).kp (kp_set hb)).kp (kp_set hb)
theorem put5_box3 {w : World} {b g : Nat} {x0 x1 x2 y0 y1 y2 y3 y4 : Value} (h : ¬ b = g) (hb : Box3 w g x0 x1 x2) : Box3 (put5 w b y0 y1 y2 y3 y4) g x0 x1 x2 := ((((hb.other h).other h).other h).other h).other h
theorem put5_box5 {w : World} {b g : Nat} {x0 x1 x2 x3 x4 y0 y1 y2 y3 y4 : Value} (h : ¬ b = g) (hb : Box5 w g x0 x1 x2 x3 x4) : Box5 (put5 w b y0 y1 y2 y3 y4) g x0 x1 x2 x3 x4 := ((((hb.other h).other h).other h).other h).other h
def WorkD (w : World) (ub : Nat) : PUnit ⊕ (Int × Nat) → Ending → World → Prop
  | .inl u, x, w' => ∃ v1 v2 v3 v4 v5 B w1, x = .returned (.tuple #[]) ∧ w.heap.size ≤ B ∧ RUnitG B w1 (.agg #[v1, v2, v3, v4, v5]) u ∧ Gr w w1 ∧ w' = put5 w1 ub v1 v2 v3 v4 v5
  | .inr (e, p), x, w' => x = .panicked (thrown e p) ∧ Gr w w'

set_option maxRecDepth 100000 in
set_option maxHeartbeats 2000000 in
theorem work_dec (s : ByteArray) (tb ub : Nat) (x0 x1 x2 x3 x4 : Value) (w : World) (ht : w.cell? ⟨tb, 0, none⟩ = some (.string s)) (hs : s.size ≤ maxLen) (hub : Box5 w ub x0 x1 x2 x3 x4) :
    Calls Tryd.prog 40 #[.pointer (some ⟨tb, 0, none⟩), .pointer (some ⟨ub, 0, none⟩)] w (WorkD w ub (dec s.data.toList)) := by
  have HB := hide hub
  clear hub
  generalize hT : dec s.data.toList = D
  go_enter Tryd.func40, Tryd.ntmps40
  go_wp2_with fail
  refine (read_any sections s _ hs).mono ?_
  rw [hT]
  clear hT
  intro x w1 h
  cases D with
  | inl u =>
    obtain ⟨v, B, rfl, hB, hu, hg1⟩ := h
    obtain ⟨a1, c1, a2, c2, a3, c3, a4, c4, a5, c5, rfl⟩ := hu.shape
    have HU := hide hu
    have HG := hide hg1
    have HBB := hide hB
    obtain ⟨b0, b1, b2, b3, b4, d0, d1, d2, d3, d4⟩ := HB.out.gr hg1
    clear hu hg1 HB hB
    go_wp2
    rw [put5_eq]
    go_end0
    exact ⟨_, _, _, _, _, B, w1, rfl, HBB.out, HU.out, HG.out, rfl⟩
  | inr q =>
    obtain ⟨e, p⟩ := q
    obtain ⟨rfl, hg1⟩ := h
    exact ⟨rfl, rfl, hg1⟩
end Go.Proofs.YtkgncijcnlfhiaaDoor

namespace Go.Proofs.YtkgncijcnlfhiaaDoor
set_option linter.unusedVariables false
set_option linter.unusedSimpArgs false
open Go.RowKit

def DecRG (w : World) : PUnit ⊕ (Int × Nat) → Ending → World → Prop
  | .inl u, x, w' => ∃ v B, x = .returned (.tuple #[v, .int .i64 0, .int .i64 0]) ∧ w.heap.size ≤ B ∧ RUnitG B w' v u ∧ Gr w w'
  | .inr (e, p), x, w' => x = .returned (.tuple #[.agg #[.slice none 0 0, .slice none 0 0, .slice none 0 0, .slice none 0 0, .slice none 0 0], .int .i64 e, .int .i64 p]) ∧ Gr w w'
def decOk (w : World) : PUnit ⊕ (Int × Nat) → World → Prop
  | .inl u, w1 => ∃ v1 v2 v3 v4 v5 B, w.heap.size + 4 ≤ B ∧ RUnitG B w1 (.agg #[v1, v2, v3, v4, v5]) u ∧ Gr w w1 ∧ Box5 w1 (w.heap.size + 2) v1 v2 v3 v4 v5 ∧ Box5 w1 (w.heap.size + 1) (.slice none 0 0) (.slice none 0 0) (.slice none 0 0) (.slice none 0 0) (.slice none 0 0)
  | .inr _, _ => False
def decBad (w : World) : PUnit ⊕ (Int × Nat) → Int → Int → Int → World → Prop
  | .inl _, _, _, _, _ => False
  | .inr (e, p), e', _, p', w1 => e' = e ∧ p' = p ∧ Gr w w1 ∧ Box5 w1 (w.heap.size + 2) (.slice none 0 0) (.slice none 0 0) (.slice none 0 0) (.slice none 0 0) (.slice none 0 0) ∧ Box5 w1 (w.heap.size + 1) (.slice none 0 0) (.slice none 0 0) (.slice none 0 0) (.slice none 0 0) (.slice none 0 0)
def decW (w : World) (s : ByteArray) : World := ((((w.alloc (.cells #[.string s] 9)).alloc (.cells #[.slice none 0 0, .slice none 0 0, .slice none 0 0, .slice none 0 0, .slice none 0 0] 28)).alloc (.cells #[.slice none 0 0, .slice none 0 0, .slice none 0 0, .slice none 0 0, .slice none 0 0] 28)))
theorem decW_eq (w : World) (s : ByteArray) : ((((w.alloc (.cells #[.string s] 9)).alloc (.cells #[.slice none 0 0, .slice none 0 0, .slice none 0 0, .slice none 0 0, .slice none 0 0] 28)).alloc (.cells #[.slice none 0 0, .slice none 0 0, .slice none 0 0, .slice none 0 0, .slice none 0 0] 28))) = decW w s := rfl
theorem decW_facts (w : World) (s : ByteArray) : (decW w s).cell? ⟨w.heap.size, 0, none⟩ = some (.string s) ∧ Box5 (decW w s) (w.heap.size + 1) (.slice none 0 0) (.slice none 0 0) (.slice none 0 0) (.slice none 0 0) (.slice none 0 0) ∧ Box5 (decW w s) (w.heap.size + 2) (.slice none 0 0) (.slice none 0 0) (.slice none 0 0) (.slice none 0 0) (.slice none 0 0) ∧ Gr w (decW w s) ∧ (decW w s).heap.size = w.heap.size + 3 := by
  unfold decW
  refine ⟨by simp [go_sem], ⟨?_, ?_, ?_, ?_, ?_, ?_, ?_, ?_, ?_, ?_⟩, ⟨?_, ?_, ?_, ?_, ?_, ?_, ?_, ?_, ?_, ?_⟩, (((Gr.refl _).alloc _).alloc _).alloc _, by simp⟩ <;> simp [go_sem]

set_option maxRecDepth 100000 in
set_option maxHeartbeats 2000000 in
theorem decode_own (s : ByteArray) (w : World) (hs : s.size ≤ maxLen) :
    Calls Tryd.prog 20 #[.string s] w (DecRG w (dec s.data.toList)) := by
  have hmf : ∀ (fn : Fn) (first cap : Array Value) (w : World), (Instr.makeFunc fn first cap).run Tryd.prog w = .ok (.func fn first cap) w := fun _ _ _ _ => rfl
  have HF := hide (decW_facts w s)
  generalize hD : dec s.data.toList = D
  go_enter Tryd.func20, Tryd.ntmps20
  go_wp2_with fail
  rw [decW_eq]
  obtain ⟨ht, hrb, hub, hgV, hsz⟩ := HF.out
  clear HF
  generalize decW w s = V at ht hrb hub hgV hsz ⊢
  have hwb : Box3 (V.alloc (.cells #[.int .i64 0, .int .i64 0, .int .i64 0] 83)) V.heap.size (.int .i64 0) (.int .i64 0) (.int .i64 0) := Box3.new V 83 (.int .i64 0) (.int .i64 0) (.int .i64 0)
  have hgr := Gr.alloc (Gr.refl V) (.cells #[.int .i64 0, .int .i64 0, .int .i64 0] 83)
  have hgs : (V.alloc (.cells #[.int .i64 0, .int .i64 0, .int .i64 0] 83)).heap.size = V.heap.size + 1 := by simp
  refine (refusal_any 40 #[.pointer (some ⟨w.heap.size, 0, none⟩), .pointer (some ⟨w.heap.size + 2, 0, none⟩)] V (decOk w D) (decBad w D) (fun w => rfl)
    ((work_dec s w.heap.size (w.heap.size + 2) _ _ _ _ _ _ (hgr.cell ht (by simp)) hs (hub.gr hgr)).mono ?_)).mono ?_
  · rw [hD]
    clear hD
    intro x w' h
    cases D with
    | inl u =>
      obtain ⟨v1, v2, v3, v4, v5, B, w1, rfl, hB, hu, hg, rfl⟩ := h
      refine ⟨?_, .inl ⟨rfl, v1, v2, v3, v4, v5, B, by omega, put5_unitG hu (by omega), put5_gr ((hgV.trans hgr).trans hg) (by omega), put5_box _ _ _ _ _ ((hub.gr hgr).gr hg), put5_box5 (by omega) ((hrb.gr hgr).gr hg)⟩⟩
      exact put5_box3 (by omega) (hwb.gr hg)
    | inr q =>
      obtain ⟨e, p⟩ := q
      obtain ⟨rfl, hg⟩ := h
      exact ⟨hwb.gr hg, .inr ⟨e, 0, p, rfl, rfl, rfl, (hgV.trans hgr).trans hg, (hub.gr hgr).gr hg, (hrb.gr hgr).gr hg⟩⟩
  · clear hwb hgr hgs ht hgV hub hrb hD hs
    rintro x w2 ⟨w1, hgc, hbS, h⟩
    cases D with
    | inl u =>
      rcases h with ⟨rfl, h⟩ | ⟨e, n, a, rfl, h⟩
      · obtain ⟨v1, v2, v3, v4, v5, B, hB, hu, hg, hbx, hrb⟩ := h
        have HU := hide (hu.kp (hgc.kp (by omega)))
        have HG := hide (gr_over hg hgc (by omega))
        have HBB := hide hB
        have hbx2 := hbx.gc hgc (by omega)
        have hrb2 := hrb.gc hgc (by omega)
        have hs2 : w.heap.size + 3 < w2.heap.size := by have h1 := hbS; have h2 := hgc.size; omega
        clear hu hg hbx hrb hgc hmf hB hsz
        obtain ⟨a1, c1, a2, c2, a3, c3, a4, c4, a5, c5, he⟩ := HU.out.shape
        simp only [Value.agg.injEq, Array.mk.injEq, List.cons.injEq, and_true] at he
        obtain ⟨rfl, rfl, rfl, rfl, rfl⟩ := he
        have hg2 := Gr.alloc (Gr.refl w2) (.cells #[.int .i64 0, .int .i64 0, .int .i64 0] 83)
        have hb2 := Box3.new w2 83 (.int .i64 0) (.int .i64 0) (.int .i64 0)
        have HG2 := hide (HG.out.trans hg2)
        have HU2 := hide (HU.out.kp hg2.kp)
        obtain ⟨b0, b1, b2, b3, b4, d0, d1, d2, d3, d4⟩ := hbx2.gr hg2
        have HRX := hide (hrb2.gr hg2)
        obtain ⟨r0, r1, r2, r3, r4, s0, s1, s2, s3, s4⟩ := HRX.out
        have he0 := hb2.1
        have he2 := hb2.2.2.1
        have hn1 : ¬ w2.heap.size = w.heap.size + 1 := by omega
        have hn2 : ¬ w.heap.size + 1 = w2.heap.size := by omega
        clear hbx2 hrb2 hg2 hb2 HG d0 d1 d2 d3 d4 HU
        go_wp2
        generalize w2.alloc (.cells #[.int .i64 0, .int .i64 0, .int .i64 0] 83) = W3 at b0 b1 b2 b3 b4 r0 r1 r2 r3 r4 s0 s1 s2 s3 s4 he0 he2 HG2 HRX HU2 ⊢
        go_region_held3 (fun w' => w'.cell? ⟨w2.heap.size, 0, none⟩ = some (.int .i64 0) ∧ w'.cell? ⟨w2.heap.size, 2, none⟩ = some (.int .i64 0) ∧ w'.cell? ⟨w.heap.size + 2, 0, none⟩ = some (.slice a1 u.shapes.length c1) ∧ w'.cell? ⟨w.heap.size + 2, 1, none⟩ = some (.slice a2 u.consts.length c2) ∧ w'.cell? ⟨w.heap.size + 2, 2, none⟩ = some (.slice a3 u.funcs.length c3) ∧ w'.cell? ⟨w.heap.size + 2, 3, none⟩ = some (.slice a4 u.imports.length c4) ∧ w'.cell? ⟨w.heap.size + 2, 4, none⟩ = some (.slice a5 u.exports.length c5)) (go_keep) (fail)
        rw [put5_eq]
        have hry := put5_box (.slice a1 u.shapes.length c1) (.slice a2 u.consts.length c2) (.slice a3 u.funcs.length c3) (.slice a4 u.imports.length c4) (.slice a5 u.exports.length c5) HRX.out
        have HG3 := hide (put5_gr (b := w.heap.size + 1) (y0 := .slice a1 u.shapes.length c1) (y1 := .slice a2 u.consts.length c2) (y2 := .slice a3 u.funcs.length c3) (y3 := .slice a4 u.imports.length c4) (y4 := .slice a5 u.exports.length c5) HG2.out (by omega))
        have HU3 := hide (put5_unitG (b := w.heap.size + 1) (y0 := .slice a1 u.shapes.length c1) (y1 := .slice a2 u.consts.length c2) (y2 := .slice a3 u.funcs.length c3) (y3 := .slice a4 u.imports.length c4) (y4 := .slice a5 u.exports.length c5) HU2.out (by have := HBB.out; omega))
        clear b0 b1 b2 b3 b4 r0 r1 r2 r3 r4 s0 s1 s2 s3 s4 he0 he2 hn1 hn2 HG2 HU2 HRX
        generalize put5 W3 (w.heap.size + 1) (.slice a1 u.shapes.length c1) (.slice a2 u.consts.length c2) (.slice a3 u.funcs.length c3) (.slice a4 u.imports.length c4) (.slice a5 u.exports.length c5) = W4 at hry HG3 HU3 ⊢
        obtain ⟨r0, r1, r2, r3, r4, s0, s1, s2, s3, s4⟩ := (show Box5 W4.drew _ _ _ _ _ _ from hry)
        go_wp2
        exact bodyPost_ret (v := .tuple #[.agg #[.slice a1 u.shapes.length c1, .slice a2 u.consts.length c2, .slice a3 u.funcs.length c3, .slice a4 u.imports.length c4, .slice a5 u.exports.length c5], .int .i64 0, .int .i64 0]) (by simp [results, Tryd.results20, go_sem, r0, r1, r2, r3, r4]) rfl ⟨_, B, rfl, by have := HBB.out; omega, HU3.out.kp (Gr.drew (Gr.refl _)).kp, HG3.out.drew⟩
      · exact h.elim
    | inr q =>
      obtain ⟨e, p⟩ := q
      rcases h with ⟨rfl, h⟩ | ⟨e', n, a, rfl, h⟩
      · exact h.elim
      · obtain ⟨rfl, rfl, hg, hbx, hrb⟩ := h
        have HG := hide (gr_over hg hgc (by omega))
        have hbx2 := hbx.gc hgc (by omega)
        have hrb2 := hrb.gc hgc (by omega)
        have hs2 : w.heap.size + 3 < w2.heap.size := by have h1 := hbS; have h2 := hgc.size; omega
        clear hg hbx hrb hgc hmf hsz
        have hg2 := Gr.alloc (Gr.refl w2) (.cells #[.int .i64 e', .int .i64 n, .int .i64 (p : Int)] 83)
        have hb2 := Box3.new w2 83 (.int .i64 e') (.int .i64 n) (.int .i64 (p : Int))
        have HG2 := hide (HG.out.trans hg2)
        obtain ⟨b0, b1, b2, b3, b4, d0, d1, d2, d3, d4⟩ := hbx2.gr hg2
        have HRX := hide (hrb2.gr hg2)
        obtain ⟨r0, r1, r2, r3, r4, s0, s1, s2, s3, s4⟩ := HRX.out
        have he0 := hb2.1
        have he2 := hb2.2.2.1
        have hn1 : ¬ w2.heap.size = w.heap.size + 1 := by omega
        have hn2 : ¬ w.heap.size + 1 = w2.heap.size := by omega
        clear hbx2 hrb2 hg2 hb2 HG d0 d1 d2 d3 d4
        go_wp2
        generalize w2.alloc (.cells #[.int .i64 e', .int .i64 n, .int .i64 (p : Int)] 83) = W3 at b0 b1 b2 b3 b4 r0 r1 r2 r3 r4 s0 s1 s2 s3 s4 he0 he2 HG2 HRX ⊢
        go_region_held3 (fun w' => w'.cell? ⟨w2.heap.size, 0, none⟩ = some (.int .i64 e') ∧ w'.cell? ⟨w2.heap.size, 2, none⟩ = some (.int .i64 (p : Int)) ∧ w'.cell? ⟨w.heap.size + 2, 0, none⟩ = some (.slice none 0 0) ∧ w'.cell? ⟨w.heap.size + 2, 1, none⟩ = some (.slice none 0 0) ∧ w'.cell? ⟨w.heap.size + 2, 2, none⟩ = some (.slice none 0 0) ∧ w'.cell? ⟨w.heap.size + 2, 3, none⟩ = some (.slice none 0 0) ∧ w'.cell? ⟨w.heap.size + 2, 4, none⟩ = some (.slice none 0 0)) (go_keep) (fail)
        rw [put5_eq]
        have hry := put5_box (.slice none 0 0) (.slice none 0 0) (.slice none 0 0) (.slice none 0 0) (.slice none 0 0) HRX.out
        have HG3 := hide (put5_gr (b := w.heap.size + 1) (y0 := .slice none 0 0) (y1 := .slice none 0 0) (y2 := .slice none 0 0) (y3 := .slice none 0 0) (y4 := .slice none 0 0) HG2.out (by omega))
        clear b0 b1 b2 b3 b4 r0 r1 r2 r3 r4 s0 s1 s2 s3 s4 he0 he2 hn1 hn2 HG2 HRX
        generalize put5 W3 (w.heap.size + 1) (.slice none 0 0) (.slice none 0 0) (.slice none 0 0) (.slice none 0 0) (.slice none 0 0) = W4 at hry HG3 ⊢
        obtain ⟨r0, r1, r2, r3, r4, s0, s1, s2, s3, s4⟩ := (show Box5 W4.drew _ _ _ _ _ _ from hry)
        go_wp2
        exact bodyPost_ret (v := .tuple #[.agg #[.slice none 0 0, .slice none 0 0, .slice none 0 0, .slice none 0 0, .slice none 0 0], .int .i64 e', .int .i64 p]) (by simp [results, Tryd.results20, go_sem, r0, r1, r2, r3, r4]) rfl ⟨rfl, HG3.out.drew⟩
end Go.Proofs.YtkgncijcnlfhiaaDoor

namespace Go.Proofs.YtkgncijcnlfhiaaDoor
set_option linter.unusedVariables false
set_option linter.unusedSimpArgs false
open Go.RowKit

structure Ap (base : Nat) (e : TypeId) (n : Nat) (w : World) (v : Value) (w' : World) (v' : Value) (len : Nat) (xs : List Value) : Prop where
  own : w'.ownsRow base e n v' len xs
  frm : w.grownBy w' v.ownBlock
  lies : ∀ k, v'.ownBlock = some k → v.ownBlock = some k ∨ w.heap.size ≤ k

theorem cells_new (w : World) (ys : Array Value) (t : TypeId) : ∀ j u, ys.toList[j]? = some u → (w.alloc (.cells ys t)).cell? ((⟨w.heap.size, 0, none⟩ : Addr).add j) = some u := by
  intro j u hj
  have e : (⟨w.heap.size, 0, none⟩ : Addr).add j = ⟨w.heap.size, j, none⟩ := by simp [Addr.add]; try (intro h; exact h.symm)
  rw [e]
  have h := World.cell?_alloc_mark w ys t (0, 0) j
  exact h.trans (by rw [← Array.getElem?_toList]; exact hj)
section
variable {ops : Array Oper} {rest : List Oper} {o : Oper} {a : Act} {Q : Exit → Act → World → Prop}
/-- append of one element, whose cells lie in a block of their own -/
theorem wpList_append_vals (w : World) (hgd : o.guard = none) (s x : Operand) (t e : TypeId) (n bytes : Nat) (zero : Value) (inf : (Tryd.prog.info? e).map (fun i => (i.zero, i.size, i.bytes)) = some (some zero, n, bytes)) (ht : Tryd.prog.underlying t = some (.slice e)) (hzs : zero.cells.size = n) (hn : 0 < n) (hby : bytes ≤ 1000)
    (ho : o.op = .call { callee := .builtin .append, args := #[s, x], argTypes := #[t, t] })
    (base : Nat) (v : Value) (len : Nat) (xs : List Value) (hs : a.eval s = v) (hown : w.ownsRow base e n v len xs) (ys : Array Value) (hys : ys.size = n) (h1 : ∀ u ∈ ys.toList, u.oneCell' = true)
    (H : Nat) (hx : a.eval x = .slice (some ⟨H, 0, none⟩) 1 1) (hH : w.heap.size = H) (hlen : len ≤ 10000000) (hbase : base ≤ w.heap.size)
    (h : ∀ v' w', Ap base e n w v w' v' (len + 1) (xs ++ ys.toList) → wpList Tryd.prog ops Q rest (a.put o.dst v') w') :
    wpList Tryd.prog ops Q (o :: rest) a (w.alloc (.cells ys e)) := by
  subst hH
  obtain ⟨i0, hi, hz0, hz1, hz2⟩ := info_parts inf
  refine wpList_append_own_at _ hgd s x t ho base e i0 zero n bytes ht hi hz0 hz1 hz2 hzs hn v len xs hs (hown.alloc _) ⟨w.heap.size, 0, none⟩ 1 1 ys.toList hx (by rw [Array.length_toList, hys, Nat.one_mul]) (cells_new _ _ _) h1 (by unfold maxLen; omega) (Nat.le_trans (Nat.mul_le_mul (Nat.add_le_add_right hlen 1) hby) (by decide)) (by simp; omega) ?_
  intro v' w' k1 k2 _ k4
  refine h v' w' ⟨k1, (World.grownBy_alloc w _ _).trans k2, fun k hk => ?_⟩
  rcases k4 with e | e
  · exact .inl (e ▸ hk)
  · rw [hk] at e; simp at e; right; omega
end

end Go.Proofs.YtkgncijcnlfhiaaDoor

namespace Go.Proofs.YtkgncijcnlfhiaaDoor
set_option linter.unusedVariables false
set_option linter.unusedSimpArgs false
open Go.RowKit
def RIntsP (P : Nat → Prop) (w : World) (v : Value) (l : List Int) : Prop :=
  ∃ ao cap, v = .slice ao l.length cap ∧ l.length ≤ maxLen ∧ ∀ i y, l[i]? = some y → ∃ b off, ao = some ⟨b, off, none⟩ ∧ P b ∧ w.cell? ⟨b, off + i, none⟩ = some (.int .i64 y)
def RShapesP (P : Nat → Prop) (w : World) (v : Value) (l : List (List Int)) : Prop :=
  ∃ ao cap, v = .slice ao l.length cap ∧ l.length ≤ maxLen ∧ ∀ i x, l[i]? = some x → ∃ b off vx, ao = some ⟨b, off, none⟩ ∧ P b ∧ w.cell? ⟨b, off + i, none⟩ = some vx ∧ RIntsP P w vx x
def RCodeP (P : Nat → Prop) (w : World) (v : Value) (l : List PIns) : Prop :=
  ∃ ao cap, v = .slice ao l.length cap ∧ l.length ≤ maxLen ∧ ∀ i x, l[i]? = some x → ∃ b off, ao = some ⟨b, off, none⟩ ∧ P b ∧
    w.cell? ⟨b, off + i * 3, none⟩ = some (.int .i64 x.op) ∧ w.cell? ⟨b, off + i * 3 + 1, none⟩ = some (.int .i64 x.a) ∧ w.cell? ⟨b, off + i * 3 + 2, none⟩ = some (.int .i64 x.b)
def RFuncsP (P : Nat → Prop) (w : World) (v : Value) (l : List PFunc) : Prop :=
  ∃ ao cap, v = .slice ao l.length cap ∧ l.length ≤ maxLen ∧ ∀ i x, l[i]? = some x → ∃ b off vp vl vc, ao = some ⟨b, off, none⟩ ∧ P b ∧
    w.cell? ⟨b, off + i * 4, none⟩ = some vp ∧ w.cell? ⟨b, off + i * 4 + 1, none⟩ = some (.int .i64 x.result) ∧ w.cell? ⟨b, off + i * 4 + 2, none⟩ = some vl ∧ w.cell? ⟨b, off + i * 4 + 3, none⟩ = some vc ∧
    RIntsP P w vp x.params ∧ RIntsP P w vl x.locals ∧ RCodeP P w vc x.code
def RImportsP (P : Nat → Prop) (w : World) (v : Value) (l : List PImp) : Prop :=
  ∃ ao cap, v = .slice ao l.length cap ∧ l.length ≤ maxLen ∧ ∀ i x, l[i]? = some x → ∃ b off vs vp, ao = some ⟨b, off, none⟩ ∧ P b ∧
    w.cell? ⟨b, off + i * 3, none⟩ = some vs ∧ w.cell? ⟨b, off + i * 3 + 1, none⟩ = some vp ∧ w.cell? ⟨b, off + i * 3 + 2, none⟩ = some (.int .i64 x.result) ∧
    RText vs x.name ∧ RIntsP P w vp x.params
def RExportsP (P : Nat → Prop) (w : World) (v : Value) (l : List PExp) : Prop :=
  ∃ ao cap, v = .slice ao l.length cap ∧ l.length ≤ maxLen ∧ ∀ i x, l[i]? = some x → ∃ b off vs, ao = some ⟨b, off, none⟩ ∧ P b ∧
    w.cell? ⟨b, off + i * 2, none⟩ = some vs ∧ w.cell? ⟨b, off + i * 2 + 1, none⟩ = some (.int .i64 x.func) ∧ RText vs x.name

/-- such blocks have not turned, and are such ones again -/
def Stay (P P' : Nat → Prop) (w w' : World) : Prop := ∀ b, P b → b < w.heap.size → w'.heap[b]? = w.heap[b]? ∧ P' b
theorem Stay.cell {P P' : Nat → Prop} {w w' : World} (h : Stay P P' w w') {b o : Nat} {x : Value} (hb : P b) (hx : w.cell? ⟨b, o, none⟩ = some x) : w'.cell? ⟨b, o, none⟩ = some x ∧ P' b := by
  obtain ⟨h1, h2⟩ := h b hb (World.block_lt_of_cell? w _ hx)
  exact ⟨(World.cell?_of_block (a := ⟨b, o, none⟩) h1).trans hx, h2⟩
theorem RIntsP.stay {P P' : Nat → Prop} {w w' : World} {v : Value} {l : List Int} (h : RIntsP P w v l) (g : Stay P P' w w') : RIntsP P' w' v l := by
  obtain ⟨ao, cap, hv, hm, hc⟩ := h
  refine ⟨ao, cap, hv, hm, fun i x hi => ?_⟩
  obtain ⟨b, off, h1, h2, h3⟩ := hc i x hi
  exact ⟨b, off, h1, (g.cell h2 h3).2, (g.cell h2 h3).1⟩
theorem RCodeP.stay {P P' : Nat → Prop} {w w' : World} {v : Value} {l : List PIns} (h : RCodeP P w v l) (g : Stay P P' w w') : RCodeP P' w' v l := by
  obtain ⟨ao, cap, hv, hm, hc⟩ := h
  refine ⟨ao, cap, hv, hm, fun i x hi => ?_⟩
  obtain ⟨b, off, h1, h2, h3, h4, h5⟩ := hc i x hi
  exact ⟨b, off, h1, (g.cell h2 h3).2, (g.cell h2 h3).1, (g.cell h2 h4).1, (g.cell h2 h5).1⟩
theorem RShapesP.stay {P P' : Nat → Prop} {w w' : World} {v : Value} {l : List (List Int)} (h : RShapesP P w v l) (g : Stay P P' w w') : RShapesP P' w' v l := by
  obtain ⟨ao, cap, hv, hm, hc⟩ := h
  refine ⟨ao, cap, hv, hm, fun i x hi => ?_⟩
  obtain ⟨b, off, vx, h1, h2, h3, h4⟩ := hc i x hi
  exact ⟨b, off, vx, h1, (g.cell h2 h3).2, (g.cell h2 h3).1, h4.stay g⟩
theorem RFuncsP.stay {P P' : Nat → Prop} {w w' : World} {v : Value} {l : List PFunc} (h : RFuncsP P w v l) (g : Stay P P' w w') : RFuncsP P' w' v l := by
  obtain ⟨ao, cap, hv, hm, hc⟩ := h
  refine ⟨ao, cap, hv, hm, fun i x hi => ?_⟩
  obtain ⟨b, off, vp, vl, vc, h1, h2, h3, h4, h5, h6, h7, h8, h9⟩ := hc i x hi
  exact ⟨b, off, vp, vl, vc, h1, (g.cell h2 h3).2, (g.cell h2 h3).1, (g.cell h2 h4).1, (g.cell h2 h5).1, (g.cell h2 h6).1, h7.stay g, h8.stay g, h9.stay g⟩
theorem RImportsP.stay {P P' : Nat → Prop} {w w' : World} {v : Value} {l : List PImp} (h : RImportsP P w v l) (g : Stay P P' w w') : RImportsP P' w' v l := by
  obtain ⟨ao, cap, hv, hm, hc⟩ := h
  refine ⟨ao, cap, hv, hm, fun i x hi => ?_⟩
  obtain ⟨b, off, vs, vp, h1, h2, h3, h4, h5, h6, h7⟩ := hc i x hi
  exact ⟨b, off, vs, vp, h1, (g.cell h2 h3).2, (g.cell h2 h3).1, (g.cell h2 h4).1, (g.cell h2 h5).1, h6, h7.stay g⟩
theorem RExportsP.stay {P P' : Nat → Prop} {w w' : World} {v : Value} {l : List PExp} (h : RExportsP P w v l) (g : Stay P P' w w') : RExportsP P' w' v l := by
  obtain ⟨ao, cap, hv, hm, hc⟩ := h
  refine ⟨ao, cap, hv, hm, fun i x hi => ?_⟩
  obtain ⟨b, off, vs, h1, h2, h3, h4, h5⟩ := hc i x hi
  exact ⟨b, off, vs, h1, (g.cell h2 h3).2, (g.cell h2 h3).1, (g.cell h2 h4).1, h5⟩
theorem RIntsP.to {P : Nat → Prop} {w : World} {v : Value} {l : List Int} (h : RIntsP P w v l) : RIntsF 0 w v l := h.stay (P' := fun b => 0 ≤ b) fun _ _ _ => ⟨rfl, Nat.zero_le _⟩
theorem RShapesP.to {P : Nat → Prop} {w : World} {v : Value} {l : List (List Int)} (h : RShapesP P w v l) : RShapesF 0 w v l := h.stay (P' := fun b => 0 ≤ b) fun _ _ _ => ⟨rfl, Nat.zero_le _⟩
theorem RFuncsP.to {P : Nat → Prop} {w : World} {v : Value} {l : List PFunc} (h : RFuncsP P w v l) : RFuncsF 0 w v l := h.stay (P' := fun b => 0 ≤ b) fun _ _ _ => ⟨rfl, Nat.zero_le _⟩
theorem RImportsP.to {P : Nat → Prop} {w : World} {v : Value} {l : List PImp} (h : RImportsP P w v l) : RImportsF 0 w v l := h.stay (P' := fun b => 0 ≤ b) fun _ _ _ => ⟨rfl, Nat.zero_le _⟩
theorem RExportsP.to {P : Nat → Prop} {w : World} {v : Value} {l : List PExp} (h : RExportsP P w v l) : RExportsF 0 w v l := h.stay (P' := fun b => 0 ≤ b) fun _ _ _ => ⟨rfl, Nat.zero_le _⟩

/-- all but the row that grows (and, behind it, one block more) -/
def Bt (B : Nat) (v : Value) (b : Nat) : Prop := B ≤ b ∧ ¬ v.ownBlock = some b
/-- an element at its place -/
theorem flat_at {α : Type} {f : α → List Value} {n : Nat} (hf : ∀ x, (f x).length = n) : ∀ {l : List α} {i j : Nat} {x : α}, l[i]? = some x → j < n → (l.flatMap f)[i * n + j]? = (f x)[j]?
  | [], i, j, x, h, _ => by simp at h
  | a :: l, 0, j, x, h, hj => by
    simp only [List.getElem?_cons_zero, Option.some.injEq] at h
    subst h
    rw [List.flatMap_cons, Nat.zero_mul, Nat.zero_add, List.getElem?_append_left (by rw [hf]; exact hj)]
  | a :: l, i + 1, j, x, h, hj => by
    rw [List.getElem?_cons_succ] at h
    rw [List.flatMap_cons, List.getElem?_append_right (by rw [hf, Nat.add_mul]; omega), hf, show (i + 1) * n + j - n = i * n + j by rw [Nat.add_mul]; omega]
    exact flat_at hf h hj
theorem flat_size {α : Type} {f : α → List Value} {n : Nat} (hf : ∀ x, (f x).length = n) : ∀ (l : List α), (l.flatMap f).length = l.length * n
  | [] => by simp
  | a :: l => by rw [List.flatMap_cons, List.length_append, hf, flat_size hf l, List.length_cons, Nat.add_mul]; omega
theorem own_at {w : World} {B : Nat} {e : TypeId} {n len : Nat} {v : Value} {xs : List Value} (h : w.ownsRow B e n v len xs) {j : Nat} (hj : j < len * n) : ∃ g, v.ownBlock = some g ∧ B ≤ g ∧ (∃ cap, v = .slice (some ⟨g, 0, none⟩) len cap) ∧ w.cell? ⟨g, 0 + j, none⟩ = xs[j]? := by
  have h' := h
  rcases h.2 with ⟨rfl, rfl⟩ | ⟨g, cap, cur, rfl, hg, _⟩
  · simp at hj
  · exact ⟨g, rfl, hg, ⟨cap, rfl⟩, by rw [Nat.zero_add]; exact h'.cellAt j hj⟩
theorem own_form {w : World} {B : Nat} {e : TypeId} {n len : Nat} {v : Value} {xs : List Value} (h : w.ownsRow B e n v len xs) : (∃ ao cap, v = .slice ao len cap) ∧ len ≤ maxLen := by
  rcases h.2 with ⟨rfl, rfl⟩ | ⟨g, cap, cur, rfl, hg, _, h1, h2, _⟩
  · exact ⟨⟨none, 0, rfl⟩, by decide⟩
  · exact ⟨⟨_, _, rfl⟩, Nat.le_trans h1 h2⟩
structure BF where
  vp : Value
  vl : Value
  vc : Value
  f : PFunc
structure BI where
  vs : Value
  vp : Value
  i : PImp
/-- a row has grown by an element: what lies elsewhere has stayed -/
theorem Ap.stay {B : Nat} {e : TypeId} {n : Nat} {w w' : World} {v v' : Value} {len : Nat} {xs : List Value} (h : Ap B e n w v w' v' len xs) : Stay (Bt B v) (Bt B v') w w' := by
  intro b hb hl
  refine ⟨h.frm.block b hl (fun e => hb.2 e.symm), hb.1, fun e => ?_⟩
  rcases h.lies b e with k | k
  · exact hb.2 k
  · omega
theorem Stay.set {P P' : Nat → Prop} {w w' : World} {g o : Nat} {u : Value} (h : Stay P P' w w') (hg : ∀ b, P b → ¬ b = g) : Stay P P' w (w'.setCell ⟨g, o, none⟩ u) := by
  intro b hb hl
  exact ⟨by rw [Below.heap_setCell _ _ _ _ (hg b hb)]; exact (h b hb hl).1, (h b hb hl).2⟩
theorem Stay.gc {P : Nat → Prop} {w w' : World} {mb : Nat} (h : Gc mb w w') (hg : ∀ b, P b → ¬ b = mb) : Stay P P w w' := by
  intro b hb hl
  exact ⟨h.block b hl (by intro e; simp only [Option.some.injEq] at e; exact hg b hb e), hb⟩
theorem Stay.trans {P P' P'' : Nat → Prop} {w w' w'' : World} (h : Stay P P' w w') (k : Stay P' P'' w' w'') (hs : w.heap.size ≤ w'.heap.size) : Stay P P'' w w'' := by
  intro b hb hl
  obtain ⟨h1, h2⟩ := h b hb hl
  obtain ⟨k1, k2⟩ := k b h2 (Nat.lt_of_lt_of_le hl hs)
  exact ⟨k1.trans h1, k2⟩
end Go.Proofs.YtkgncijcnlfhiaaDoor

