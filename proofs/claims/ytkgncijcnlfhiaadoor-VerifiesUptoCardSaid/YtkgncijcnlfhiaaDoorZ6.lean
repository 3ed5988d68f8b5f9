import Derived.Test.YtkgncijcnlfhiaaDoorZ3
namespace Go.Proofs.YtkgncijcnlfhiaaDoor
set_option linter.unusedVariables false
set_option linter.unusedSimpArgs false
open Go.RowKit
attribute [local go_sem ↓] Go.wp_at_zero Go.wp_at_succ
def nextI (f : PFunc) (q : Nat) (i : PIns) : List Int := (nextP f q i).map fun o => match o with
  | none => -1
  | some t => (t : Int)
theorem jints_nil (w : World) : RInts w (.slice none 0 0) [] := ⟨none, 0, rfl, by decide, fun i h => by simp at h⟩
theorem jints_one {w : World} {b : Nat} {y : Int} (h : w.cell? ⟨b, 0, none⟩ = some (.int .i64 y)) : RInts w (.slice (some ⟨b, 0, none⟩) 1 1) [y] :=
  ⟨some ⟨b, 0, none⟩, 1, rfl, by simp [maxLen], fun i hi => ⟨b, 0, rfl, by
    obtain rfl : i = 0 := by simp at hi; omega
    simpa using h⟩⟩
theorem jints_two {w : World} {b : Nat} {y z : Int} (h : w.cell? ⟨b, 0, none⟩ = some (.int .i64 y)) (k : w.cell? ⟨b, 1, none⟩ = some (.int .i64 z)) : RInts w (.slice (some ⟨b, 0, none⟩) 2 2) [y, z] :=
  ⟨some ⟨b, 0, none⟩, 2, rfl, by simp [maxLen], fun i hi => ⟨b, 0, rfl, by
    rcases (show i = 0 ∨ i = 1 by simp at hi; omega) with rfl | rfl
    · simpa using h
    · simpa using k⟩⟩
def NextR (w : World) (l : List Int) (x : Ending) (w' : World) : Prop := ∃ v, x = .returned v ∧ RInts w' v l ∧ Gr w w' ∧ ∀ b, v.ownBlock = some b → w.heap.size ≤ b

set_option maxRecDepth 100000 in
set_option maxHeartbeats 2000000 in
theorem next_ref (f : PFunc) (q : Nat) (i : PIns) (hi : f.code[q]? = some i) (ha : i.op = 11 ∨ i.op = 12 → 0 ≤ i.a) (vp vl vc : Value) (w : World) (hp : RInts w vp f.params) (hl : RInts w vl f.locals) (hc : RCode w vc f.code) (hn : f.code.length ≤ 100000) :
    Calls Tryd.prog 113 #[.agg #[vp, .int .i64 f.result, vl, vc], .int .i64 (q : Int)] w (NextR w (nextI f q i)) := by
  obtain ⟨ap, cp, rfl⟩ := hp.shape
  obtain ⟨al, cl, rfl⟩ := hl.shape
  have hq : q < f.code.length := (List.getElem?_eq_some_iff.1 hi).1
  obtain ⟨ao, cc, rfl, hm, hcc⟩ := hc
  obtain ⟨b, off, rfl, k0, k1, k2⟩ := hcc q i hi
  have hga := Gr.alloc (Gr.refl w) (.cells #[.slice ap f.params.length cp, .int .i64 f.result, .slice al f.locals.length cl, .slice (some ⟨b, off, none⟩) f.code.length cc] 76)
  have k0 := hga.cell k0 (by simp)
  have k1 := hga.cell k1 (by simp)
  have k2 := hga.cell k2 (by simp)
  have hqi : (q : Int) < (f.code.length : Int) := by omega
  have hw : IntKind.i64.wrap ((q : Int) + 1) = (q : Int) + 1 := Go.IntWalk.i64_in _ (by omega)
  obtain ⟨op, ia, ib⟩ := i
  simp only at k0 k1 k2 ha
  clear hcc hm hp hl hi hga
  by_cases hb : q + 1 = f.code.length
  · have hbi : (q : Int) + 1 = (f.code.length : Int) := by omega
    have hbb : ((q : Int) + 1 == (f.code.length : Int)) = true := by simpa using hbi
    have HB : Hid (¬ q + 1 < f.code.length) := hide (by omega)
    clear hb hbi
    by_cases h11 : op = 11
    · subst h11
      have HN : Hid (nextI f q ⟨11, ia, ib⟩ = [ia]) := hide (by simp [nextI, nextP]; have := ha (.inl rfl); omega)
      go_enter Tryd.func113, Tryd.ntmps113
      go_wp2_with fail
      go_ret
      exact ⟨_, rfl, by rw [HN.out]; exact jints_one (by simp [go_sem]), by first | exact ((Gr.refl w).alloc _).alloc _ | exact (((Gr.refl w).alloc _).alloc _).alloc _, fun b hb => by simp [Value.ownBlock] at hb <;> omega⟩
    by_cases h14 : op = 14
    · subst h14
      have HN : Hid (nextI f q ⟨14, ia, ib⟩ = []) := hide (by simp [nextI, nextP])
      go_enter Tryd.func113, Tryd.ntmps113
      go_wp2_with fail
      go_ret
      exact ⟨_, rfl, by rw [HN.out]; exact jints_nil _, by first | exact ((Gr.refl w).alloc _).alloc _ | exact (((Gr.refl w).alloc _).alloc _).alloc _, fun b hb => by simp [Value.ownBlock] at hb <;> omega⟩
    by_cases h12 : op = 12
    · subst h12
      have HN : Hid (nextI f q ⟨12, ia, ib⟩ = [-1, ia]) := hide (by simp [nextI, nextP, HB.out]; have := ha (.inr rfl); omega)
      go_enter Tryd.func113, Tryd.ntmps113
      go_wp2_with fail
      go_ret
      exact ⟨_, rfl, by rw [HN.out]; exact jints_two (by simp [go_sem]) (by simp [go_sem]), by first | exact ((Gr.refl w).alloc _).alloc _ | exact (((Gr.refl w).alloc _).alloc _).alloc _, fun b hb => by simp [Value.ownBlock] at hb <;> omega⟩
    have HN : Hid (nextI f q ⟨op, ia, ib⟩ = [-1]) := hide (by simp [nextI, nextP, HB.out, h11, h14, h12])
    go_enter Tryd.func113, Tryd.ntmps113
    go_wp2_with fail
    go_ret
    exact ⟨_, rfl, by rw [HN.out]; exact jints_one (by simp [go_sem]), by first | exact ((Gr.refl w).alloc _).alloc _ | exact (((Gr.refl w).alloc _).alloc _).alloc _, fun b hb => by simp [Value.ownBlock] at hb <;> omega⟩
  · have hbi : ¬ (q : Int) + 1 = (f.code.length : Int) := by omega
    have hbb : ((q : Int) + 1 == (f.code.length : Int)) = false := by rw [beq_eq_false_iff_ne]; exact hbi
    have HB : Hid (q + 1 < f.code.length) := hide (by omega)
    clear hb
    by_cases h11 : op = 11
    · subst h11
      have HN : Hid (nextI f q ⟨11, ia, ib⟩ = [ia]) := hide (by simp [nextI, nextP]; have := ha (.inl rfl); omega)
      go_enter Tryd.func113, Tryd.ntmps113
      go_wp2_with fail
      go_ret
      exact ⟨_, rfl, by rw [HN.out]; exact jints_one (by simp [go_sem]), by first | exact ((Gr.refl w).alloc _).alloc _ | exact (((Gr.refl w).alloc _).alloc _).alloc _, fun b hb => by simp [Value.ownBlock] at hb <;> omega⟩
    by_cases h14 : op = 14
    · subst h14
      have HN : Hid (nextI f q ⟨14, ia, ib⟩ = []) := hide (by simp [nextI, nextP])
      go_enter Tryd.func113, Tryd.ntmps113
      go_wp2_with fail
      go_ret
      exact ⟨_, rfl, by rw [HN.out]; exact jints_nil _, by first | exact ((Gr.refl w).alloc _).alloc _ | exact (((Gr.refl w).alloc _).alloc _).alloc _, fun b hb => by simp [Value.ownBlock] at hb <;> omega⟩
    by_cases h12 : op = 12
    · subst h12
      have HN : Hid (nextI f q ⟨12, ia, ib⟩ = [((q : Int) + 1), ia]) := hide (by simp [nextI, nextP, HB.out]; have := ha (.inr rfl); omega)
      go_enter Tryd.func113, Tryd.ntmps113
      go_wp2_with fail
      go_ret
      exact ⟨_, rfl, by rw [HN.out]; exact jints_two (by simp [go_sem]) (by simp [go_sem]), by first | exact ((Gr.refl w).alloc _).alloc _ | exact (((Gr.refl w).alloc _).alloc _).alloc _, fun b hb => by simp [Value.ownBlock] at hb <;> omega⟩
    have HN : Hid (nextI f q ⟨op, ia, ib⟩ = [((q : Int) + 1)]) := hide (by simp [nextI, nextP, HB.out, h11, h14, h12])
    go_enter Tryd.func113, Tryd.ntmps113
    go_wp2_with fail
    go_ret
    exact ⟨_, rfl, by rw [HN.out]; exact jints_one (by simp [go_sem]), by first | exact ((Gr.refl w).alloc _).alloc _ | exact (((Gr.refl w).alloc _).alloc _).alloc _, fun b hb => by simp [Value.ownBlock] at hb <;> omega⟩
end Go.Proofs.YtkgncijcnlfhiaaDoor

namespace Go.Proofs.YtkgncijcnlfhiaaDoor
set_option linter.unusedVariables false
set_option linter.unusedSimpArgs false
open Go.RowKit
attribute [local go_sem ↓] Go.wp_at_zero Go.wp_at_succ
theorem kinds_same (v : Value) (w : World) : Calls Tryd.prog 170 #[v] w fun x w' => x = .returned v ∧ w' = w := by
  go_enter Tryd.func170, Tryd.ntmps170
  go_wp2
  go_ret
  exact ⟨rfl, rfl⟩
/-- the scope, and what it is refused by, in boxes -/
def scW (w : World) (x0 x1 x2 x3 x4 x5 x6 x7 : Value) (n a : Int) : World := (w.alloc (.cells #[x0, x1, x2, x3, x4, x5, x6, x7] 167)).alloc (.cells #[.int .i64 10, .int .i64 n, .int .i64 a] 83)
theorem scW_gr (w : World) (x0 x1 x2 x3 x4 x5 x6 x7 : Value) (n a : Int) : Gr w (scW w x0 x1 x2 x3 x4 x5 x6 x7 n a) := ((Gr.refl w).alloc _).alloc _

set_option maxRecDepth 100000 in
set_option maxHeartbeats 1000000 in
theorem slot_any (sl : List Int) (k : Nat) (x0 x1 x2 x3 x4 vs x6 x7 : Value) (n a : Int) (w : World) (hR : RInts w vs sl) :
    Calls Tryd.prog 171 #[.agg #[x0, x1, x2, x3, x4, vs, x6, x7], .int .i64 (k : Int), .agg #[.int .i64 10, .int .i64 n, .int .i64 a]] w fun x w' => x = endsO sl[k]? n a ∧ Gr w w' := by
  obtain ⟨ao, cap, rfl, hm, hc⟩ := hR
  unfold maxLen at hm
  have HC := hide hc
  clear hc
  by_cases hl : k < sl.length
  · obtain ⟨b, off, rfl, hcell⟩ := HC.out k hl
    have HS : Hid (sl[k]? = some (sl.getD k 0)) := hide (by rw [List.getD_eq_getElem?_getD, List.getElem?_eq_getElem hl]; rfl)
    generalize sl.getD k 0 = y at hcell HS
    have hd : (k : Int) < (sl.length : Int) := by omega
    have hk : ∀ w', Gr (scW w x0 x1 x2 x3 x4 (.slice (some ⟨b, off, none⟩) sl.length cap) x6 x7 n a) w' → w'.cell? ⟨b, off + k, none⟩ = some (.int .i64 y) ∧ w'.cell? ⟨w.heap.size, 5, none⟩ = some (.slice (some ⟨b, off, none⟩) sl.length cap) := fun w' h => ⟨h.cell ((scW_gr w x0 x1 x2 x3 x4 (.slice (some ⟨b, off, none⟩) sl.length cap) x6 x7 n a).cell hcell (by simp)) (by simp), h.cell (by simp [scW, go_sem]) (by simp)⟩
    unfold scW at hk
    clear HC hcell
    go_enter Tryd.func171, Tryd.ntmps171
    go_wp2_with ((go_at_call 76; refine (unless3_yes _ _ _ _).mono ?_; rintro e w' ⟨rfl, hg'⟩); obtain ⟨hc1, hc2⟩ := hk w' hg')
    go_ret
    exact ⟨by rw [HS.out]; rfl, (by repeat (first | exact Gr.refl _ | assumption | refine Gr.drew ?_ | refine Gr.alloc ?_ _ | refine Gr.trans ?_ (by assumption)))⟩
  · have HS : Hid (sl[k]? = none) := hide (List.getElem?_eq_none (by omega))
    have hd : ¬ (k : Int) < (sl.length : Int) := by omega
    clear HC
    go_enter Tryd.func171, Tryd.ntmps171
    go_wp2_with ((go_at_call 76; refine (unless3_no _ _ _ _).mono ?_; rintro e w' ⟨rfl, hg'⟩))
    exact ⟨rfl, by rw [HS.out]; rfl, (by repeat (first | exact Gr.refl _ | assumption | refine Gr.drew ?_ | refine Gr.alloc ?_ _ | refine Gr.trans ?_ (by assumption)))⟩

/-- a list, or it gives up -/
def EndsL (o : Option (List Int)) (n a : Int) (W w : World) (x : Ending) (w' : World) : Prop := Gr w w' ∧ match o with
  | none => x = .panicked (thr3 10 n a)
  | some l => ∃ v, x = .returned v ∧ RInts W v l
def shapeP (u : PUnit) (k : Int) : Option (List Int) := if 1 ≤ k then u.shapes[(k - 1).toNat]? else none

set_option maxRecDepth 100000 in
set_option maxHeartbeats 1000000 in
theorem fields_any (u : PUnit) (k : Int) (hk0 : 0 ≤ k) (hk1 : k ≤ 65535) (v1 x1 x2 x3 x4 x5 x6 x7 : Value) (n a : Int) (W w : World) (hR : RShapes W v1 u.shapes) (hW : Gr W w) :
    Calls Tryd.prog 174 #[.agg #[v1, x1, x2, x3, x4, x5, x6, x7], .int .i64 k, .agg #[.int .i64 10, .int .i64 n, .int .i64 a]] w (EndsL (shapeP u k) n a W w) := by
  obtain ⟨ao, cap, rfl, hm, hc⟩ := hR
  unfold maxLen at hm
  have HC := hide hc
  clear hc
  by_cases h1 : 1 ≤ k
  · obtain ⟨j, rfl⟩ : ∃ j : Nat, k = (j : Int) + 1 := ⟨(k - 1).toNat, by omega⟩
    have hd1 : decide ((1 : Int) ≤ (j : Int) + 1) = true := by simp; omega
    by_cases hl : j < u.shapes.length
    · obtain ⟨s, hs⟩ := getElem?_lt hl
      have HS : Hid (shapeP u ((j : Int) + 1) = some s) := hide (by unfold shapeP; rw [if_pos h1, ← hs]; congr 1; omega)
      obtain ⟨b, off, vx, rfl, hcell, hRx⟩ := HC.out j s hs
      obtain ⟨ax, cx, rfl⟩ := hRx.shape
      have HRx := hide hRx
      have hd2 : decide ((j : Int) + 1 ≤ (u.shapes.length : Int)) = true := by simp; omega
      have hd3 : (j : Int) < (u.shapes.length : Int) := by omega
      have hw : IntKind.i64.wrap ((j : Int) + 1 - 1) = (j : Int) := by rw [Go.IntWalk.i64_in _ (by omega)]; omega
      have hk : ∀ w', Gr (scW w (.slice (some ⟨b, off, none⟩) u.shapes.length cap) x1 x2 x3 x4 x5 x6 x7 n a) w' → w'.cell? ⟨b, off + j, none⟩ = some (.slice ax s.length cx) ∧ w'.cell? ⟨w.heap.size, 0, none⟩ = some (.slice (some ⟨b, off, none⟩) u.shapes.length cap) := fun w' h => ⟨h.cell ((scW_gr w (.slice (some ⟨b, off, none⟩) u.shapes.length cap) x1 x2 x3 x4 x5 x6 x7 n a).cell (hW.cell hcell (by simp)) (by simp)) (by simp), h.cell (by simp [scW, go_sem]) (by simp)⟩
      unfold scW at hk
      clear HC hcell hs hRx
      go_enter Tryd.func174, Tryd.ntmps174
      go_wp2_with ((go_at_call 76; refine (unless3_yes _ _ _ _).mono ?_; rintro e w' ⟨rfl, hg'⟩); obtain ⟨hc1, hc2⟩ := hk w' hg')
      go_ret
      have HW := hide hW
      clear hW
      have hG : Gr w w' := (by repeat (first | exact Gr.refl _ | assumption | refine Gr.drew ?_ | refine Gr.alloc ?_ _ | refine Gr.trans ?_ (by assumption)))
      exact ⟨hG, by rw [HS.out]; exact ⟨_, rfl, HRx.out⟩⟩
    · have HS : Hid (shapeP u ((j : Int) + 1) = none) := hide (by unfold shapeP; rw [if_pos h1, List.getElem?_eq_none (by omega)])
      have hd2 : decide ((j : Int) + 1 ≤ (u.shapes.length : Int)) = false := by simp; omega
      clear HC
      go_enter Tryd.func174, Tryd.ntmps174
      go_wp2_with ((go_at_call 76; refine (unless3_no _ _ _ _).mono ?_; rintro e w' ⟨rfl, hg'⟩))
      clear hW
      exact ⟨rfl, (by repeat (first | exact Gr.refl _ | assumption | refine Gr.drew ?_ | refine Gr.alloc ?_ _ | refine Gr.trans ?_ (by assumption))), by rw [HS.out]⟩
  · have HS : Hid (shapeP u k = none) := hide (by unfold shapeP; rw [if_neg h1])
    have hd1 : decide ((1 : Int) ≤ k) = false := by simp; omega
    clear HC
    go_enter Tryd.func174, Tryd.ntmps174
    go_wp2_with ((go_at_call 76; refine (unless3_no _ _ _ _).mono ?_; rintro e w' ⟨rfl, hg'⟩))
    clear hW
    exact ⟨rfl, (by repeat (first | exact Gr.refl _ | assumption | refine Gr.drew ?_ | refine Gr.alloc ?_ _ | refine Gr.trans ?_ (by assumption))), by rw [HS.out]⟩
end Go.Proofs.YtkgncijcnlfhiaaDoor

namespace Go.Proofs.YtkgncijcnlfhiaaDoor
set_option linter.unusedVariables false
set_option linter.unusedSimpArgs false
open Go.RowKit
attribute [local go_sem ↓] Go.wp_at_zero Go.wp_at_succ
def fiW (w : World) (x0 x1 x2 x3 x4 x5 x6 x7 : Value) (i : PIns) (n a : Int) : World := ((w.alloc (.cells #[x0, x1, x2, x3, x4, x5, x6, x7] 167)).alloc (.cells #[.int .i64 i.op, .int .i64 i.a, .int .i64 i.b] 91)).alloc (.cells #[.int .i64 10, .int .i64 n, .int .i64 a] 83)
theorem fiW_gr (w : World) (x0 x1 x2 x3 x4 x5 x6 x7 : Value) (i : PIns) (n a : Int) : Gr w (fiW w x0 x1 x2 x3 x4 x5 x6 x7 i n a) := (((Gr.refl w).alloc _).alloc _).alloc _
def fieldP (u : PUnit) (i : PIns) : Option Int := (shapeP u i.a).bind fun s => s[i.b.toNat]?

set_option maxRecDepth 100000 in
set_option maxHeartbeats 1000000 in
theorem field_any (u : PUnit) (i : PIns) (ha0 : 0 ≤ i.a) (ha1 : i.a ≤ 65535) (hb0 : 0 ≤ i.b) (hb1 : i.b ≤ 65535) (v1 x1 x2 x3 x4 x5 x6 x7 : Value) (n a : Int) (W w : World) (hR : RShapes W v1 u.shapes) (hW : Gr W w) :
    Calls Tryd.prog 175 #[.agg #[v1, x1, x2, x3, x4, x5, x6, x7], .agg #[.int .i64 i.op, .int .i64 i.a, .int .i64 i.b], .agg #[.int .i64 10, .int .i64 n, .int .i64 a]] w fun x w' => x = endsO (fieldP u i) n a ∧ Gr w w' := by
  have HR := hide hR
  obtain ⟨ao, cap, rfl⟩ := hR.shape
  have HF := hide (fields_any u i.a ha0 ha1 (.slice ao u.shapes.length cap) x1 x2 x3 x4 x5 x6 x7 n a W _ HR.out (hW.trans (fiW_gr w (.slice ao u.shapes.length cap) x1 x2 x3 x4 x5 x6 x7 i n a)))
  have hk : ∀ w', Gr (fiW w (.slice ao u.shapes.length cap) x1 x2 x3 x4 x5 x6 x7 i n a) w' → w'.cell? ⟨w.heap.size + 1, 2, none⟩ = some (.int .i64 i.b) ∧ w'.cell? ⟨w.heap.size + 2, 0, none⟩ = some (.int .i64 10) ∧ w'.cell? ⟨w.heap.size + 2, 1, none⟩ = some (.int .i64 n) ∧ w'.cell? ⟨w.heap.size + 2, 2, none⟩ = some (.int .i64 a) := fun w' h => ⟨h.cell (by simp [fiW, go_sem]) (by simp), h.cell (by simp [fiW, go_sem]) (by simp), h.cell (by simp [fiW, go_sem]) (by simp), h.cell (by simp [fiW, go_sem]) (by simp)⟩
  have HG0 := hide (fiW_gr w (.slice ao u.shapes.length cap) x1 x2 x3 x4 x5 x6 x7 i n a)
  have HQ : Hid (fieldP u i = (shapeP u i.a).bind fun s => s[i.b.toNat]?) := hide rfl
  generalize hsp : shapeP u i.a = S at HF HQ
  clear hsp hR
  unfold fiW at HF hk HG0
  obtain ⟨j, hj⟩ : ∃ j : Nat, i.b = (j : Int) := ⟨i.b.toNat, by omega⟩
  rw [hj] at HQ HF hk HG0 ⊢
  simp only [Int.toNat_natCast] at HQ
  generalize fieldP u i = R at HQ ⊢
  have hjb : (j : Int) ≤ 65535 := by omega
  clear hj hb0 hb1
  cases S with
  | none =>
    go_enter Tryd.func175, Tryd.ntmps175
    go_wp2_with fail
    refine HF.out.mono ?_
    rintro x w1 ⟨hg, rfl⟩
    exact ⟨rfl, by rw [HQ.out]; rfl, HG0.out.trans hg⟩
  | some s =>
    go_enter Tryd.func175, Tryd.ntmps175
    go_wp2_with fail
    refine HF.out.mono ?_
    rintro x w1 ⟨hg, v, rfl, hrv⟩
    obtain ⟨c2, e0, e1, e2⟩ := hk w1 hg
    have hGw := HG0.out.trans hg
    clear HF HG0 hk hg
    obtain ⟨ax, cx, rfl, hm, hc⟩ := hrv.gr (hW.trans hGw)
    clear hrv
    unfold maxLen at hm
    have HC := hide hc
    clear hc
    by_cases hl : j < s.length
    · obtain ⟨b, off, rfl, hcell⟩ := HC.out j hl
      have HS : Hid (R = some (s.getD j 0)) := hide (by rw [HQ.out, List.getD_eq_getElem?_getD]; simp [List.getElem?_eq_getElem hl])
      generalize s.getD j 0 = y at hcell HS
      have hd : (j : Int) < (s.length : Int) := by omega
      have hk1 : ∀ w', Gr w1 w' → w'.cell? ⟨b, off + j, none⟩ = some (.int .i64 y) ∧ w'.cell? ⟨w.heap.size + 1, 2, none⟩ = some (.int .i64 (j : Int)) := fun w' h => ⟨h.cell hcell (by simp), h.cell c2 (by simp)⟩
      have HGw := hide hGw
      clear HC hcell hGw
      go_wp2_with ((go_at_call 76; refine (unless3_yes _ _ _ _).mono ?_; rintro e w' ⟨rfl, hg'⟩); obtain ⟨hc1, hc2⟩ := hk1 w' hg')
      go_ret
      exact ⟨by rw [HS.out]; rfl, HGw.out.trans hg'⟩
    · have HS : Hid (R = none) := hide (by rw [HQ.out]; simp [List.getElem?_eq_none (show s.length ≤ j by omega)])
      have hd : ¬ (j : Int) < (s.length : Int) := by omega
      have HGw := hide hGw
      clear HC hGw
      go_wp2_with ((go_at_call 76; refine (unless3_no _ _ _ _).mono ?_; rintro e w' ⟨rfl, hg'⟩))
      exact ⟨rfl, by rw [HS.out]; rfl, HGw.out.trans hg'⟩

theorem gr_drewN_ {w w' : World} (h : Gr w w') (n : Nat) : Gr w (w'.drewN n) := ⟨h.os, h.tape, h.output, h.size, h.block⟩
def sigP (u : PUnit) (k : Nat) : Option (List Int × Int) := match u.funcs[k]? with
  | some g => some (g.params, g.result)
  | none => u.imports[k - u.funcs.length]?.map fun g => (g.params, g.result)
def EndsS (o : Option (List Int × Int)) (n a : Int) (W w : World) (x : Ending) (w' : World) : Prop := Gr w w' ∧ match o with
  | none => x = .panicked (thr3 10 n a)
  | some (l, r) => ∃ v, x = .returned (.tuple #[v, .int .i64 r]) ∧ RInts W v l

set_option maxRecDepth 100000 in
set_option maxHeartbeats 2000000 in
theorem function_any (u : PUnit) (k : Nat) (hk1 : k ≤ 65535) (x0 x1 v3 v4 x4 x5 x6 x7 : Value) (n a : Int) (W w : World) (hF : RFuncs W v3 u.funcs) (hI : RImports W v4 u.imports) (hW : Gr W w) (hfl : u.funcs.length ≤ 1000000) (hil : u.imports.length ≤ 1000000) :
    Calls Tryd.prog 173 #[.agg #[x0, x1, v3, v4, x4, x5, x6, x7], .int .i64 (k : Int), .agg #[.int .i64 10, .int .i64 n, .int .i64 a]] w (EndsS (sigP u k) n a W w) := by
  obtain ⟨a3, c3, rfl, hm3, hc3⟩ := hF
  obtain ⟨a4, c4, rfl, hm4, hc4⟩ := hI
  have HC3 := hide hc3
  have HC4 := hide hc4
  have HG0 := hide (scW_gr w x0 x1 (.slice a3 u.funcs.length c3) (.slice a4 u.imports.length c4) x4 x5 x6 x7 n a)
  have hk : ∀ w', Gr (scW w x0 x1 (.slice a3 u.funcs.length c3) (.slice a4 u.imports.length c4) x4 x5 x6 x7 n a) w' → w'.cell? ⟨w.heap.size, 2, none⟩ = some (.slice a3 u.funcs.length c3) ∧ w'.cell? ⟨w.heap.size, 3, none⟩ = some (.slice a4 u.imports.length c4) := fun w' h => ⟨h.cell (by simp [scW, go_sem]) (by simp), h.cell (by simp [scW, go_sem]) (by simp)⟩
  have hw : IntKind.i64.wrap ((u.funcs.length : Int) + (u.imports.length : Int)) = (u.funcs.length : Int) + (u.imports.length : Int) := Go.IntWalk.i64_in _ (by omega)
  clear hc3 hc4 hm3 hm4
  by_cases h1 : k < u.funcs.length
  · obtain ⟨f, hf⟩ := getElem?_lt h1
    have HS : Hid (sigP u k = some (f.params, f.result)) := hide (by unfold sigP; rw [hf])
    obtain ⟨b, off, vp, vl, vc, rfl, f0, f1, _, _, hRp, _, _⟩ := HC3.out k f hf
    have HRp := hide hRp
    obtain ⟨ap, cp, rfl⟩ := hRp.shape
    have hd : decide ((k : Int) < (u.funcs.length : Int) + (u.imports.length : Int)) = true := by simp; omega
    have hd2 : decide ((k : Int) < (u.funcs.length : Int)) = true := by simp; omega
    have hd3 : (k : Int) < (u.funcs.length : Int) := by omega
    have hk2 : ∀ w', Gr (scW w x0 x1 (.slice (some ⟨b, off, none⟩) u.funcs.length c3) (.slice a4 u.imports.length c4) x4 x5 x6 x7 n a) w' → w'.cell? ⟨b, off + k * 4, none⟩ = some (.slice ap f.params.length cp) ∧ w'.cell? ⟨b, off + k * 4 + 1, none⟩ = some (.int .i64 f.result) := fun w' h => ⟨h.cell (HG0.out.cell (hW.cell f0 (by simp)) (by simp)) (by simp), h.cell (HG0.out.cell (hW.cell f1 (by simp)) (by simp)) (by simp)⟩
    unfold scW at hk hk2 HG0
    clear HC3 HC4 f0 f1 hf hRp
    go_enter Tryd.func173, Tryd.ntmps173
    go_wp2_with ((go_at_call 76; refine (unless3_yes _ _ _ _).mono ?_; rintro e w' ⟨rfl, hg'⟩); obtain ⟨hc1, hc2⟩ := hk w' hg'; obtain ⟨hc3, hc4⟩ := hk2 w' hg')
    go_quiet (fail)
    go_wp2_with fail
    go_ret2
    exact ⟨by first | exact HG0.out.trans hg' | exact gr_drewN_ (HG0.out.trans hg') _, by rw [HS.out]; exact ⟨_, rfl, HRp.out⟩⟩
  · have hd2 : decide ((k : Int) < (u.funcs.length : Int)) = false := by simp; omega
    have hfn : u.funcs[k]? = none := List.getElem?_eq_none (by omega)
    by_cases h2 : k - u.funcs.length < u.imports.length
    · obtain ⟨j, rfl⟩ : ∃ j, k = u.funcs.length + j := ⟨k - u.funcs.length, by omega⟩
      have h3 : j < u.imports.length := by omega
      obtain ⟨f, hf⟩ := getElem?_lt h3
      have HS : Hid (sigP u (u.funcs.length + j) = some (f.params, f.result)) := hide (by unfold sigP; rw [hfn]; simp only; rw [show u.funcs.length + j - u.funcs.length = j by omega, hf]; rfl)
      obtain ⟨b, off, vs, vp, rfl, f0, f1, f2, hRs, hRp⟩ := HC4.out j f hf
      have HRp := hide hRp
      obtain ⟨ap, cp, rfl⟩ := hRp.shape
      obtain ⟨ns, rfl, _, _⟩ := hRs
      have hcast : ((u.funcs.length + j : Nat) : Int) = (u.funcs.length : Int) + (j : Int) := by omega
      have hd : decide ((u.funcs.length : Int) + (j : Int) < (u.funcs.length : Int) + (u.imports.length : Int)) = true := by simp; omega
      rw [hcast] at hd2 ⊢
      have hw2 : IntKind.i64.wrap ((u.funcs.length : Int) + (j : Int) - (u.funcs.length : Int)) = (j : Int) := by rw [Go.IntWalk.i64_in _ (by omega)]; omega
      have hd3 : (j : Int) < (u.imports.length : Int) := by omega
      have hk2 : ∀ w', Gr (scW w x0 x1 (.slice a3 u.funcs.length c3) (.slice (some ⟨b, off, none⟩) u.imports.length c4) x4 x5 x6 x7 n a) w' → w'.cell? ⟨b, off + j * 3, none⟩ = some (.string ns) ∧ w'.cell? ⟨b, off + j * 3 + 1, none⟩ = some (.slice ap f.params.length cp) ∧ w'.cell? ⟨b, off + j * 3 + 2, none⟩ = some (.int .i64 f.result) := fun w' h => ⟨h.cell (HG0.out.cell (hW.cell f0 (by simp)) (by simp)) (by simp), h.cell (HG0.out.cell (hW.cell f1 (by simp)) (by simp)) (by simp), h.cell (HG0.out.cell (hW.cell f2 (by simp)) (by simp)) (by simp)⟩
      unfold scW at hk hk2 HG0
      clear HC3 HC4 f0 f1 f2 hf hRp hcast hfn h1 h2 h3 hk1
      go_enter Tryd.func173, Tryd.ntmps173
      go_wp2_with ((go_at_call 76; refine (unless3_yes _ _ _ _).mono ?_; rintro e w' ⟨rfl, hg'⟩); obtain ⟨hc1, hc2⟩ := hk w' hg'; obtain ⟨hc3, hc4, hc5⟩ := hk2 w' hg')
      go_quiet (fail)
      go_wp2_with fail
      go_ret2
      have hG1 := Gr.alloc (HG0.out.trans hg') (.cells #[.string ns, .slice ap f.params.length cp, .int .i64 f.result] 79)
      exact ⟨by first | exact hG1 | exact gr_drewN_ hG1 _, by rw [HS.out]; exact ⟨_, rfl, HRp.out⟩⟩
    · have HS : Hid (sigP u k = none) := hide (by unfold sigP; rw [hfn]; simp only; rw [List.getElem?_eq_none (by omega)]; rfl)
      have hd : decide ((k : Int) < (u.funcs.length : Int) + (u.imports.length : Int)) = false := by simp; omega
      unfold scW at HG0
      clear HC3 HC4 hk hfn
      go_enter Tryd.func173, Tryd.ntmps173
      go_wp2_with ((go_at_call 76; refine (unless3_no _ _ _ _).mono ?_; rintro e w' ⟨rfl, hg'⟩))
      exact ⟨rfl, HG0.out.trans hg', by rw [HS.out]⟩
end Go.Proofs.YtkgncijcnlfhiaaDoor

