import Derived.Test.YtkgncijcnlfhiaaDoorF3
import Derived.Test.YtkgncijcnlfhiaaDoorG2
import Derived.Test.YtkgncijcnlfhiaaDoorJ3
import Derived.Test.YtkgncijcnlfhiaaDoorH5
import Derived.Test.YtkgncijcnlfhiaaDoorZl
import Derived.Test.YtkgncijcnlfhiaaDoorZ6
namespace Go.Proofs.YtkgncijcnlfhiaaDoor
set_option linter.unusedVariables false
set_option linter.unusedSimpArgs false
open Go.RowKit
attribute [local go_sem ↓] Go.wp_at_zero Go.wp_at_succ
theorem eq_of_getD {l m : List Int} (hl : l.length = m.length) (h : ∀ j, j < l.length → l.getD j 0 = m.getD j 0) : l = m := by
  apply List.ext_getElem hl
  intro i h1 h2
  have := h i h1
  rw [List.getD_eq_getElem?_getD, List.getD_eq_getElem?_getD, List.getElem?_eq_getElem h1, List.getElem?_eq_getElem h2] at this
  exact this
set_option maxRecDepth 100000 in
set_option maxHeartbeats 1000000 in
theorem ref_same_ints (va vb : Value) (l m : List Int) (w : World) (ha : RInts w va l) (hb : RInts w vb m) :
    Calls Tryd.prog 109 #[va, vb] w fun x w' => x = .returned (.bool (decide (l = m))) ∧ Gr w w' := by
  have HA := hide ha
  have HBb := hide hb
  obtain ⟨a1, c1, rfl, hm, _⟩ := ha
  obtain ⟨a2, c2, rfl, hm2, _⟩ := hb
  unfold maxLen at hm hm2
  by_cases hlen : l.length = m.length
  · have hne : ((l.length : Int) != (m.length : Int)) = false := by simp [hlen]
    have hM : m.length = l.length := hlen.symm
    have HLen := hide hlen
    rw [hM] at hne ⊢
    clear hlen
    have HMM := hide hM
    clear hM
    go_enter Tryd.func109, Tryd.ntmps109
    go_wp2_with fail
    go_loopw [5] (fun i wr => ∃ k : Nat, i = .int .i64 k ∧ k ≤ l.length ∧ (∀ j, j < k → l.getD j 0 = m.getD j 0) ∧ Gr w wr) (fun i _ => l.length - (intOf i).toNat)
    case atStart => exact ⟨0, rfl, Nat.zero_le _, fun j h => by omega, Gr.refl _⟩
    case round =>
      obtain ⟨k, rfl, hk, hall, hg⟩ := hrel
      have HAll := hide hall
      clear hall
      by_cases hlt : k < l.length
      · obtain ⟨a1', c1', h1e, _, hc1⟩ := HA.out
        obtain ⟨a2', c2', h2e, _, hc2⟩ := HBb.out
        rw [HMM.out] at h2e hc2
        simp only [Value.slice.injEq, true_and] at h1e h2e
        obtain ⟨b1, o1, rfl, hx1⟩ := hc1 k hlt
        obtain ⟨b2, o2, rfl, hx2⟩ := hc2 k hlt
        obtain ⟨rfl, rfl⟩ := h1e
        obtain ⟨rfl, rfl⟩ := h2e
        have hy1 := hg.cell hx1 (by simp)
        have hy2 := hg.cell hx2 (by simp)
        have HX : ∀ x y, l.getD k 0 = x → m.getD k 0 = y → Hid (l.getD k 0 = x ∧ m.getD k 0 = y) := fun x y h1 h2 => hide ⟨h1, h2⟩
        obtain ⟨x, hx⟩ : ∃ x, l.getD k 0 = x := ⟨_, rfl⟩
        obtain ⟨y, hy⟩ : ∃ y, m.getD k 0 = y := ⟨_, rfl⟩
        have HXY := HX x y hx hy
        rw [hx] at hy1
        rw [hy] at hy2
        have HG := hide hg
        clear hc1 hc2 hx1 hx2 hg HA HBb HX hx hy
        by_cases hxy : x = y
        · have hb1 : (x != y) = false := by simp [hxy]
          have HA2 : Hid (∀ j, j < k + 1 → l.getD j 0 = m.getD j 0) := hide (fun j hj => by
            by_cases e : j = k
            · subst e; rw [HXY.out.1, HXY.out.2, hxy]
            · exact HAll.out j (by omega))
          clear hxy
          go_wp2_with fail
          go_quiet (fail)
          go_wp2_with fail
          exact ⟨⟨k + 1, by simp, hlt, HA2.out, gr_drewN HG.out _⟩, by simp [intOf]; omega⟩
        · have hb1 : (x != y) = true := by simp [hxy]
          have HD : Hid (decide (l = m) = false) := hide (by
            rw [decide_eq_false_iff_not]; intro e; subst e; exact hxy (HXY.out.1.symm.trans HXY.out.2))
          clear hxy
          go_wp2_with fail
          go_quiet (fail)
          go_wp2_with fail
          go_ret
          exact ⟨by rw [HD.out]; rfl, gr_drewN HG.out _⟩
      · have hkk : k = l.length := by omega
        subst hkk
        have HD : Hid (decide (l = m) = true) := hide (by rw [decide_eq_true_eq]; exact eq_of_getD HLen.out HAll.out)
        have HG := hide hg
        clear hg
        go_wp2_with fail
        go_ret
        exact ⟨by rw [HD.out]; rfl, HG.out⟩
  · have hne : ((l.length : Int) != (m.length : Int)) = true := by rw [bne_iff_ne]; omega
    have HD : Hid (decide (l = m) = false) := hide (by rw [decide_eq_false_iff_not]; intro e; subst e; exact hlen rfl)
    clear hlen
    go_enter Tryd.func109, Tryd.ntmps109
    go_wp2_with fail
    go_ret
    exact ⟨by rw [HD.out]; rfl, Gr.refl _⟩
end Go.Proofs.YtkgncijcnlfhiaaDoor

namespace Go.Proofs.YtkgncijcnlfhiaaDoor
set_option linter.unusedVariables false
set_option linter.unusedSimpArgs false
open Go.RowKit
structure LrAt (V0 wr : World) (sb tb N : Nat) (tv : Nat → Int) (vs : Nat → Value) (st : Nat → Option (List Int)) (dn : Nat → Bool) : Prop where
  gr : Gr V0 wr
  hsb : V0.heap.size ≤ sb
  htb : V0.heap.size ≤ tb
  ne : ¬ sb = tb
  sbk : ∃ S : Array Value, wr.heap[sb]? = some (.cells S 23 (0, 0)) ∧ S.size = N ∧ ∀ k, k < N → S[k]? = some (vs k)
  tbk : ∃ T : Array Value, wr.heap[tb]? = some (.cells T 3 (0, 0)) ∧ T.size = N ∧ ∀ k, k < N → T[k]? = some (.int .i64 (tv k))
  val : ∀ k, k < N → (tv k = 0 ∧ st k = none ∧ vs k = .slice none 0 0) ∨ ((tv k = 1 ∨ tv k = 2) ∧ ∃ s, st k = some s ∧ RIntsQ (fun b => ¬ b = sb ∧ ¬ b = tb) wr (vs k) s ∧ s.length ≤ 20)
  dnv : ∀ k, dn k = decide (k < N ∧ tv k = 2)
  out : ∀ k, N ≤ k → st k = none
theorem LrAt.tcell {V0 wr : World} {sb tb N : Nat} {tv : Nat → Int} {vs : Nat → Value} {st : Nat → Option (List Int)} {dn : Nat → Bool} (h : LrAt V0 wr sb tb N tv vs st dn) {k : Nat} (hk : k < N) : wr.cell? ⟨tb, k, none⟩ = some (.int .i64 (tv k)) ∧ wr.frozen? ⟨tb, k, none⟩ = false := by
  obtain ⟨T, h1, h2, h3⟩ := h.tbk
  exact ⟨by rw [heap_cell_ h1]; exact h3 k hk, heap_frozen_ h1⟩
theorem LrAt.scell {V0 wr : World} {sb tb N : Nat} {tv : Nat → Int} {vs : Nat → Value} {st : Nat → Option (List Int)} {dn : Nat → Bool} (h : LrAt V0 wr sb tb N tv vs st dn) {k : Nat} (hk : k < N) : wr.cell? ⟨sb, k, none⟩ = some (vs k) ∧ wr.frozen? ⟨sb, k, none⟩ = false := by
  obtain ⟨T, h1, h2, h3⟩ := h.sbk
  exact ⟨by rw [heap_cell_ h1]; exact h3 k hk, heap_frozen_ h1⟩
theorem LrAt.go {V0 wr w2 : World} {sb tb N : Nat} {tv : Nat → Int} {vs : Nat → Value} {st : Nat → Option (List Int)} {dn : Nat → Bool} (h : LrAt V0 wr sb tb N tv vs st dn) (g : Gr wr w2) : LrAt V0 w2 sb tb N tv vs st dn := by
  obtain ⟨S, h1, h2, h3⟩ := h.sbk
  obtain ⟨T, k1, k2, k3⟩ := h.tbk
  refine ⟨h.gr.trans g, h.hsb, h.htb, h.ne, ⟨S, (g.block _ (Array.getElem?_eq_some_iff.1 h1).1 (by simp)).trans h1, h2, h3⟩, ⟨T, (g.block _ (Array.getElem?_eq_some_iff.1 k1).1 (by simp)).trans k1, k2, k3⟩, fun k hk => ?_, h.dnv, h.out⟩
  rcases h.val k hk with e | ⟨e1, s, e2, e3, e4⟩
  · exact .inl e
  · exact .inr ⟨e1, s, e2, e3.mono fun b hb hl => ⟨g.block b hl (by simp), hb⟩, e4⟩
theorem gr_cell {W w : World} {g o : Nat} {v : Value} (h : Gr W w) (hg : W.heap.size ≤ g) : Gr W (w.setCell ⟨g, o, none⟩ v) :=
  ⟨h.os, h.tape, h.output, by simpa using h.size, fun i hi hne => by rw [Below.heap_setCell _ _ _ _ (by show i ≠ g; omega)]; exact h.block i hi hne⟩
theorem set_at {T : Array Value} {q : Nat} {v : Value} (hq : q < T.size) (k : Nat) : (T.setIfInBounds q v)[k]? = if k = q then some v else T[k]? := by
  rw [Array.getElem?_setIfInBounds]
  by_cases e : q = k
  · subst e; simp [hq]
  · rw [if_neg e, if_neg (fun h => e h.symm)]
/-- one is looked at -/
theorem LrAt.mark {V0 wr : World} {sb tb N : Nat} {tv : Nat → Int} {vs : Nat → Value} {st : Nat → Option (List Int)} {dn : Nat → Bool} (h : LrAt V0 wr sb tb N tv vs st dn) {q : Nat} (hq : q < N) (h1 : tv q = 1) :
    LrAt V0 (wr.setCell ⟨tb, q, none⟩ (.int .i64 2)) sb tb N (fun k => if k = q then 2 else tv k) vs st (fun j => decide (j = q) || dn j) := by
  obtain ⟨S, s1, s2, s3⟩ := h.sbk
  obtain ⟨T, k1, k2, k3⟩ := h.tbk
  have hne := h.ne
  refine ⟨gr_cell h.gr h.htb, h.hsb, h.htb, h.ne, ⟨S, (Below.heap_setCell _ _ _ _ hne).trans s1, s2, s3⟩, ⟨_, heap_setCell_same wr tb q _ _ _ k1, by simpa using k2, fun k hk => ?_⟩, fun k hk => ?_, fun k => ?_, h.out⟩
  · rw [set_at (by omega)]
    by_cases e : k = q
    · rw [if_pos e, if_pos e]
    · rw [if_neg e, if_neg e]; exact k3 k hk
  · rcases h.val k hk with ⟨e0, e1, e2⟩ | ⟨e1, s, e2, e3, e4⟩
    · have e : ¬ k = q := fun e => by rw [e, h1] at e0; cases e0
      exact .inl ⟨by rw [if_neg e]; exact e0, e1, e2⟩
    · refine .inr ⟨?_, s, e2, e3.mono fun b hb hl => ⟨Below.heap_setCell _ _ _ _ hb.2, hb⟩, e4⟩
      by_cases e : k = q
      · rw [if_pos e]; exact .inr rfl
      · rw [if_neg e]; exact e1
  · rw [h.dnv k]
    by_cases e : k = q
    · simp [e, hq]
    · simp [e]
/-- one is come to -/
theorem LrAt.come {V0 wr : World} {sb tb N : Nat} {tv : Nat → Int} {vs : Nat → Value} {st : Nat → Option (List Int)} {dn : Nat → Bool} (h : LrAt V0 wr sb tb N tv vs st dn) {q : Nat} (hq : q < N) (h0 : tv q = 0) {v : Value} {s : List Int} (hv : RIntsQ (fun b => ¬ b = sb ∧ ¬ b = tb) wr v s) (hs : s.length ≤ 20) :
    LrAt V0 ((wr.setCell ⟨tb, q, none⟩ (.int .i64 1)).setCell ⟨sb, q, none⟩ v) sb tb N (fun k => if k = q then 1 else tv k) (fun k => if k = q then v else vs k) (fun k => if k = q then some s else st k) dn := by
  obtain ⟨S, s1, s2, s3⟩ := h.sbk
  obtain ⟨T, k1, k2, k3⟩ := h.tbk
  have hne := h.ne
  have hne' : ¬ tb = sb := fun e => hne e.symm
  have s1' : (wr.setCell ⟨tb, q, none⟩ (.int .i64 1)).heap[sb]? = some (.cells S 23 (0, 0)) := (Below.heap_setCell _ _ _ _ hne).trans s1
  have k1' := heap_setCell_same wr tb q _ _ (.int .i64 1) k1
  have keep : ∀ b, (¬ b = sb ∧ ¬ b = tb) → ((wr.setCell ⟨tb, q, none⟩ (.int .i64 1)).setCell ⟨sb, q, none⟩ v).heap[b]? = wr.heap[b]? := fun b hb => (Below.heap_setCell _ _ _ _ hb.1).trans (Below.heap_setCell _ _ _ _ hb.2)
  refine ⟨gr_cell (gr_cell h.gr h.htb) h.hsb, h.hsb, h.htb, h.ne, ⟨_, heap_setCell_same _ sb q _ _ v s1', by simpa using s2, fun k hk => ?_⟩, ⟨_, (Below.heap_setCell _ _ _ _ hne').trans k1', by simpa using k2, fun k hk => ?_⟩, fun k hk => ?_, fun k => ?_, fun k hk => ?_⟩
  · rw [set_at (by omega)]
    by_cases e : k = q
    · rw [if_pos e, if_pos e]
    · rw [if_neg e, if_neg e]; exact s3 k hk
  · rw [set_at (by omega)]
    by_cases e : k = q
    · rw [if_pos e, if_pos e]
    · rw [if_neg e, if_neg e]; exact k3 k hk
  · by_cases e : k = q
    · refine .inr ⟨.inl (by rw [if_pos e]), s, by rw [if_pos e], ?_, hs⟩
      rw [if_pos e]
      exact hv.mono fun b hb hl => ⟨keep b hb, hb⟩
    · rcases h.val k hk with ⟨e0, e1, e2⟩ | ⟨e1, s', e2, e3, e4⟩
      · exact .inl ⟨by rw [if_neg e]; exact e0, by rw [if_neg e]; exact e1, by rw [if_neg e]; exact e2⟩
      · exact .inr ⟨by rw [if_neg e]; exact e1, s', by rw [if_neg e]; exact e2, by rw [if_neg e]; exact e3.mono fun b hb hl => ⟨keep b hb, hb⟩, e4⟩
  · rw [h.dnv k]
    by_cases e : k = q
    · subst e; simp [h0]
    · simp [e]
  · have e : ¬ k = q := by omega
    rw [if_neg e]; exact h.out k hk
/-- which waits -/
theorem LrAt.waits {V0 wr : World} {sb tb N : Nat} {tv : Nat → Int} {vs : Nat → Value} {st : Nat → Option (List Int)} {dn : Nat → Bool} (h : LrAt V0 wr sb tb N tv vs st dn) {k : Nat} (hk : k < N) : ((st k).isSome && !dn k) = decide (tv k = 1) := by
  rw [h.dnv k]
  rcases h.val k hk with ⟨e0, e1, _⟩ | ⟨e | e, s, e2, _⟩
  · rw [e1, e0]; rfl
  · rw [e2, e]; simp
  · rw [e2, e]; simp [hk]
theorem LrAt.least {V0 wr : World} {sb tb N : Nat} {tv : Nat → Int} {vs : Nat → Value} {st : Nat → Option (List Int)} {dn : Nat → Bool} (h : LrAt V0 wr sb tb N tv vs st dn) {q : Nat} (hq : q < N) (h1 : tv q = 1) (hm : ∀ j, j < q → ¬ tv j = 1) : leastP N st dn = some q := by
  rw [leastP_some]
  exact ⟨hq, by rw [h.waits hq, h1]; rfl, fun k hk => by rw [h.waits (by omega)]; simpa using hm k hk⟩
theorem LrAt.no {V0 wr : World} {sb tb N : Nat} {tv : Nat → Int} {vs : Nat → Value} {st : Nat → Option (List Int)} {dn : Nat → Bool} (h : LrAt V0 wr sb tb N tv vs st dn) (hm : ∀ j, j < N → ¬ tv j = 1) : leastP N st dn = none := by
  rw [leastP_none]
  exact fun k hk => by rw [h.waits hk]; simpa using hm k hk
/-- as it begins -/
theorem LrAt.start {V0 wr : World} {sb tb N : Nat} (gr : Gr V0 wr) (hsb : V0.heap.size ≤ sb) (htb : V0.heap.size ≤ tb) (ne : ¬ sb = tb) (hN : 0 < N) {S T : Array Value} (h1 : wr.heap[sb]? = some (.cells S 23 (0, 0))) (h2 : S.size = N) (h3 : ∀ k, k < N → S[k]? = some (.slice none 0 0)) (k1 : wr.heap[tb]? = some (.cells T 3 (0, 0))) (k2 : T.size = N) (k3 : ∀ k, k < N → T[k]? = some (.int .i64 0)) :
    LrAt V0 (wr.setCell ⟨tb, 0, none⟩ (.int .i64 1)) sb tb N (fun k => if k = 0 then 1 else 0) (fun _ => .slice none 0 0) (fun k => if k = 0 then some [] else none) (fun _ => false) := by
  refine ⟨gr_cell gr htb, hsb, htb, ne, ⟨S, (Below.heap_setCell _ _ _ _ ne).trans h1, h2, h3⟩, ⟨_, heap_setCell_same wr tb 0 _ _ _ k1, by simpa using k2, fun k hk => ?_⟩, fun k hk => ?_, fun k => ?_, fun k hk => ?_⟩
  · rw [set_at (by omega)]
    by_cases e : k = 0
    · rw [if_pos e, if_pos e]
    · rw [if_neg e, if_neg e]; exact k3 k hk
  · by_cases e : k = 0
    · exact .inr ⟨.inl (by rw [if_pos e]), [], by rw [if_pos e], rintsq_nil _ _, by simp⟩
    · exact .inl ⟨by rw [if_neg e], by rw [if_neg e], rfl⟩
  · by_cases e : k = 0 <;> simp [e]
  · rw [if_neg (by omega)]
end Go.Proofs.YtkgncijcnlfhiaaDoor

namespace Go.Proofs.YtkgncijcnlfhiaaDoor
set_option linter.unusedVariables false
set_option linter.unusedSimpArgs false
open Go.RowKit
attribute [local go_sem ↓] Go.wp_at_zero Go.wp_at_succ
def wrongI (u : PUnit) (f : PFunc) : Int := match wrongP u f with
  | some t => (t : Int)
  | none => -1
def VerR (u : PUnit) (w : World) (x : Ending) (w' : World) : Prop := x = .returned (.tuple #[.int .i64 (verifyP u).1, .int .i64 ((verifyP u).2.1 : Int), .int .i64 ((verifyP u).2.2 : Int)]) ∧ Gr w w'
theorem keep9 {w1 w2 : World} {p0 p1 p2 p3 p4 p5 p6 p7 p8 : Addr} {x0 x1 x2 x3 x4 x5 x6 x7 x8 : Value} (g : Gr w1 w2) (h : w1.cell? p0 = some x0 ∧ w1.cell? p1 = some x1 ∧ w1.cell? p2 = some x2 ∧ w1.cell? p3 = some x3 ∧ w1.cell? p4 = some x4 ∧ w1.cell? p5 = some x5 ∧ w1.cell? p6 = some x6 ∧ w1.cell? p7 = some x7 ∧ w1.cell? p8 = some x8) : w2.cell? p0 = some x0 ∧ w2.cell? p1 = some x1 ∧ w2.cell? p2 = some x2 ∧ w2.cell? p3 = some x3 ∧ w2.cell? p4 = some x4 ∧ w2.cell? p5 = some x5 ∧ w2.cell? p6 = some x6 ∧ w2.cell? p7 = some x7 ∧ w2.cell? p8 = some x8 := by
  obtain ⟨h0, h1, h2, h3, h4, h5, h6, h7, h8⟩ := h
  exact ⟨g.cell h0 (by simp), g.cell h1 (by simp), g.cell h2 (by simp), g.cell h3 (by simp), g.cell h4 (by simp), g.cell h5 (by simp), g.cell h6 (by simp), g.cell h7 (by simp), g.cell h8 (by simp)⟩

set_option maxRecDepth 100000 in
set_option maxHeartbeats 2000000 in
theorem verify_ref_of (u : PUnit) (v1 v2 v3 v4 v5 : Value) (w : World) (hU : RUnit w (.agg #[v1, v2, v3, v4, v5]) u) (hsh : ∀ v ∈ [v1, v2, v3, v4, v5], ∃ a n c, v = .slice a n c)
    (hR : ∀ V, Gr w V → Calls Tryd.prog 33 #[.agg #[v1, v2, v3, v4, v5]] V fun x w' => x = .returned (.bool (unitOk u)) ∧ Gr V w')
    (hL : unitOk u = true → ∀ f ∈ u.funcs, ∀ vp vl vc V, RInts w vp f.params → RInts w vl f.locals → RCode w vc f.code → Gr w V → Calls Tryd.prog 54 #[.agg #[v1, v2, v3, v4, v5], .agg #[vp, .int .i64 f.result, vl, vc]] V fun x w' => x = .returned (.int .i64 (wrongI u f)) ∧ Gr V w') :
    Calls Tryd.prog 27 #[.agg #[v1, v2, v3, v4, v5]] w (VerR u w) := by
  obtain ⟨x1, x2, x3, x4, x5, he, _, _, hF, _, _⟩ := hU
  simp only [Value.agg.injEq, Array.mk.injEq, List.cons.injEq, and_true] at he
  obtain ⟨rfl, rfl, rfl, rfl, rfl⟩ := he
  obtain ⟨q1, n1, c1, rfl⟩ := hsh v1 (by simp)
  obtain ⟨q2, n2, c2, rfl⟩ := hsh v2 (by simp)
  obtain ⟨q4, n4, c4, rfl⟩ := hsh v4 (by simp)
  obtain ⟨q5, n5, c5, rfl⟩ := hsh v5 (by simp)
  obtain ⟨q3, c3, rfl, hm3, hc3⟩ := hF
  unfold maxLen at hm3
  have HC3 := hide hc3
  have HR := hide hR
  have HL := hide hL
  have hnot : ∀ (x : Bool) (w : World), (Op.unary .not (.bool x)).run Tryd.prog w = .ok (.bool (!x)) w := fun _ _ => rfl
  have hga := Gr.alloc (Gr.refl w) (.cells #[.slice q1 n1 c1, .slice q2 n2 c2, .slice q3 u.funcs.length c3, .slice q4 n4 c4, .slice q5 n5 c5] 28)
  have HK : Hid (∀ V, Gr (w.alloc (.cells #[.slice q1 n1 c1, .slice q2 n2 c2, .slice q3 u.funcs.length c3, .slice q4 n4 c4, .slice q5 n5 c5] 28)) V → V.cell? ⟨w.heap.size, 0, none⟩ = some (.slice q1 n1 c1) ∧ V.cell? ⟨w.heap.size, 1, none⟩ = some (.slice q2 n2 c2) ∧ V.cell? ⟨w.heap.size, 2, none⟩ = some (.slice q3 u.funcs.length c3) ∧ V.cell? ⟨w.heap.size, 3, none⟩ = some (.slice q4 n4 c4) ∧ V.cell? ⟨w.heap.size, 4, none⟩ = some (.slice q5 n5 c5)) := hide (fun V g => ⟨g.cell (by simp [go_sem]) (by simp), g.cell (by simp [go_sem]) (by simp), g.cell (by simp [go_sem]) (by simp), g.cell (by simp [go_sem]) (by simp), g.cell (by simp [go_sem]) (by simp)⟩)
  have HGA := hide hga
  clear hc3 hR hL hsh hga
  go_enter Tryd.func27, Tryd.ntmps27
  go_wp2_with fail
  refine (HR.out _ HGA.out).mono ?_
  rintro x w1 ⟨rfl, hg1⟩
  have HG1 := hide hg1
  clear hg1
  cases hok : unitOk u with
  | false =>
    have HV : Hid (verifyP u = (1, 0, 0)) := hide (by unfold verifyP; rw [hok]; rfl)
    clear hok
    go_wp2_with fail
    go_ret3
    exact ⟨by rw [HV.out]; rfl, HGA.out.trans HG1.out⟩
  | true =>
    have HV : Hid (verifyP u = funcsP u 0 u.funcs) := hide (by unfold verifyP; rw [hok]; rfl)
    have HOK := hide hok
    clear hok
    go_wp2_with fail
    go_loopw [6] (fun i wr => ∃ k : Nat, i = .int .i64 (k : Int) ∧ k ≤ u.funcs.length ∧ verifyP u = funcsP u k (u.funcs.drop k) ∧ Gr (w.alloc (.cells #[.slice q1 n1 c1, .slice q2 n2 c2, .slice q3 u.funcs.length c3, .slice q4 n4 c4, .slice q5 n5 c5] 28)) wr) (fun i _ => u.funcs.length - (intOf i).toNat)
    case atStart => exact ⟨0, rfl, Nat.zero_le _, HV.out, HG1.out⟩
    case round =>
      obtain ⟨k, rfl, hk, hv, hg⟩ := hrel
      have HVk := hide hv
      have HGk := hide hg
      obtain ⟨e0, e1, e2, e3, e4⟩ := HK.out wr hg
      clear hv hg HV HG1
      by_cases hlt : k < u.funcs.length
      · obtain ⟨f, hf⟩ := getElem?_lt hlt
        obtain ⟨b, off, vp, vl, vc, rfl, f0, f1, f2, f3, hRp, hRl, hRc⟩ := HC3.out k f hf
        obtain ⟨ap, cp, rfl⟩ := hRp.shape
        obtain ⟨al, cl, rfl⟩ := hRl.shape
        obtain ⟨ac, cc, rfl⟩ := hRc.shape
        have hgw : Gr w wr := HGA.out.trans HGk.out
        have f0 := hgw.cell f0 (by simp)
        have f1 := hgw.cell f1 (by simp)
        have f2 := hgw.cell f2 (by simp)
        have f3 := hgw.cell f3 (by simp)
        have hki : (k : Int) < (u.funcs.length : Int) := by omega
        have hw : IntKind.i64.wrap ((k : Int) + 1) = (k : Int) + 1 := Go.IntWalk.i64_in _ (by omega)
        have HLK := hide (HL.out HOK.out f (List.mem_of_getElem? hf) _ _ _ wr.drew hRp hRl hRc (hgw.drew))
        have HST : Hid (verifyP u = match wrongP u f with | some q => (10, k, q) | none => funcsP u (k + 1) (u.funcs.drop (k + 1))) := hide (by
          rw [HVk.out, List.drop_eq_getElem_cons hlt]
          have : u.funcs[k] = f := by rw [List.getElem?_eq_getElem hlt] at hf; exact Option.some.inj hf
          rw [this, funcsP]
          cases wrongP u f <;> rfl)
        clear hRp hRl hRc hf hgw HVk
        go_wp2_with fail
        go_region_held3 (fun w' => w'.cell? ⟨w.heap.size, 0, none⟩ = some (.slice q1 n1 c1) ∧ w'.cell? ⟨w.heap.size, 1, none⟩ = some (.slice q2 n2 c2) ∧ w'.cell? ⟨w.heap.size, 2, none⟩ = some (.slice (some ⟨b, off, none⟩) u.funcs.length c3) ∧ w'.cell? ⟨w.heap.size, 3, none⟩ = some (.slice q4 n4 c4) ∧ w'.cell? ⟨w.heap.size, 4, none⟩ = some (.slice q5 n5 c5) ∧ w'.cell? ⟨b, off + k * 4, none⟩ = some (.slice ap f.params.length cp) ∧ w'.cell? ⟨b, off + k * 4 + 1, none⟩ = some (.int .i64 f.result) ∧ w'.cell? ⟨b, off + k * 4 + 2, none⟩ = some (.slice al f.locals.length cl) ∧ w'.cell? ⟨b, off + k * 4 + 3, none⟩ = some (.slice ac f.code.length cc)) (first | (go_keep; done) | exact keep9 hg2 (by assumption)) (first | (go_at_call 54; refine HLK.out.mono ?_; rintro x w2 ⟨rfl, hg2⟩))
        have HG2 := hide (Gr.trans (Gr.drew HGk.out) hg2)
        clear hg2 HLK
        cases hwp : wrongP u f with
        | some t =>
          have hwi : wrongI u f = (t : Int) := by unfold wrongI; rw [hwp]
          have HV2 : Hid (verifyP u = (10, k, t)) := hide (by rw [HST.out, hwp])
          rw [hwi]
          have hge : (0 : Int) ≤ (t : Int) := by omega
          clear hwi hwp HST
          go_wp2_with fail
          go_ret3
          exact ⟨by rw [HV2.out]; rfl, HGA.out.trans HG2.out⟩
        | none =>
          have hwi : wrongI u f = -1 := by unfold wrongI; rw [hwp]
          have HV2 : Hid (verifyP u = funcsP u (k + 1) (u.funcs.drop (k + 1))) := hide (by rw [HST.out, hwp])
          rw [hwi]
          clear hwi hwp HST
          go_wp2_with fail
          exact ⟨⟨k + 1, by simp, hlt, HV2.out, HG2.out⟩, by simp [intOf]; omega⟩
      · have hkk : k = u.funcs.length := by omega
        subst hkk
        have HV2 : Hid (verifyP u = (0, 0, 0)) := hide (by rw [HVk.out, List.drop_length]; rfl)
        clear hlt hk HVk
        go_wp2_with fail
        go_ret3
        exact ⟨by rw [HV2.out]; rfl, HGA.out.trans HGk.out⟩
end Go.Proofs.YtkgncijcnlfhiaaDoor

