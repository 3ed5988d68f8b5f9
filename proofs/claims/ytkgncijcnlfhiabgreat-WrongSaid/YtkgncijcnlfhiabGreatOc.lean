import Derived.Test.YtkgncijcnlfhiabGreatW4
import Derived.Test.YtkgncijcnlfhiabGreatRg4
namespace Go.Proofs.YtkgncijcnlfhiabGreat
set_option linter.unusedVariables false
set_option linter.unusedSimpArgs false
open Go.RowKit
attribute [local go_sem ↓] Go.wp_at_zero Go.wp_at_succ
def pickK (c n : Int) : Int := if c < 0 then (-(c + 1)) % n else c % n
theorem pickK_lt {c n : Int} (hn : 0 < n) : 0 ≤ pickK c n ∧ pickK c n < n := by
  unfold pickK; split
  · exact ⟨Int.emod_nonneg _ (by omega), Int.emod_lt_of_pos _ hn⟩
  · exact ⟨Int.emod_nonneg _ (by omega), Int.emod_lt_of_pos _ hn⟩
set_option maxRecDepth 100000 in
theorem kpick_any (c n : Int) (w : World) (hc : -9223372036854775808 ≤ c ∧ c ≤ 9223372036854775807) (hn : 0 < n) (hn2 : n ≤ 9223372036854775807) :
    Calls Tryz.prog 7 #[.int .i64 c, .int .i64 n] w fun x w' => x = .returned (.int .i64 (pickK c n)) ∧ w' = w := by
  go_enter Tryz.func7, Tryz.ntmps7
  go_wp2
  · rename_i h
    have e : pickK c n = -(c + 1).tmod n := by
      unfold pickK; rw [if_pos h, ← Int.tmod_eq_emod_of_nonneg (by omega), Int.neg_tmod]
    rw [e]
    go_ret
    exact ⟨rfl, rfl⟩
  · rename_i h
    have e : pickK c n = c % n := by
      unfold pickK; rw [if_neg (by omega)]
    rw [e]
    go_ret
    exact ⟨rfl, rfl⟩
theorem kept_new {w wx : World} {M : Array Value} {t : TypeId} (g : Gr (w.alloc (.cells M t)) wx) : wx.heap[w.heap.size]? = some (.cells M t (0, 0)) := (g.block _ (by simp) (by simp)).trans (heap_alloc_new w _)
theorem kept_new2 {w : World} {A : Obj} {M : Array Value} {t : TypeId} : ((w.alloc A).alloc (.cells M t)).heap[w.heap.size + 1]? = some (.cells M t (0, 0)) := by
  have h := heap_alloc_new (w.alloc A) (.cells M t)
  have e : (w.alloc A).heap.size = w.heap.size + 1 := by simp
  rw [e] at h; exact h
theorem kept_new' {w wx : World} {A : Obj} {M : Array Value} {t : TypeId} (g : Gr ((w.alloc A).alloc (.cells M t)) wx) : wx.heap[w.heap.size + 1]? = some (.cells M t (0, 0)) := (g.block _ (by simp) (by simp)).trans kept_new2
theorem rcode_at {wx : World} {b n : Nat} {M : Array Value} {t : TypeId} {l : List PIns} (h : wx.heap[b]? = some (.cells M t (0, 0))) (hM : M.toList = l.flatMap cC) (hn : n = l.length) (hl : l.length ≤ 1000) : RCode wx (.slice (some ⟨b, 0, none⟩) n n) l := by
  subst hn
  refine ⟨_, _, rfl, by unfold maxLen; omega, fun i x hx => ?_⟩
  have hc : ∀ r, r < 3 → wx.cell? ⟨b, 0 + i * 3 + r, none⟩ = (cC x)[r]? := fun r hr => by
    rw [hcell_ h, Nat.zero_add, ← Array.getElem?_toList, hM]
    exact flat_put cC_len l i r x hx hr
  exact ⟨b, 0, rfl, hc 0 (by omega), hc 1 (by omega), hc 2 (by omega)⟩
def TailsP (k q : Nat) (v : Value) (wx : World) : Prop := ∃ tb t0 t1 t2 t3 t4 t5 t6 t7 t8, v = .slice (some ⟨tb, 0, none⟩) 9 9 ∧ wx.heap[tb]? = some (.cells #[t0, t1, t2, t3, t4, t5, t6, t7, t8] 40 (0, 0)) ∧ RCode wx t0 (tailC k q 0) ∧ RCode wx t1 (tailC k q 1) ∧ RCode wx t2 (tailC k q 2) ∧ RCode wx t3 (tailC k q 3) ∧ RCode wx t4 (tailC k q 4) ∧ RCode wx t5 (tailC k q 5) ∧ RCode wx t6 (tailC k q 6) ∧ RCode wx t7 (tailC k q 7) ∧ RCode wx t8 (tailC k q 8)
theorem TailsP.at_ {k q : Nat} {v : Value} {wx : World} (h : TailsP k q v wx) (j : Nat) (hj : j < 9) : ∃ tb ta tc, v = .slice (some ⟨tb, 0, none⟩) 9 9 ∧ wx.cell? ⟨tb, j, none⟩ = some (.slice ta (tailC k q j).length tc) ∧ RCode wx (.slice ta (tailC k q j).length tc) (tailC k q j) := by
  obtain ⟨tb, t0, t1, t2, t3, t4, t5, t6, t7, t8, rfl, hh, r0, r1, r2, r3, r4, r5, r6, r7, r8⟩ := h
  have key : ∀ (t : Value), wx.cell? ⟨tb, j, none⟩ = some t → RCode wx t (tailC k q j) → ∃ tb' ta tc, (Value.slice (some ⟨tb, 0, none⟩) 9 9) = .slice (some ⟨tb', 0, none⟩) 9 9 ∧ wx.cell? ⟨tb', j, none⟩ = some (.slice ta (tailC k q j).length tc) ∧ RCode wx (.slice ta (tailC k q j).length tc) (tailC k q j) := fun t ht hr => by
    obtain ⟨ta, tc, rfl⟩ := hr.shape
    exact ⟨tb, ta, tc, rfl, ht, hr⟩
  rcases (show j = 0 ∨ j = 1 ∨ j = 2 ∨ j = 3 ∨ j = 4 ∨ j = 5 ∨ j = 6 ∨ j = 7 ∨ j = 8 by omega) with rfl | rfl | rfl | rfl | rfl | rfl | rfl | rfl | rfl
  · exact key t0 (by rw [hcell_ hh]; rfl) r0
  · exact key t1 (by rw [hcell_ hh]; rfl) r1
  · exact key t2 (by rw [hcell_ hh]; rfl) r2
  · exact key t3 (by rw [hcell_ hh]; rfl) r3
  · exact key t4 (by rw [hcell_ hh]; rfl) r4
  · exact key t5 (by rw [hcell_ hh]; rfl) r5
  · exact key t6 (by rw [hcell_ hh]; rfl) r6
  · exact key t7 (by rw [hcell_ hh]; rfl) r7
  · exact key t8 (by rw [hcell_ hh]; rfl) r8
theorem rsh_at {wx : World} {b c : Nat} {t t' : TypeId} (h : wx.heap[b]? = some (.cells #[.slice (some ⟨c, 0, none⟩) 2 2] t (0, 0))) (hc : wx.heap[c]? = some (.cells #[.int .i64 0, .int .i64 1] t' (0, 0))) : RShapes wx (.slice (some ⟨b, 0, none⟩) 1 1) [[0, 1]] := by
  refine ⟨_, _, rfl, by unfold maxLen; decide, fun i x hx => ?_⟩
  have hi : i = 0 := by have := (List.getElem?_eq_some_iff.1 hx).1; simp at this; omega
  subst hi
  simp only [List.getElem?_cons_zero, Option.some.injEq] at hx
  subst hx
  refine ⟨b, 0, _, rfl, by rw [hcell_ h]; rfl, ⟨_, _, rfl, by unfold maxLen; decide, fun j hj => ⟨c, 0, rfl, ?_⟩⟩⟩
  rcases (show j = 0 ∨ j = 1 by simp at hj; omega) with rfl | rfl
  · rw [hcell_ hc]; rfl
  · rw [hcell_ hc]; rfl
theorem nilR (w : World) : RInts w (.slice none 0 0) [] := ⟨none, 0, rfl, Nat.zero_le _, fun i hi => by simp at hi⟩
theorem exp_at {wx : World} {eb : Nat} {t : TypeId} (he : wx.heap[eb]? = some (.cells #[mainV, .int .i64 0] t (0, 0))) : RExports wx (.slice (some ⟨eb, 0, none⟩) 1 1) [⟨mainN, 0⟩] := by
  refine ⟨_, _, rfl, by unfold maxLen; decide, fun i x hx => ?_⟩
  have hi : i = 0 := by have := (List.getElem?_eq_some_iff.1 hx).1; simp at this; omega
  subst hi
  simp only [List.getElem?_cons_zero, Option.some.injEq] at hx
  subst hx
  exact ⟨eb, 0, mainV, rfl, by rw [hcell_ he]; rfl, by rw [hcell_ he]; rfl, _, rfl, rfl, by unfold maxLen; decide⟩
theorem fun1_at {wx : World} {fb : Nat} {t : TypeId} {vc : Value} {c : List PIns} (h : wx.heap[fb]? = some (.cells #[.slice none 0 0, .int .i64 0, .slice none 0 0, vc] t (0, 0))) (hc : RCode wx vc c) : RFuncs wx (.slice (some ⟨fb, 0, none⟩) 1 1) [⟨[], 0, [], c⟩] := by
  refine ⟨_, _, rfl, by simp [maxLen], fun i x hx => ?_⟩
  have hi : i = 0 := by have := (List.getElem?_eq_some_iff.1 hx).1; simp at this; omega
  subst hi
  simp only [List.getElem?_cons_zero, Option.some.injEq] at hx
  subst hx
  exact ⟨fb, 0, _, _, vc, rfl, by rw [hcell_ h]; rfl, by rw [hcell_ h]; rfl, by rw [hcell_ h]; rfl, by rw [hcell_ h]; rfl, nilR _, nilR _, hc⟩
theorem fun2_of {wx : World} {B : Nat} {t : TypeId} {v vc vd : Value} {c d : List PIns} (h : wx.ownsRow B t 4 v 2 [.slice none 0 0, .int .i64 0, .slice none 0 0, vc, .slice none 0 0, .int .i64 0, .slice none 0 0, vd]) (hc : RCode wx vc c) (hd : RCode wx vd d) : RFuncs wx v [⟨[], 0, [], c⟩, ⟨[], 0, [], d⟩] := by
  obtain ⟨ao, cap, rfl⟩ := own_shape_ h
  refine ⟨ao, cap, rfl, by simp [maxLen], fun i x hx => ?_⟩
  obtain ⟨b, cp, e1, _⟩ := own_cell h (j := 0) (by omega)
  simp only [Value.slice.injEq, true_and] at e1
  obtain ⟨rfl, rfl⟩ := e1
  have hcl : ∀ r, r < 8 → wx.cell? ⟨b, r, none⟩ = ([.slice none 0 0, .int .i64 0, .slice none 0 0, vc, .slice none 0 0, .int .i64 0, .slice none 0 0, vd] : List Value)[r]? := fun r hr => by
    obtain ⟨b', cp', e1', e2'⟩ := own_cell h (j := r) (by omega)
    simp only [Value.slice.injEq, Option.some.injEq, Addr.mk.injEq, and_true, true_and] at e1'
    obtain ⟨rfl, -⟩ := e1'
    exact e2'
  rcases (show i = 0 ∨ i = 1 by have := (List.getElem?_eq_some_iff.1 hx).1; simp at this; omega) with rfl | rfl
  · simp only [List.getElem?_cons_zero, Option.some.injEq] at hx
    subst hx
    exact ⟨b, 0, _, _, vc, rfl, hcl 0 (by omega), hcl 1 (by omega), hcl 2 (by omega), hcl 3 (by omega), nilR _, nilR _, hc⟩
  · simp only [List.getElem?_cons_succ, List.getElem?_cons_zero, Option.some.injEq] at hx
    subst hx
    exact ⟨b, 0, _, _, vd, rfl, hcl 4 (by omega), hcl 5 (by omega), hcl 6 (by omega), hcl 7 (by omega), nilR _, nilR _, hd⟩
theorem unit_at {wx : World} {vs vf ve : Value} {fs : List PFunc} (hs : RShapes wx vs [[0, 1]]) (hf : RFuncs wx vf fs) (he : RExports wx ve [⟨mainN, 0⟩]) : RUnit wx (.agg #[vs, .slice none 0 0, vf, .slice none 0 0, ve]) ⟨[[0, 1]], [], fs, [], [⟨mainN, 0⟩]⟩ :=
  ⟨_, _, _, _, _, rfl, hs, nilR _, hf, ⟨none, 0, rfl, Nat.zero_le _, fun i x hi => by simp at hi⟩, he⟩
/-- two lists of one function each, made in whatever order -/
def TwP (X : Array Value) (W0 : World) (v : Value) (w : World) : Prop := ∃ b, v = .slice (some ⟨b, 0, none⟩) 1 1 ∧ w.heap[b]? = some (.cells X 47 (0, 0)) ∧ Gr W0 w ∧ W0.heap.size ≤ b
def TwR (X Y : Array Value) (W0 : World) (v v' : Value) (w : World) : Prop := TwP X W0 v w ∧ TwP Y W0 v' w
theorem TwP.gr {X : Array Value} {W0 w w' : World} {v : Value} (h : TwP X W0 v w) (g : Gr w w') : TwP X W0 v w' := by
  obtain ⟨b, e, hb, h1, h2⟩ := h
  exact ⟨b, e, (g.block b (Array.getElem?_eq_some_iff.1 hb).1 (by simp)).trans hb, h1.trans g, h2⟩
def Cut18 (w : World) (gb bb : Nat) (u : PUnit) (wx : World) : Prop := ∃ g1 g3 g5 gn1 gn3 gn5 gc1 gc3 gc5 b1 b3 b5 bn1 bn3 bn5 bc1 bc3 bc5,
  wx.heap[gb]? = some (.cells #[.slice g1 gn1 gc1, .slice none 0 0, .slice g3 gn3 gc3, .slice none 0 0, .slice g5 gn5 gc5] 29 (0, 0)) ∧ RUnit wx (.agg #[.slice g1 gn1 gc1, .slice none 0 0, .slice g3 gn3 gc3, .slice none 0 0, .slice g5 gn5 gc5]) goodU ∧
  wx.heap[bb]? = some (.cells #[.slice b1 bn1 bc1, .slice none 0 0, .slice b3 bn3 bc3, .slice none 0 0, .slice b5 bn5 bc5] 29 (0, 0)) ∧ RUnit wx (.agg #[.slice b1 bn1 bc1, .slice none 0 0, .slice b3 bn3 bc3, .slice none 0 0, .slice b5 bn5 bc5]) u ∧ Gr w wx
theorem units1 {w : World} {b : Nat} {t : TypeId} {y0 y1 y2 y3 y4 : Value} {u : PUnit} (h : w.heap[b]? = some (.cells #[y0, y1, y2, y3, y4] t (0, 0))) (hu : RUnit w (.agg #[y0, y1, y2, y3, y4]) u) : RUnits w (.slice (some ⟨b, 0, none⟩) 1 1) [u] := by
  refine ⟨_, _, rfl, by simp [maxLen], fun i x hx => ?_⟩
  have hi : i = 0 := by have := (List.getElem?_eq_some_iff.1 hx).1; simp at this; omega
  subst hi
  simp only [List.getElem?_cons_zero, Option.some.injEq] at hx
  subst hx
  exact ⟨b, 0, y0, y1, y2, y3, y4, rfl, by rw [hcell_ h]; rfl, by rw [hcell_ h]; rfl, by rw [hcell_ h]; rfl, by rw [hcell_ h]; rfl, by rw [hcell_ h]; rfl, hu⟩
theorem mach_none {n w q : Nat} {M : PUnit → POut} {fuel heap : Int} (h : BadF n w q) : MachC M fuel heap [badU n w q] := by
  intro u V v hl hv
  obtain ⟨u', h1, h2⟩ := h.lnk
  rw [h1] at hl
  obtain rfl := Sum.inl.inj hl
  rw [h2] at hv
  simp at hv
theorem run_bad {n w q : Nat} {M : PUnit → POut} (h : BadF n w q) : runP M ([badU n w q].map enc) 9 9 = ⟨4, 1, (atW n w : Int), 10, 0, [], 0⟩ := by
  obtain ⟨u, h1, h2⟩ := h.lnk
  have hd : decAll 0 ([badU n w q].map enc) = .inl [badU n w q] := by
    show decAll 0 [enc (badU n w q)] = _
    rw [decAll, h.dec]; rfl
  unfold runP
  rw [if_neg (by omega), hd]
  show (match linkP [badU n w q] with | .inr (e, k) => _ | .inl u => _) = _
  rw [h1]
  show (if (verifyP u).1 ≠ 0 then _ else _) = _
  rw [h2, if_pos (by simp)]
  rfl
theorem leadC_len : ∀ n, (leadC n).length = 2 * n
  | 0 => rfl
  | n + 1 => by rw [leadC, List.length_append, leadC_len n]; simp; omega

set_option maxRecDepth 100000 in
set_option maxHeartbeats 8000000 in
theorem kwrong_any (which lead far : Int) (w : World) (h1 : -9223372036854775808 ≤ which ∧ which ≤ 9223372036854775807) (h2 : -9223372036854775808 ≤ lead ∧ lead ≤ 9223372036854775807) (h3 : -9223372036854775808 ≤ far ∧ far ≤ 9223372036854775807) :
    Calls Tryz.prog 4 #[.int .i64 which, .int .i64 lead, .int .i64 far] w fun x w' => x = .returned (.bool true) ∧ Gr w w' := by
  obtain ⟨n, hn⟩ : ∃ n : Nat, pickK lead 6 = (n : Int) := ⟨(pickK lead 6).toNat, by have := pickK_lt (c := lead) (n := 6) (by decide); omega⟩
  obtain ⟨wh, hwh⟩ : ∃ n : Nat, pickK which 9 = (n : Int) := ⟨(pickK which 9).toNat, by have := pickK_lt (c := which) (n := 9) (by decide); omega⟩
  obtain ⟨q, hq⟩ : ∃ n : Nat, pickK far 9 = (n : Int) := ⟨(pickK far 9).toNat, by have := pickK_lt (c := far) (n := 9) (by decide); omega⟩
  have hn6 : n < 6 := by have := (pickK_lt (c := lead) (n := 6) (by decide)).2; omega
  have hw9 : wh < 9 := by have := (pickK_lt (c := which) (n := 9) (by decide)).2; omega
  have hq9 : q < 9 := by have := (pickK_lt (c := far) (n := 9) (by decide)).2; omega
  have HPN : Hid (∀ V, Calls Tryz.prog 7 #[.int .i64 lead, .int .i64 6] V fun x w' => x = .returned (.int .i64 (n : Int)) ∧ w' = V) := hide (fun V => by rw [← hn]; exact kpick_any lead 6 V h2 (by decide) (by decide))
  have HPW : Hid (∀ V, Calls Tryz.prog 7 #[.int .i64 which, .int .i64 9] V fun x w' => x = .returned (.int .i64 (wh : Int)) ∧ w' = V) := hide (fun V => by rw [← hwh]; exact kpick_any which 9 V h1 (by decide) (by decide))
  have HPQ : Hid (∀ V, Calls Tryz.prog 7 #[.int .i64 far, .int .i64 9] V fun x w' => x = .returned (.int .i64 (q : Int)) ∧ w' = V) := hide (fun V => by rw [← hq]; exact kpick_any far 9 V h3 (by decide) (by decide))
  have HBF := hide (bad_facts hn6 hw9 hq9)
  clear hn hwh hq h1 h2 h3
  go_enter Tryz.func4, Tryz.ntmps4
  go_wp2_with (go_at_call 7; refine (HPN.out _).mono ?_; rintro x w0 ⟨rfl, rfl⟩)
  go_loopw [8, 9] (fun v i wr => ∃ k : Nat, i = .int .i64 (k : Int) ∧ k ≤ n ∧ wr.ownsRow w0.heap.size 42 3 v (leadC k).length ((leadC k).flatMap cC) ∧ Gr w0 wr) (fun _ i _ => n - (intOf i).toNat)
  case atStart => exact ⟨0, rfl, Nat.zero_le _, World.ownsRow_nil _ _ _ _, Gr.refl _⟩
  case round =>
    obtain ⟨k, rfl, hk, hown, hgr⟩ := hrel
    have HOW := hide hown
    have HGR := hide hgr
    obtain ⟨bao, bcp, rfl⟩ := own_shape_ hown
    clear hown hgr
    generalize hnb : (leadC k).length = nb at HOW ⊢
    have hnb2 : nb = 2 * k := by rw [← hnb, leadC_len]
    have HNB := hide (And.intro hnb hnb2)
    have hnb12 : nb ≤ 12 := by omega
    clear hnb hnb2
    by_cases hlt : k < n
    · have hki : (k : Int) < (n : Int) := by omega
      have hw1 : IntKind.i64.wrap ((k : Int) + 1) = (k : Int) + 1 := Go.IntWalk.i64_in _ (by omega)
      go_wp2_with fail
      refine (kop_any 1 (k : Int) _).mono ?_
      rintro x w2 ⟨rfl, hg2⟩
      have HG2 := hide hg2
      clear hg2
      go_wp2_with fail
      refine (kop_any 20 0 _).mono ?_
      rintro x w3 ⟨rfl, hg3⟩
      have gA := (HG2.out.trans hg3).alloc (.cells #[.int .i64 1, .int .i64 (k : Int), .int .i64 0, .int .i64 20, .int .i64 0, .int .i64 0] 42)
      obtain ⟨v6, w6, hr6, ho6, hg6, hl6⟩ := app_rows (ty := 40) 40 42 _ Tryz.infC Tryz.uC rfl (by decide) (by decide) (own_gr HOW.out gA) (rrow_new w3 #[.int .i64 1, .int .i64 (k : Int), .int .i64 0, .int .i64 20, .int .i64 0, .int .i64 0] 42 2) rfl (by intro q hq; simp at hq; rcases hq with rfl | rfl | rfl | rfl | rfl | rfl <;> rfl) (by omega) (by have := HGR.out.size; have := gA.size; omega)
      obtain ⟨bao6, bcp6, rfl⟩ := own_shape_ ho6
      have hgn : Gr w0 w6 := ⟨hg6.os.trans (HGR.out.trans gA).os, hg6.tape.trans (HGR.out.trans gA).tape, hg6.output.trans (HGR.out.trans gA).output, Nat.le_trans (HGR.out.trans gA).size hg6.size, fun i hi hne => (hg6.block i (Nat.lt_of_lt_of_le hi (HGR.out.trans gA).size) (fun e => by have := (HOW.out.lt i e.symm).1; omega)).trans ((HGR.out.trans gA).block i hi hne)⟩
      have HR6 := hide hr6
      have HO6 := hide ho6
      have HGN := hide hgn
      clear hg3 gA hr6 ho6 hg6 hl6 hgn HG2
      go_wp2_with (at_builtin; refine Lib.wpList_append_run _ rfl _ _ _ _ rfl _ _ rfl rfl _ _ HR6.out ?_)
      refine ⟨⟨k + 1, by simp, hlt, ?_, HGN.out⟩, by simp [intOf]; omega⟩
      rw [leadC, List.length_append, List.flatMap_append, HNB.out.1]
      exact HO6.out
    · have hkk : k = n := by omega
      subst hkk
      have hk1 : IntKind.i64.wrap ((nb : Int) + 1) = (nb : Int) + 1 := Go.IntWalk.i64_in _ (by omega)
      clear hlt hk
      go_upto_region 10 with (go_at_call 7; refine (HPW.out _).mono ?_; rintro x w2 ⟨rfl, rfl⟩)
      go_cut [13] from 24 (fun v13 wx => Gr w2 wx ∧ TailsP nb q v13 wx)
      case first =>
        have hq200 : IntKind.i64.wrap (200 + (q : Int)) = 200 + (q : Int) := Go.IntWalk.i64_in _ (by omega)
        have hq7 : IntKind.i64.wrap (7 + (q : Int)) = 7 + (q : Int) := Go.IntWalk.i64_in _ (by omega)
        clear HOW HGR HBF HPN HPW HNB hk1
        go_wp2_with (first | (go_at_call 7; refine (HPQ.out _).mono ?_; rintro x w' ⟨rfl, rfl⟩) | (go_at_call 10; refine (kop_any _ _ _).mono ?_; rintro x w' ⟨rfl, hg'⟩))
        go_meet
        refine ⟨(by repeat (first | with_reducible exact Gr.refl _ | with_reducible refine Gr.alloc ?_ _ | with_reducible refine Gr.trans ?_ (by with_reducible assumption))), _, _, _, _, _, _, _, _, _, _, rfl, kept_new2, ?_, ?_, ?_, ?_, ?_, ?_, ?_, ?_, ?_⟩
        all_goals exact rcode_at (kept_new (by repeat (first | with_reducible exact Gr.refl _ | with_reducible refine Gr.alloc ?_ _ | with_reducible refine Gr.trans ?_ (by with_reducible assumption)))) (by rfl) (by rfl) (by simp [tailC])
      case rest =>
        obtain ⟨hgc, htp⟩ := hcut
        obtain ⟨tb, ta, tc, rfl, hcl, hrc⟩ := htp.at_ wh hw9
        have hwi : (wh : Int) < 9 := by omega
        have how := own_gr HOW.out hgc
        have htl : (tailC nb q wh).length ≤ 100 := by
          rcases (show wh = 0 ∨ wh = 1 ∨ wh = 2 ∨ wh = 3 ∨ wh = 4 ∨ wh = 5 ∨ wh = 6 ∨ wh = 7 ∨ wh = 8 by omega) with rfl | rfl | rfl | rfl | rfl | rfl | rfl | rfl | rfl <;> simp [tailC]
        obtain ⟨v7, w7, hr7, ho7, hg7, hl7⟩ := app_rows (ty := 40) 40 42 _ Tryz.infC Tryz.uC rfl (by decide) (by decide) how hrc.row (flat_lenL cC_len _) (cC_one _) (by omega) (by have := HGR.out.size; have := hgc.size; omega)
        obtain ⟨ca, ccp, rfl⟩ := own_shape_ ho7
        have hgw7 : Gr w0 w7 := ⟨hg7.os.trans (HGR.out.trans hgc).os, hg7.tape.trans (HGR.out.trans hgc).tape, hg7.output.trans (HGR.out.trans hgc).output, Nat.le_trans (HGR.out.trans hgc).size hg7.size, fun i hi hne => (hg7.block i (Nat.lt_of_lt_of_le hi (HGR.out.trans hgc).size) (fun e => by have := (HOW.out.lt i e.symm).1; omega)).trans ((HGR.out.trans hgc).block i hi hne)⟩
        obtain ⟨hnb1, hnb2⟩ := HNB.out
        have hbl : nb + (tailC nb q wh).length = (badC k wh q).length := by unfold badC; rw [List.length_append, hnb1, ← hnb2]
        have hrc7 : RCode w7 (.slice ca (nb + (tailC nb q wh).length) ccp) (badC k wh q) := by
          rw [hbl]
          rw [hbl] at ho7
          refine rcode_of (B := w0.heap.size) (e := 42) ?_
          have e : (badC k wh q).flatMap cC = (leadC k).flatMap cC ++ (tailC nb q wh).flatMap cC := by unfold badC; rw [List.flatMap_append, ← hnb2]
          rw [e]; exact ho7
        generalize nb + (tailC nb q wh).length = L at hr7 hrc7 ho7
        have HR7 := hide hr7
        have HC7 := hide hrc7
        have HG7 := hide hgw7
        have HWI := hide hw9
        have hw4 : IntKind.i64.wrap ((nb : Int) + 4) = (nb : Int) + 4 := Go.IntWalk.i64_in _ (by omega)
        have HNN := hide hnb2
        clear hgc htp hrc how htl hr7 ho7 hg7 hl7 hgw7 hnb1 hnb2 hbl hrc7 HOW HGR HNB HPN HPW HPQ hnb12 hk1
        have key : ∀ at_ : Int, at_ = (atW k wh : Int) → True := fun _ _ => trivial
        by_cases h6 : wh = 6
        · subst h6
          have HAT : Hid ((nb : Int) + 4 = (atW k 6 : Int)) := hide (by have := HNN.out; simp [atW]; omega)
          go_upto_region 17 with (first | (at_builtin; refine Lib.wpList_append_run _ rfl _ _ _ _ rfl _ _ rfl rfl _ _ HR7.out ?_) | (go_at_call 10; refine (kop_any _ _ _).mono ?_; rintro x w' ⟨rfl, hg'⟩) | (go_at_call 11; refine (program_any _ _ _ _ _ _ _ _ _ _).mono ?_; rintro x wG ⟨fbG, ebG, rfl, hfG, heG, hlG, hmG, hgG⟩))
          have hsG : RShapes wG (.slice (some ⟨w7.heap.size + 1, 0, none⟩) 1 1) [[0, 1]] := rsh_at (kept_new' (by repeat (first | with_reducible exact Gr.refl _ | with_reducible refine Gr.alloc ?_ _ | with_reducible refine Gr.trans ?_ (by with_reducible assumption)))) (kept_new (by repeat (first | with_reducible exact Gr.refl _ | with_reducible refine Gr.alloc ?_ _ | with_reducible refine Gr.trans ?_ (by with_reducible assumption))))
          have hcG : RCode wG (.slice (some ⟨w'.heap.size, 0, none⟩) 2 2) [iOp 1 3, iOp 14 0] := rcode_at (kept_new (by repeat (first | with_reducible exact Gr.refl _ | with_reducible refine Gr.alloc ?_ _ | with_reducible refine Gr.trans ?_ (by with_reducible assumption)))) (by rfl) (by rfl) (by simp)
          have huG := unit_at hsG (fun1_at hfG hcG) (exp_at heG)
          have g7G : Gr w7 wG := (by repeat (first | with_reducible exact Gr.refl _ | with_reducible refine Gr.alloc ?_ _ | with_reducible refine Gr.trans ?_ (by with_reducible assumption)))
          generalize w'.heap.size = cbG at hfG hcG ⊢
          have HFG := hide hfG
          have HCG := hide hcG
          have HUG := hide huG
          have HG7G := hide g7G
          have HGH := hide ((Gr.refl wG).alloc (.cells #[.slice (some ⟨w7.heap.size + 1, 0, none⟩) 1 1, .slice none 0 0, .slice (some ⟨fbG, 0, none⟩) 1 1, .slice none 0 0, .slice (some ⟨ebG, 0, none⟩) 1 1] 29))
          have HBG := hide (heap_alloc_new wG (.cells #[.slice (some ⟨w7.heap.size + 1, 0, none⟩) 1 1, .slice none 0 0, .slice (some ⟨fbG, 0, none⟩) 1 1, .slice none 0 0, .slice (some ⟨ebG, 0, none⟩) 1 1] 29))
          clear hsG hcG huG g7G hfG heG hlG hmG hgG hg' hcl hw4 hwi key
          generalize wG.alloc (.cells #[.slice (some ⟨w7.heap.size + 1, 0, none⟩) 1 1, .slice none 0 0, .slice (some ⟨fbG, 0, none⟩) 1 1, .slice none 0 0, .slice (some ⟨ebG, 0, none⟩) 1 1] 29) = wH at HGH HBG ⊢
          go_upto_region 18 with (go_at_call 11; refine (program_any _ _ _ _ _ _ _ _ _ _).mono ?_; rintro x wB ⟨fbB, ebB, rfl, hfB, heB, hlB, hmB, hgB⟩)
          have hsB : RShapes wB (.slice (some ⟨wH.heap.size + 1, 0, none⟩) 1 1) [[0, 1]] := rsh_at (kept_new' (by repeat (first | with_reducible exact Gr.refl _ | with_reducible refine Gr.alloc ?_ _ | with_reducible refine Gr.trans ?_ (by with_reducible assumption)))) (kept_new (by repeat (first | with_reducible exact Gr.refl _ | with_reducible refine Gr.alloc ?_ _ | with_reducible refine Gr.trans ?_ (by with_reducible assumption))))
          have gHB : Gr wH wB := (by repeat (first | with_reducible exact Gr.refl _ | with_reducible refine Gr.alloc ?_ _ | with_reducible refine Gr.trans ?_ (by with_reducible assumption)))
          have gGB : Gr wG wB := HGH.out.trans gHB
          have g7B : Gr w7 wB := HG7G.out.trans gGB
          have HSB := hide hsB
          have HEB := hide (exp_at heB)
          have HFB := hide hfB
          have HCB := hide (HC7.out.gr g7B)
          have HCGB := hide (HCG.out.gr gGB)
          have HUGB := hide (HUG.out.gr gGB)
          have HFGB := hide ((gGB.block fbG (Array.getElem?_eq_some_iff.1 HFG.out).1 (by simp)).trans HFG.out)
          have HBGB := hide ((gHB.block wG.heap.size (Array.getElem?_eq_some_iff.1 HBG.out).1 (by simp)).trans HBG.out)
          have hgbl : wG.heap.size < wB.heap.size := (Array.getElem?_eq_some_iff.1 HBGB.out).1
          have HG0B := hide (HG7.out.trans g7B)
          have gB1 := (Gr.refl wB).alloc (.cells #[.slice (some ⟨wH.heap.size + 1, 0, none⟩) 1 1, .slice none 0 0, .slice (some ⟨fbB, 0, none⟩) 1 1, .slice none 0 0, .slice (some ⟨ebB, 0, none⟩) 1 1] 29)
          have HBB := hide (heap_alloc_new wB (.cells #[.slice (some ⟨wH.heap.size + 1, 0, none⟩) 1 1, .slice none 0 0, .slice (some ⟨fbB, 0, none⟩) 1 1, .slice none 0 0, .slice (some ⟨ebB, 0, none⟩) 1 1] 29))
          have HGB1 := hide gB1
          have hsB1 : (wB.alloc (.cells #[.slice (some ⟨wH.heap.size + 1, 0, none⟩) 1 1, .slice none 0 0, .slice (some ⟨fbB, 0, none⟩) 1 1, .slice none 0 0, .slice (some ⟨ebB, 0, none⟩) 1 1] 29)).heap.size = wB.heap.size + 1 := by simp
          have HSB1 := hide hsB1
          have KS : Hid (∀ w', Gr (wB.alloc (.cells #[.slice (some ⟨wH.heap.size + 1, 0, none⟩) 1 1, .slice none 0 0, .slice (some ⟨fbB, 0, none⟩) 1 1, .slice none 0 0, .slice (some ⟨ebB, 0, none⟩) 1 1] 29)) w' → w'.cell? ⟨wG.heap.size, 2, none⟩ = some (.slice (some ⟨fbG, 0, none⟩) 1 1) ∧ w'.cell? ⟨fbG, 0, none⟩ = some (.slice none 0 0) ∧ w'.cell? ⟨fbG, 1, none⟩ = some (.int .i64 0) ∧ w'.cell? ⟨fbG, 2, none⟩ = some (.slice none 0 0) ∧ w'.cell? ⟨fbG, 3, none⟩ = some (.slice (some ⟨cbG, 0, none⟩) 2 2) ∧ w'.cell? ⟨wB.heap.size, 2, none⟩ = some (.slice (some ⟨fbB, 0, none⟩) 1 1) ∧ w'.cell? ⟨fbB, 0, none⟩ = some (.slice none 0 0) ∧ w'.cell? ⟨fbB, 1, none⟩ = some (.int .i64 0) ∧ w'.cell? ⟨fbB, 2, none⟩ = some (.slice none 0 0) ∧ w'.cell? ⟨fbB, 3, none⟩ = some (.slice ca L ccp)) := hide (fun w' g => by
            have e0 := ((gB1.trans g).block wG.heap.size (Array.getElem?_eq_some_iff.1 HBGB.out).1 (by simp)).trans HBGB.out
            have e1 := ((gB1.trans g).block fbG (Array.getElem?_eq_some_iff.1 HFGB.out).1 (by simp)).trans HFGB.out
            have e2 := (g.block wB.heap.size (by simp) (by simp)).trans HBB.out
            have e3 := ((gB1.trans g).block fbB (Array.getElem?_eq_some_iff.1 HFB.out).1 (by simp)).trans HFB.out
            exact ⟨by rw [hcell_ e0]; rfl, by rw [hcell_ e1]; rfl, by rw [hcell_ e1]; rfl, by rw [hcell_ e1]; rfl, by rw [hcell_ e1]; rfl, by rw [hcell_ e2]; rfl, by rw [hcell_ e3]; rfl, by rw [hcell_ e3]; rfl, by rw [hcell_ e3]; rfl, by rw [hcell_ e3]; rfl⟩)
          clear hsB gHB gGB g7B hfB heB hlB hmB hgB gB1 hsB1
          generalize wB.alloc (.cells #[.slice (some ⟨wH.heap.size + 1, 0, none⟩) 1 1, .slice none 0 0, .slice (some ⟨fbB, 0, none⟩) 1 1, .slice none 0 0, .slice (some ⟨ebB, 0, none⟩) 1 1] 29) = W1 at KS HGB1 HBB HSB1 ⊢
          go_cut [15] from 112 (fun v15 wx => v15 = .pointer (some ⟨wB.heap.size, 0, none⟩) ∧ Cut18 w0 wG.heap.size wB.heap.size (badU k 6 q) wx)
          case first =>
            refine wp_region_z 12 (S := (fun w' => w'.cell? ⟨wG.heap.size, 2, none⟩ = some (.slice (some ⟨fbG, 0, none⟩) 1 1) ∧ w'.cell? ⟨fbG, 0, none⟩ = some (.slice none 0 0) ∧ w'.cell? ⟨fbG, 1, none⟩ = some (.int .i64 0) ∧ w'.cell? ⟨fbG, 2, none⟩ = some (.slice none 0 0) ∧ w'.cell? ⟨fbG, 3, none⟩ = some (.slice (some ⟨cbG, 0, none⟩) 2 2) ∧ w'.cell? ⟨wB.heap.size, 2, none⟩ = some (.slice (some ⟨fbB, 0, none⟩) 1 1) ∧ w'.cell? ⟨fbB, 0, none⟩ = some (.slice none 0 0) ∧ w'.cell? ⟨fbB, 1, none⟩ = some (.int .i64 0) ∧ w'.cell? ⟨fbB, 2, none⟩ = some (.slice none 0 0) ∧ w'.cell? ⟨fbB, 3, none⟩ = some (.slice ca L ccp))) (by kernel_rfl) (KS.out _ (Gr.drew (Gr.refl _))) (fun hHeld => ?_)
            refine takeZ (i := 0) (v := ?rav0) rfl (by kernel_rfl) (by decide) (by kernel_rfl) (by kernel_rfl) (by kernel_rfl) (by intro c a w h; exact h) (by rfl) ?rahy0 hHeld ?rarest0
            case rahy0 => (intro w hSw; (try dsimp only at hSw); go_simp <;> with_reducible rfl)
            simp only [Act.put, List.setIfInBounds_toArray, List.set_cons_zero, List.set_cons_succ]
            refine takeZ (i := 1) (v := ?rav1) rfl (by kernel_rfl) (by decide) (by kernel_rfl) (by kernel_rfl) (by kernel_rfl) (by intro c a w h; exact h) (by rfl) ?rahy1 hHeld ?rarest1
            case rahy1 => (intro w hSw; (try dsimp only at hSw); go_simp <;> with_reducible rfl)
            simp only [Act.put, List.setIfInBounds_toArray, List.set_cons_zero, List.set_cons_succ]
            refine takeZ (i := 2) (v := ?rav2) rfl (by kernel_rfl) (by decide) (by kernel_rfl) (by kernel_rfl) (by kernel_rfl) (by intro c a w h; exact h) (by rfl) ?rahy2 hHeld ?rarest2
            case rahy2 => (intro w hSw; (try dsimp only at hSw); go_simp <;> with_reducible rfl)
            simp only [Act.put, List.setIfInBounds_toArray, List.set_cons_zero, List.set_cons_succ]
            refine takeZ (i := 3) (v := ?rav3) rfl (by kernel_rfl) (by decide) (by kernel_rfl) (by kernel_rfl) (by kernel_rfl) (by intro c a w h; exact h) (by rfl) ?rahy3 hHeld ?rarest3
            case rahy3 => (intro w hSw; (try dsimp only at hSw); go_simp <;> with_reducible rfl)
            simp only [Act.put, List.setIfInBounds_toArray, List.set_cons_zero, List.set_cons_succ]
            refine takeZ (i := 5) (v := ?rav5) rfl (by kernel_rfl) (by decide) (by kernel_rfl) (by kernel_rfl) (by kernel_rfl) (by intro c a w h; exact h) (by rfl) ?rahy5 hHeld ?rarest5
            case rahy5 => (intro w hSw; (try dsimp only at hSw); go_simp <;> with_reducible rfl)
            simp only [Act.put, List.setIfInBounds_toArray, List.set_cons_zero, List.set_cons_succ]
            refine takeZ (i := 6) (v := ?rav6) rfl (by kernel_rfl) (by decide) (by kernel_rfl) (by kernel_rfl) (by kernel_rfl) (by intro c a w h; exact h) (by rfl) ?rahy6 hHeld ?rarest6
            case rahy6 => (intro w hSw; (try dsimp only at hSw); go_simp <;> with_reducible rfl)
            simp only [Act.put, List.setIfInBounds_toArray, List.set_cons_zero, List.set_cons_succ]
            refine takeZ (i := 7) (v := ?rav7) rfl (by kernel_rfl) (by decide) (by kernel_rfl) (by kernel_rfl) (by kernel_rfl) (by intro c a w h; exact h) (by rfl) ?rahy7 hHeld ?rarest7
            case rahy7 => (intro w hSw; (try dsimp only at hSw); go_simp <;> with_reducible rfl)
            simp only [Act.put, List.setIfInBounds_toArray, List.set_cons_zero, List.set_cons_succ]
            refine takeZ (i := 8) (v := ?rav8) rfl (by kernel_rfl) (by decide) (by kernel_rfl) (by kernel_rfl) (by kernel_rfl) (by intro c a w h; exact h) (by rfl) ?rahy8 hHeld ?rarest8
            case rahy8 => (intro w hSw; (try dsimp only at hSw); go_simp <;> with_reducible rfl)
            simp only [Act.put, List.setIfInBounds_toArray, List.set_cons_zero, List.set_cons_succ]
            refine phase2z (x := 4) (y := 9) rfl rfl (by kernel_rfl) (by kernel_rfl) (by decide) (by kernel_rfl) (by kernel_rfl) (by kernel_rfl) (by rfl) (by rfl) (fun c a d v w h => by cases d <;> exact h) (TwP #[.slice none 0 0, .int .i64 0, .slice none 0 0, .slice (some ⟨cbG, 0, none⟩) 2 2] W1.drew) (TwP #[.slice none 0 0, .int .i64 0, .slice none 0 0, .slice ca L ccp] W1.drew) (TwR #[.slice none 0 0, .int .i64 0, .slice none 0 0, .slice (some ⟨cbG, 0, none⟩) 2 2] #[.slice none 0 0, .int .i64 0, .slice none 0 0, .slice ca L ccp] W1.drew) (fun v w' h => KS.out _ ((Gr.drew (Gr.refl _)).trans h.choose_spec.2.2.1)) (fun v w' h => KS.out _ ((Gr.drew (Gr.refl _)).trans h.choose_spec.2.2.1)) (fun v v' w' h => KS.out _ ((Gr.drew (Gr.refl _)).trans h.1.choose_spec.2.2.1)) ?rastX ?rastXY ?rastY ?rastYX ?rastR
            case rastX =>
              intro K hK
              have HK := hide hK
              clear hK
              go_simp
              exact HK.out _ _ ⟨_, rfl, heap_alloc_new _ _, (Gr.refl _).alloc _, Nat.le_refl _⟩
            case rastXY =>
              intro vx w' hx K hK
              have HK := hide hK
              clear hK
              have hgx := hx.choose_spec.2.2.1
              go_simp
              exact HK.out _ _ ⟨hx.gr ((Gr.refl _).alloc _), ⟨_, rfl, heap_alloc_new _ _, hgx.alloc _, hgx.size⟩⟩
            case rastY =>
              intro K hK
              have HK := hide hK
              clear hK
              go_simp
              exact HK.out _ _ ⟨_, rfl, heap_alloc_new _ _, (Gr.refl _).alloc _, Nat.le_refl _⟩
            case rastYX =>
              intro vy w' hy K hK
              have HK := hide hK
              clear hK
              have hgy := hy.choose_spec.2.2.1
              go_simp
              exact HK.out _ _ ⟨⟨_, rfl, heap_alloc_new _ _, hgy.alloc _, hgy.size⟩, hy.gr ((Gr.refl _).alloc _)⟩
            rintro vx vy w2 ⟨⟨bx, rfl, hbx, hgx, hlx⟩, ⟨by_, rfl, hby, _, _⟩⟩
            have hg2 := (Gr.drew (Gr.refl W1)).trans hgx
            have hHeld := KS.out _ hg2
            simp only [Act.put, List.setIfInBounds_toArray, List.set_cons_zero, List.set_cons_succ]
            have hox : w2.ownsRow W1.heap.size 47 4 (.slice (some ⟨bx, 0, none⟩) 1 1) 1 [.slice none 0 0, .int .i64 0, .slice none 0 0, .slice (some ⟨cbG, 0, none⟩) 2 2] := ⟨rfl, .inr ⟨bx, 1, #[.slice none 0 0, .int .i64 0, .slice none 0 0, .slice (some ⟨cbG, 0, none⟩) 2 2], rfl, hlx, hbx, by omega, by unfold maxLen; decide, rfl, rfl⟩⟩
            have hry : RRow w2 (.slice (some ⟨by_, 0, none⟩) 1 1) 1 [.slice none 0 0, .int .i64 0, .slice none 0 0, .slice ca L ccp] := ⟨_, _, rfl, fun j u hj => ⟨by_, 0, rfl, by rw [hcell_ hby, Nat.zero_add, ← Array.getElem?_toList]; exact hj⟩⟩
            obtain ⟨v6, w6, hr6, ho6, hg6, hl6⟩ := app_rows (ty := 25) 25 47 _ Tryz.infU Tryz.uU rfl (by decide) (by decide) hox hry rfl (by intro q hq; simp at hq; rcases hq with rfl | rfl | rfl | rfl <;> rfl) (by omega) hg2.size
            obtain ⟨fa, fc, rfl⟩ := own_shape_ ho6
            have hbbl : wB.heap.size < W1.heap.size := by have := HSB1.out; omega
            have hg16 : ∀ q, q < W1.heap.size → w6.heap[q]? = W1.heap[q]? := fun q hq => (hg6.block q (by have := hg2.size; omega) (by simp [Value.ownBlock]; have hlx' : W1.heap.size ≤ bx := hlx; omega)).trans (hg2.block q hq (by simp))
            have hbb6 := (hg16 wB.heap.size hbbl).trans HBB.out
            have hc6 : w6.cell? ⟨wB.heap.size, 2, none⟩ = some (.slice (some ⟨fbB, 0, none⟩) 1 1) := by rw [hcell_ hbb6]; rfl
            have hz6 : w6.frozen? ⟨wB.heap.size, 2, none⟩ = false := hfrozen_ hbb6
            have HO6 := hide ho6
            have HG16 := hide hg16
            have HBB6 := hide hbb6
            have HS6 := hide (Nat.le_trans hg2.size hg6.size)
            have HE6 := hide (And.intro (hg6.os.trans hg2.os) (And.intro (hg6.tape.trans hg2.tape) (hg6.output.trans hg2.output)))
            have KS6 : Hid (w6.cell? ⟨wG.heap.size, 2, none⟩ = some (.slice (some ⟨fbG, 0, none⟩) 1 1) ∧ w6.cell? ⟨fbG, 0, none⟩ = some (.slice none 0 0) ∧ w6.cell? ⟨fbG, 1, none⟩ = some (.int .i64 0) ∧ w6.cell? ⟨fbG, 2, none⟩ = some (.slice none 0 0) ∧ w6.cell? ⟨fbG, 3, none⟩ = some (.slice (some ⟨cbG, 0, none⟩) 2 2) ∧ w6.cell? ⟨wB.heap.size, 2, none⟩ = some (.slice (some ⟨fbB, 0, none⟩) 1 1) ∧ w6.cell? ⟨fbB, 0, none⟩ = some (.slice none 0 0) ∧ w6.cell? ⟨fbB, 1, none⟩ = some (.int .i64 0) ∧ w6.cell? ⟨fbB, 2, none⟩ = some (.slice none 0 0) ∧ w6.cell? ⟨fbB, 3, none⟩ = some (.slice ca L ccp)) := hide (by
              obtain ⟨s0, s1, s2, s3, s4, s5, s6, s7, s8, s9⟩ := KS.out W1 (Gr.refl _)
              have hk : ∀ (a : Addr) (x : Value), W1.cell? a = some x → w6.cell? a = some x := fun a x h => (World.cell?_of_block (HG16.out a.block (World.block_lt_of_cell? W1 _ h))).trans h
              exact ⟨hk _ _ s0, hk _ _ s1, hk _ _ s2, hk _ _ s3, hk _ _ s4, hk _ _ s5, hk _ _ s6, hk _ _ s7, hk _ _ s8, hk _ _ s9⟩)
            refine aloneZ (i := 10) rfl (by kernel_rfl) (fun K hK => ?_)
            refine want_yes (by rfl) (Lib.wp_append_run _ _ _ _ _ rfl (.slice (some ⟨bx, 0, none⟩) 1 1) (.slice (some ⟨by_, 0, none⟩) 1 1) (by simp [Act.eval]) (by simp [Act.eval]) _ _ hr6 ?_)
            refine hK.out _ _ (fun _ => KS6.out) (fun hHeld => ?_)
            replace hHeld := hHeld (by decide)
            clear hK
            try simp only [Act.put, List.setIfInBounds_toArray, List.set_cons_zero, List.set_cons_succ]
            refine takeZ (i := 11) (v := ?rasv11) rfl (by kernel_rfl) (by decide) (by kernel_rfl) (by kernel_rfl) (by kernel_rfl) (by intro c a w h; exact h) (by rfl) ?rashy11 hHeld ?rasrest11
            case rashy11 => (intro w hSw; (try dsimp only at hSw); go_simp <;> with_reducible rfl)
            simp only [Act.put, List.setIfInBounds_toArray, List.set_cons_zero, List.set_cons_succ]
            refine aloneZ (i := 12) rfl (by kernel_rfl) (fun K hK => ?_)
            refine want_yes (by rfl) ?_
            have HK := hide hK
            clear hK
            go_simp
            refine HK.out _ _ (fun h => absurd rfl h) (fun _ => ?_)
            clear HK
            try simp only [Act.put, List.setIfInBounds_toArray, List.set_cons_zero, List.set_cons_succ]
            refine doneZ (by kernel_rfl) ?_ _
            clear hHeld KS
            go_wp2_with fail
            go_meet
            refine ⟨rfl, ?_⟩
            have hE6 := HE6.out
            have hgB1 := HGB1.out
            have hsB1 := HSB1.out
            have gBF : Gr wB (w6.setCell ⟨wB.heap.size, 2, none⟩ (.slice fa 2 fc)) := ⟨hE6.1.trans hgB1.os, hE6.2.1.trans hgB1.tape, hE6.2.2.trans hgB1.output, by have := HS6.out; have := hgB1.size; simp; omega, fun i hi hne => (Below.heap_setCell _ _ _ _ (by show i ≠ wB.heap.size; omega)).trans ((HG16.out i (by omega)).trans (hgB1.block i hi hne))⟩
            have hbbF : (w6.setCell ⟨wB.heap.size, 2, none⟩ (.slice fa 2 fc)).heap[wB.heap.size]? = some (.cells #[.slice (some ⟨wH.heap.size + 1, 0, none⟩) 1 1, .slice none 0 0, .slice fa 2 fc, .slice none 0 0, .slice (some ⟨ebB, 0, none⟩) 1 1] 29 (0, 0)) := (heap_setCell_same w6 wB.heap.size 2 _ _ _ HBB6.out).trans (by simp)
            have hoF : (w6.setCell ⟨wB.heap.size, 2, none⟩ (.slice fa 2 fc)).ownsRow W1.heap.size 47 4 (.slice fa 2 fc) 2 [.slice none 0 0, .int .i64 0, .slice none 0 0, .slice (some ⟨cbG, 0, none⟩) 2 2, .slice none 0 0, .int .i64 0, .slice none 0 0, .slice ca L ccp] := own_at_ HO6.out (fun q hq => Below.heap_setCell _ _ _ _ (by show q ≠ wB.heap.size; have := (HO6.out.lt q hq).1; omega))
            exact ⟨_, _, _, _, _, _, _, _, _, _, _, _, _, _, _, _, _, _, (gBF.block _ hgbl (by simp)).trans HBGB.out, HUGB.out.gr gBF, hbbF, unit_at (HSB.out.gr gBF) (fun2_of hoF (HCGB.out.gr gBF) (HCB.out.gr gBF)) (HEB.out.gr gBF), HG0B.out.trans gBF⟩
          case rest =>
            obtain ⟨rfl, g1, g3, g5, gn1, gn3, gn5, gc1, gc3, gc5, b1, b3, b5, bn1, bn3, bn5, bc1, bc3, bc5, hgb, hug, hbb, hub, hgr⟩ := hcut
            clear KS HFG HCG HUG HG7G HGH HBG HSB HEB HFB HCB HCGB HUGB HFGB HBGB HG0B HBB HGB1 HSB1 HC7 HG7 HR7
            have hv1 := verify_of goodU (through_any goodU) _ wc hug
            unfold VfyR at hv1
            rw [good_fact] at hv1
            have HV1 := hide hv1
            have HBB := hide hbb
            have HUB := hide hub
            have HGR := hide hgr
            have y0 : wc.cell? ⟨wG.heap.size, 0, none⟩ = some (.slice g1 gn1 gc1) := by rw [hcell_ hgb]; rfl
            have y1 : wc.cell? ⟨wG.heap.size, 1, none⟩ = some (.slice none 0 0) := by rw [hcell_ hgb]; rfl
            have y2 : wc.cell? ⟨wG.heap.size, 2, none⟩ = some (.slice g3 gn3 gc3) := by rw [hcell_ hgb]; rfl
            have y3 : wc.cell? ⟨wG.heap.size, 3, none⟩ = some (.slice none 0 0) := by rw [hcell_ hgb]; rfl
            have y4 : wc.cell? ⟨wG.heap.size, 4, none⟩ = some (.slice g5 gn5 gc5) := by rw [hcell_ hgb]; rfl
            clear hv1 hgb hug hbb hub hgr
            go_wp2_with fail
            refine HV1.out.mono ?_
            rintro x w8 ⟨rfl, hb8⟩
            have hg8 := below_Gr hb8
            have hv2 := verify_of (badU k 6 q) (through_any _) _ w8 (HUB.out.gr hg8)
            unfold VfyR at hv2
            rw [HBF.out.vfy] at hv2
            simp only at hv2
            rw [← HAT.out] at hv2
            have HV2 := hide hv2
            have hbb8 := (hg8.block wB.heap.size (Array.getElem?_eq_some_iff.1 HBB.out).1 (by simp)).trans HBB.out
            have HBB8 := hide hbb8
            have HG8 := hide hg8
            have z0 : w8.cell? ⟨wB.heap.size, 0, none⟩ = some (.slice b1 bn1 bc1) := by rw [hcell_ hbb8]; rfl
            have z1 : w8.cell? ⟨wB.heap.size, 1, none⟩ = some (.slice none 0 0) := by rw [hcell_ hbb8]; rfl
            have z2 : w8.cell? ⟨wB.heap.size, 2, none⟩ = some (.slice b3 bn3 bc3) := by rw [hcell_ hbb8]; rfl
            have z3 : w8.cell? ⟨wB.heap.size, 3, none⟩ = some (.slice none 0 0) := by rw [hcell_ hbb8]; rfl
            have z4 : w8.cell? ⟨wB.heap.size, 4, none⟩ = some (.slice b5 bn5 bc5) := by rw [hcell_ hbb8]; rfl
            clear hb8 hg8 hv2 hbb8 HV1 y0 y1 y2 y3 y4
            go_wp2_with fail
            refine HV2.out.mono ?_
            rintro x w9 ⟨rfl, hb9⟩
            have hg9 := below_Gr hb9
            have hbb9 := (hg9.block wB.heap.size (Array.getElem?_eq_some_iff.1 HBB8.out).1 (by simp)).trans HBB8.out
            have gL := (Gr.refl w9).alloc (.cells #[.slice b1 bn1 bc1, .slice none 0 0, .slice b3 bn3 bc3, .slice none 0 0, .slice b5 bn5 bc5] 29)
            have hbL := heap_alloc_new w9 (.cells #[.slice b1 bn1 bc1, .slice none 0 0, .slice b3 bn3 bc3, .slice none 0 0, .slice b5 bn5 bc5] 29)
            have hRL := units1 hbL ((HUB.out.gr HG8.out).gr (hg9.trans gL))
            have hkr := krun_any (fun _ => ⟨0, 0, 0, 0, 0, [], 0⟩) 9 9 [badU k 6 q] _ _ hRL (by
              intro u hu
              simp only [List.mem_singleton] at hu
              subst hu
              exact ⟨HBF.out.ok, HBF.out.fit, by have := HBF.out.len; omega⟩) (mach_none HBF.out) (by simp)
            rw [run_bad HBF.out, ← HAT.out] at hkr
            have HKR := hide hkr
            have HG9 := hide (HGR.out.trans (HG8.out.trans (hg9.trans gL)))
            have x0 : w9.cell? ⟨wB.heap.size, 0, none⟩ = some (.slice b1 bn1 bc1) := by rw [hcell_ hbb9]; rfl
            have x1 : w9.cell? ⟨wB.heap.size, 1, none⟩ = some (.slice none 0 0) := by rw [hcell_ hbb9]; rfl
            have x2 : w9.cell? ⟨wB.heap.size, 2, none⟩ = some (.slice b3 bn3 bc3) := by rw [hcell_ hbb9]; rfl
            have x3 : w9.cell? ⟨wB.heap.size, 3, none⟩ = some (.slice none 0 0) := by rw [hcell_ hbb9]; rfl
            have x4 : w9.cell? ⟨wB.heap.size, 4, none⟩ = some (.slice b5 bn5 bc5) := by rw [hcell_ hbb9]; rfl
            clear hb9 hg9 hbb9 gL hbL hRL hkr HV2 z0 z1 z2 z3 z4
            go_wp2_with fail
            refine HKR.out.mono ?_
            rintro x wE ⟨vo, rfl, ⟨vt, rfl, hvt⟩, hgE⟩
            obtain ⟨vta, vtc, rfl⟩ := hvt.shape
            have HGE := hide (HG9.out.trans hgE)
            clear hvt hgE HKR x0 x1 x2 x3 x4
            go_wp2_with fail
            go_ret
            exact ⟨rfl, HGE.out.alloc _⟩
        · by_cases h8 : wh = 8
          · subst h8
            have HAT : Hid ((nb : Int) = (atW k 8 : Int)) := hide (by have := HNN.out; simp [atW]; omega)
            go_upto_region 17 with (first | (at_builtin; refine Lib.wpList_append_run _ rfl _ _ _ _ rfl _ _ rfl rfl _ _ HR7.out ?_) | (go_at_call 10; refine (kop_any _ _ _).mono ?_; rintro x w' ⟨rfl, hg'⟩) | (go_at_call 11; refine (program_any _ _ _ _ _ _ _ _ _ _).mono ?_; rintro x wG ⟨fbG, ebG, rfl, hfG, heG, hlG, hmG, hgG⟩))
            have hsG : RShapes wG (.slice (some ⟨w7.heap.size + 1, 0, none⟩) 1 1) [[0, 1]] := rsh_at (kept_new' (by repeat (first | with_reducible exact Gr.refl _ | with_reducible refine Gr.alloc ?_ _ | with_reducible refine Gr.trans ?_ (by with_reducible assumption)))) (kept_new (by repeat (first | with_reducible exact Gr.refl _ | with_reducible refine Gr.alloc ?_ _ | with_reducible refine Gr.trans ?_ (by with_reducible assumption))))
            have hcG : RCode wG (.slice (some ⟨w'.heap.size, 0, none⟩) 2 2) [iOp 1 3, iOp 14 0] := rcode_at (kept_new (by repeat (first | with_reducible exact Gr.refl _ | with_reducible refine Gr.alloc ?_ _ | with_reducible refine Gr.trans ?_ (by with_reducible assumption)))) (by rfl) (by rfl) (by simp)
            have huG := unit_at hsG (fun1_at hfG hcG) (exp_at heG)
            have g7G : Gr w7 wG := (by repeat (first | with_reducible exact Gr.refl _ | with_reducible refine Gr.alloc ?_ _ | with_reducible refine Gr.trans ?_ (by with_reducible assumption)))
            generalize w'.heap.size = cbG at hfG hcG ⊢
            have HFG := hide hfG
            have HCG := hide hcG
            have HUG := hide huG
            have HG7G := hide g7G
            have HGH := hide ((Gr.refl wG).alloc (.cells #[.slice (some ⟨w7.heap.size + 1, 0, none⟩) 1 1, .slice none 0 0, .slice (some ⟨fbG, 0, none⟩) 1 1, .slice none 0 0, .slice (some ⟨ebG, 0, none⟩) 1 1] 29))
            have HBG := hide (heap_alloc_new wG (.cells #[.slice (some ⟨w7.heap.size + 1, 0, none⟩) 1 1, .slice none 0 0, .slice (some ⟨fbG, 0, none⟩) 1 1, .slice none 0 0, .slice (some ⟨ebG, 0, none⟩) 1 1] 29))
            clear hsG hcG huG g7G hfG heG hlG hmG hgG hg' hcl hw4 hwi key
            generalize wG.alloc (.cells #[.slice (some ⟨w7.heap.size + 1, 0, none⟩) 1 1, .slice none 0 0, .slice (some ⟨fbG, 0, none⟩) 1 1, .slice none 0 0, .slice (some ⟨ebG, 0, none⟩) 1 1] 29) = wH at HGH HBG ⊢
            go_upto_region 18 with (go_at_call 11; refine (program_any _ _ _ _ _ _ _ _ _ _).mono ?_; rintro x wB ⟨fbB, ebB, rfl, hfB, heB, hlB, hmB, hgB⟩)
            have hsB : RShapes wB (.slice (some ⟨wH.heap.size + 1, 0, none⟩) 1 1) [[0, 1]] := rsh_at (kept_new' (by repeat (first | with_reducible exact Gr.refl _ | with_reducible refine Gr.alloc ?_ _ | with_reducible refine Gr.trans ?_ (by with_reducible assumption)))) (kept_new (by repeat (first | with_reducible exact Gr.refl _ | with_reducible refine Gr.alloc ?_ _ | with_reducible refine Gr.trans ?_ (by with_reducible assumption))))
            have gHB : Gr wH wB := (by repeat (first | with_reducible exact Gr.refl _ | with_reducible refine Gr.alloc ?_ _ | with_reducible refine Gr.trans ?_ (by with_reducible assumption)))
            have gGB : Gr wG wB := HGH.out.trans gHB
            have g7B : Gr w7 wB := HG7G.out.trans gGB
            have HSB := hide hsB
            have HEB := hide (exp_at heB)
            have HFB := hide hfB
            have HCB := hide (HC7.out.gr g7B)
            have HCGB := hide (HCG.out.gr gGB)
            have HUGB := hide (HUG.out.gr gGB)
            have HFGB := hide ((gGB.block fbG (Array.getElem?_eq_some_iff.1 HFG.out).1 (by simp)).trans HFG.out)
            have HBGB := hide ((gHB.block wG.heap.size (Array.getElem?_eq_some_iff.1 HBG.out).1 (by simp)).trans HBG.out)
            have hgbl : wG.heap.size < wB.heap.size := (Array.getElem?_eq_some_iff.1 HBGB.out).1
            have HG0B := hide (HG7.out.trans g7B)
            have gB1 := (Gr.refl wB).alloc (.cells #[.slice (some ⟨wH.heap.size + 1, 0, none⟩) 1 1, .slice none 0 0, .slice (some ⟨fbB, 0, none⟩) 1 1, .slice none 0 0, .slice (some ⟨ebB, 0, none⟩) 1 1] 29)
            have HBB := hide (heap_alloc_new wB (.cells #[.slice (some ⟨wH.heap.size + 1, 0, none⟩) 1 1, .slice none 0 0, .slice (some ⟨fbB, 0, none⟩) 1 1, .slice none 0 0, .slice (some ⟨ebB, 0, none⟩) 1 1] 29))
            have HGB1 := hide gB1
            have hsB1 : (wB.alloc (.cells #[.slice (some ⟨wH.heap.size + 1, 0, none⟩) 1 1, .slice none 0 0, .slice (some ⟨fbB, 0, none⟩) 1 1, .slice none 0 0, .slice (some ⟨ebB, 0, none⟩) 1 1] 29)).heap.size = wB.heap.size + 1 := by simp
            have HSB1 := hide hsB1
            have KS : Hid (∀ w', Gr (wB.alloc (.cells #[.slice (some ⟨wH.heap.size + 1, 0, none⟩) 1 1, .slice none 0 0, .slice (some ⟨fbB, 0, none⟩) 1 1, .slice none 0 0, .slice (some ⟨ebB, 0, none⟩) 1 1] 29)) w' → w'.cell? ⟨wG.heap.size, 2, none⟩ = some (.slice (some ⟨fbG, 0, none⟩) 1 1) ∧ w'.cell? ⟨fbG, 0, none⟩ = some (.slice none 0 0) ∧ w'.cell? ⟨fbG, 1, none⟩ = some (.int .i64 0) ∧ w'.cell? ⟨fbG, 2, none⟩ = some (.slice none 0 0) ∧ w'.cell? ⟨fbG, 3, none⟩ = some (.slice (some ⟨cbG, 0, none⟩) 2 2) ∧ w'.cell? ⟨wB.heap.size, 2, none⟩ = some (.slice (some ⟨fbB, 0, none⟩) 1 1) ∧ w'.cell? ⟨fbB, 0, none⟩ = some (.slice none 0 0) ∧ w'.cell? ⟨fbB, 1, none⟩ = some (.int .i64 0) ∧ w'.cell? ⟨fbB, 2, none⟩ = some (.slice none 0 0) ∧ w'.cell? ⟨fbB, 3, none⟩ = some (.slice ca L ccp)) := hide (fun w' g => by
              have e0 := ((gB1.trans g).block wG.heap.size (Array.getElem?_eq_some_iff.1 HBGB.out).1 (by simp)).trans HBGB.out
              have e1 := ((gB1.trans g).block fbG (Array.getElem?_eq_some_iff.1 HFGB.out).1 (by simp)).trans HFGB.out
              have e2 := (g.block wB.heap.size (by simp) (by simp)).trans HBB.out
              have e3 := ((gB1.trans g).block fbB (Array.getElem?_eq_some_iff.1 HFB.out).1 (by simp)).trans HFB.out
              exact ⟨by rw [hcell_ e0]; rfl, by rw [hcell_ e1]; rfl, by rw [hcell_ e1]; rfl, by rw [hcell_ e1]; rfl, by rw [hcell_ e1]; rfl, by rw [hcell_ e2]; rfl, by rw [hcell_ e3]; rfl, by rw [hcell_ e3]; rfl, by rw [hcell_ e3]; rfl, by rw [hcell_ e3]; rfl⟩)
            clear hsB gHB gGB g7B hfB heB hlB hmB hgB gB1 hsB1
            generalize wB.alloc (.cells #[.slice (some ⟨wH.heap.size + 1, 0, none⟩) 1 1, .slice none 0 0, .slice (some ⟨fbB, 0, none⟩) 1 1, .slice none 0 0, .slice (some ⟨ebB, 0, none⟩) 1 1] 29) = W1 at KS HGB1 HBB HSB1 ⊢
            go_cut [15] from 112 (fun v15 wx => v15 = .pointer (some ⟨wB.heap.size, 0, none⟩) ∧ Cut18 w0 wG.heap.size wB.heap.size (badU k 8 q) wx)
            case first =>
              refine wp_region_z 12 (S := (fun w' => w'.cell? ⟨wG.heap.size, 2, none⟩ = some (.slice (some ⟨fbG, 0, none⟩) 1 1) ∧ w'.cell? ⟨fbG, 0, none⟩ = some (.slice none 0 0) ∧ w'.cell? ⟨fbG, 1, none⟩ = some (.int .i64 0) ∧ w'.cell? ⟨fbG, 2, none⟩ = some (.slice none 0 0) ∧ w'.cell? ⟨fbG, 3, none⟩ = some (.slice (some ⟨cbG, 0, none⟩) 2 2) ∧ w'.cell? ⟨wB.heap.size, 2, none⟩ = some (.slice (some ⟨fbB, 0, none⟩) 1 1) ∧ w'.cell? ⟨fbB, 0, none⟩ = some (.slice none 0 0) ∧ w'.cell? ⟨fbB, 1, none⟩ = some (.int .i64 0) ∧ w'.cell? ⟨fbB, 2, none⟩ = some (.slice none 0 0) ∧ w'.cell? ⟨fbB, 3, none⟩ = some (.slice ca L ccp))) (by kernel_rfl) (KS.out _ (Gr.drew (Gr.refl _))) (fun hHeld => ?_)
              refine takeZ (i := 0) (v := ?rbv0) rfl (by kernel_rfl) (by decide) (by kernel_rfl) (by kernel_rfl) (by kernel_rfl) (by intro c a w h; exact h) (by rfl) ?rbhy0 hHeld ?rbrest0
              case rbhy0 => (intro w hSw; (try dsimp only at hSw); go_simp <;> with_reducible rfl)
              simp only [Act.put, List.setIfInBounds_toArray, List.set_cons_zero, List.set_cons_succ]
              refine takeZ (i := 1) (v := ?rbv1) rfl (by kernel_rfl) (by decide) (by kernel_rfl) (by kernel_rfl) (by kernel_rfl) (by intro c a w h; exact h) (by rfl) ?rbhy1 hHeld ?rbrest1
              case rbhy1 => (intro w hSw; (try dsimp only at hSw); go_simp <;> with_reducible rfl)
              simp only [Act.put, List.setIfInBounds_toArray, List.set_cons_zero, List.set_cons_succ]
              refine takeZ (i := 2) (v := ?rbv2) rfl (by kernel_rfl) (by decide) (by kernel_rfl) (by kernel_rfl) (by kernel_rfl) (by intro c a w h; exact h) (by rfl) ?rbhy2 hHeld ?rbrest2
              case rbhy2 => (intro w hSw; (try dsimp only at hSw); go_simp <;> with_reducible rfl)
              simp only [Act.put, List.setIfInBounds_toArray, List.set_cons_zero, List.set_cons_succ]
              refine takeZ (i := 3) (v := ?rbv3) rfl (by kernel_rfl) (by decide) (by kernel_rfl) (by kernel_rfl) (by kernel_rfl) (by intro c a w h; exact h) (by rfl) ?rbhy3 hHeld ?rbrest3
              case rbhy3 => (intro w hSw; (try dsimp only at hSw); go_simp <;> with_reducible rfl)
              simp only [Act.put, List.setIfInBounds_toArray, List.set_cons_zero, List.set_cons_succ]
              refine takeZ (i := 5) (v := ?rbv5) rfl (by kernel_rfl) (by decide) (by kernel_rfl) (by kernel_rfl) (by kernel_rfl) (by intro c a w h; exact h) (by rfl) ?rbhy5 hHeld ?rbrest5
              case rbhy5 => (intro w hSw; (try dsimp only at hSw); go_simp <;> with_reducible rfl)
              simp only [Act.put, List.setIfInBounds_toArray, List.set_cons_zero, List.set_cons_succ]
              refine takeZ (i := 6) (v := ?rbv6) rfl (by kernel_rfl) (by decide) (by kernel_rfl) (by kernel_rfl) (by kernel_rfl) (by intro c a w h; exact h) (by rfl) ?rbhy6 hHeld ?rbrest6
              case rbhy6 => (intro w hSw; (try dsimp only at hSw); go_simp <;> with_reducible rfl)
              simp only [Act.put, List.setIfInBounds_toArray, List.set_cons_zero, List.set_cons_succ]
              refine takeZ (i := 7) (v := ?rbv7) rfl (by kernel_rfl) (by decide) (by kernel_rfl) (by kernel_rfl) (by kernel_rfl) (by intro c a w h; exact h) (by rfl) ?rbhy7 hHeld ?rbrest7
              case rbhy7 => (intro w hSw; (try dsimp only at hSw); go_simp <;> with_reducible rfl)
              simp only [Act.put, List.setIfInBounds_toArray, List.set_cons_zero, List.set_cons_succ]
              refine takeZ (i := 8) (v := ?rbv8) rfl (by kernel_rfl) (by decide) (by kernel_rfl) (by kernel_rfl) (by kernel_rfl) (by intro c a w h; exact h) (by rfl) ?rbhy8 hHeld ?rbrest8
              case rbhy8 => (intro w hSw; (try dsimp only at hSw); go_simp <;> with_reducible rfl)
              simp only [Act.put, List.setIfInBounds_toArray, List.set_cons_zero, List.set_cons_succ]
              refine phase2z (x := 4) (y := 9) rfl rfl (by kernel_rfl) (by kernel_rfl) (by decide) (by kernel_rfl) (by kernel_rfl) (by kernel_rfl) (by rfl) (by rfl) (fun c a d v w h => by cases d <;> exact h) (TwP #[.slice none 0 0, .int .i64 0, .slice none 0 0, .slice (some ⟨cbG, 0, none⟩) 2 2] W1.drew) (TwP #[.slice none 0 0, .int .i64 0, .slice none 0 0, .slice ca L ccp] W1.drew) (TwR #[.slice none 0 0, .int .i64 0, .slice none 0 0, .slice (some ⟨cbG, 0, none⟩) 2 2] #[.slice none 0 0, .int .i64 0, .slice none 0 0, .slice ca L ccp] W1.drew) (fun v w' h => KS.out _ ((Gr.drew (Gr.refl _)).trans h.choose_spec.2.2.1)) (fun v w' h => KS.out _ ((Gr.drew (Gr.refl _)).trans h.choose_spec.2.2.1)) (fun v v' w' h => KS.out _ ((Gr.drew (Gr.refl _)).trans h.1.choose_spec.2.2.1)) ?rbstX ?rbstXY ?rbstY ?rbstYX ?rbstR
              case rbstX =>
                intro K hK
                have HK := hide hK
                clear hK
                go_simp
                exact HK.out _ _ ⟨_, rfl, heap_alloc_new _ _, (Gr.refl _).alloc _, Nat.le_refl _⟩
              case rbstXY =>
                intro vx w' hx K hK
                have HK := hide hK
                clear hK
                have hgx := hx.choose_spec.2.2.1
                go_simp
                exact HK.out _ _ ⟨hx.gr ((Gr.refl _).alloc _), ⟨_, rfl, heap_alloc_new _ _, hgx.alloc _, hgx.size⟩⟩
              case rbstY =>
                intro K hK
                have HK := hide hK
                clear hK
                go_simp
                exact HK.out _ _ ⟨_, rfl, heap_alloc_new _ _, (Gr.refl _).alloc _, Nat.le_refl _⟩
              case rbstYX =>
                intro vy w' hy K hK
                have HK := hide hK
                clear hK
                have hgy := hy.choose_spec.2.2.1
                go_simp
                exact HK.out _ _ ⟨⟨_, rfl, heap_alloc_new _ _, hgy.alloc _, hgy.size⟩, hy.gr ((Gr.refl _).alloc _)⟩
              rintro vx vy w2 ⟨⟨bx, rfl, hbx, hgx, hlx⟩, ⟨by_, rfl, hby, _, _⟩⟩
              have hg2 := (Gr.drew (Gr.refl W1)).trans hgx
              have hHeld := KS.out _ hg2
              simp only [Act.put, List.setIfInBounds_toArray, List.set_cons_zero, List.set_cons_succ]
              have hox : w2.ownsRow W1.heap.size 47 4 (.slice (some ⟨bx, 0, none⟩) 1 1) 1 [.slice none 0 0, .int .i64 0, .slice none 0 0, .slice (some ⟨cbG, 0, none⟩) 2 2] := ⟨rfl, .inr ⟨bx, 1, #[.slice none 0 0, .int .i64 0, .slice none 0 0, .slice (some ⟨cbG, 0, none⟩) 2 2], rfl, hlx, hbx, by omega, by unfold maxLen; decide, rfl, rfl⟩⟩
              have hry : RRow w2 (.slice (some ⟨by_, 0, none⟩) 1 1) 1 [.slice none 0 0, .int .i64 0, .slice none 0 0, .slice ca L ccp] := ⟨_, _, rfl, fun j u hj => ⟨by_, 0, rfl, by rw [hcell_ hby, Nat.zero_add, ← Array.getElem?_toList]; exact hj⟩⟩
              obtain ⟨v6, w6, hr6, ho6, hg6, hl6⟩ := app_rows (ty := 25) 25 47 _ Tryz.infU Tryz.uU rfl (by decide) (by decide) hox hry rfl (by intro q hq; simp at hq; rcases hq with rfl | rfl | rfl | rfl <;> rfl) (by omega) hg2.size
              obtain ⟨fa, fc, rfl⟩ := own_shape_ ho6
              have hbbl : wB.heap.size < W1.heap.size := by have := HSB1.out; omega
              have hg16 : ∀ q, q < W1.heap.size → w6.heap[q]? = W1.heap[q]? := fun q hq => (hg6.block q (by have := hg2.size; omega) (by simp [Value.ownBlock]; have hlx' : W1.heap.size ≤ bx := hlx; omega)).trans (hg2.block q hq (by simp))
              have hbb6 := (hg16 wB.heap.size hbbl).trans HBB.out
              have hc6 : w6.cell? ⟨wB.heap.size, 2, none⟩ = some (.slice (some ⟨fbB, 0, none⟩) 1 1) := by rw [hcell_ hbb6]; rfl
              have hz6 : w6.frozen? ⟨wB.heap.size, 2, none⟩ = false := hfrozen_ hbb6
              have HO6 := hide ho6
              have HG16 := hide hg16
              have HBB6 := hide hbb6
              have HS6 := hide (Nat.le_trans hg2.size hg6.size)
              have HE6 := hide (And.intro (hg6.os.trans hg2.os) (And.intro (hg6.tape.trans hg2.tape) (hg6.output.trans hg2.output)))
              have KS6 : Hid (w6.cell? ⟨wG.heap.size, 2, none⟩ = some (.slice (some ⟨fbG, 0, none⟩) 1 1) ∧ w6.cell? ⟨fbG, 0, none⟩ = some (.slice none 0 0) ∧ w6.cell? ⟨fbG, 1, none⟩ = some (.int .i64 0) ∧ w6.cell? ⟨fbG, 2, none⟩ = some (.slice none 0 0) ∧ w6.cell? ⟨fbG, 3, none⟩ = some (.slice (some ⟨cbG, 0, none⟩) 2 2) ∧ w6.cell? ⟨wB.heap.size, 2, none⟩ = some (.slice (some ⟨fbB, 0, none⟩) 1 1) ∧ w6.cell? ⟨fbB, 0, none⟩ = some (.slice none 0 0) ∧ w6.cell? ⟨fbB, 1, none⟩ = some (.int .i64 0) ∧ w6.cell? ⟨fbB, 2, none⟩ = some (.slice none 0 0) ∧ w6.cell? ⟨fbB, 3, none⟩ = some (.slice ca L ccp)) := hide (by
                obtain ⟨s0, s1, s2, s3, s4, s5, s6, s7, s8, s9⟩ := KS.out W1 (Gr.refl _)
                have hk : ∀ (a : Addr) (x : Value), W1.cell? a = some x → w6.cell? a = some x := fun a x h => (World.cell?_of_block (HG16.out a.block (World.block_lt_of_cell? W1 _ h))).trans h
                exact ⟨hk _ _ s0, hk _ _ s1, hk _ _ s2, hk _ _ s3, hk _ _ s4, hk _ _ s5, hk _ _ s6, hk _ _ s7, hk _ _ s8, hk _ _ s9⟩)
              refine aloneZ (i := 10) rfl (by kernel_rfl) (fun K hK => ?_)
              refine want_yes (by rfl) (Lib.wp_append_run _ _ _ _ _ rfl (.slice (some ⟨bx, 0, none⟩) 1 1) (.slice (some ⟨by_, 0, none⟩) 1 1) (by simp [Act.eval]) (by simp [Act.eval]) _ _ hr6 ?_)
              refine hK.out _ _ (fun _ => KS6.out) (fun hHeld => ?_)
              replace hHeld := hHeld (by decide)
              clear hK
              try simp only [Act.put, List.setIfInBounds_toArray, List.set_cons_zero, List.set_cons_succ]
              refine takeZ (i := 11) (v := ?rbsv11) rfl (by kernel_rfl) (by decide) (by kernel_rfl) (by kernel_rfl) (by kernel_rfl) (by intro c a w h; exact h) (by rfl) ?rbshy11 hHeld ?rbsrest11
              case rbshy11 => (intro w hSw; (try dsimp only at hSw); go_simp <;> with_reducible rfl)
              simp only [Act.put, List.setIfInBounds_toArray, List.set_cons_zero, List.set_cons_succ]
              refine aloneZ (i := 12) rfl (by kernel_rfl) (fun K hK => ?_)
              refine want_yes (by rfl) ?_
              have HK := hide hK
              clear hK
              go_simp
              refine HK.out _ _ (fun h => absurd rfl h) (fun _ => ?_)
              clear HK
              try simp only [Act.put, List.setIfInBounds_toArray, List.set_cons_zero, List.set_cons_succ]
              refine doneZ (by kernel_rfl) ?_ _
              clear hHeld KS
              go_wp2_with fail
              go_meet
              refine ⟨rfl, ?_⟩
              have hE6 := HE6.out
              have hgB1 := HGB1.out
              have hsB1 := HSB1.out
              have gBF : Gr wB (w6.setCell ⟨wB.heap.size, 2, none⟩ (.slice fa 2 fc)) := ⟨hE6.1.trans hgB1.os, hE6.2.1.trans hgB1.tape, hE6.2.2.trans hgB1.output, by have := HS6.out; have := hgB1.size; simp; omega, fun i hi hne => (Below.heap_setCell _ _ _ _ (by show i ≠ wB.heap.size; omega)).trans ((HG16.out i (by omega)).trans (hgB1.block i hi hne))⟩
              have hbbF : (w6.setCell ⟨wB.heap.size, 2, none⟩ (.slice fa 2 fc)).heap[wB.heap.size]? = some (.cells #[.slice (some ⟨wH.heap.size + 1, 0, none⟩) 1 1, .slice none 0 0, .slice fa 2 fc, .slice none 0 0, .slice (some ⟨ebB, 0, none⟩) 1 1] 29 (0, 0)) := (heap_setCell_same w6 wB.heap.size 2 _ _ _ HBB6.out).trans (by simp)
              have hoF : (w6.setCell ⟨wB.heap.size, 2, none⟩ (.slice fa 2 fc)).ownsRow W1.heap.size 47 4 (.slice fa 2 fc) 2 [.slice none 0 0, .int .i64 0, .slice none 0 0, .slice (some ⟨cbG, 0, none⟩) 2 2, .slice none 0 0, .int .i64 0, .slice none 0 0, .slice ca L ccp] := own_at_ HO6.out (fun q hq => Below.heap_setCell _ _ _ _ (by show q ≠ wB.heap.size; have := (HO6.out.lt q hq).1; omega))
              exact ⟨_, _, _, _, _, _, _, _, _, _, _, _, _, _, _, _, _, _, (gBF.block _ hgbl (by simp)).trans HBGB.out, HUGB.out.gr gBF, hbbF, unit_at (HSB.out.gr gBF) (fun2_of hoF (HCGB.out.gr gBF) (HCB.out.gr gBF)) (HEB.out.gr gBF), HG0B.out.trans gBF⟩
            case rest =>
              obtain ⟨rfl, g1, g3, g5, gn1, gn3, gn5, gc1, gc3, gc5, b1, b3, b5, bn1, bn3, bn5, bc1, bc3, bc5, hgb, hug, hbb, hub, hgr⟩ := hcut
              clear KS HFG HCG HUG HG7G HGH HBG HSB HEB HFB HCB HCGB HUGB HFGB HBGB HG0B HBB HGB1 HSB1 HC7 HG7 HR7
              have hv1 := verify_of goodU (through_any goodU) _ wc hug
              unfold VfyR at hv1
              rw [good_fact] at hv1
              have HV1 := hide hv1
              have HBB := hide hbb
              have HUB := hide hub
              have HGR := hide hgr
              have y0 : wc.cell? ⟨wG.heap.size, 0, none⟩ = some (.slice g1 gn1 gc1) := by rw [hcell_ hgb]; rfl
              have y1 : wc.cell? ⟨wG.heap.size, 1, none⟩ = some (.slice none 0 0) := by rw [hcell_ hgb]; rfl
              have y2 : wc.cell? ⟨wG.heap.size, 2, none⟩ = some (.slice g3 gn3 gc3) := by rw [hcell_ hgb]; rfl
              have y3 : wc.cell? ⟨wG.heap.size, 3, none⟩ = some (.slice none 0 0) := by rw [hcell_ hgb]; rfl
              have y4 : wc.cell? ⟨wG.heap.size, 4, none⟩ = some (.slice g5 gn5 gc5) := by rw [hcell_ hgb]; rfl
              clear hv1 hgb hug hbb hub hgr
              go_wp2_with fail
              refine HV1.out.mono ?_
              rintro x w8 ⟨rfl, hb8⟩
              have hg8 := below_Gr hb8
              have hv2 := verify_of (badU k 8 q) (through_any _) _ w8 (HUB.out.gr hg8)
              unfold VfyR at hv2
              rw [HBF.out.vfy] at hv2
              simp only at hv2
              rw [← HAT.out] at hv2
              have HV2 := hide hv2
              have hbb8 := (hg8.block wB.heap.size (Array.getElem?_eq_some_iff.1 HBB.out).1 (by simp)).trans HBB.out
              have HBB8 := hide hbb8
              have HG8 := hide hg8
              have z0 : w8.cell? ⟨wB.heap.size, 0, none⟩ = some (.slice b1 bn1 bc1) := by rw [hcell_ hbb8]; rfl
              have z1 : w8.cell? ⟨wB.heap.size, 1, none⟩ = some (.slice none 0 0) := by rw [hcell_ hbb8]; rfl
              have z2 : w8.cell? ⟨wB.heap.size, 2, none⟩ = some (.slice b3 bn3 bc3) := by rw [hcell_ hbb8]; rfl
              have z3 : w8.cell? ⟨wB.heap.size, 3, none⟩ = some (.slice none 0 0) := by rw [hcell_ hbb8]; rfl
              have z4 : w8.cell? ⟨wB.heap.size, 4, none⟩ = some (.slice b5 bn5 bc5) := by rw [hcell_ hbb8]; rfl
              clear hb8 hg8 hv2 hbb8 HV1 y0 y1 y2 y3 y4
              go_wp2_with fail
              refine HV2.out.mono ?_
              rintro x w9 ⟨rfl, hb9⟩
              have hg9 := below_Gr hb9
              have hbb9 := (hg9.block wB.heap.size (Array.getElem?_eq_some_iff.1 HBB8.out).1 (by simp)).trans HBB8.out
              have gL := (Gr.refl w9).alloc (.cells #[.slice b1 bn1 bc1, .slice none 0 0, .slice b3 bn3 bc3, .slice none 0 0, .slice b5 bn5 bc5] 29)
              have hbL := heap_alloc_new w9 (.cells #[.slice b1 bn1 bc1, .slice none 0 0, .slice b3 bn3 bc3, .slice none 0 0, .slice b5 bn5 bc5] 29)
              have hRL := units1 hbL ((HUB.out.gr HG8.out).gr (hg9.trans gL))
              have hkr := krun_any (fun _ => ⟨0, 0, 0, 0, 0, [], 0⟩) 9 9 [badU k 8 q] _ _ hRL (by
                intro u hu
                simp only [List.mem_singleton] at hu
                subst hu
                exact ⟨HBF.out.ok, HBF.out.fit, by have := HBF.out.len; omega⟩) (mach_none HBF.out) (by simp)
              rw [run_bad HBF.out, ← HAT.out] at hkr
              have HKR := hide hkr
              have HG9 := hide (HGR.out.trans (HG8.out.trans (hg9.trans gL)))
              have x0 : w9.cell? ⟨wB.heap.size, 0, none⟩ = some (.slice b1 bn1 bc1) := by rw [hcell_ hbb9]; rfl
              have x1 : w9.cell? ⟨wB.heap.size, 1, none⟩ = some (.slice none 0 0) := by rw [hcell_ hbb9]; rfl
              have x2 : w9.cell? ⟨wB.heap.size, 2, none⟩ = some (.slice b3 bn3 bc3) := by rw [hcell_ hbb9]; rfl
              have x3 : w9.cell? ⟨wB.heap.size, 3, none⟩ = some (.slice none 0 0) := by rw [hcell_ hbb9]; rfl
              have x4 : w9.cell? ⟨wB.heap.size, 4, none⟩ = some (.slice b5 bn5 bc5) := by rw [hcell_ hbb9]; rfl
              clear hb9 hg9 hbb9 gL hbL hRL hkr HV2 z0 z1 z2 z3 z4
              go_wp2_with fail
              refine HKR.out.mono ?_
              rintro x wE ⟨vo, rfl, ⟨vt, rfl, hvt⟩, hgE⟩
              obtain ⟨vta, vtc, rfl⟩ := hvt.shape
              have HGE := hide (HG9.out.trans hgE)
              clear hvt hgE HKR x0 x1 x2 x3 x4
              go_wp2_with fail
              go_ret
              exact ⟨rfl, HGE.out.alloc _⟩
          · have HAT : Hid ((nb : Int) + 1 = (atW k wh : Int)) := hide (by have := HNN.out; simp [atW, h6, h8]; omega)
            have hb6 : ((wh : Int) == 6) = false := by simp; omega
            have hb8 : ((wh : Int) == 8) = false := by simp; omega
            go_upto_region 17 with (first | (at_builtin; refine Lib.wpList_append_run _ rfl _ _ _ _ rfl _ _ rfl rfl _ _ HR7.out ?_) | (go_at_call 10; refine (kop_any _ _ _).mono ?_; rintro x w' ⟨rfl, hg'⟩) | (go_at_call 11; refine (program_any _ _ _ _ _ _ _ _ _ _).mono ?_; rintro x wG ⟨fbG, ebG, rfl, hfG, heG, hlG, hmG, hgG⟩))
            have hsG : RShapes wG (.slice (some ⟨w7.heap.size + 1, 0, none⟩) 1 1) [[0, 1]] := rsh_at (kept_new' (by repeat (first | with_reducible exact Gr.refl _ | with_reducible refine Gr.alloc ?_ _ | with_reducible refine Gr.trans ?_ (by with_reducible assumption)))) (kept_new (by repeat (first | with_reducible exact Gr.refl _ | with_reducible refine Gr.alloc ?_ _ | with_reducible refine Gr.trans ?_ (by with_reducible assumption))))
            have hcG : RCode wG (.slice (some ⟨w'.heap.size, 0, none⟩) 2 2) [iOp 1 3, iOp 14 0] := rcode_at (kept_new (by repeat (first | with_reducible exact Gr.refl _ | with_reducible refine Gr.alloc ?_ _ | with_reducible refine Gr.trans ?_ (by with_reducible assumption)))) (by rfl) (by rfl) (by simp)
            have huG := unit_at hsG (fun1_at hfG hcG) (exp_at heG)
            have g7G : Gr w7 wG := (by repeat (first | with_reducible exact Gr.refl _ | with_reducible refine Gr.alloc ?_ _ | with_reducible refine Gr.trans ?_ (by with_reducible assumption)))
            generalize w'.heap.size = cbG at hfG hcG ⊢
            have HFG := hide hfG
            have HCG := hide hcG
            have HUG := hide huG
            have HG7G := hide g7G
            have HGH := hide ((Gr.refl wG).alloc (.cells #[.slice (some ⟨w7.heap.size + 1, 0, none⟩) 1 1, .slice none 0 0, .slice (some ⟨fbG, 0, none⟩) 1 1, .slice none 0 0, .slice (some ⟨ebG, 0, none⟩) 1 1] 29))
            have HBG := hide (heap_alloc_new wG (.cells #[.slice (some ⟨w7.heap.size + 1, 0, none⟩) 1 1, .slice none 0 0, .slice (some ⟨fbG, 0, none⟩) 1 1, .slice none 0 0, .slice (some ⟨ebG, 0, none⟩) 1 1] 29))
            clear hsG hcG huG g7G hfG heG hlG hmG hgG hg' hcl hw4 hwi key
            generalize wG.alloc (.cells #[.slice (some ⟨w7.heap.size + 1, 0, none⟩) 1 1, .slice none 0 0, .slice (some ⟨fbG, 0, none⟩) 1 1, .slice none 0 0, .slice (some ⟨ebG, 0, none⟩) 1 1] 29) = wH at HGH HBG ⊢
            go_upto_region 18 with (go_at_call 11; refine (program_any _ _ _ _ _ _ _ _ _ _).mono ?_; rintro x wB ⟨fbB, ebB, rfl, hfB, heB, hlB, hmB, hgB⟩)
            have hsB : RShapes wB (.slice (some ⟨wH.heap.size + 1, 0, none⟩) 1 1) [[0, 1]] := rsh_at (kept_new' (by repeat (first | with_reducible exact Gr.refl _ | with_reducible refine Gr.alloc ?_ _ | with_reducible refine Gr.trans ?_ (by with_reducible assumption)))) (kept_new (by repeat (first | with_reducible exact Gr.refl _ | with_reducible refine Gr.alloc ?_ _ | with_reducible refine Gr.trans ?_ (by with_reducible assumption))))
            have gHB : Gr wH wB := (by repeat (first | with_reducible exact Gr.refl _ | with_reducible refine Gr.alloc ?_ _ | with_reducible refine Gr.trans ?_ (by with_reducible assumption)))
            have gGB : Gr wG wB := HGH.out.trans gHB
            have g7B : Gr w7 wB := HG7G.out.trans gGB
            have HSB := hide hsB
            have HEB := hide (exp_at heB)
            have HFB := hide hfB
            have HCB := hide (HC7.out.gr g7B)
            have HCGB := hide (HCG.out.gr gGB)
            have HUGB := hide (HUG.out.gr gGB)
            have HFGB := hide ((gGB.block fbG (Array.getElem?_eq_some_iff.1 HFG.out).1 (by simp)).trans HFG.out)
            have HBGB := hide ((gHB.block wG.heap.size (Array.getElem?_eq_some_iff.1 HBG.out).1 (by simp)).trans HBG.out)
            have hgbl : wG.heap.size < wB.heap.size := (Array.getElem?_eq_some_iff.1 HBGB.out).1
            have HG0B := hide (HG7.out.trans g7B)
            have gB1 := (Gr.refl wB).alloc (.cells #[.slice (some ⟨wH.heap.size + 1, 0, none⟩) 1 1, .slice none 0 0, .slice (some ⟨fbB, 0, none⟩) 1 1, .slice none 0 0, .slice (some ⟨ebB, 0, none⟩) 1 1] 29)
            have HBB := hide (heap_alloc_new wB (.cells #[.slice (some ⟨wH.heap.size + 1, 0, none⟩) 1 1, .slice none 0 0, .slice (some ⟨fbB, 0, none⟩) 1 1, .slice none 0 0, .slice (some ⟨ebB, 0, none⟩) 1 1] 29))
            have HGB1 := hide gB1
            have hsB1 : (wB.alloc (.cells #[.slice (some ⟨wH.heap.size + 1, 0, none⟩) 1 1, .slice none 0 0, .slice (some ⟨fbB, 0, none⟩) 1 1, .slice none 0 0, .slice (some ⟨ebB, 0, none⟩) 1 1] 29)).heap.size = wB.heap.size + 1 := by simp
            have HSB1 := hide hsB1
            have KS : Hid (∀ w', Gr (wB.alloc (.cells #[.slice (some ⟨wH.heap.size + 1, 0, none⟩) 1 1, .slice none 0 0, .slice (some ⟨fbB, 0, none⟩) 1 1, .slice none 0 0, .slice (some ⟨ebB, 0, none⟩) 1 1] 29)) w' → w'.cell? ⟨wG.heap.size, 2, none⟩ = some (.slice (some ⟨fbG, 0, none⟩) 1 1) ∧ w'.cell? ⟨fbG, 0, none⟩ = some (.slice none 0 0) ∧ w'.cell? ⟨fbG, 1, none⟩ = some (.int .i64 0) ∧ w'.cell? ⟨fbG, 2, none⟩ = some (.slice none 0 0) ∧ w'.cell? ⟨fbG, 3, none⟩ = some (.slice (some ⟨cbG, 0, none⟩) 2 2) ∧ w'.cell? ⟨wB.heap.size, 2, none⟩ = some (.slice (some ⟨fbB, 0, none⟩) 1 1) ∧ w'.cell? ⟨fbB, 0, none⟩ = some (.slice none 0 0) ∧ w'.cell? ⟨fbB, 1, none⟩ = some (.int .i64 0) ∧ w'.cell? ⟨fbB, 2, none⟩ = some (.slice none 0 0) ∧ w'.cell? ⟨fbB, 3, none⟩ = some (.slice ca L ccp)) := hide (fun w' g => by
              have e0 := ((gB1.trans g).block wG.heap.size (Array.getElem?_eq_some_iff.1 HBGB.out).1 (by simp)).trans HBGB.out
              have e1 := ((gB1.trans g).block fbG (Array.getElem?_eq_some_iff.1 HFGB.out).1 (by simp)).trans HFGB.out
              have e2 := (g.block wB.heap.size (by simp) (by simp)).trans HBB.out
              have e3 := ((gB1.trans g).block fbB (Array.getElem?_eq_some_iff.1 HFB.out).1 (by simp)).trans HFB.out
              exact ⟨by rw [hcell_ e0]; rfl, by rw [hcell_ e1]; rfl, by rw [hcell_ e1]; rfl, by rw [hcell_ e1]; rfl, by rw [hcell_ e1]; rfl, by rw [hcell_ e2]; rfl, by rw [hcell_ e3]; rfl, by rw [hcell_ e3]; rfl, by rw [hcell_ e3]; rfl, by rw [hcell_ e3]; rfl⟩)
            clear hsB gHB gGB g7B hfB heB hlB hmB hgB gB1 hsB1
            generalize wB.alloc (.cells #[.slice (some ⟨wH.heap.size + 1, 0, none⟩) 1 1, .slice none 0 0, .slice (some ⟨fbB, 0, none⟩) 1 1, .slice none 0 0, .slice (some ⟨ebB, 0, none⟩) 1 1] 29) = W1 at KS HGB1 HBB HSB1 ⊢
            go_cut [15] from 112 (fun v15 wx => v15 = .pointer (some ⟨wB.heap.size, 0, none⟩) ∧ Cut18 w0 wG.heap.size wB.heap.size (badU k wh q) wx)
            case first =>
              refine wp_region_z 12 (S := (fun w' => w'.cell? ⟨wG.heap.size, 2, none⟩ = some (.slice (some ⟨fbG, 0, none⟩) 1 1) ∧ w'.cell? ⟨fbG, 0, none⟩ = some (.slice none 0 0) ∧ w'.cell? ⟨fbG, 1, none⟩ = some (.int .i64 0) ∧ w'.cell? ⟨fbG, 2, none⟩ = some (.slice none 0 0) ∧ w'.cell? ⟨fbG, 3, none⟩ = some (.slice (some ⟨cbG, 0, none⟩) 2 2) ∧ w'.cell? ⟨wB.heap.size, 2, none⟩ = some (.slice (some ⟨fbB, 0, none⟩) 1 1) ∧ w'.cell? ⟨fbB, 0, none⟩ = some (.slice none 0 0) ∧ w'.cell? ⟨fbB, 1, none⟩ = some (.int .i64 0) ∧ w'.cell? ⟨fbB, 2, none⟩ = some (.slice none 0 0) ∧ w'.cell? ⟨fbB, 3, none⟩ = some (.slice ca L ccp))) (by kernel_rfl) (KS.out _ (Gr.drew (Gr.refl _))) (fun hHeld => ?_)
              refine takeZ (i := 0) (v := ?rcv0) rfl (by kernel_rfl) (by decide) (by kernel_rfl) (by kernel_rfl) (by kernel_rfl) (by intro c a w h; exact h) (by rfl) ?rchy0 hHeld ?rcrest0
              case rchy0 => (intro w hSw; (try dsimp only at hSw); go_simp <;> with_reducible rfl)
              simp only [Act.put, List.setIfInBounds_toArray, List.set_cons_zero, List.set_cons_succ]
              refine takeZ (i := 1) (v := ?rcv1) rfl (by kernel_rfl) (by decide) (by kernel_rfl) (by kernel_rfl) (by kernel_rfl) (by intro c a w h; exact h) (by rfl) ?rchy1 hHeld ?rcrest1
              case rchy1 => (intro w hSw; (try dsimp only at hSw); go_simp <;> with_reducible rfl)
              simp only [Act.put, List.setIfInBounds_toArray, List.set_cons_zero, List.set_cons_succ]
              refine takeZ (i := 2) (v := ?rcv2) rfl (by kernel_rfl) (by decide) (by kernel_rfl) (by kernel_rfl) (by kernel_rfl) (by intro c a w h; exact h) (by rfl) ?rchy2 hHeld ?rcrest2
              case rchy2 => (intro w hSw; (try dsimp only at hSw); go_simp <;> with_reducible rfl)
              simp only [Act.put, List.setIfInBounds_toArray, List.set_cons_zero, List.set_cons_succ]
              refine takeZ (i := 3) (v := ?rcv3) rfl (by kernel_rfl) (by decide) (by kernel_rfl) (by kernel_rfl) (by kernel_rfl) (by intro c a w h; exact h) (by rfl) ?rchy3 hHeld ?rcrest3
              case rchy3 => (intro w hSw; (try dsimp only at hSw); go_simp <;> with_reducible rfl)
              simp only [Act.put, List.setIfInBounds_toArray, List.set_cons_zero, List.set_cons_succ]
              refine takeZ (i := 5) (v := ?rcv5) rfl (by kernel_rfl) (by decide) (by kernel_rfl) (by kernel_rfl) (by kernel_rfl) (by intro c a w h; exact h) (by rfl) ?rchy5 hHeld ?rcrest5
              case rchy5 => (intro w hSw; (try dsimp only at hSw); go_simp <;> with_reducible rfl)
              simp only [Act.put, List.setIfInBounds_toArray, List.set_cons_zero, List.set_cons_succ]
              refine takeZ (i := 6) (v := ?rcv6) rfl (by kernel_rfl) (by decide) (by kernel_rfl) (by kernel_rfl) (by kernel_rfl) (by intro c a w h; exact h) (by rfl) ?rchy6 hHeld ?rcrest6
              case rchy6 => (intro w hSw; (try dsimp only at hSw); go_simp <;> with_reducible rfl)
              simp only [Act.put, List.setIfInBounds_toArray, List.set_cons_zero, List.set_cons_succ]
              refine takeZ (i := 7) (v := ?rcv7) rfl (by kernel_rfl) (by decide) (by kernel_rfl) (by kernel_rfl) (by kernel_rfl) (by intro c a w h; exact h) (by rfl) ?rchy7 hHeld ?rcrest7
              case rchy7 => (intro w hSw; (try dsimp only at hSw); go_simp <;> with_reducible rfl)
              simp only [Act.put, List.setIfInBounds_toArray, List.set_cons_zero, List.set_cons_succ]
              refine takeZ (i := 8) (v := ?rcv8) rfl (by kernel_rfl) (by decide) (by kernel_rfl) (by kernel_rfl) (by kernel_rfl) (by intro c a w h; exact h) (by rfl) ?rchy8 hHeld ?rcrest8
              case rchy8 => (intro w hSw; (try dsimp only at hSw); go_simp <;> with_reducible rfl)
              simp only [Act.put, List.setIfInBounds_toArray, List.set_cons_zero, List.set_cons_succ]
              refine phase2z (x := 4) (y := 9) rfl rfl (by kernel_rfl) (by kernel_rfl) (by decide) (by kernel_rfl) (by kernel_rfl) (by kernel_rfl) (by rfl) (by rfl) (fun c a d v w h => by cases d <;> exact h) (TwP #[.slice none 0 0, .int .i64 0, .slice none 0 0, .slice (some ⟨cbG, 0, none⟩) 2 2] W1.drew) (TwP #[.slice none 0 0, .int .i64 0, .slice none 0 0, .slice ca L ccp] W1.drew) (TwR #[.slice none 0 0, .int .i64 0, .slice none 0 0, .slice (some ⟨cbG, 0, none⟩) 2 2] #[.slice none 0 0, .int .i64 0, .slice none 0 0, .slice ca L ccp] W1.drew) (fun v w' h => KS.out _ ((Gr.drew (Gr.refl _)).trans h.choose_spec.2.2.1)) (fun v w' h => KS.out _ ((Gr.drew (Gr.refl _)).trans h.choose_spec.2.2.1)) (fun v v' w' h => KS.out _ ((Gr.drew (Gr.refl _)).trans h.1.choose_spec.2.2.1)) ?rcstX ?rcstXY ?rcstY ?rcstYX ?rcstR
              case rcstX =>
                intro K hK
                have HK := hide hK
                clear hK
                go_simp
                exact HK.out _ _ ⟨_, rfl, heap_alloc_new _ _, (Gr.refl _).alloc _, Nat.le_refl _⟩
              case rcstXY =>
                intro vx w' hx K hK
                have HK := hide hK
                clear hK
                have hgx := hx.choose_spec.2.2.1
                go_simp
                exact HK.out _ _ ⟨hx.gr ((Gr.refl _).alloc _), ⟨_, rfl, heap_alloc_new _ _, hgx.alloc _, hgx.size⟩⟩
              case rcstY =>
                intro K hK
                have HK := hide hK
                clear hK
                go_simp
                exact HK.out _ _ ⟨_, rfl, heap_alloc_new _ _, (Gr.refl _).alloc _, Nat.le_refl _⟩
              case rcstYX =>
                intro vy w' hy K hK
                have HK := hide hK
                clear hK
                have hgy := hy.choose_spec.2.2.1
                go_simp
                exact HK.out _ _ ⟨⟨_, rfl, heap_alloc_new _ _, hgy.alloc _, hgy.size⟩, hy.gr ((Gr.refl _).alloc _)⟩
              rintro vx vy w2 ⟨⟨bx, rfl, hbx, hgx, hlx⟩, ⟨by_, rfl, hby, _, _⟩⟩
              have hg2 := (Gr.drew (Gr.refl W1)).trans hgx
              have hHeld := KS.out _ hg2
              simp only [Act.put, List.setIfInBounds_toArray, List.set_cons_zero, List.set_cons_succ]
              have hox : w2.ownsRow W1.heap.size 47 4 (.slice (some ⟨bx, 0, none⟩) 1 1) 1 [.slice none 0 0, .int .i64 0, .slice none 0 0, .slice (some ⟨cbG, 0, none⟩) 2 2] := ⟨rfl, .inr ⟨bx, 1, #[.slice none 0 0, .int .i64 0, .slice none 0 0, .slice (some ⟨cbG, 0, none⟩) 2 2], rfl, hlx, hbx, by omega, by unfold maxLen; decide, rfl, rfl⟩⟩
              have hry : RRow w2 (.slice (some ⟨by_, 0, none⟩) 1 1) 1 [.slice none 0 0, .int .i64 0, .slice none 0 0, .slice ca L ccp] := ⟨_, _, rfl, fun j u hj => ⟨by_, 0, rfl, by rw [hcell_ hby, Nat.zero_add, ← Array.getElem?_toList]; exact hj⟩⟩
              obtain ⟨v6, w6, hr6, ho6, hg6, hl6⟩ := app_rows (ty := 25) 25 47 _ Tryz.infU Tryz.uU rfl (by decide) (by decide) hox hry rfl (by intro q hq; simp at hq; rcases hq with rfl | rfl | rfl | rfl <;> rfl) (by omega) hg2.size
              obtain ⟨fa, fc, rfl⟩ := own_shape_ ho6
              have hbbl : wB.heap.size < W1.heap.size := by have := HSB1.out; omega
              have hg16 : ∀ q, q < W1.heap.size → w6.heap[q]? = W1.heap[q]? := fun q hq => (hg6.block q (by have := hg2.size; omega) (by simp [Value.ownBlock]; have hlx' : W1.heap.size ≤ bx := hlx; omega)).trans (hg2.block q hq (by simp))
              have hbb6 := (hg16 wB.heap.size hbbl).trans HBB.out
              have hc6 : w6.cell? ⟨wB.heap.size, 2, none⟩ = some (.slice (some ⟨fbB, 0, none⟩) 1 1) := by rw [hcell_ hbb6]; rfl
              have hz6 : w6.frozen? ⟨wB.heap.size, 2, none⟩ = false := hfrozen_ hbb6
              have HO6 := hide ho6
              have HG16 := hide hg16
              have HBB6 := hide hbb6
              have HS6 := hide (Nat.le_trans hg2.size hg6.size)
              have HE6 := hide (And.intro (hg6.os.trans hg2.os) (And.intro (hg6.tape.trans hg2.tape) (hg6.output.trans hg2.output)))
              have KS6 : Hid (w6.cell? ⟨wG.heap.size, 2, none⟩ = some (.slice (some ⟨fbG, 0, none⟩) 1 1) ∧ w6.cell? ⟨fbG, 0, none⟩ = some (.slice none 0 0) ∧ w6.cell? ⟨fbG, 1, none⟩ = some (.int .i64 0) ∧ w6.cell? ⟨fbG, 2, none⟩ = some (.slice none 0 0) ∧ w6.cell? ⟨fbG, 3, none⟩ = some (.slice (some ⟨cbG, 0, none⟩) 2 2) ∧ w6.cell? ⟨wB.heap.size, 2, none⟩ = some (.slice (some ⟨fbB, 0, none⟩) 1 1) ∧ w6.cell? ⟨fbB, 0, none⟩ = some (.slice none 0 0) ∧ w6.cell? ⟨fbB, 1, none⟩ = some (.int .i64 0) ∧ w6.cell? ⟨fbB, 2, none⟩ = some (.slice none 0 0) ∧ w6.cell? ⟨fbB, 3, none⟩ = some (.slice ca L ccp)) := hide (by
                obtain ⟨s0, s1, s2, s3, s4, s5, s6, s7, s8, s9⟩ := KS.out W1 (Gr.refl _)
                have hk : ∀ (a : Addr) (x : Value), W1.cell? a = some x → w6.cell? a = some x := fun a x h => (World.cell?_of_block (HG16.out a.block (World.block_lt_of_cell? W1 _ h))).trans h
                exact ⟨hk _ _ s0, hk _ _ s1, hk _ _ s2, hk _ _ s3, hk _ _ s4, hk _ _ s5, hk _ _ s6, hk _ _ s7, hk _ _ s8, hk _ _ s9⟩)
              refine aloneZ (i := 10) rfl (by kernel_rfl) (fun K hK => ?_)
              refine want_yes (by rfl) (Lib.wp_append_run _ _ _ _ _ rfl (.slice (some ⟨bx, 0, none⟩) 1 1) (.slice (some ⟨by_, 0, none⟩) 1 1) (by simp [Act.eval]) (by simp [Act.eval]) _ _ hr6 ?_)
              refine hK.out _ _ (fun _ => KS6.out) (fun hHeld => ?_)
              replace hHeld := hHeld (by decide)
              clear hK
              try simp only [Act.put, List.setIfInBounds_toArray, List.set_cons_zero, List.set_cons_succ]
              refine takeZ (i := 11) (v := ?rcsv11) rfl (by kernel_rfl) (by decide) (by kernel_rfl) (by kernel_rfl) (by kernel_rfl) (by intro c a w h; exact h) (by rfl) ?rcshy11 hHeld ?rcsrest11
              case rcshy11 => (intro w hSw; (try dsimp only at hSw); go_simp <;> with_reducible rfl)
              simp only [Act.put, List.setIfInBounds_toArray, List.set_cons_zero, List.set_cons_succ]
              refine aloneZ (i := 12) rfl (by kernel_rfl) (fun K hK => ?_)
              refine want_yes (by rfl) ?_
              have HK := hide hK
              clear hK
              go_simp
              refine HK.out _ _ (fun h => absurd rfl h) (fun _ => ?_)
              clear HK
              try simp only [Act.put, List.setIfInBounds_toArray, List.set_cons_zero, List.set_cons_succ]
              refine doneZ (by kernel_rfl) ?_ _
              clear hHeld KS
              go_wp2_with fail
              go_meet
              refine ⟨rfl, ?_⟩
              have hE6 := HE6.out
              have hgB1 := HGB1.out
              have hsB1 := HSB1.out
              have gBF : Gr wB (w6.setCell ⟨wB.heap.size, 2, none⟩ (.slice fa 2 fc)) := ⟨hE6.1.trans hgB1.os, hE6.2.1.trans hgB1.tape, hE6.2.2.trans hgB1.output, by have := HS6.out; have := hgB1.size; simp; omega, fun i hi hne => (Below.heap_setCell _ _ _ _ (by show i ≠ wB.heap.size; omega)).trans ((HG16.out i (by omega)).trans (hgB1.block i hi hne))⟩
              have hbbF : (w6.setCell ⟨wB.heap.size, 2, none⟩ (.slice fa 2 fc)).heap[wB.heap.size]? = some (.cells #[.slice (some ⟨wH.heap.size + 1, 0, none⟩) 1 1, .slice none 0 0, .slice fa 2 fc, .slice none 0 0, .slice (some ⟨ebB, 0, none⟩) 1 1] 29 (0, 0)) := (heap_setCell_same w6 wB.heap.size 2 _ _ _ HBB6.out).trans (by simp)
              have hoF : (w6.setCell ⟨wB.heap.size, 2, none⟩ (.slice fa 2 fc)).ownsRow W1.heap.size 47 4 (.slice fa 2 fc) 2 [.slice none 0 0, .int .i64 0, .slice none 0 0, .slice (some ⟨cbG, 0, none⟩) 2 2, .slice none 0 0, .int .i64 0, .slice none 0 0, .slice ca L ccp] := own_at_ HO6.out (fun q hq => Below.heap_setCell _ _ _ _ (by show q ≠ wB.heap.size; have := (HO6.out.lt q hq).1; omega))
              exact ⟨_, _, _, _, _, _, _, _, _, _, _, _, _, _, _, _, _, _, (gBF.block _ hgbl (by simp)).trans HBGB.out, HUGB.out.gr gBF, hbbF, unit_at (HSB.out.gr gBF) (fun2_of hoF (HCGB.out.gr gBF) (HCB.out.gr gBF)) (HEB.out.gr gBF), HG0B.out.trans gBF⟩
            case rest =>
              obtain ⟨rfl, g1, g3, g5, gn1, gn3, gn5, gc1, gc3, gc5, b1, b3, b5, bn1, bn3, bn5, bc1, bc3, bc5, hgb, hug, hbb, hub, hgr⟩ := hcut
              clear KS HFG HCG HUG HG7G HGH HBG HSB HEB HFB HCB HCGB HUGB HFGB HBGB HG0B HBB HGB1 HSB1 HC7 HG7 HR7
              have hv1 := verify_of goodU (through_any goodU) _ wc hug
              unfold VfyR at hv1
              rw [good_fact] at hv1
              have HV1 := hide hv1
              have HBB := hide hbb
              have HUB := hide hub
              have HGR := hide hgr
              have y0 : wc.cell? ⟨wG.heap.size, 0, none⟩ = some (.slice g1 gn1 gc1) := by rw [hcell_ hgb]; rfl
              have y1 : wc.cell? ⟨wG.heap.size, 1, none⟩ = some (.slice none 0 0) := by rw [hcell_ hgb]; rfl
              have y2 : wc.cell? ⟨wG.heap.size, 2, none⟩ = some (.slice g3 gn3 gc3) := by rw [hcell_ hgb]; rfl
              have y3 : wc.cell? ⟨wG.heap.size, 3, none⟩ = some (.slice none 0 0) := by rw [hcell_ hgb]; rfl
              have y4 : wc.cell? ⟨wG.heap.size, 4, none⟩ = some (.slice g5 gn5 gc5) := by rw [hcell_ hgb]; rfl
              clear hv1 hgb hug hbb hub hgr
              go_wp2_with fail
              refine HV1.out.mono ?_
              rintro x w8 ⟨rfl, hb8⟩
              have hg8 := below_Gr hb8
              have hv2 := verify_of (badU k wh q) (through_any _) _ w8 (HUB.out.gr hg8)
              unfold VfyR at hv2
              rw [HBF.out.vfy] at hv2
              simp only at hv2
              rw [← HAT.out] at hv2
              have HV2 := hide hv2
              have hbb8 := (hg8.block wB.heap.size (Array.getElem?_eq_some_iff.1 HBB.out).1 (by simp)).trans HBB.out
              have HBB8 := hide hbb8
              have HG8 := hide hg8
              have z0 : w8.cell? ⟨wB.heap.size, 0, none⟩ = some (.slice b1 bn1 bc1) := by rw [hcell_ hbb8]; rfl
              have z1 : w8.cell? ⟨wB.heap.size, 1, none⟩ = some (.slice none 0 0) := by rw [hcell_ hbb8]; rfl
              have z2 : w8.cell? ⟨wB.heap.size, 2, none⟩ = some (.slice b3 bn3 bc3) := by rw [hcell_ hbb8]; rfl
              have z3 : w8.cell? ⟨wB.heap.size, 3, none⟩ = some (.slice none 0 0) := by rw [hcell_ hbb8]; rfl
              have z4 : w8.cell? ⟨wB.heap.size, 4, none⟩ = some (.slice b5 bn5 bc5) := by rw [hcell_ hbb8]; rfl
              clear hb8 hg8 hv2 hbb8 HV1 y0 y1 y2 y3 y4
              go_wp2_with fail
              refine HV2.out.mono ?_
              rintro x w9 ⟨rfl, hb9⟩
              have hg9 := below_Gr hb9
              have hbb9 := (hg9.block wB.heap.size (Array.getElem?_eq_some_iff.1 HBB8.out).1 (by simp)).trans HBB8.out
              have gL := (Gr.refl w9).alloc (.cells #[.slice b1 bn1 bc1, .slice none 0 0, .slice b3 bn3 bc3, .slice none 0 0, .slice b5 bn5 bc5] 29)
              have hbL := heap_alloc_new w9 (.cells #[.slice b1 bn1 bc1, .slice none 0 0, .slice b3 bn3 bc3, .slice none 0 0, .slice b5 bn5 bc5] 29)
              have hRL := units1 hbL ((HUB.out.gr HG8.out).gr (hg9.trans gL))
              have hkr := krun_any (fun _ => ⟨0, 0, 0, 0, 0, [], 0⟩) 9 9 [badU k wh q] _ _ hRL (by
                intro u hu
                simp only [List.mem_singleton] at hu
                subst hu
                exact ⟨HBF.out.ok, HBF.out.fit, by have := HBF.out.len; omega⟩) (mach_none HBF.out) (by simp)
              rw [run_bad HBF.out, ← HAT.out] at hkr
              have HKR := hide hkr
              have HG9 := hide (HGR.out.trans (HG8.out.trans (hg9.trans gL)))
              have x0 : w9.cell? ⟨wB.heap.size, 0, none⟩ = some (.slice b1 bn1 bc1) := by rw [hcell_ hbb9]; rfl
              have x1 : w9.cell? ⟨wB.heap.size, 1, none⟩ = some (.slice none 0 0) := by rw [hcell_ hbb9]; rfl
              have x2 : w9.cell? ⟨wB.heap.size, 2, none⟩ = some (.slice b3 bn3 bc3) := by rw [hcell_ hbb9]; rfl
              have x3 : w9.cell? ⟨wB.heap.size, 3, none⟩ = some (.slice none 0 0) := by rw [hcell_ hbb9]; rfl
              have x4 : w9.cell? ⟨wB.heap.size, 4, none⟩ = some (.slice b5 bn5 bc5) := by rw [hcell_ hbb9]; rfl
              clear hb9 hg9 hbb9 gL hbL hRL hkr HV2 z0 z1 z2 z3 z4
              go_wp2_with fail
              refine HKR.out.mono ?_
              rintro x wE ⟨vo, rfl, ⟨vt, rfl, hvt⟩, hgE⟩
              obtain ⟨vta, vtc, rfl⟩ := hvt.shape
              have HGE := hide (HG9.out.trans hgE)
              clear hvt hgE HKR x0 x1 x2 x3 x4
              go_wp2_with fail
              go_ret
              exact ⟨rfl, HGE.out.alloc _⟩
end Go.Proofs.YtkgncijcnlfhiabGreat

