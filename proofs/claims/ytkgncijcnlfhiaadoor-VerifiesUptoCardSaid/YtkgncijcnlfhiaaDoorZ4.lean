import Derived.Lib.AppendZerosOnto
import Derived.Laws.OwnMore
import Derived.Maps.AppendAt
import Derived.Test.YtkgncijcnlfhiaaDoorZ3
namespace Go.Proofs.YtkgncijcnlfhiaaDoor
set_option linter.unusedVariables false
set_option linter.unusedSimpArgs false
open Go.RowKit
attribute [local go_sem ↓] Go.wp_at_zero Go.wp_at_succ
theorem eq_of_getD_ {l m : List Int} (hl : l.length = m.length) (h : ∀ j, j < l.length → l.getD j 0 = m.getD j 0) : l = m := by
  apply List.ext_getElem hl
  intro i h1 h2
  have := h i h1
  rw [List.getD_eq_getElem?_getD, List.getD_eq_getElem?_getD, List.getElem?_eq_getElem h1, List.getElem?_eq_getElem h2] at this
  exact this
theorem gr_drewN_f {w w' : World} (h : Gr w w') (n : Nat) : Gr w (w'.drewN n) := ⟨h.os, h.tape, h.output, h.size, h.block⟩
set_option maxRecDepth 100000 in
set_option maxHeartbeats 1000000 in
theorem equal_any (va vb : Value) (l m : List Int) (w : World) (ha : RInts w va l) (hb : RInts w vb m) :
    Calls Tryd.prog 101 #[va, vb] w fun x w' => x = .returned (.bool (decide (l = m))) ∧ Gr w w' := by
  have HA := hide ha
  have HBb := hide hb
  obtain ⟨a1, c1, rfl, hm, _⟩ := ha
  obtain ⟨a2, c2, rfl, hm2, _⟩ := hb
  unfold maxLen at hm hm2
  by_cases hlen : l.length = m.length
  · have hne : ((l.length : Int) != (m.length : Int)) = false := by simp [hlen]
    have hM : m.length = l.length := hlen.symm
    have HLen := hide hlen
    rw [hM] at hne ⊢
    clear hlen
    have HMM := hide hM
    clear hM
    go_enter Tryd.func101, Tryd.ntmps101
    go_wp2_with fail
    go_loopw [13] (fun i wr => ∃ k : Nat, i = .int .i64 k ∧ k ≤ l.length ∧ (∀ j, j < k → l.getD j 0 = m.getD j 0) ∧ Gr w wr) (fun i _ => l.length - (intOf i).toNat)
    case atStart => exact ⟨0, rfl, Nat.zero_le _, fun j h => by omega, Gr.refl _⟩
    case round =>
      obtain ⟨k, rfl, hk, hall, hg⟩ := hrel
      have HAll := hide hall
      clear hall
      by_cases hlt : k < l.length
      · obtain ⟨a1', c1', h1e, _, hc1⟩ := HA.out
        obtain ⟨a2', c2', h2e, _, hc2⟩ := HBb.out
        rw [HMM.out] at h2e hc2
        simp only [Value.slice.injEq, true_and] at h1e h2e
        obtain ⟨b1, o1, rfl, hx1⟩ := hc1 k hlt
        obtain ⟨b2, o2, rfl, hx2⟩ := hc2 k hlt
        obtain ⟨rfl, rfl⟩ := h1e
        obtain ⟨rfl, rfl⟩ := h2e
        have hy1 := hg.cell hx1 (by simp)
        have hy2 := hg.cell hx2 (by simp)
        have HX : ∀ x y, l.getD k 0 = x → m.getD k 0 = y → Hid (l.getD k 0 = x ∧ m.getD k 0 = y) := fun x y h1 h2 => hide ⟨h1, h2⟩
        obtain ⟨x, hx⟩ : ∃ x, l.getD k 0 = x := ⟨_, rfl⟩
        obtain ⟨y, hy⟩ : ∃ y, m.getD k 0 = y := ⟨_, rfl⟩
        have HXY := HX x y hx hy
        rw [hx] at hy1
        rw [hy] at hy2
        have HG := hide hg
        clear hc1 hc2 hx1 hx2 hg HA HBb HX hx hy
        by_cases hxy : x = y
        · have hb1 : (x != y) = false := by simp [hxy]
          have HA2 : Hid (∀ j, j < k + 1 → l.getD j 0 = m.getD j 0) := hide (fun j hj => by
            by_cases e : j = k
            · subst e; rw [HXY.out.1, HXY.out.2, hxy]
            · exact HAll.out j (by omega))
          clear hxy
          go_wp2_with fail
          go_quiet (fail)
          go_wp2_with fail
          exact ⟨⟨k + 1, by simp, hlt, HA2.out, gr_drewN_f HG.out _⟩, by simp [intOf]; omega⟩
        · have hb1 : (x != y) = true := by simp [hxy]
          have HD : Hid (decide (l = m) = false) := hide (by
            rw [decide_eq_false_iff_not]; intro e; subst e; exact hxy (HXY.out.1.symm.trans HXY.out.2))
          clear hxy
          go_wp2_with fail
          go_quiet (fail)
          go_wp2_with fail
          go_ret
          exact ⟨by rw [HD.out]; rfl, gr_drewN_f HG.out _⟩
      · have hkk : k = l.length := by omega
        subst hkk
        have HD : Hid (decide (l = m) = true) := hide (by rw [decide_eq_true_eq]; exact eq_of_getD_ HLen.out HAll.out)
        have HG := hide hg
        clear hg
        go_wp2_with fail
        go_ret
        exact ⟨by rw [HD.out]; rfl, HG.out⟩
  · have hne : ((l.length : Int) != (m.length : Int)) = true := by rw [bne_iff_ne]; omega
    have HD : Hid (decide (l = m) = false) := hide (by rw [decide_eq_false_iff_not]; intro e; subst e; exact hlen rfl)
    clear hlen
    go_enter Tryd.func101, Tryd.ntmps101
    go_wp2_with fail
    go_ret
    exact ⟨by rw [HD.out]; rfl, Gr.refl _⟩

theorem Tryd.infF : (Tryd.prog.info? 3).map (fun i => (i.zero, i.size, i.bytes)) = some (some (Value.int .i64 0), 1, 8) := by kernel_rfl
theorem Tryd.uInts : Tryd.prog.underlying 23 = some (.slice 3) := by kernel_rfl
theorem Tryd.uIntF : Tryd.prog.underlying 3 = some (.int .i64) := by kernel_rfl
def GrowR (w : World) (e : Ending) (w' : World) : Prop := ∃ v, e = .returned v ∧ w'.ownsRow w.heap.size 3 1 v 0 [] ∧ Gr w w'
set_option maxRecDepth 100000 in
set_option maxHeartbeats 1000000 in
theorem grow_nil (n : Nat) (hn : n ≤ 100000) (w : World) : Calls Tryd.prog 161 #[.slice none 0 0, .int .i64 (n : Int)] w (GrowR w) := by
  have h1 : ¬ ((n : Int) < 0) := by omega
  have h3 : wrap64 (n : Int) = (n : Int) := by unfold wrap64; omega
  have h3b : IntKind.i64.wrap (n : Int) = (n : Int) := Go.IntWalk.i64_in _ (by omega)
  by_cases h0 : n = 0
  · subst h0
    go_enter Tryd.func161, Tryd.ntmps161
    go_wp2_with fail
    go_ret
    exact ⟨_, rfl, World.ownsRow_nil _ _ _ _, Gr.refl _⟩
  · have h4 : (n : Int) > 0 := by omega
    have h4b : (0 : Int) < (n : Int) := by omega
    obtain ⟨i0, hi, hz0, hz1, hz2⟩ := info_parts Tryd.infF
    have hrz := fun ty => Lib.run_append_grow_zeros w 23 3 ty 3 i0 (.int .i64 0) .i64 .i64 Tryd.uInts Tryd.uIntF hi hz0 none 0 0 [] (run_firstCells_none w.drew i0.size 0 0 0) n (by omega) (by omega) (by omega) (by omega) (by rw [hz2]; omega) (growslice_fits (by omega) (by rw [hz2]; omega))
    have hGn : 0 + n ≤ grownCap w (0 + n) 0 3 := grownCap_ge w _ _ _
    have hGm := grownCap_le_maxLen w (0 + n) 0 3 (by unfold maxLen; omega)
    generalize grownCap w (0 + n) 0 3 = G at hrz hGn hGm
    rw [Nat.zero_add] at hrz hGn
    have HOW : Hid ((w.alloc (.cells (Builtin.zeroCells #[Value.int .i64 0] n ++ Builtin.zeroCells #[Value.int .i64 0] (G - n)) 3)).drew.ownsRow w.heap.size 3 1 (.slice (some ⟨w.heap.size, 0, none⟩) 0 G) 0 []) := hide (by
      have := World.ownsRow_made (base := w.heap.size) (e := 3) (size := 1) w (Builtin.zeroCells #[Value.int .i64 0] n ++ Builtin.zeroCells #[Value.int .i64 0] (G - n)) G (Nat.le_refl _) hGm (by simp [Builtin.zeroCells]; omega)
      exact this)
    have hG63 : G ≤ 9223372036854775807 := by unfold maxLen at hGm; omega
    have HGR : Hid (Gr w (w.alloc (.cells (Builtin.zeroCells #[Value.int .i64 0] n ++ Builtin.zeroCells #[Value.int .i64 0] (G - n)) 3)).drew) := hide (((Gr.refl w).alloc _).drew)
    have HRZ := hide hrz
    clear hrz hGm
    go_enter Tryd.func161, Tryd.ntmps161
    go_wp2_with (at_builtin; refine Lib.wpList_append_run _ rfl _ _ _ _ rfl _ _ rfl rfl _ _ (HRZ.out _) ?_)
    all_goals go_ret
    all_goals exact ⟨.slice (some ⟨w.heap.size, 0, none⟩) 0 G, rfl, HOW.out, HGR.out⟩
end Go.Proofs.YtkgncijcnlfhiaaDoor

namespace Go.Proofs.YtkgncijcnlfhiaaDoor
set_option linter.unusedVariables false
set_option linter.unusedSimpArgs false
open Go.RowKit
attribute [local go_sem ↓] Go.wp_at_zero Go.wp_at_succ
/-- a list that is read, behind a row of one's own -/
theorem run_app_ints {w : World} {base n : Nat} {v vl : Value} {xs : List Value} {l : List Int} (hown : w.ownsRow base 3 1 v n xs) (hR : RInts w vl l) (hn : n + l.length ≤ 1000000) (hb : base ≤ w.heap.size) (ty : TypeId) :
    ∃ v' w', (Builtin.append_ #[23, 23] ty #[v, vl]).run Tryd.prog w = .ok v' w' ∧ w'.ownsRow base 3 1 v' (n + l.length) (xs ++ ivL l) ∧ w.grownBy w' v.ownBlock := by
  obtain ⟨i0, hi, hz0, hz1, hz2⟩ := info_parts Tryd.infF
  obtain ⟨ao, cap, rfl, hm, hc⟩ := hR
  cases ao with
  | none =>
    have hl : l = [] := by
      cases l with
      | nil => rfl
      | cons x t => obtain ⟨b, off, e, _⟩ := hc 0 (by simp); cases e
    subst hl
    refine ⟨v, w, ?_, by simpa [ivL] using hown, ⟨rfl, rfl, rfl, Nat.le_refl _, fun _ _ _ => rfl⟩⟩
    rcases hown.2 with ⟨rfl, rfl⟩ | ⟨g, cp, cur, rfl, _, _, hnc, _⟩
    · simp [Builtin.append_, run_underlying Tryd.uInts, Go.sizeOf, typeInfo, hi, Builtin.lenOf, Builtin.firstCells]
    · simp [Builtin.append_, run_underlying Tryd.uInts, Go.sizeOf, typeInfo, hi, Builtin.lenOf, Builtin.firstCells, hnc, storeCells]
  | some a =>
    have hnews : ∀ j u, (ivL l)[j]? = some u → w.cell? (a.add j) = some u := by
      intro j u hj
      have hjl : j < l.length := by
        rw [← ivL_len l]; exact (List.getElem?_eq_some_iff.1 hj).1
      obtain ⟨b, off, e, hcell⟩ := hc j hjl
      rw [ivL_at hjl] at hj
      obtain rfl := Option.some.inj hj
      obtain rfl := Option.some.inj e
      have e2 : (⟨b, off, none⟩ : Addr).add j = ⟨b, off + j, none⟩ := by simp [Addr.add]
      rw [e2]; exact hcell
    obtain ⟨v', w', hr, h2, h3, _, _⟩ := run_append_own_at (P := Tryd.prog) w base 23 ty 3 i0 (.int .i64 0) 1 8 Tryd.uInts hi hz0 hz1 hz2 rfl (by decide) v n xs hown a l.length cap (ivL l) (by rw [ivL_len]; omega) hnews (by intro u hu; simp [ivL] at hu; obtain ⟨x, _, rfl⟩ := hu; rfl) (by unfold maxLen; omega) (by omega) hb
    exact ⟨v', w', hr, h2, h3⟩
def ConR (w : World) (l : List Int) (e : Ending) (w' : World) : Prop := ∃ v, e = .returned v ∧ w'.ownsRow w.heap.size 3 1 v l.length (ivL l) ∧ Gr w w'
theorem own_shape_ {w : World} {B : Nat} {e : TypeId} {n len : Nat} {v : Value} {xs : List Value} (h : w.ownsRow B e n v len xs) : ∃ ao cap, v = .slice ao len cap := by
  obtain ⟨_, h2⟩ := h
  rcases h2 with ⟨rfl, rfl⟩ | ⟨g, cap, cur, rfl, _⟩
  · exact ⟨none, 0, rfl⟩
  · exact ⟨_, _, rfl⟩
theorem gr_own {w w1 w2 : World} {v : Value} {n : Nat} {xs : List Value} (h : Gr w w1) (ho : w1.ownsRow w.heap.size 3 1 v n xs) (k : w1.grownBy w2 v.ownBlock) : Gr w w2 :=
  ⟨k.os.trans h.os, k.tape.trans h.tape, k.output.trans h.output, Nat.le_trans h.size k.size, fun i hi _ => (k.block i (Nat.lt_of_lt_of_le hi h.size) (fun e => by have := (ho.lt i e.symm).1; omega)).trans (h.block i hi (by simp))⟩

set_option maxRecDepth 100000 in
set_option maxHeartbeats 2000000 in
theorem concat_any (h : Nat) (v1 v2 : Value) (l1 l2 : List Int) (w : World) (hc1 : w.cell? ⟨h, 0, none⟩ = some v1) (hc2 : w.cell? ⟨h, 1, none⟩ = some v2) (h1 : RInts w v1 l1) (h2 : RInts w v2 l2) (hl1 : l1.length ≤ 10000) (hl2 : l2.length ≤ 10000) :
    Calls Tryd.prog 147 #[.slice (some ⟨h, 0, none⟩) 2 2] w (ConR w (l1 ++ l2)) := by
  obtain ⟨a1, p1, rfl⟩ := h1.shape
  obtain ⟨a2, p2, rfl⟩ := h2.shape
  have H1 := hide h1
  have H2 := hide h2
  have HC1 := hide hc1
  have HC2 := hide hc2
  clear h1 h2
  go_enter Tryd.func147, Tryd.ntmps147
  go_wp2_with fail
  go_loopw [3, 11] (fun s i wr => w = wr ∧ ((s = .int .i64 0 ∧ i = .int .i64 0) ∨ (s = .int .i64 (l1.length : Int) ∧ i = .int .i64 1) ∨ (s = .int .i64 ((l1.length : Int) + (l2.length : Int)) ∧ i = .int .i64 2))) (fun _ i _ => 2 - (intOf i).toNat)
  case atStart => exact ⟨rfl, .inl ⟨rfl, rfl⟩⟩
  case round =>
    obtain ⟨rfl, hr⟩ := hrel
    have hn1 : ¬ (l1.length : Int) < 0 := by omega
    have hn2 : ¬ (l1.length : Int) + (l2.length : Int) < 0 := by omega
    have hw1 : IntKind.i64.wrap (l1.length : Int) = (l1.length : Int) := Go.IntWalk.i64_in _ (by omega)
    have hw2 : IntKind.i64.wrap ((l1.length : Int) + (l2.length : Int)) = (l1.length : Int) + (l2.length : Int) := Go.IntWalk.i64_in _ (by omega)
    rcases hr with ⟨rfl, rfl⟩ | ⟨rfl, rfl⟩ | ⟨rfl, rfl⟩
    · go_wp2_with fail
      exact ⟨⟨by first | rfl | trivial, .inr (.inl ⟨by first | rfl | trivial, by first | rfl | trivial⟩)⟩, by simp [intOf]⟩
    · go_wp2_with fail
      exact ⟨⟨by first | rfl | trivial, .inr (.inr ⟨by first | rfl | trivial, by first | rfl | trivial⟩)⟩, by simp [intOf]⟩
    · have hcast : (l1.length : Int) + (l2.length : Int) = ((l1.length + l2.length : Nat) : Int) := by omega
      have HGW := hide (grow_nil (l1.length + l2.length) (by omega) w)
      rw [← hcast] at HGW
      clear hcast
      go_wp2_with (go_at_call 161; refine HGW.out.mono ?_; rintro e w1 ⟨v3, rfl, ho3, hg3⟩; obtain ⟨a3, p3, rfl⟩ := own_shape_ ho3)
      have HO3 := hide ho3
      have HG3 := hide hg3
      clear ho3 hg3 HGW hw1 hw2 hn1 hn2
      go_loopw [6, 27] (fun v i wr => ∃ (k : Nat) (l : List Int), i = .int .i64 (k : Int) ∧ wr.ownsRow w.heap.size 3 1 v l.length (ivL l) ∧ Gr w wr ∧ ((k = 0 ∧ l = []) ∨ (k = 1 ∧ l = l1) ∨ (k = 2 ∧ l = l1 ++ l2))) (fun _ i _ => 2 - (intOf i).toNat)
      case atStart => exact ⟨0, [], rfl, HO3.out, HG3.out, .inl ⟨rfl, rfl⟩⟩
      case round =>
        obtain ⟨k, l, rfl, ho, hg, hk⟩ := hrel
        obtain ⟨a4, p4, rfl⟩ := own_shape_ ho
        have HO := hide ho
        have HG := hide hg
        have hd1 := hg.cell HC1.out (by simp)
        have hd2 := hg.cell HC2.out (by simp)
        have hle : w.heap.size ≤ wr.heap.size := hg.size
        clear ho hg HO3 HG3 hc1 hc2
        rcases hk with ⟨rfl, rfl⟩ | ⟨rfl, rfl⟩ | ⟨rfl, rfl⟩
        · obtain ⟨v5, w5, hr5, ho5, hg5⟩ := run_app_ints HO.out (H1.out.gr HG.out) (by simp; omega) hle 23
          have HR5 := hide hr5
          have HO5 := hide ho5
          have HG5 := hide (gr_own HG.out HO.out hg5)
          clear hr5 ho5 hg5
          go_wp2_with (at_builtin; refine Lib.wpList_append_run _ rfl _ _ _ _ rfl _ _ rfl rfl _ _ HR5.out ?_)
          exact ⟨⟨1, l1, rfl, by simpa [ivL] using HO5.out, HG5.out, .inr (.inl ⟨rfl, rfl⟩)⟩, by simp [intOf]⟩
        · obtain ⟨v5, w5, hr5, ho5, hg5⟩ := run_app_ints HO.out (H2.out.gr HG.out) (by omega) hle 23
          have HR5 := hide hr5
          have HO5 := hide ho5
          have HG5 := hide (gr_own HG.out HO.out hg5)
          clear hr5 ho5 hg5
          go_wp2_with (at_builtin; refine Lib.wpList_append_run _ rfl _ _ _ _ rfl _ _ rfl rfl _ _ HR5.out ?_)
          exact ⟨⟨2, l ++ l2, rfl, by simpa [ivL] using HO5.out, HG5.out, .inr (.inr ⟨rfl, rfl⟩)⟩, by simp [intOf]⟩
        · go_wp2_with fail
          go_ret
          exact ⟨_, rfl, HO.out, HG.out⟩
end Go.Proofs.YtkgncijcnlfhiaaDoor

namespace Go.Proofs.YtkgncijcnlfhiaaDoor
set_option linter.unusedVariables false
set_option linter.unusedSimpArgs false
open Go.RowKit
attribute [local go_sem ↓] Go.wp_at_zero Go.wp_at_succ
theorem islen_any (ao : Option Addr) (n cap : Nat) (w : World) : Calls Tryd.prog 149 #[.slice ao n cap] w fun x w' => x = .returned (.int .i64 (n : Int)) ∧ w' = w := by
  go_enter Tryd.func149, Tryd.ntmps149
  go_wp2
  go_ret
  exact ⟨rfl, rfl⟩

set_option maxRecDepth 100000 in
set_option maxHeartbeats 1000000 in
theorem isless_any (B g cap i j : Nat) (l : List Int) (w : World) (h : HpRow w B (.slice (some ⟨g, 0, none⟩) l.length cap) l) (hi : i < l.length) (hj : j < l.length) :
    Calls Tryd.prog 192 #[.slice (some ⟨g, 0, none⟩) l.length cap, .int .i64 (i : Int), .int .i64 (j : Int)] w fun x w' => x = .returned (.bool (decide (fnL l i < fnL l j))) ∧ Gr w w' := by
  obtain ⟨g', cap', he, _, _, hc, _⟩ := h.at (by omega)
  simp only [Value.slice.injEq, Option.some.injEq, Addr.mk.injEq, and_true, true_and] at he
  obtain ⟨rfl, rfl⟩ := he
  have h1 := hc i hi
  have h2 := hc j hj
  clear hc h
  generalize fnL l i = x at h1 ⊢
  generalize fnL l j = y at h2 ⊢
  generalize l.length = n at hi hj
  have hb1 : (i : Int) < (n : Int) := by omega
  have hb2 : (j : Int) < (n : Int) := by omega
  go_enter Tryd.func192, Tryd.ntmps192
  go_wp2_with fail
  go_quiet (fail)
  go_wp2_with fail
  go_ret
  exact ⟨rfl, ⟨rfl, rfl, rfl, Nat.le_refl _, fun _ _ _ => rfl⟩⟩

theorem HpRow.swap {w : World} {B g cap : Nat} {l : List Int} (h : HpRow w B (.slice (some ⟨g, 0, none⟩) l.length cap) l) (i j : Nat) : HpRow ((w.setCell ⟨g, i, none⟩ (.int .i64 (fnL l j))).setCell ⟨g, j, none⟩ (.int .i64 (fnL l i))) B (.slice (some ⟨g, 0, none⟩) l.length cap) (swapL l i j) := by
  have h1 := h.set i (fnL l j)
  have hl : (l.set i (fnL l j)).length = l.length := by simp
  rw [← hl] at h1
  have h2 := h1.set j (fnL l i)
  rw [hl] at h2
  exact h2
theorem gcell {w : World} {g o : Nat} {v : Value} : w.grownBy (w.setCell ⟨g, o, none⟩ v) (some g) := ⟨rfl, rfl, rfl, by simp, fun k _ hk => Below.heap_setCell _ _ _ _ (fun e => hk (by rw [e]))⟩
theorem gc_trans {g : Nat} {a b c : World} (h : a.grownBy b (some g)) (k : b.grownBy c (some g)) : a.grownBy c (some g) := ⟨k.os.trans h.os, k.tape.trans h.tape, k.output.trans h.output, Nat.le_trans h.size k.size, fun i hi hne => (k.block i (Nat.lt_of_lt_of_le hi h.size) hne).trans (h.block i hi hne)⟩
set_option maxRecDepth 100000 in
set_option maxHeartbeats 1000000 in
theorem isswap_any (B g cap i j : Nat) (l : List Int) (w : World) (h : HpRow w B (.slice (some ⟨g, 0, none⟩) l.length cap) l) (hi : i < l.length) (hj : j < l.length) :
    Calls Tryd.prog 194 #[.slice (some ⟨g, 0, none⟩) l.length cap, .int .i64 (i : Int), .int .i64 (j : Int)] w fun x w' => x = .returned (.tuple #[]) ∧ HpRow w' B (.slice (some ⟨g, 0, none⟩) l.length cap) (swapL l i j) ∧ w.grownBy w' (some g) := by
  have HH := hide h
  obtain ⟨g', cap', he, _, _, hc, hz⟩ := h.at (by omega)
  simp only [Value.slice.injEq, Option.some.injEq, Addr.mk.injEq, and_true, true_and] at he
  obtain ⟨rfl, rfl⟩ := he
  have h1 := hc i hi
  have h2 := hc j hj
  have z1 := hz i
  have z2 := hz j
  clear hc hz h
  have HSW := hide (HH.out.swap i j)
  generalize fnL l i = x at h1 HSW
  generalize fnL l j = y at h2 HSW
  have k1 : (w.setCell ⟨g, i, none⟩ (.int .i64 y)).cell? ⟨g, j, none⟩ = some (.int .i64 y) := by
    by_cases e : i = j
    · subst e; exact World.cell?_setCell_same _ _ _ h1
    · rw [World.cell?_setCell_other _ _ _ _ (by intro h; simp only [Addr.mk.injEq, true_and, and_true] at h; exact e h)]; exact h2
  generalize hn : l.length = n at hi hj
  have hb1 : (i : Int) < (n : Int) := by omega
  have hb2 : (j : Int) < (n : Int) := by omega
  go_enter Tryd.func194, Tryd.ntmps194
  go_wp2_with fail
  go_region
  all_goals go_wp2_with fail
  all_goals go_end0
  all_goals exact ⟨rfl, (by subst hn; exact HSW.out), by first | exact gc_trans gcell gcell | (have hx : w.grownBy ((w.setCell ⟨g, i, none⟩ (.int .i64 y)).setCell ⟨g, j, none⟩ (.int .i64 x)) (some g) := gc_trans gcell gcell; exact ⟨hx.os, hx.tape, hx.output, hx.size, hx.block⟩)⟩
end Go.Proofs.YtkgncijcnlfhiaaDoor

