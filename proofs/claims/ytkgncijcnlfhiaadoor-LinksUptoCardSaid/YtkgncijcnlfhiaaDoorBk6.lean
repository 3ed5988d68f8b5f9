import Derived.Test.YtkgncijcnlfhiaaDoorBk5e
namespace Go.Proofs.YtkgncijcnlfhiaaDoor
set_option linter.unusedVariables false
set_option linter.unusedSimpArgs false
open Go.RowKit
attribute [local go_sem ↓] Go.wp_at_zero Go.wp_at_succ
set_option maxRecDepth 100000 in
set_option maxHeartbeats 8000000 in
theorem bunit_any (db : Nat) (vo : Value) (n : Nat) (V : Nat → Value) (X : Nat → List Value) (ρ : Nat → BR) (w : World) (v1 v2 v3 v4 v5 : Value) (es1 : List (Value × Nat)) (n2 : Nat) (es3 : List UF) (es4 : List UI) (n5 B0 : Nat) (hS : BookS db w vo (n : Int) V X ρ) (hE : BookE w ρ X) (hU : UnO db v1 v2 v3 v4 v5 es1 n2 es3 es4 n5 ρ w) (hX : ∀ i, (X i).length ≤ B0) (hN : n + es1.length + 3 * es3.length + es4.length ≤ 900000) (hB : B0 + 4 * (es1.length + 3 * es3.length + es4.length) ≤ 900000) (h5 : n5 ≤ 100000) :
    Calls Tryd.prog 22 #[.pointer (some ⟨db, 1, none⟩), .agg #[v1, v2, v3, v4, v5]] w (BunR db vo n B0 (es1.length + 3 * es3.length + es4.length) ρ w) := by
  obtain ⟨⟨a1, c1, rfl⟩, _⟩ := own_form hU.o1.1
  obtain ⟨⟨xs2, ho2⟩, h2l⟩ := hU.o2
  obtain ⟨⟨a2, c2, rfl⟩, _⟩ := own_form ho2.1
  obtain ⟨⟨a3, c3, rfl⟩, _⟩ := own_form hU.o3.1
  obtain ⟨⟨a4, c4, rfl⟩, _⟩ := own_form hU.o4.1
  obtain ⟨xs5, ho5⟩ := hU.o5
  obtain ⟨⟨a5, c5, rfl⟩, _⟩ := own_form ho5.1
  clear ho5
  have mv0 : MvR db (fun _ => False) w (w.alloc (.cells #[.slice a1 es1.length c1, .slice a2 n2 c2, .slice a3 es3.length c3, .slice a4 es4.length c4, .slice a5 n5 c5] 28)) ρ ρ := mv_box _ _ (fun b hb => (hS.pl b hb).2)
  have hno := hS.db_no
  have hdl := hS.lt
  have HS0 := hide (hS.mv mv0 (fun _ => id) (heap_alloc_old w _ hS.lt))
  have HE0 := hide (hE.stay (mv0.stay id (by rw [hno]; nofun)))
  have HU0 := hide (hU.mv mv0)
  have HO0 := hide (ho2.mv mv0 id)
  have HM0 := hide mv0
  have HB0 := hide (heap_alloc_new w (.cells #[.slice a1 es1.length c1, .slice a2 n2 c2, .slice a3 es3.length c3, .slice a4 es4.length c4, .slice a5 n5 c5] 28))
  have hun : ρ w.heap.size = .no := by
    by_cases e : ρ w.heap.size = .no
    · exact e
    · have := (hS.pl _ e).2; omega
  have HX := hide hX
  clear hS hE hU ho2 mv0 hX
  go_enter Tryd.func22, Tryd.ntmps22
  go_upto_region 1 with fail
  generalize w.alloc (.cells #[.slice a1 es1.length c1, .slice a2 n2 c2, .slice a3 es3.length c3, .slice a4 es4.length c4, .slice a5 n5 c5] 28) = W0 at HS0 HE0 HU0 HO0 HM0 HB0 ⊢
  generalize hub : w.heap.size = ub at HB0 hun ⊢
  have hud : ub ≠ db := by omega
  have hc1 : W0.cell? ⟨db, 1, none⟩ = some (.int .i64 (n : Int)) := by rw [heap_cell HS0.out.box]; rfl
  have hz1 : W0.frozen? ⟨db, 1, none⟩ = false := heap_frozen HS0.out.box
  have hw1 : IntKind.i64.wrap ((n : Int) + 1) = (n : Int) + 1 := Go.IntWalk.i64_in _ (by omega)
  have hw2 : IntKind.i64.wrap (-77000000 - ((n : Int) + 1)) = -77000000 - ((n : Int) + 1) := Go.IntWalk.i64_in _ (by omega)
  have hq1 : W0.cell? ⟨ub, 1, none⟩ = some (.slice a2 n2 c2) := by rw [heap_cell HB0.out]; rfl
  have hud2 : ¬ db = ub := fun e => hud e.symm
  obtain ⟨hS1, hM1⟩ := HS0.out.count (m := (n : Int) + 1)
  have HS1 := hide hS1
  have HM1 := hide hM1
  have HE1 := hide (HE0.out.stay (hM1.stay id (by rw [hno]; nofun)))
  have HU1 := hide (HU0.out.mv hM1)
  have HO1 := hide (HO0.out.mv hM1 id)
  have HB1 : Hid ((W0.setCell ⟨db, 1, none⟩ (.int .i64 ((n : Int) + 1))).heap[ub]? = some (.cells #[.slice a1 es1.length c1, .slice a2 n2 c2, .slice a3 es3.length c3, .slice a4 es4.length c4, .slice a5 n5 c5] 28 (0, 0))) := hide ((Below.heap_setCell _ _ _ _ hud).trans HB0.out)
  clear hS1 hM1 HS0 HE0 HU0 HO0 HB0
  go_wp2_with fail
  generalize W0.setCell ⟨db, 1, none⟩ (.int .i64 ((n : Int) + 1)) = W1 at HS1 HM1 HE1 HU1 HO1 HB1 ⊢
  generalize hmm : -77000000 - ((n : Int) + 1) = m
  clear hc1 hz1 hw1 hw2 hmm hq1
  refine (numbers_any db vo (n + 1) V X ρ W1 1 0 _ n2 xs2 HS1.out HE1.out HO1.out (by omega) h2l (fun i => by have := HX.out i; omega)).mono ?_
  rintro x w2 ⟨rfl, V2, X2, ρ2, hS2, hE2, hM2, hX2⟩
  have HST : Hid (BSt db ub vo m (.slice a1 es1.length c1) (.slice a2 n2 c2) (.slice a3 es3.length c3) (.slice a4 es4.length c4) (.slice a5 n5 c5) es1 es3 es4 n5 n B0 w ρ (fun r => True ∧ r ≠ .ls 1 0) 0 0 0 0 (2) w2) := hide ⟨V2, X2, ρ2, hS2, hE2, (HU1.out.start m HB1.out ⟨hun, hud⟩).mvd hM2 (.inr rfl) hno, ((HM0.out.u ⟨id, id⟩).trans (HM1.out.u ⟨id, id⟩)).trans (hM2.u fun r hr => ⟨_, _, hr⟩), fun i => by have h1 := HX.out i; have h2 := hX2 i; omega⟩
  have HLV : Hid (∀ k j, 5 ≤ k → (fun r => True ∧ r ≠ BR.ls 1 0) (.ls k j)) := hide (fun k j hk => ⟨trivial, fun e => by injection e with e1 e2; omega⟩)
  generalize (fun r => True ∧ r ≠ BR.ls 1 0) = live0 at HST HLV
  clear hS2 hE2 hM2 hX2 HS1 HM1 HE1 HU1 HO1 HB1 HM0
  go_wp2_with fail
  go_loopw [5] (fun iv wr => ∃ (i : Nat) (live : BR → Prop), i ≤ es1.length ∧ iv = .int .i64 (i : Int) ∧ Hid (BSt db ub vo m (.slice a1 es1.length c1) (.slice a2 n2 c2) (.slice a3 es3.length c3) (.slice a4 es4.length c4) (.slice a5 n5 c5) es1 es3 es4 n5 n B0 w ρ live i 0 0 0 (2 + i) wr) ∧ Hid (∀ k j, (6 ≤ k ∨ (k = 5 ∧ i ≤ j)) → live (.ls k j))) (fun iv _ => es1.length - (intOf iv).toNat)
  case atStart => exact ⟨0, live0, Nat.zero_le _, rfl, HST, hide (fun k j h => HLV.out k j (by omega))⟩
  case round =>
    obtain ⟨i, live, hi, rfl, HSr, HLr⟩ := hrel
    obtain ⟨p0, p1, p2, p3, p4⟩ := HSr.out.box
    by_cases hlt : i < es1.length
    · obtain ⟨e, he⟩ : ∃ e, es1[i]? = some e := ⟨_, List.getElem?_eq_getElem hlt⟩
      have HE := hide he
      have hin := Inn.sh (es3 := es3) (es4 := es4) i e he
      have hlv := HLr.out 5 i (.inr ⟨rfl, Nat.le_refl _⟩)
      obtain ⟨g, cap, hg, hcl, hzl⟩ := HSr.out.at1 he
      simp only [Value.slice.injEq, true_and] at hg
      obtain ⟨rfl, rfl⟩ := hg
      obtain ⟨e1, e2⟩ := e
      obtain ⟨ae, ce, hae⟩ := HSr.out.inn_shape hin hlv
      simp only at hae hcl
      subst hae
      have hkn : (0 : Int) ≤ (i : Int) := by omega
      have hkn2 : (i : Int) < (es1.length : Int) := by omega
      have HCall := hide (HSr.out.num hin hlv (by omega) (by omega))
      clear he hin hlv hzl
      go_wp2_with fail
      refine HCall.out.mono ?_
      rintro x w3 ⟨rfl, hst⟩
      clear p0 p1 p2 p3 p4 hcl HCall
      have HS3 := hide hst
      clear hst
      obtain ⟨p0, p1, p2, p3, p4⟩ := HS3.out.box
      obtain ⟨g', cap', hg, hcl, hzl⟩ := HS3.out.at1 HE.out
      simp only [Value.slice.injEq, Option.some.injEq, Addr.mk.injEq, and_true, true_and] at hg
      obtain ⟨rfl, rfl⟩ := hg
      have hcA : (w3.alloc (.cells #[.int .i64 m] 3)).cell? ⟨g, i, none⟩ = _ := ((Gr.refl w3).alloc (.cells #[.int .i64 m] 3)).cell hcl (by simp)
      have hzA : (w3.alloc (.cells #[.int .i64 m] 3)).frozen? ⟨g, i, none⟩ = false := gr_frozen ((Gr.refl w3).alloc (.cells #[.int .i64 m] 3)) hcl hzl
      go_wp2_with fail
      go_roundw
      case rel =>
        exact ⟨i + 1, _, by omega, by go_num, hide (HS3.out.put1 rfl hlt), hide (fun k j h => ⟨HLr.out k j (by omega), fun e => by injection e with e1 e2; omega⟩)⟩
      case measure => simp [intOf]; omega
    · have hie : i = es1.length := by omega
      subst hie
      clear hlt hi
      go_wp2_with fail
      clear HST HLV
      go_loopw [6] (fun iv wr => ∃ (i : Nat) (live : BR → Prop), i ≤ es3.length ∧ iv = .int .i64 (i : Int) ∧ Hid (BSt db ub vo m (.slice a1 es1.length c1) (.slice a2 n2 c2) (.slice a3 es3.length c3) (.slice a4 es4.length c4) (.slice a5 n5 c5) es1 es3 es4 n5 n B0 w ρ live es1.length i 0 0 (2 + es1.length + 3 * i) wr) ∧ Hid (∀ k j, (k = 9 ∨ (6 ≤ k ∧ k ≤ 8 ∧ i ≤ j)) → live (.ls k j))) (fun iv _ => es3.length - (intOf iv).toNat)
      case atStart => exact ⟨0, live, Nat.zero_le _, rfl, HSr, hide (fun k j h => HLr.out k j (by omega))⟩
      case round =>
        clear HSr HLr p0 p1 p2 p3 p4
        obtain ⟨i, live, hi, rfl, HSr, HLr⟩ := hrel
        obtain ⟨p0, p1, p2, p3, p4⟩ := HSr.out.box
        by_cases hlt : i < es3.length
        · obtain ⟨e, he⟩ : ∃ e, es3[i]? = some e := ⟨_, List.getElem?_eq_getElem hlt⟩
          have HE := hide he
          have hlp := HLr.out 6 i (.inr ⟨by decide, by decide, Nat.le_refl _⟩)
          have hll := HLr.out 7 i (.inr ⟨by decide, by decide, Nat.le_refl _⟩)
          have hlc := HLr.out 8 i (.inr ⟨by decide, by decide, Nat.le_refl _⟩)
          obtain ⟨vp, res, vl, vc, np, nl, nc⟩ := e
          obtain ⟨ap, cp, hap⟩ := HSr.out.inn_shape (.fp i _ he) hlp
          obtain ⟨al, cl, hal⟩ := HSr.out.inn_shape (.fl i _ he) hll
          obtain ⟨ac, cc, hac⟩ := HSr.out.inn_shape (.fc i _ he) hlc
          simp only at hap hal hac
          subst hap; subst hal; subst hac
          obtain ⟨g, cap, hg, hq⟩ := HSr.out.at3 he
          simp only [Value.slice.injEq, true_and] at hg
          obtain ⟨rfl, rfl⟩ := hg
          have q0 : wr.cell? ⟨g, i * 4, none⟩ = some (.slice ap np cp) := (hq 0 (by decide)).1
          have hkn : (0 : Int) ≤ (i : Int) := by omega
          have hkn2 : (i : Int) < (es3.length : Int) := by omega
          have HCall := hide (HSr.out.num (.fp i _ he) hlp (by omega) (by omega))
          have HLl := hide hll
          have HLc := hide hlc
          clear he hlp hll hlc hq
          go_wp2_with fail
          refine HCall.out.mono ?_
          rintro x w3 ⟨rfl, hst⟩
          clear p0 p1 p2 p3 p4 q0 HCall
          have HS3 := hide hst
          clear hst
          obtain ⟨p0, p1, p2, p3, p4⟩ := HS3.out.box
          obtain ⟨g', cap', hg, hq⟩ := HS3.out.at3 HE.out
          simp only [Value.slice.injEq, Option.some.injEq, Addr.mk.injEq, and_true, true_and] at hg
          obtain ⟨rfl, rfl⟩ := hg
          have q2 : w3.cell? ⟨g, i * 4 + 2, none⟩ = some (.slice al nl cl) := (hq 2 (by decide)).1
          have HCall := hide (HS3.out.num (.fl i _ HE.out) ⟨HLl.out, nofun⟩ (by omega) (by omega))
          clear hq
          go_wp2_with fail
          refine HCall.out.mono ?_
          rintro x w4 ⟨rfl, hst⟩
          clear p0 p1 p2 p3 p4 q2 HCall HS3
          have HS4 := hide hst
          clear hst
          obtain ⟨p0, p1, p2, p3, p4⟩ := HS4.out.box
          obtain ⟨g', cap', hg, hq⟩ := HS4.out.at3 HE.out
          simp only [Value.slice.injEq, Option.some.injEq, Addr.mk.injEq, and_true, true_and] at hg
          obtain ⟨rfl, rfl⟩ := hg
          have q3 : w4.cell? ⟨g, i * 4 + 3, none⟩ = some (.slice ac nc cc) := (hq 3 (by decide)).1
          have HCall := hide (HS4.out.code (.fc i _ HE.out) ⟨⟨HLc.out, nofun⟩, nofun⟩ (by omega) (by omega))
          clear hq
          go_wp2_with fail
          refine HCall.out.mono ?_
          rintro x w5 ⟨rfl, hst⟩
          clear p0 p1 p2 p3 p4 q3 HCall HS4
          have HS5 := hide hst
          clear hst
          obtain ⟨p0, p1, p2, p3, p4⟩ := HS5.out.box
          obtain ⟨g', cap', hg, hq⟩ := HS5.out.at3 HE.out
          simp only [Value.slice.injEq, Option.some.injEq, Addr.mk.injEq, and_true, true_and] at hg
          obtain ⟨rfl, rfl⟩ := hg
          have q0 : w5.cell? ⟨g, i * 4, none⟩ = some (.slice ap np cp) := (hq 0 (by decide)).1
          have q1 : w5.cell? ⟨g, i * 4 + 1, none⟩ = some (.int .i64 res) := (hq 1 (by decide)).1
          have q2 : w5.cell? ⟨g, i * 4 + 2, none⟩ = some (.slice al nl cl) := (hq 2 (by decide)).1
          have q3 : w5.cell? ⟨g, i * 4 + 3, none⟩ = some (.slice ac nc cc) := (hq 3 (by decide)).1
          have f0 : w5.frozen? ⟨g, i * 4, none⟩ = false := (hq 0 (by decide)).2
          have f1 := (hq 1 (by decide)).2
          have f2 := (hq 2 (by decide)).2
          have f3 := (hq 3 (by decide)).2
          clear hq
          go_wp2_with fail
          go_roundw
          case rel =>
            have hst := HS5.out.put3 rfl hlt
            rw [show 2 + es1.length + 3 * i + 1 + 1 + 1 = 2 + es1.length + 3 * (i + 1) by omega] at hst
            exact ⟨i + 1, _, by omega, by go_num, hide hst, hide (fun k j h => ⟨⟨⟨HLr.out k j (by omega), fun e => by injection e with e1 e2; omega⟩, fun e => by injection e with e1 e2; omega⟩, fun e => by injection e with e1 e2; omega⟩)⟩
          case measure => simp [intOf]; omega
        · have hie : i = es3.length := by omega
          subst hie
          clear hlt hi
          go_wp2_with fail
          go_loopw [7] (fun iv wr => ∃ (i : Nat) (live : BR → Prop), i ≤ es4.length ∧ iv = .int .i64 (i : Int) ∧ Hid (BSt db ub vo m (.slice a1 es1.length c1) (.slice a2 n2 c2) (.slice a3 es3.length c3) (.slice a4 es4.length c4) (.slice a5 n5 c5) es1 es3 es4 n5 n B0 w ρ live es1.length es3.length i 0 (2 + es1.length + 3 * es3.length + i) wr) ∧ Hid (∀ k j, (k = 9 ∧ i ≤ j) → live (.ls k j))) (fun iv _ => es4.length - (intOf iv).toNat)
          case atStart => exact ⟨0, live, Nat.zero_le _, rfl, HSr, hide (fun k j h => HLr.out k j (by omega))⟩
          case round =>
            clear HSr HLr p0 p1 p2 p3 p4
            obtain ⟨i, live, hi, rfl, HSr, HLr⟩ := hrel
            obtain ⟨p0, p1, p2, p3, p4⟩ := HSr.out.box
            by_cases hlt : i < es4.length
            · obtain ⟨e, he⟩ : ∃ e, es4[i]? = some e := ⟨_, List.getElem?_eq_getElem hlt⟩
              have HE := hide he
              have hlp := HLr.out 9 i ⟨rfl, Nat.le_refl _⟩
              obtain ⟨st, vp, res, np⟩ := e
              obtain ⟨ap, cp, hap⟩ := HSr.out.inn_shape (.ip i _ he) hlp
              simp only at hap
              subst hap
              obtain ⟨g, cap, hg, hq⟩ := HSr.out.at4 he
              simp only [Value.slice.injEq, true_and] at hg
              obtain ⟨rfl, rfl⟩ := hg
              have q1 : wr.cell? ⟨g, i * 3 + 1, none⟩ = some (.slice ap np cp) := (hq 1 (by decide)).1
              have hkn : (0 : Int) ≤ (i : Int) := by omega
              have hkn2 : (i : Int) < (es4.length : Int) := by omega
              have HCall := hide (HSr.out.num (.ip i _ he) hlp (by omega) (by omega))
              clear he hlp hq
              go_wp2_with fail
              refine HCall.out.mono ?_
              rintro x w3 ⟨rfl, hst⟩
              clear p0 p1 p2 p3 p4 q1 HCall
              have HS3 := hide hst
              clear hst
              obtain ⟨p0, p1, p2, p3, p4⟩ := HS3.out.box
              obtain ⟨g', cap', hg, hq⟩ := HS3.out.at4 HE.out
              simp only [Value.slice.injEq, Option.some.injEq, Addr.mk.injEq, and_true, true_and] at hg
              obtain ⟨rfl, rfl⟩ := hg
              have q0 : w3.cell? ⟨g, i * 3, none⟩ = some (.string st) := (hq 0 (by decide)).1
              have q1 : w3.cell? ⟨g, i * 3 + 1, none⟩ = some (.slice ap np cp) := (hq 1 (by decide)).1
              have q2 : w3.cell? ⟨g, i * 3 + 2, none⟩ = some (.int .i64 res) := (hq 2 (by decide)).1
              have f0 : w3.frozen? ⟨g, i * 3, none⟩ = false := (hq 0 (by decide)).2
              have f1 := (hq 1 (by decide)).2
              have f2 := (hq 2 (by decide)).2
              clear hq
              go_wp2_with fail
              go_roundw
              case rel =>
                exact ⟨i + 1, _, by omega, by go_num, hide (HS3.out.put4 rfl hlt), hide (fun k j h => ⟨HLr.out k j (by omega), fun e => by injection e with e1 e2; omega⟩)⟩
              case measure => simp [intOf]; omega
            · have hie : i = es4.length := by omega
              subst hie
              clear hlt hi
              go_wp2_with fail
              go_loopw [8] (fun iv wr => ∃ (i : Nat), i ≤ n5 ∧ iv = .int .i64 (i : Int) ∧ Hid (BSt db ub vo m (.slice a1 es1.length c1) (.slice a2 n2 c2) (.slice a3 es3.length c3) (.slice a4 es4.length c4) (.slice a5 n5 c5) es1 es3 es4 n5 n B0 w ρ (fun _ => False) es1.length es3.length es4.length i (2 + es1.length + 3 * es3.length + es4.length) wr)) (fun iv _ => n5 - (intOf iv).toNat)
              case atStart => exact ⟨0, Nat.zero_le _, rfl, hide (HSr.out.weak fun _ h => h.elim)⟩
              case round =>
                clear HSr HLr p0 p1 p2 p3 p4
                obtain ⟨i, hi, rfl, HSr⟩ := hrel
                obtain ⟨p0, p1, p2, p3, p4⟩ := HSr.out.box
                by_cases hlt : i < n5
                · obtain ⟨g, cap, hg, hq⟩ := HSr.out.at5 hlt
                  simp only [Value.slice.injEq, true_and] at hg
                  obtain ⟨rfl, rfl⟩ := hg
                  obtain ⟨⟨x0, q0⟩, f0⟩ := hq 0 (by decide)
                  obtain ⟨⟨x1, q1⟩, f1⟩ := hq 1 (by decide)
                  have q0 : wr.cell? ⟨g, i * 2, none⟩ = some x0 := q0
                  have f0 : wr.frozen? ⟨g, i * 2, none⟩ = false := f0
                  have hkn : (0 : Int) ≤ (i : Int) := by omega
                  have hkn2 : (i : Int) < (n5 : Int) := by omega
                  clear hq
                  go_wp2_with fail
                  go_roundw
                  case rel => exact ⟨i + 1, by omega, by go_num, hide (HSr.out.put5 rfl hlt)⟩
                  case measure => simp [intOf]; omega
                · have hie : n5 = i := by omega
                  subst hie
                  clear hlt hi
                  obtain ⟨V0, X0, ρ1, hS, hE, hU, hM, hXl⟩ := HSr.out
                  obtain ⟨xs0, hC⟩ := hU.ch
                  have HB5 : Hid (B5 db vo ((n + (2 + es1.length + 3 * es3.length + es4.length) : Nat) : Int) w ρ X0 m (.slice a1 es1.length c1) (.slice a3 es3.length c3) (.slice a4 es4.length c4) (.slice a5 n5 c5) es1.length es3.length es4.length n5 xs0 [] V0 X0 ρ1 wr) := hide ⟨hS, hE, hC, hM⟩
                  have HXl := hide hXl
                  clear hS hE hU hM hXl hC
                  go_wp2_with fail
                  go_loopw [9, 10, 11, 12, 13] (fun sv fv pv xv jv wr => ∃ (j : Nat) (xs1 : List Value) (es : List OE) (V' : Nat → Value) (X' : Nat → List Value) (ρ' : Nat → BR), j ≤ 4 ∧ jv = .int .i64 (j : Int) ∧ es.length = j ∧ Hid (B5 db vo ((n + (2 + es1.length + 3 * es3.length + es4.length) : Nat) : Int) w ρ X0 m sv fv pv xv (es1.length + j) (es3.length + j) (es4.length + j) (n5 + j) xs1 es V' X' ρ' wr) ∧ Hid (XEq X0 X' m es)) (fun _ _ _ _ jv _ => 4 - (intOf jv).toNat)
                  case atStart => exact ⟨0, xs0, [], V0, X0, ρ1, by decide, rfl, rfl, HB5, hide ⟨by simp, by simp, by simp, by simp, by simp, fun _ _ => rfl⟩⟩
                  case round =>
                    clear HSr p0 p1 p2 p3 p4 HB5
                    obtain ⟨j, xs1, es, V', X', ρ', hj, rfl, hes, HB5, HXq⟩ := hrel
                    obtain ⟨⟨ash, csh, rfl⟩, _⟩ := own_form HB5.out.c.o1.1
                    obtain ⟨⟨af, cf, rfl⟩, _⟩ := own_form HB5.out.c.o3.1
                    obtain ⟨⟨ap, cp, rfl⟩, _⟩ := own_form HB5.out.c.o4.1
                    obtain ⟨⟨ax, cx, rfl⟩, _⟩ := own_form HB5.out.c.o5.1
                    have HES := hide hes
                    clear hes
                    by_cases hj4 : j < 4
                    · have HLn : Hid (∀ q, (X' q).length ≤ 2000000) := hide (fun q => by have h1 := HXq.out.len HXl.out q; have h2 := HES.out; omega)
                      have H0 := hide HB5.out.push
                      clear HB5
                      have hrow2 := (H0.out.s.row 7 (by decide) (by decide)).1
                      have hdl2 := H0.out.s.lt
                      have hbx2 := H0.out.s.box
                      obtain ⟨⟨aI2, cI2, hVI2⟩, _⟩ := own_form hrow2
                      have hcI2 : _ = some (Value.slice aI2 (X' 7).length cI2) := (heap_cell (j := 7) hbx2).trans (congrArg some hVI2)
                      have hnd2 : ¬ Value.ownBlock (.slice aI2 (X' 7).length cI2) = some db := fun e => by rw [← hVI2] at e; have := (hrow2.lt db e).1; omega
                      have HB2 := hide hbx2
                      have hrow22 : World.ownsRow wr (db + 1) 22 1 (.slice aI2 (X' 7).length cI2) (X' 7).length (X' 7) := by have h := hrow2; rw [hVI2] at h; exact h
                      have hlen2 : (X' 7).length ≤ 10000000 := by have := HLn.out 7; omega
                      clear hbx2
                      go_upto_region 33 with (at_builtin; refine wpList_append_vals _ rfl _ _ 33 22 1 24 (.slice none 0 0) Tryd.ownRow1 Tryd.underlying33 rfl (by decide) (by decide) rfl (db + 1) (.slice aI2 (X' 7).length cI2) (X' 7).length (X' 7) rfl hrow22 #[.slice ash (es1.length + j) csh] rfl (by intro u hu; simp at hu; subst hu; rfl) _ rfl (by simp) hlen2 (by omega) ?_; intro v32 w32 hap2; have HAP2 := hide hap2; obtain ⟨⟨a82, c82, hv32⟩, _⟩ := own_form hap2.own; subst hv32; have hob32 := hap2.frm.cell hcI2 (fun e => hnd2 e.symm); have hz32 : w32.frozen? ⟨db, 7, none⟩ = false := (World.frozen?_of_block (hap2.frm.block db hdl2 (fun e => hnd2 e.symm))).trans (heap_frozen HB2.out); clear hap2)
                      have hst2 := H0.out.row (i := 7) (by decide) (by decide) (y := .slice ash (es1.length + j) csh) (hVI2 ▸ HAP2.out)
                      have hXa2 : upb X' 7 (X' 7 ++ [.slice ash (es1.length + j) csh]) 7 = X' 7 ++ [.slice ash (es1.length + j) csh] := if_pos rfl
                      have hXb2 : ∀ q, q ≠ 7 → upb X' 7 (X' 7 ++ [.slice ash (es1.length + j) csh]) q = X' q := fun q hq => if_neg hq
                      generalize w32.setCell ⟨db, 7, none⟩ (.slice a82 ((X' 7).length + 1) c82) = W2 at hst2 ⊢
                      generalize upb X' 7 (X' 7 ++ [.slice ash (es1.length + j) csh]) = X2 at hst2 hXa2 hXb2
                      generalize grw _ (Value.slice a82 ((X' 7).length + 1) c82) (.row 7) _ = ρ2 at hst2
                      generalize upb _ 7 (Value.slice a82 ((X' 7).length + 1) c82) = V2 at hst2
                      have HL2 : Hid (∀ q, (X2 q).length ≤ 2000010) := hide (fun q => by
                        have := HLn.out q
                        by_cases e : q = 7
                        · subst e; rw [hXa2]; have := hlen2; simp; omega
                        · rw [hXb2 q e]; omega)
                      have H2 := hide hst2
                      have HXa2 := hide hXa2
                      have HXb2 := hide hXb2
                      clear hXa2 hXb2 hst2 hrow2 hrow22 hcI2 hnd2 hlen2 HAP2 hVI2 hob32 hz32 hdl2 HB2
                      clear H0
                      have hrow3 := (H2.out.s.row 6 (by decide) (by decide)).1
                      have hdl3 := H2.out.s.lt
                      have hbx3 := H2.out.s.box
                      obtain ⟨⟨aI3, cI3, hVI3⟩, _⟩ := own_form hrow3
                      have hcI3 : _ = some (Value.slice aI3 (X2 6).length cI3) := (heap_cell (j := 6) hbx3).trans (congrArg some hVI3)
                      have hnd3 : ¬ Value.ownBlock (.slice aI3 (X2 6).length cI3) = some db := fun e => by rw [← hVI3] at e; have := (hrow3.lt db e).1; omega
                      have HB3 := hide hbx3
                      have hrow23 : World.ownsRow W2 (db + 1) 24 1 (.slice aI3 (X2 6).length cI3) (X2 6).length (X2 6) := by have h := hrow3; rw [hVI3] at h; exact h
                      have hlen3 : (X2 6).length ≤ 10000000 := by have := HL2.out 6; omega
                      clear hbx3
                      go_upto_region 34 with (at_builtin; refine wpList_append_vals _ rfl _ _ 32 24 1 24 (.slice none 0 0) Tryd.ownRow3 Tryd.underlying32 rfl (by decide) (by decide) rfl (db + 1) (.slice aI3 (X2 6).length cI3) (X2 6).length (X2 6) rfl hrow23 #[.slice af (es3.length + j) cf] rfl (by intro u hu; simp at hu; subst hu; rfl) _ rfl (by simp) hlen3 (by omega) ?_; intro v33 w33 hap3; have HAP3 := hide hap3; obtain ⟨⟨a83, c83, hv33⟩, _⟩ := own_form hap3.own; subst hv33; have hob33 := hap3.frm.cell hcI3 (fun e => hnd3 e.symm); have hz33 : w33.frozen? ⟨db, 6, none⟩ = false := (World.frozen?_of_block (hap3.frm.block db hdl3 (fun e => hnd3 e.symm))).trans (heap_frozen HB3.out); clear hap3)
                      have hst3 := H2.out.row (i := 6) (by decide) (by decide) (y := .slice af (es3.length + j) cf) (hVI3 ▸ HAP3.out)
                      have hXa3 : upb X2 6 (X2 6 ++ [.slice af (es3.length + j) cf]) 6 = X2 6 ++ [.slice af (es3.length + j) cf] := if_pos rfl
                      have hXb3 : ∀ q, q ≠ 6 → upb X2 6 (X2 6 ++ [.slice af (es3.length + j) cf]) q = X2 q := fun q hq => if_neg hq
                      generalize w33.setCell ⟨db, 6, none⟩ (.slice a83 ((X2 6).length + 1) c83) = W3 at hst3 ⊢
                      generalize upb X2 6 (X2 6 ++ [.slice af (es3.length + j) cf]) = X3 at hst3 hXa3 hXb3
                      generalize grw _ (Value.slice a83 ((X2 6).length + 1) c83) (.row 6) _ = ρ3 at hst3
                      generalize upb _ 6 (Value.slice a83 ((X2 6).length + 1) c83) = V3 at hst3
                      have HL3 : Hid (∀ q, (X3 q).length ≤ 2000020) := hide (fun q => by
                        have := HL2.out q
                        by_cases e : q = 6
                        · subst e; rw [hXa3]; have := hlen3; simp; omega
                        · rw [hXb3 q e]; omega)
                      have H3 := hide hst3
                      have HXa3 := hide hXa3
                      have HXb3 := hide hXb3
                      clear hXa3 hXb3 hst3 hrow3 hrow23 hcI3 hnd3 hlen3 HAP3 hVI3 hob33 hz33 hdl3 HB3
                      clear H2
                      have hrow4 := (H3.out.s.row 9 (by decide) (by decide)).1
                      have hdl4 := H3.out.s.lt
                      have hbx4 := H3.out.s.box
                      obtain ⟨⟨aI4, cI4, hVI4⟩, _⟩ := own_form hrow4
                      have hcI4 : _ = some (Value.slice aI4 (X3 9).length cI4) := (heap_cell (j := 9) hbx4).trans (congrArg some hVI4)
                      have hnd4 : ¬ Value.ownBlock (.slice aI4 (X3 9).length cI4) = some db := fun e => by rw [← hVI4] at e; have := (hrow4.lt db e).1; omega
                      have HB4 := hide hbx4
                      have hrow24 : World.ownsRow W3 (db + 1) 25 1 (.slice aI4 (X3 9).length cI4) (X3 9).length (X3 9) := by have h := hrow4; rw [hVI4] at h; exact h
                      have hlen4 : (X3 9).length ≤ 10000000 := by have := HL3.out 9; omega
                      clear hbx4
                      go_upto_region 35 with (at_builtin; refine wpList_append_vals _ rfl _ _ 35 25 1 24 (.slice none 0 0) Tryd.ownRow4 Tryd.underlying35 rfl (by decide) (by decide) rfl (db + 1) (.slice aI4 (X3 9).length cI4) (X3 9).length (X3 9) rfl hrow24 #[.slice ap (es4.length + j) cp] rfl (by intro u hu; simp at hu; subst hu; rfl) _ rfl (by simp) hlen4 (by omega) ?_; intro v34 w34 hap4; have HAP4 := hide hap4; obtain ⟨⟨a84, c84, hv34⟩, _⟩ := own_form hap4.own; subst hv34; have hob34 := hap4.frm.cell hcI4 (fun e => hnd4 e.symm); have hz34 : w34.frozen? ⟨db, 9, none⟩ = false := (World.frozen?_of_block (hap4.frm.block db hdl4 (fun e => hnd4 e.symm))).trans (heap_frozen HB4.out); clear hap4)
                      have hst4 := H3.out.row (i := 9) (by decide) (by decide) (y := .slice ap (es4.length + j) cp) (hVI4 ▸ HAP4.out)
                      have hXa4 : upb X3 9 (X3 9 ++ [.slice ap (es4.length + j) cp]) 9 = X3 9 ++ [.slice ap (es4.length + j) cp] := if_pos rfl
                      have hXb4 : ∀ q, q ≠ 9 → upb X3 9 (X3 9 ++ [.slice ap (es4.length + j) cp]) q = X3 q := fun q hq => if_neg hq
                      generalize w34.setCell ⟨db, 9, none⟩ (.slice a84 ((X3 9).length + 1) c84) = W4 at hst4 ⊢
                      generalize upb X3 9 (X3 9 ++ [.slice ap (es4.length + j) cp]) = X4 at hst4 hXa4 hXb4
                      generalize grw _ (Value.slice a84 ((X3 9).length + 1) c84) (.row 9) _ = ρ4 at hst4
                      generalize upb _ 9 (Value.slice a84 ((X3 9).length + 1) c84) = V4 at hst4
                      have HL4 : Hid (∀ q, (X4 q).length ≤ 2000030) := hide (fun q => by
                        have := HL3.out q
                        by_cases e : q = 9
                        · subst e; rw [hXa4]; have := hlen4; simp; omega
                        · rw [hXb4 q e]; omega)
                      have H4 := hide hst4
                      have HXa4 := hide hXa4
                      have HXb4 := hide hXb4
                      clear hXa4 hXb4 hst4 hrow4 hrow24 hcI4 hnd4 hlen4 HAP4 hVI4 hob34 hz34 hdl4 HB4
                      clear H3
                      have hrow5 := (H4.out.s.row 8 (by decide) (by decide)).1
                      have hdl5 := H4.out.s.lt
                      have hbx5 := H4.out.s.box
                      obtain ⟨⟨aI5, cI5, hVI5⟩, _⟩ := own_form hrow5
                      have hcI5 : _ = some (Value.slice aI5 (X4 8).length cI5) := (heap_cell (j := 8) hbx5).trans (congrArg some hVI5)
                      have hnd5 : ¬ Value.ownBlock (.slice aI5 (X4 8).length cI5) = some db := fun e => by rw [← hVI5] at e; have := (hrow5.lt db e).1; omega
                      have HB5 := hide hbx5
                      have hrow25 : World.ownsRow W4 (db + 1) 26 1 (.slice aI5 (X4 8).length cI5) (X4 8).length (X4 8) := by have h := hrow5; rw [hVI5] at h; exact h
                      have hlen5 : (X4 8).length ≤ 10000000 := by have := HL4.out 8; omega
                      clear hbx5
                      go_upto_region 36 with (at_builtin; refine wpList_append_vals _ rfl _ _ 34 26 1 24 (.slice none 0 0) Tryd.ownRow5 Tryd.underlying34 rfl (by decide) (by decide) rfl (db + 1) (.slice aI5 (X4 8).length cI5) (X4 8).length (X4 8) rfl hrow25 #[.slice ax (n5 + j) cx] rfl (by intro u hu; simp at hu; subst hu; rfl) _ rfl (by simp) hlen5 (by omega) ?_; intro v35 w35 hap5; have HAP5 := hide hap5; obtain ⟨⟨a85, c85, hv35⟩, _⟩ := own_form hap5.own; subst hv35; have hob35 := hap5.frm.cell hcI5 (fun e => hnd5 e.symm); have hz35 : w35.frozen? ⟨db, 8, none⟩ = false := (World.frozen?_of_block (hap5.frm.block db hdl5 (fun e => hnd5 e.symm))).trans (heap_frozen HB5.out); clear hap5)
                      have hst5 := H4.out.row (i := 8) (by decide) (by decide) (y := .slice ax (n5 + j) cx) (hVI5 ▸ HAP5.out)
                      have hXa5 : upb X4 8 (X4 8 ++ [.slice ax (n5 + j) cx]) 8 = X4 8 ++ [.slice ax (n5 + j) cx] := if_pos rfl
                      have hXb5 : ∀ q, q ≠ 8 → upb X4 8 (X4 8 ++ [.slice ax (n5 + j) cx]) q = X4 q := fun q hq => if_neg hq
                      generalize w35.setCell ⟨db, 8, none⟩ (.slice a85 ((X4 8).length + 1) c85) = W5 at hst5 ⊢
                      generalize upb X4 8 (X4 8 ++ [.slice ax (n5 + j) cx]) = X5 at hst5 hXa5 hXb5
                      generalize grw _ (Value.slice a85 ((X4 8).length + 1) c85) (.row 8) _ = ρ5 at hst5
                      generalize upb _ 8 (Value.slice a85 ((X4 8).length + 1) c85) = V5 at hst5
                      have HL5 : Hid (∀ q, (X5 q).length ≤ 2000040) := hide (fun q => by
                        have := HL4.out q
                        by_cases e : q = 8
                        · subst e; rw [hXa5]; have := hlen5; simp; omega
                        · rw [hXb5 q e]; omega)
                      have H5 := hide hst5
                      have HXa5 := hide hXa5
                      have HXb5 := hide hXb5
                      clear hXa5 hXb5 hst5 hrow5 hrow25 hcI5 hnd5 hlen5 HAP5 hVI5 hob35 hz35 hdl5 HB5
                      clear H4
                      have hrow6 := (H5.out.s.row 10 (by decide) (by decide)).1
                      have hdl6 := H5.out.s.lt
                      have hbx6 := H5.out.s.box
                      obtain ⟨⟨aI6, cI6, hVI6⟩, _⟩ := own_form hrow6
                      have hcI6 : _ = some (Value.slice aI6 (X5 10).length cI6) := (heap_cell (j := 10) hbx6).trans (congrArg some hVI6)
                      have hnd6 : ¬ Value.ownBlock (.slice aI6 (X5 10).length cI6) = some db := fun e => by rw [← hVI6] at e; have := (hrow6.lt db e).1; omega
                      have HB6 := hide hbx6
                      have hrow26 : World.ownsRow W5 (db + 1) 3 1 (.slice aI6 (X5 10).length cI6) (X5 10).length (X5 10) := by have h := hrow6; rw [hVI6] at h; exact h
                      have hlen6 : (X5 10).length ≤ 10000000 := by have := HL5.out 10; omega
                      clear hbx6
                      go_upto_region 37 with (at_builtin; refine wpList_append_vals _ rfl _ _ 23 3 1 8 (.int .i64 0) Tryd.ownInt Tryd.underlying23 rfl (by decide) (by decide) rfl (db + 1) (.slice aI6 (X5 10).length cI6) (X5 10).length (X5 10) rfl hrow26 #[.int .i64 m] rfl (by intro u hu; simp at hu; subst hu; rfl) _ rfl (by simp) hlen6 (by omega) ?_; intro v36 w36 hap6; have HAP6 := hide hap6; obtain ⟨⟨a86, c86, hv36⟩, _⟩ := own_form hap6.own; subst hv36; have hob36 := hap6.frm.cell hcI6 (fun e => hnd6 e.symm); have hz36 : w36.frozen? ⟨db, 10, none⟩ = false := (World.frozen?_of_block (hap6.frm.block db hdl6 (fun e => hnd6 e.symm))).trans (heap_frozen HB6.out); clear hap6)
                      have hst6 := H5.out.row (i := 10) (by decide) (by decide) (y := .int .i64 m) (hVI6 ▸ HAP6.out)
                      have hXa6 : upb X5 10 (X5 10 ++ [.int .i64 m]) 10 = X5 10 ++ [.int .i64 m] := if_pos rfl
                      have hXb6 : ∀ q, q ≠ 10 → upb X5 10 (X5 10 ++ [.int .i64 m]) q = X5 q := fun q hq => if_neg hq
                      generalize w36.setCell ⟨db, 10, none⟩ (.slice a86 ((X5 10).length + 1) c86) = W6 at hst6 ⊢
                      generalize upb X5 10 (X5 10 ++ [.int .i64 m]) = X6 at hst6 hXa6 hXb6
                      generalize grw _ (Value.slice a86 ((X5 10).length + 1) c86) (.row 10) _ = ρ6 at hst6
                      generalize upb _ 10 (Value.slice a86 ((X5 10).length + 1) c86) = V6 at hst6
                      have HL6 : Hid (∀ q, (X6 q).length ≤ 2000050) := hide (fun q => by
                        have := HL5.out q
                        by_cases e : q = 10
                        · subst e; rw [hXa6]; have := hlen6; simp; omega
                        · rw [hXb6 q e]; omega)
                      have H6 := hide hst6
                      have HXa6 := hide hXa6
                      have HXb6 := hide hXb6
                      clear hXa6 hXb6 hst6 hrow6 hrow26 hcI6 hnd6 hlen6 HAP6 hVI6 hob36 hz36 hdl6 HB6
                      clear H5
                      have hxn := ints_new W6 ρ6 m
                      have H7 := hide (H6.out.new #[.int .i64 m] 3)
                      clear H6
                      have hrow8 := H7.out.c.o1.1
                      have hdl8 := H7.out.s.lt
                      have hlen8 : es1.length + j ≤ 10000000 := by omega
                      go_upto_region 38 with (at_builtin; refine wpList_append_kept _ rfl _ _ 22 23 1 24 (.slice none 0 0) Tryd.ownSlice Tryd.underlying22 rfl (by decide) (by decide) rfl (db + 1) (.slice ash (es1.length + j) csh) (es1.length + j) (xs1) rfl hrow8 #[.slice (some ⟨W6.heap.size, 0, none⟩) 1 1] rfl (by intro u hu; simp at hu; first | (subst hu; rfl) | (rcases hu with rfl | rfl <;> rfl) | (rcases hu with rfl | rfl | rfl <;> rfl) | (rcases hu with rfl | rfl | rfl | rfl <;> rfl)) _ rfl (by simp) hlen8 (by first | omega | (simp; omega)) ?_; intro v48 w48 hap8 hkp8; have HAP8 := hide hap8; have HKP8 := hide hkp8; obtain ⟨⟨a98, c98, hv48⟩, _⟩ := own_form hap8.own; subst hv48; clear hap8 hkp8)
                      have H8 := hide (H7.out.app1 hxn HAP8.out HKP8.out)
                      clear HAP8 HKP8 hrow8 hlen8
                      generalize grw _ (Value.slice a98 (es1.length + j + 1) c98) _ _ = ρ8 at H8
                      clear H7 hxn
                      have hrow9 := H8.out.c.o3.1
                      have hdl9 := H8.out.s.lt
                      have hlen9 : es3.length + j ≤ 10000000 := by omega
                      go_upto_region 39 with (at_builtin; refine wpList_append_kept _ rfl _ _ 24 76 4 80 (Value.agg #[.slice none 0 0, .int .i64 0, .slice none 0 0, .slice none 0 0]) Tryd.ownFunc Tryd.underlying24 rfl (by decide) (by decide) rfl (db + 1) (.slice af (es3.length + j) cf) (es3.length + j) (rp (es3.length + j) (yF m)) rfl hrow9 #[.slice none 0 0, .int .i64 m, .slice none 0 0, .slice none 0 0] rfl (by intro u hu; simp at hu; first | (subst hu; rfl) | (rcases hu with rfl | rfl <;> rfl) | (rcases hu with rfl | rfl | rfl <;> rfl) | (rcases hu with rfl | rfl | rfl | rfl <;> rfl)) _ rfl (by simp) hlen9 (by first | omega | (simp; omega)) ?_; intro v49 w49 hap9 hkp9; have HAP9 := hide hap9; have HKP9 := hide hkp9; obtain ⟨⟨a99, c99, hv49⟩, _⟩ := own_form hap9.own; subst hv49; clear hap9 hkp9)
                      have H9 := hide (H8.out.app3 HAP9.out HKP9.out)
                      clear HAP9 HKP9 hrow9 hlen9
                      generalize grw _ (Value.slice a99 (es3.length + j + 1) c99) _ _ = ρ9 at H9
                      clear H8
                      have hrow10 := H9.out.c.o4.1
                      have hdl10 := H9.out.s.lt
                      have hlen10 : es4.length + j ≤ 10000000 := by omega
                      go_upto_region 40 with (at_builtin; refine wpList_append_kept _ rfl _ _ 25 79 3 48 (Value.agg #[.string ⟨#[]⟩, .slice none 0 0, .int .i64 0]) Tryd.ownImp Tryd.underlying25 rfl (by decide) (by decide) rfl (db + 1) (.slice ap (es4.length + j) cp) (es4.length + j) (rp (es4.length + j) (yI m)) rfl hrow10 #[.string ⟨#[]⟩, .slice none 0 0, .int .i64 m] rfl (by intro u hu; simp at hu; first | (subst hu; rfl) | (rcases hu with rfl | rfl <;> rfl) | (rcases hu with rfl | rfl | rfl <;> rfl) | (rcases hu with rfl | rfl | rfl | rfl <;> rfl)) _ rfl (by simp) hlen10 (by first | omega | (simp; omega)) ?_; intro v410 w410 hap10 hkp10; have HAP10 := hide hap10; have HKP10 := hide hkp10; obtain ⟨⟨a910, c910, hv410⟩, _⟩ := own_form hap10.own; subst hv410; clear hap10 hkp10)
                      have H10 := hide (H9.out.app4 HAP10.out HKP10.out)
                      clear HAP10 HKP10 hrow10 hlen10
                      generalize grw _ (Value.slice a910 (es4.length + j + 1) c910) _ _ = ρ10 at H10
                      clear H9
                      have hrow11 := H10.out.c.o5.1
                      have hdl11 := H10.out.s.lt
                      have hlen11 : n5 + j ≤ 10000000 := by omega
                      go_wp2_with (at_builtin; refine wpList_append_kept _ rfl _ _ 26 81 2 24 (Value.agg #[.string ⟨#[]⟩, .int .i64 0]) Tryd.ownExp Tryd.underlying26 rfl (by decide) (by decide) rfl (db + 1) (.slice ax (n5 + j) cx) (n5 + j) (rp (n5 + j) (yE m)) rfl hrow11 #[.string ⟨#[]⟩, .int .i64 m] rfl (by intro u hu; simp at hu; first | (subst hu; rfl) | (rcases hu with rfl | rfl <;> rfl) | (rcases hu with rfl | rfl | rfl <;> rfl) | (rcases hu with rfl | rfl | rfl | rfl <;> rfl)) _ rfl (by simp) hlen11 (by first | omega | (simp; omega)) ?_; intro v411 w411 hap11 hkp11; have HAP11 := hide hap11; have HKP11 := hide hkp11; obtain ⟨⟨a911, c911, hv411⟩, _⟩ := own_form hap11.own; subst hv411; clear hap11 hkp11)
                      have H11 := hide (H10.out.app5 HAP11.out HKP11.out)
                      clear HAP11 HKP11 hrow11 hlen11
                      generalize grw _ (Value.slice a911 (n5 + j + 1) c911) _ _ = ρ11 at H11
                      go_roundw
                      case rel =>
                        exact ⟨j + 1, _, _, _, _, _, by omega, by go_num, by rw [List.length_append, HES.out]; rfl, H11, hide (HXq.out.round HXa2.out HXb2.out HXa3.out HXb3.out HXa4.out HXb4.out HXa5.out HXb5.out HXa6.out HXb6.out)⟩
                      case measure => simp [intOf]; omega
                    · have hj5 : j = 4 := by omega
                      subst hj5
                      have HFin : Hid (BunR db vo n B0 (es1.length + 3 * es3.length + es4.length) ρ w (.returned (.tuple #[])) wr) := hide ⟨rfl, V', X', finL ρ', by
                        have h := HB5.out.s.finL_
                        rw [show n + (2 + es1.length + 3 * es3.length + es4.length) = n + (es1.length + 3 * es3.length + es4.length) + 2 by omega] at h
                        exact h, HB5.out.c.book HB5.out.e HXq.out.1 HXq.out.2.1 HXq.out.2.2.1 HXq.out.2.2.2.1 HXq.out.2.2.2.2.1 (fun q hq => HXq.out.2.2.2.2.2 q (.inl hq)), HB5.out.u.trans (MvU.finL_ _ _ _), fun q => by have h1 := HXq.out.len HXl.out q; have h2 := HES.out; omega⟩
                      go_wp2_with fail
                      go_end0
                      exact HFin.out
end Go.Proofs.YtkgncijcnlfhiaaDoor

