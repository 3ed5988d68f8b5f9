import Derived.Test.YtkgncijcnlfhiaaDoorKd
import Derived.Test.YtkgncijcnlfhiaaDoorRg6
namespace Go.Proofs.YtkgncijcnlfhiaaDoor
set_option linter.unusedVariables false
set_option linter.unusedSimpArgs false
open Go.RowKit
attribute [local go_sem ↓] Go.wp_at_zero Go.wp_at_succ
/-- the unit is read wherever what the call was given, and what it made, stands -/
def LkR (w0 w : World) : PUnit ⊕ (Int × Nat) → Ending → World → Prop
  | .inl u, x, w' => ∃ v, x = .returned (.tuple #[v, .int .i64 0, .int .i64 0]) ∧ (∀ w2 : World, (∀ b, b < w0.heap.size → w2.heap[b]? = w0.heap[b]?) → (∀ b, w.heap.size ≤ b → b < w'.heap.size → w2.heap[b]? = w'.heap[b]?) → RUnit w2 v u) ∧ Gr w w'
  | .inr (e, p), x, w' => x = .returned (.tuple #[.agg #[.slice none 0 0, .slice none 0 0, .slice none 0 0, .slice none 0 0, .slice none 0 0], .int .i64 e, .int .i64 (p : Int)]) ∧ Gr w w'
set_option maxRecDepth 100000 in
set_option maxHeartbeats 2000000 in
theorem link_many (l : List PUnit) (vl : Value) (w0 w : World) (hR : RUnits w vl l) (hl : l.length < 1 ∨ 6 < l.length) :
    Calls Tryd.prog 25 #[vl] w (LkR w0 w (linkP l)) := by
  have HP : Hid (linkP l = .inr (4, 0)) := hide (by
    cases l with
    | nil => rfl
    | cons h t => unfold linkP; simp only; rw [if_pos (hl.resolve_left (by simp))])
  obtain ⟨al, cl, rfl⟩ := hR.shape
  rw [HP.out]
  have HG := hide ((Gr.refl w).alloc (.cells #[.slice none 0 0, .slice none 0 0, .slice none 0 0, .slice none 0 0, .slice none 0 0] 28))
  have HB := hide (Box5.new w 28 (.slice none 0 0) (.slice none 0 0) (.slice none 0 0) (.slice none 0 0) (.slice none 0 0))
  clear HP hR
  rcases hl with hl | hl
  · have h1 : (l.length : Int) < 1 := by omega
    go_enter Tryd.func25, Tryd.ntmps25
    go_upto_region 2 with fail
    generalize w.alloc (.cells #[.slice none 0 0, .slice none 0 0, .slice none 0 0, .slice none 0 0, .slice none 0 0] 28) = W at HG HB ⊢
    obtain ⟨r0, r1, r2, r3, r4, s0, s1, s2, s3, s4⟩ := HB.out
    go_wp2_with fail
    rw [put5_eq]
    obtain ⟨r0, r1, r2, r3, r4, s0, s1, s2, s3, s4⟩ := put5_box (.slice none 0 0) (.slice none 0 0) (.slice none 0 0) (.slice none 0 0) (.slice none 0 0) HB.out
    exact bodyPost_ret (v := .tuple #[.agg #[.slice none 0 0, .slice none 0 0, .slice none 0 0, .slice none 0 0, .slice none 0 0], .int .i64 4, .int .i64 0]) (by simp [results, Tryd.results25, go_sem, r0, r1, r2, r3, r4]) rfl ⟨rfl, put5_gr HG.out (Nat.le_refl _)⟩
  · have h1 : (1 : Int) ≤ (l.length : Int) := by omega
    have h2 : (6 : Int) < (l.length : Int) := by omega
    go_enter Tryd.func25, Tryd.ntmps25
    go_upto_region 2 with fail
    generalize w.alloc (.cells #[.slice none 0 0, .slice none 0 0, .slice none 0 0, .slice none 0 0, .slice none 0 0] 28) = W at HG HB ⊢
    obtain ⟨r0, r1, r2, r3, r4, s0, s1, s2, s3, s4⟩ := HB.out
    go_wp2_with fail
    rw [put5_eq]
    obtain ⟨r0, r1, r2, r3, r4, s0, s1, s2, s3, s4⟩ := put5_box (.slice none 0 0) (.slice none 0 0) (.slice none 0 0) (.slice none 0 0) (.slice none 0 0) HB.out
    exact bodyPost_ret (v := .tuple #[.agg #[.slice none 0 0, .slice none 0 0, .slice none 0 0, .slice none 0 0, .slice none 0 0], .int .i64 4, .int .i64 0]) (by simp [results, Tryd.results25, go_sem, r0, r1, r2, r3, r4]) rfl ⟨rfl, put5_gr HG.out (Nat.le_refl _)⟩
theorem p5_heap {w : World} {b g : Nat} {y0 y1 y2 y3 y4 : Value} (h : g ≠ b) : (put5 w b y0 y1 y2 y3 y4).heap[g]? = w.heap[g]? := by
  have hc : ∀ (V : World) (q : Nat) (v : Value), (V.setCell ⟨b, q, none⟩ v).heap[g]? = V.heap[g]? := fun V q v => Below.heap_setCell _ _ _ _ h
  unfold put5; rw [hc, hc, hc, hc, hc]
theorem p5_size {w : World} {b : Nat} {y0 y1 y2 y3 y4 : Value} : (put5 w b y0 y1 y2 y3 y4).heap.size = w.heap.size := by unfold put5; simp
theorem ord_cell (w : World) (e : Nat) (he : e < 5) : (w.alloc (.cells #[.int .i64 1, .int .i64 5, .int .i64 6, .int .i64 7, .int .i64 8] 3)).cell? ⟨w.heap.size, e, none⟩ = some (.int .i64 (ordE e)) := by
  rw [heap_cell (heap_alloc_new w (.cells #[.int .i64 1, .int .i64 5, .int .i64 6, .int .i64 7, .int .i64 8] 3))]
  have hc : e = 0 ∨ e = 1 ∨ e = 2 ∨ e = 3 ∨ e = 4 := by omega
  rcases hc with rfl | rfl | rfl | rfl | rfl <;> rfl
set_option maxRecDepth 100000 in
set_option maxHeartbeats 4000000 in
theorem link_ref (l : List PUnit) (vl : Value) (w0 w : World) (hR0 : RUnits w0 vl l) (hB0 : Below w0.heap.size w0 w) (hT : Tab w) :
    Calls Tryd.prog 25 #[vl] w (LkR w0 w (linkP l)) := by
  have hR : RUnits w vl l := hR0.low hB0
  by_cases hl : l.length < 1 ∨ 6 < l.length
  · exact link_many l vl w0 w hR hl
  have hl1 : 1 ≤ l.length := by omega
  have hl6 : l.length ≤ 6 := by omega
  clear hl
  obtain ⟨al, cl, rfl⟩ := hR.shape
  have HR := hide hR
  have HR0 := hide hR0
  have HB0 := hide hB0
  have hs0 : w0.heap.size ≤ w.heap.size := hB0.size
  have HT := hide hT
  generalize hD : linkP l = R
  have HD := hide hD
  clear hR hT hD hR0 hB0
  have h1 : (1 : Int) ≤ (l.length : Int) := by omega
  have h2 : (l.length : Int) ≤ 6 := by omega
  have HG0 := hide ((Gr.refl w).alloc (.cells #[.slice none 0 0, .slice none 0 0, .slice none 0 0, .slice none 0 0, .slice none 0 0] 28))
  have HG1 := hide ((Gr.refl (w.alloc (.cells #[.slice none 0 0, .slice none 0 0, .slice none 0 0, .slice none 0 0, .slice none 0 0] 28))).alloc (.cells #[.int .i64 1, .int .i64 5, .int .i64 6, .int .i64 7, .int .i64 8] 3))
  have HBh : Hid (((w.alloc (.cells #[.slice none 0 0, .slice none 0 0, .slice none 0 0, .slice none 0 0, .slice none 0 0] 28)).alloc (.cells #[.int .i64 1, .int .i64 5, .int .i64 6, .int .i64 7, .int .i64 8] 3)).heap[w.heap.size]? = some (.cells #[.slice none 0 0, .slice none 0 0, .slice none 0 0, .slice none 0 0, .slice none 0 0] 28 (0, 0))) := hide ((heap_alloc_old _ _ (by simp)).trans (heap_alloc_new w (.cells #[.slice none 0 0, .slice none 0 0, .slice none 0 0, .slice none 0 0, .slice none 0 0] 28)))
  have HO : Hid (∀ e, e < 5 → ((w.alloc (.cells #[.slice none 0 0, .slice none 0 0, .slice none 0 0, .slice none 0 0, .slice none 0 0] 28)).alloc (.cells #[.int .i64 1, .int .i64 5, .int .i64 6, .int .i64 7, .int .i64 8] 3)).cell? ⟨w.heap.size + 1, e, none⟩ = some (.int .i64 (ordE e))) := hide (fun e he => by have := ord_cell (w.alloc (.cells #[.slice none 0 0, .slice none 0 0, .slice none 0 0, .slice none 0 0, .slice none 0 0] 28)) e he; rw [show (w.alloc (.cells #[.slice none 0 0, .slice none 0 0, .slice none 0 0, .slice none 0 0, .slice none 0 0] 28)).heap.size = w.heap.size + 1 by simp] at this; exact this)
  have HG := hide (HG0.out.trans HG1.out)
  have HSZ : Hid (((w.alloc (.cells #[.slice none 0 0, .slice none 0 0, .slice none 0 0, .slice none 0 0, .slice none 0 0] 28)).alloc (.cells #[.int .i64 1, .int .i64 5, .int .i64 6, .int .i64 7, .int .i64 8] 3)).heap.size = w.heap.size + 2) := hide (by simp)
  clear HG0 HG1
  go_enter Tryd.func25, Tryd.ntmps25
  go_upto_region 4 with fail
  generalize (w.alloc (.cells #[.slice none 0 0, .slice none 0 0, .slice none 0 0, .slice none 0 0, .slice none 0 0] 28)).alloc (.cells #[.int .i64 1, .int .i64 5, .int .i64 6, .int .i64 7, .int .i64 8] 3) = W at HBh HO HG HSZ ⊢
  go_wp2_with fail
  go_loopw [6] (fun ev wr => ∃ e : Nat, e ≤ 5 ∧ ev = .int .i64 (e : Int) ∧ Hid (Clear l e) ∧ Hid (Gr W wr)) (fun ev _ => 5 - (intOf ev).toNat)
  case atStart => exact ⟨0, by decide, rfl, hide (fun e' h => by omega), hide (Gr.refl W)⟩
  case round =>
    obtain ⟨e, he, rfl, HC, HGr⟩ := hrel
    by_cases he5 : e < 5
    · have he0 : (0 : Int) ≤ (e : Int) := by omega
      have he1 : (e : Int) < 5 := by omega
      go_wp2_with fail
      go_loopw [7] (fun kv w2 => ∃ k : Nat, k ≤ l.length ∧ kv = .int .i64 (k : Int) ∧ Hid (∀ k', k' < k → ¬ refP l e k') ∧ Hid (Gr W w2)) (fun kv _ => l.length - (intOf kv).toNat)
      case atStart => exact ⟨0, Nat.zero_le _, rfl, hide (fun k' h => by omega), HGr⟩
      case round =>
        clear HGr
        obtain ⟨k, hk, rfl, HN, HGk⟩ := hrel
        by_cases hlt : k < l.length
        · obtain ⟨u, hu⟩ : ∃ u, l[k]? = some u := ⟨_, List.getElem?_eq_getElem hlt⟩
          have hk1 : (k : Int) < (l.length : Int) := by omega
          have ho := HGk.out.cell (HO.out e he5) (by simp)
          have HCall := hide (refused_all l _ e k u wr he5 (HR.out.gr (HG.out.trans HGk.out)) hu hl6 (HT.out.gr (HG.out.trans HGk.out)) HC.out)
          clear hu
          go_wp2_with fail
          refine HCall.out.mono ?_
          rintro x w1 ⟨p, rfl, hp, hg⟩
          have HGn := hide (HGk.out.trans hg)
          have HP := hide hp
          clear HCall ho hp hg
          cases p with
          | true =>
            have HE : Hid (R = .inr (ordE e, k)) := hide (by
              rw [← HD.out]
              cases l with
              | nil => simp at hl1
              | cons h t => exact link_first hl6 he5 HC.out (HP.out.1 rfl) HN.out)
            have hE := HE.out
            clear HE
            subst hE
            have KS : Hid (∀ w', Gr W w' → (fun w' : World => w'.cell? ⟨w.heap.size + 1, e, none⟩ = some (.int .i64 (ordE e))) w') := hide (fun w' g => g.cell (HO.out e he5) (by simp))
            have HRH : Hid (w1.drew.heap[w.heap.size]? = some (.cells #[.slice none 0 0, .slice none 0 0, .slice none 0 0, .slice none 0 0, .slice none 0 0] 28 (0, 0))) := hide ((HGn.out.block w.heap.size (by have := HSZ.out; omega) (by simp)).trans HBh.out)
            have KS2 : Hid ((fun w' : World => w'.cell? ⟨w.heap.size + 1, e, none⟩ = some (.int .i64 (ordE e))) (w1.drew.setRow w.heap.size #[.slice none 0 0, .slice none 0 0, .slice none 0 0, .slice none 0 0, .slice none 0 0])) := hide ((World.cell?_of_block (a := ⟨w.heap.size + 1, e, none⟩) (setRow_other w1.drew w.heap.size (w.heap.size + 1) _ (by omega))).trans (KS.out _ (HGn.out.trans (Gr.drew (Gr.refl _)))))
            go_wp2_with fail
            refine wp_region_held_drew (S := (fun w' : World => w'.cell? ⟨w.heap.size + 1, e, none⟩ = some (.int .i64 (ordE e)))) (by kernel_rfl) (KS.out _ (HGn.out.trans (Gr.drew (Gr.refl _)))) (fun hHeld => ?_)
            refine takeL (i := 0) (v := ?ov0) rfl (by kernel_rfl) (by kernel_rfl) (by kernel_rfl) (by intro c a w h; exact h) (by rfl) ?ohy0 hHeld ?orest0
            case ohy0 => (intro w hSw; (try dsimp only at hSw); go_simp <;> with_reducible rfl)
            simp only [Act.put, List.setIfInBounds_toArray, List.set_cons_zero, List.set_cons_succ]
            refine takeL (i := 1) (v := ?ov1) rfl (by kernel_rfl) (by kernel_rfl) (by kernel_rfl) (by intro c a w h; exact h) (by rfl) ?ohy1 hHeld ?orest1
            case ohy1 => (intro w hSw; (try dsimp only at hSw); go_simp <;> with_reducible rfl)
            simp only [Act.put, List.setIfInBounds_toArray, List.set_cons_zero, List.set_cons_succ]
            refine takeL (i := 2) (v := ?ov2) rfl (by kernel_rfl) (by kernel_rfl) (by kernel_rfl) (by intro c a w h; exact h) (by rfl) ?ohy2 hHeld ?orest2
            case ohy2 => (intro w hSw; (try dsimp only at hSw); go_simp <;> with_reducible rfl)
            simp only [Act.put, List.setIfInBounds_toArray, List.set_cons_zero, List.set_cons_succ]
            refine takeL (i := 3) (v := ?ov3) rfl (by kernel_rfl) (by kernel_rfl) (by kernel_rfl) (by intro c a w h; exact h) (by rfl) ?ohy3 hHeld ?orest3
            case ohy3 => (intro w hSw; (try dsimp only at hSw); go_simp <;> with_reducible rfl)
            simp only [Act.put, List.setIfInBounds_toArray, List.set_cons_zero, List.set_cons_succ]
            refine takeL (i := 4) (v := ?ov4) rfl (by kernel_rfl) (by kernel_rfl) (by kernel_rfl) (by intro c a w h; exact h) (by rfl) ?ohy4 hHeld ?orest4
            case ohy4 => (intro w hSw; (try dsimp only at hSw); go_simp <;> with_reducible rfl)
            simp only [Act.put, List.setIfInBounds_toArray, List.set_cons_zero, List.set_cons_succ]
            refine takeL (i := 5) (v := ?ov5) rfl (by kernel_rfl) (by kernel_rfl) (by kernel_rfl) (by intro c a w h; exact h) (by rfl) ?ohy5 hHeld ?orest5
            case ohy5 => (intro w hSw; (try dsimp only at hSw); go_simp <;> with_reducible rfl)
            simp only [Act.put, List.setIfInBounds_toArray, List.set_cons_zero, List.set_cons_succ]
            refine aloneL (i := 6) rfl (by kernel_rfl) (fun K hK => ?_)
            refine want_yes (by rfl) (wp_store_row (P := Tryd.prog) 28 _ _ rfl w.heap.size #[.slice none 0 0, .slice none 0 0, .slice none 0 0, .slice none 0 0, .slice none 0 0] (by rfl) (by simp [Act.eval]) 28 _ HRH.out Tryd.infUn rfl (by simp [Value.oneCell']) ?_)
            refine hK.out _ _ KS2.out (fun hHeld => ?_)
            clear hK
            try simp only [Act.put, List.setIfInBounds_toArray, List.set_cons_zero, List.set_cons_succ]
            refine takeL (i := 7) (v := ?pv7) rfl (by kernel_rfl) (by kernel_rfl) (by kernel_rfl) (by intro c a w h; exact h) (by rfl) ?phy7 hHeld ?prest7
            case phy7 => (intro w hSw; (try dsimp only at hSw); go_simp <;> with_reducible rfl)
            simp only [Act.put, List.setIfInBounds_toArray, List.set_cons_zero, List.set_cons_succ]
            refine takeL (i := 8) (v := ?pv8) rfl (by kernel_rfl) (by kernel_rfl) (by kernel_rfl) (by intro c a w h; exact h) (by rfl) ?phy8 hHeld ?prest8
            case phy8 => (intro w hSw; (try dsimp only at hSw); go_simp <;> with_reducible rfl)
            simp only [Act.put, List.setIfInBounds_toArray, List.set_cons_zero, List.set_cons_succ]
            refine wpAnyH_done (by kernel_rfl) ?_ _
            clear hHeld KS
            have hbr := setRow_heap w1.drew w.heap.size _ #[.slice none 0 0, .slice none 0 0, .slice none 0 0, .slice none 0 0, .slice none 0 0] _ _ HRH.out
            obtain ⟨r0, r1, r2, r3, r4⟩ := heap_box5 hbr
            have hgE : Gr w (w1.drew.setRow w.heap.size #[.slice none 0 0, .slice none 0 0, .slice none 0 0, .slice none 0 0, .slice none 0 0]) := gr_row_ (HG.out.trans (HGn.out.trans (Gr.drew (Gr.refl _)))) (Nat.le_refl _)
            clear hbr
            go_wp2_with fail
            exact bodyPost_ret (v := .tuple #[.agg #[.slice none 0 0, .slice none 0 0, .slice none 0 0, .slice none 0 0, .slice none 0 0], .int .i64 (ordE e), .int .i64 (k : Int)]) (by simp [results, Tryd.results25, go_sem, r0, r1, r2, r3, r4]) rfl ⟨rfl, hgE⟩
          | false =>
            have HN2 : Hid (∀ k', k' < k + 1 → ¬ refP l e k') := hide (fun k' hk' => by
              by_cases e0 : k' = k
              · subst e0; exact fun h => by have := HP.out.2 h; cases this
              · exact HN.out k' (by omega))
            go_wp2_with fail
            go_roundw
            case rel => exact ⟨k + 1, by omega, by go_num, HN2, HGn⟩
            case measure => simp [intOf]; omega
        · have hke : k = l.length := by omega
          subst hke
          have HC2 : Hid (Clear l (e + 1)) := hide (fun e' he' k' => by
            by_cases e0 : e' = e
            · subst e0
              by_cases hk' : k' < l.length
              · exact HN.out k' hk'
              · rintro ⟨u, hu, _⟩
                rw [List.getElem?_eq_none (by omega)] at hu; cases hu
            · exact HC.out e' (by omega) k')
          go_wp2_with fail
          go_roundw
          case rel => exact ⟨e + 1, by omega, by go_num, HC2, HGk⟩
          case measure => simp [intOf]; omega
    · have hee : e = 5 := by omega
      subst hee
      clear he he5
      have HLen : Hid (∀ u ∈ l, u.exports.length ≤ 20 ∧ u.consts.length ≤ 50 ∧ u.funcs.length ≤ 30 ∧ u.imports.length ≤ 20) := hide (fun u hu => by have := lens_ok (HC.out.ok (by decide) u hu); omega)
      obtain ⟨u0, hu0⟩ : ∃ u0, l[0]? = some u0 := ⟨_, List.getElem?_eq_getElem (by omega)⟩
      have HGw := hide (HG.out.trans HGr.out)
      obtain ⟨b, off, cap, z1, z2, _, _, _, _, _, _, _, _, hv, y1, _, _, _, _, hr0⟩ := HR0.out.at_both HB0.out hu0
      simp only [Value.slice.injEq, true_and] at hv
      obtain ⟨rfl, rfl⟩ := hv
      have HSh : Hid (RShapes w0 (.slice z1 u0.shapes.length z2) u0.shapes) := hide (by
        obtain ⟨_, _, _, _, _, hvv, k1, _⟩ := hr0
        simp only [Value.agg.injEq, Array.mk.injEq, List.cons.injEq, and_true] at hvv
        obtain ⟨rfl, _⟩ := hvv
        exact k1)
      have y1 : wr.cell? ⟨b, off, none⟩ = some (.slice z1 u0.shapes.length z2) := HGw.out.cell (show w.cell? ⟨b, off, none⟩ = some (.slice z1 u0.shapes.length z2) from y1) (by simp)
      have hl0 : (0 : Int) < (l.length : Int) := by omega
      have hl0n : 0 < l.length := by omega
      have HU0 := hide hu0
      clear hr0 hu0
      go_upto_region 14 with fail
      have HLk := hide (LkW.start w0 wr (.slice z1 u0.shapes.length z2))
      have HRB : Hid (wr.heap[w.heap.size]? = some (.cells #[.slice none 0 0, .slice none 0 0, .slice none 0 0, .slice none 0 0, .slice none 0 0] 28 (0, 0))) := hide ((HGr.out.block w.heap.size (by have := HSZ.out; omega) (by simp)).trans HBh.out)
      have hrl : w.heap.size < wr.heap.size := by have h1 := HSZ.out; have h2 := HGr.out.size; omega
      clear y1
      generalize wr.alloc (.cells #[.slice z1 u0.shapes.length z2, .slice none 0 0, .slice none 0 0, .slice none 0 0, .slice none 0 0] 28) = W6 at HLk ⊢
      generalize hub : wr.heap.size = ub at HLk hrl ⊢
      generalize wr = W5 at *
      clear hub
      go_wp2_with fail
      go_loopw [10] (fun kv wr => ∃ (k : Nat) (v2 v3 v5 : Value) (ρ : Nat → BR) (cs : List Int) (fs : List LF) (xs : List LX), k ≤ l.length ∧ kv = .int .i64 (k : Int) ∧ cs.length ≤ k * 50 ∧ fs.length ≤ k * 30 ∧ xs.length ≤ k * 20 ∧ Hid (LkW w0 W5 ub (.slice z1 u0.shapes.length z2) wr ρ v2 v3 v5 cs fs xs) ∧ Hid (JnR l k cs (fs.map (·.f)) (xs.map (·.p))) ∧ Hid (∀ e ∈ xs, e.s.size ≤ maxLen)) (fun kv _ => l.length - (intOf kv).toNat)
      case atStart => exact ⟨0, _, _, _, _, [], [], [], Nat.zero_le _, rfl, Nat.zero_le _, Nat.zero_le _, Nat.zero_le _, HLk, hide (JnR.start l), hide (fun e he => by simp at he)⟩
      case round =>
        clear HLk
        obtain ⟨k, v2, v3, v5, ρ, cs, fs, xs, hk, rfl, hcs, hfs, hxs, HLk, HJ, HX⟩ := hrel
        by_cases hlt : k < l.length
        · obtain ⟨u, hu⟩ : ∃ u, l[k]? = some u := ⟨_, List.getElem?_eq_getElem hlt⟩
          have hd0 : (0 : Int) ≤ (k : Int) := by omega
          have hd1 : (k : Int) < (l.length : Int) := by omega
          have HGx := hide (HGw.out.trans HLk.out.gr)
          have HA := hide (ahead_ref l _ k wr (HR.out.gr HGx.out) (by omega) (by omega) (fun v hv => by have := HLen.out v hv; omega))
          obtain ⟨m1, m2, m3, m4⟩ := HLen.out u (List.mem_of_getElem? hu)
          have HU := hide hu
          clear hu
          have haF := aheadF_lim (fun v hv => (HLen.out v hv).2.2.1) k (by omega)
          generalize hAC : aheadC l k = ac at HA
          generalize hAF : aheadF l k = af at HA haF
          have HAC := hide hAC
          have HAF := hide hAF
          clear hAC hAF
          go_wp2_with fail
          refine HA.out.mono ?_
          rintro x w1 ⟨rfl, hw1⟩
          obtain rfl := hw1.symm
          clear HA
          obtain ⟨b', off', cap', a1, c1, a2, c2, a3, c3, a4, c4, a5, c5, hv, y1, y2, y3, y4, y5, hruw⟩ := HR0.out.at_both HB0.out HU.out
          simp only [Value.slice.injEq, Option.some.injEq, Addr.mk.injEq, and_true, true_and] at hv
          obtain ⟨⟨rfl, rfl⟩, rfl⟩ := hv
          have X2 := hide y2
          have X3 := hide y3
          have X5 := hide y5
          have HRW := hide hruw
          have x2 := HGx.out.cell y2 (by simp)
          have hru := (hruw.lowK HB0.out).gr HGx.out
          clear y1 y2 y3 y4 y5 hruw
          obtain ⟨⟨p2, q2, rfl⟩, _⟩ := own_form HLk.out.o2.1
          obtain ⟨⟨p3, q3, rfl⟩, _⟩ := own_form HLk.out.o3.1
          obtain ⟨⟨p5, q5, rfl⟩, _⟩ := own_form HLk.out.o5.1
          have e1 : wr.cell? ⟨ub, 1, none⟩ = some (.slice p2 cs.length q2) := by rw [heap_cell HLk.out.box]; rfl
          have KS : Hid (∀ w', Gr wr w' → (fun w' : World => w'.cell? ⟨ub, 1, none⟩ = some (.slice p2 cs.length q2) ∧ w'.cell? ⟨b, off + k * 5 + 1, none⟩ = some (.slice a2 u.consts.length c2)) w') := hide (fun w' g => ⟨g.cell e1 (by simp), g.cell x2 (by simp)⟩)
          have HLd := hide (HLk.out.grow (Gr.drew (Gr.refl wr)))
          have HRu := hide hru
          obtain ⟨_, _, _, _, _, hvv, _, kk2, _⟩ := hru.gr (Gr.drew (Gr.refl wr))
          simp only [Value.agg.injEq, Array.mk.injEq, List.cons.injEq, and_true] at hvv
          obtain ⟨rfl, rfl, rfl, rfl, rfl⟩ := hvv
          obtain ⟨va, wa, hra, hoa, hga, hla⟩ := app_rows (ty := 23) 23 3 _ Tryd.infI Tryd.uI rfl (by decide) (by decide) HLd.out.o2.1 kk2.row (by rw [ivL_len]; omega) (ivL_one _) (by omega) (by have := HLd.out.lt; omega)
          have hap : Ap (ub + 1) 3 1 wr.drew (.slice p2 cs.length q2) wa va (cs.length + u.consts.length) (ivL cs ++ ivL u.consts) := ⟨hoa, hga, fun q hq => by
            rcases hla with e | e
            · exact .inl (e ▸ hq)
            · rw [hq] at e; have := Option.some.inj e; right; omega⟩
          have HAp := hide hap
          have HRun := hide hra
          obtain ⟨⟨pv, qv, rfl⟩, _⟩ := own_form hoa
          have hnd := own_nub HLd.out.o2.1
          have hbu : b < ub := by have h1 := World.block_lt_of_cell? w _ X2.out; have h2 := hrl; simp only at h1; omega
          have hgc : ∀ (bb oo : Nat) (vv : Value), bb < ub → wr.cell? ⟨bb, oo, none⟩ = some vv → wa.cell? ⟨bb, oo, none⟩ = some vv := fun bb oo vv hb hc => hga.cell (show wr.drew.cell? ⟨bb, oo, none⟩ = some vv from hc) (fun e => by have := (HLd.out.o2.1.lt bb e.symm).1; omega)
          have KS3 : Hid ((fun w' : World => w'.cell? ⟨ub, 1, none⟩ = some (.slice p2 cs.length q2) ∧ w'.cell? ⟨b, off + k * 5 + 1, none⟩ = some (.slice a2 u.consts.length c2)) wa) := hide ⟨hga.cell (show wr.drew.cell? ⟨ub, 1, none⟩ = _ from e1) (fun e => hnd e.symm), hgc _ _ _ hbu x2⟩
          have hz1 : wa.frozen? ⟨ub, 1, none⟩ = false := (World.frozen?_of_block (hga.block ub HLd.out.lt (fun e => hnd e.symm))).trans (heap_frozen HLd.out.box)
          have hw1c : wa.cell? ⟨ub, 1, none⟩ = some (.slice p2 cs.length q2) := KS3.out.1
          clear hra hoa hga hla hap kk2 hru
          go_wp2_with fail
          refine wp_region_s [9] (S := (fun w' : World => w'.cell? ⟨ub, 1, none⟩ = some (.slice p2 cs.length q2) ∧ w'.cell? ⟨b, off + k * 5 + 1, none⟩ = some (.slice a2 u.consts.length c2))) (by kernel_rfl) (KS.out _ (Gr.drew (Gr.refl _))) (fun hHeld => ?_)
          refine takeS (i := 0) (v := ?cv0) rfl (by kernel_rfl) (by kernel_rfl) (by kernel_rfl) (by kernel_rfl) (by intro c a w h; exact h) (by rfl) ?chy0 hHeld ?crest0
          case chy0 => (intro w hSw; (try dsimp only at hSw); go_simp <;> with_reducible rfl)
          simp only [Act.put, List.setIfInBounds_toArray, List.set_cons_zero, List.set_cons_succ]
          refine takeS (i := 1) (v := ?cv1) rfl (by kernel_rfl) (by kernel_rfl) (by kernel_rfl) (by kernel_rfl) (by intro c a w h; exact h) (by rfl) ?chy1 hHeld ?crest1
          case chy1 => (intro w hSw; (try dsimp only at hSw); go_simp <;> with_reducible rfl)
          simp only [Act.put, List.setIfInBounds_toArray, List.set_cons_zero, List.set_cons_succ]
          refine takeS (i := 2) (v := ?cv2) rfl (by kernel_rfl) (by kernel_rfl) (by kernel_rfl) (by kernel_rfl) (by intro c a w h; exact h) (by rfl) ?chy2 hHeld ?crest2
          case chy2 => (intro w hSw; (try dsimp only at hSw); go_simp <;> with_reducible rfl)
          simp only [Act.put, List.setIfInBounds_toArray, List.set_cons_zero, List.set_cons_succ]
          refine takeS (i := 3) (v := ?cv3) rfl (by kernel_rfl) (by kernel_rfl) (by kernel_rfl) (by kernel_rfl) (by intro c a w h; exact h) (by rfl) ?chy3 hHeld ?crest3
          case chy3 => (intro w hSw; (try dsimp only at hSw); go_simp <;> with_reducible rfl)
          simp only [Act.put, List.setIfInBounds_toArray, List.set_cons_zero, List.set_cons_succ]
          refine takeS (i := 4) (v := ?cv4) rfl (by kernel_rfl) (by kernel_rfl) (by kernel_rfl) (by kernel_rfl) (by intro c a w h; exact h) (by rfl) ?chy4 hHeld ?crest4
          case chy4 => (intro w hSw; (try dsimp only at hSw); go_simp <;> with_reducible rfl)
          simp only [Act.put, List.setIfInBounds_toArray, List.set_cons_zero, List.set_cons_succ]
          refine takeS (i := 5) (v := ?cv5) rfl (by kernel_rfl) (by kernel_rfl) (by kernel_rfl) (by kernel_rfl) (by intro c a w h; exact h) (by rfl) ?chy5 hHeld ?crest5
          case chy5 => (intro w hSw; (try dsimp only at hSw); go_simp <;> with_reducible rfl)
          simp only [Act.put, List.setIfInBounds_toArray, List.set_cons_zero, List.set_cons_succ]
          refine takeS (i := 6) (v := ?cv6) rfl (by kernel_rfl) (by kernel_rfl) (by kernel_rfl) (by kernel_rfl) (by intro c a w h; exact h) (by rfl) ?chy6 hHeld ?crest6
          case chy6 => (intro w hSw; (try dsimp only at hSw); go_simp <;> with_reducible rfl)
          simp only [Act.put, List.setIfInBounds_toArray, List.set_cons_zero, List.set_cons_succ]
          refine aloneS (i := 7) rfl (by kernel_rfl) (fun K hK => ?_)
          refine want_yes (by rfl) (Lib.wp_append_run _ _ _ _ _ rfl (.slice p2 cs.length q2) (.slice a2 u.consts.length c2) (by simp [Act.eval]) (by simp [Act.eval]) _ _ HRun.out ?_)
          refine hK.out _ _ (fun _ => KS3.out) ?_
          clear hK
          try simp only [Act.put, List.setIfInBounds_toArray, List.set_cons_zero, List.set_cons_succ]
          refine takeS (i := 8) (v := ?dv8) rfl (by kernel_rfl) (by kernel_rfl) (by kernel_rfl) (by kernel_rfl) (by intro c a w h; exact h) (by rfl) ?dhy8 KS3.out ?drest8
          case dhy8 => (intro w hSw; (try dsimp only at hSw); go_simp <;> with_reducible rfl)
          simp only [Act.put, List.setIfInBounds_toArray, List.set_cons_zero, List.set_cons_succ]
          refine aloneS (i := 9) rfl (by kernel_rfl) (fun K hK => ?_)
          refine want_yes (by rfl) ?_
          go_simp
          refine hK.out _ _ (fun h => absurd h (by decide)) ?_
          clear hK
          try simp only [Act.put, List.setIfInBounds_toArray, List.set_cons_zero, List.set_cons_succ]
          refine doneS (by kernel_rfl) ?_ _
          have HL7 := hide (HLd.out.app2 HAp.out)
          clear KS KS3 hz1 hw1c HLd HLk HAp HRun hnd hgc e1 x2
          generalize wa.setCell ⟨ub, 1, none⟩ (.slice pv (cs.length + u.consts.length) qv) = W7 at HL7 ⊢
          generalize grw _ (Value.slice pv (cs.length + u.consts.length) qv) _ _ = ρ7 at HL7
          go_wp2_with fail
          go_loopw [13] (fun iv wr => ∃ (i : Nat) (v3 : Value) (ρ : Nat → BR) (gs : List LF), i ≤ u.funcs.length ∧ iv = .int .i64 (i : Int) ∧ gs.length ≤ k * 30 + i ∧ Hid (LkW w0 W5 ub (.slice z1 u0.shapes.length z2) wr ρ (.slice pv (cs.length + u.consts.length) qv) v3 (.slice p5 xs.length q5) (cs ++ u.consts) gs xs) ∧ Hid (gs.map (·.f) = fs.map (·.f) ++ (u.funcs.take i).map (movedF (tgtN l) u ac af))) (fun iv _ => u.funcs.length - (intOf iv).toNat)
          case atStart => exact ⟨0, _, _, fs, Nat.zero_le _, rfl, by omega, HL7, hide (by simp)⟩
          case round =>
            clear HL7
            obtain ⟨i, v3, ρ4, gs, hi, rfl, hgs, HL4, HM4⟩ := hrel
            obtain ⟨⟨p4, q4, rfl⟩, _⟩ := own_form HL4.out.o3.1
            have HG4 := hide (HGw.out.trans HL4.out.gr)
            have x3 := HG4.out.cell X3.out (by simp)
            by_cases hil : i < u.funcs.length
            · obtain ⟨g, hg⟩ : ∃ g, u.funcs[i]? = some g := ⟨_, List.getElem?_eq_getElem hil⟩
              obtain ⟨fb, fo, pa, pc, la, lc, ka, kc, hf3, f0, f1, f2, f3, hpp, hpl, hpc⟩ := HRW.out.funcAll hg
              subst hf3
              have hi0 : (0 : Int) ≤ (i : Int) := by omega
              have hi1 : (i : Int) < (u.funcs.length : Int) := by omega
              have t0 := HG4.out.cell (below_cell HB0.out f0) (by simp)
              have t1 := HG4.out.cell (below_cell HB0.out f1) (by simp)
              have t2 := HG4.out.cell (below_cell HB0.out f2) (by simp)
              have t3 := HG4.out.cell (below_cell HB0.out f3) (by simp)
              have hcl := ((lens_ok (HC.out.ok (by decide) u (List.mem_of_getElem? HU.out))).2.2.2.2.1 g (List.mem_of_getElem? hg)).2.2
              have HPP := hide hpp
              have HPL := hide hpl
              have HPC := hide hpc
              have HGf := hide hg
              clear f0 f1 f2 f3 hpp hpl hpc hg
              go_upto_region 23 with fail
              have HFB := hide (heap_alloc_new wr (.cells #[.slice pa g.params.length pc, .int .i64 g.result, .slice la g.locals.length lc, .slice ka g.code.length kc] 76))
              have HLF := hide (HL4.out.grow ((Gr.refl wr).alloc (.cells #[.slice pa g.params.length pc, .int .i64 g.result, .slice la g.locals.length lc, .slice ka g.code.length kc] 76)))
              have hfu : ub < wr.heap.size := HL4.out.lt
              have hfn : ρ4 wr.heap.size = .no := by
                by_cases e0 : ρ4 wr.heap.size = .no
                · exact e0
                · have := (HL4.out.pl _ e0).2; omega
              clear t0 t1 t2 t3 x3
              generalize wr.alloc (.cells #[.slice pa g.params.length pc, .int .i64 g.result, .slice la g.locals.length lc, .slice ka g.code.length kc] 76) = W8 at HFB HLF ⊢
              generalize hfk : wr.heap.size = fbk at HFB hfu hfn ⊢
              clear hfk
              go_wp2_with fail
              go_loopw [15, 16] (fun cv jv wr => ∃ (j : Nat) (ρ : Nat → BR), j ≤ g.code.length ∧ jv = .int .i64 (j : Int) ∧ Hid (OwR ρ (.ls 8 0) wr (ub + 1) 91 3 cv j (((g.code.take j).map (movedP (tgtN l) u ac af)).flatMap cC)) ∧ Hid (LkW w0 W5 ub (.slice z1 u0.shapes.length z2) wr ρ (.slice pv (cs.length + u.consts.length) qv) (.slice p4 gs.length q4) (.slice p5 xs.length q5) (cs ++ u.consts) gs xs) ∧ Hid (wr.heap[fbk]? = some (.cells #[.slice pa g.params.length pc, .int .i64 g.result, .slice la g.locals.length lc, .slice ka g.code.length kc] 76 (0, 0)) ∧ ρ fbk = .no)) (fun _ jv _ => g.code.length - (intOf jv).toNat)
              case atStart => exact ⟨0, ρ4, Nat.zero_le _, rfl, hide ⟨World.ownsRow_nil _ _ _ _, fun q hq => by simp [Value.ownBlock] at hq⟩, HLF, hide ⟨HFB.out, hfn⟩⟩
              case round =>
                clear HLF HFB
                obtain ⟨j, ρ5, hj, rfl, HOc, HL5, HF5⟩ := hrel
                obtain ⟨⟨ca, cc, rfl⟩, _⟩ := own_form HOc.out.1
                have g3 : wr.cell? ⟨fbk, 3, none⟩ = some (.slice ka g.code.length kc) := by rw [heap_cell HF5.out.1]; rfl
                by_cases hjl : j < g.code.length
                · obtain ⟨x, hx⟩ : ∃ x, g.code[j]? = some x := ⟨_, List.getElem?_eq_getElem hjl⟩
                  have HG5 := hide (HGw.out.trans HL5.out.gr)
                  obtain ⟨kb, ko, hka, n0, n1, n2⟩ := HPC.out.at_ hx
                  subst hka
                  have hj0 : (0 : Int) ≤ (j : Int) := by omega
                  have hj1 : (j : Int) < (g.code.length : Int) := by omega
                  have s0 := HG5.out.cell (below_cell HB0.out n0) (by simp)
                  have s1 := HG5.out.cell (below_cell HB0.out n1) (by simp)
                  have s2 := HG5.out.cell (below_cell HB0.out n2) (by simp)
                  have HMv := hide (moved_ref l _ k u x wr (HR.out.gr HG5.out) HU.out hl6 HLen.out (hits_all HC.out HU.out) (ins_fine (HC.out.ok (by decide) u (List.mem_of_getElem? HU.out)) (List.mem_of_getElem? HGf.out) (List.mem_of_getElem? hx)))
                  have HXx := hide hx
                  rw [movedP_congr (nums_same HC.out HU.out), HAC.out, HAF.out] at HMv
                  generalize hy : movedP (tgtN l) u ac af x = y at HMv
                  have HY := hide hy
                  clear n0 n1 n2 hx hy
                  unfold insV at HMv
                  go_wp2_with fail
                  refine HMv.out.mono ?_
                  rintro xx w1 ⟨rfl, hg1⟩
                  clear HMv s0 s1 s2
                  have HL6 := hide (HL5.out.grow hg1)
                  have HO6 := hide (HOc.out.mv (HL5.out.mvg hg1) id)
                  have HF6 := hide (And.intro ((hg1.block fbk (Array.getElem?_eq_some_iff.1 HF5.out.1).1 (by simp)).trans HF5.out.1) HF5.out.2)
                  clear HL5 HOc HF5 g3 hg1
                  go_upto_region 28 with fail
                  have HGy := hide ((Gr.refl w1).alloc (.cells #[.int .i64 y.op, .int .i64 y.a, .int .i64 y.b] 91))
                  have hby := heap_alloc_new w1 (.cells #[.int .i64 y.op, .int .i64 y.a, .int .i64 y.b] 91)
                  have HL9 := hide (HL6.out.grow HGy.out)
                  have HO9 := hide (HO6.out.mv (HL6.out.mvg HGy.out) id)
                  have HF9 := hide (And.intro ((HGy.out.block fbk (Array.getElem?_eq_some_iff.1 HF6.out.1).1 (by simp)).trans HF6.out.1) HF6.out.2)
                  have b0 : (w1.alloc (.cells #[.int .i64 y.op, .int .i64 y.a, .int .i64 y.b] 91)).cell? ⟨w1.heap.size, 0, none⟩ = some (.int .i64 y.op) := by rw [heap_cell hby]; rfl
                  have b1 : (w1.alloc (.cells #[.int .i64 y.op, .int .i64 y.a, .int .i64 y.b] 91)).cell? ⟨w1.heap.size, 1, none⟩ = some (.int .i64 y.a) := by rw [heap_cell hby]; rfl
                  have b2 : (w1.alloc (.cells #[.int .i64 y.op, .int .i64 y.a, .int .i64 y.b] 91)).cell? ⟨w1.heap.size, 2, none⟩ = some (.int .i64 y.b) := by rw [heap_cell hby]; rfl
                  clear hby HL6 HO6 HF6
                  generalize w1.alloc (.cells #[.int .i64 y.op, .int .i64 y.a, .int .i64 y.b] 91) = W9 at HGy HL9 HO9 HF9 b0 b1 b2 ⊢
                  have hrow := HO9.out.1
                  have hlen : j ≤ 10000000 := by omega
                  have hul := HL9.out.lt
                  go_wp2_with (at_builtin; refine wpList_append_vals _ rfl _ _ 74 91 3 24 (Value.agg #[.int .i64 0, .int .i64 0, .int .i64 0]) Tryd.infC Tryd.underlying74 rfl (by decide) (by decide) rfl (ub + 1) (.slice ca j cc) j (((g.code.take j).map (movedP (tgtN l) u ac af)).flatMap cC) rfl hrow #[.int .i64 y.op, .int .i64 y.a, .int .i64 y.b] rfl (by intro u hu; simp at hu; first | (rcases hu with rfl | rfl | rfl <;> rfl)) _ rfl (by simp) hlen (by omega) ?_; intro v4 w4 hap; have HAP := hide hap; obtain ⟨⟨a9, c9, hv4⟩, _⟩ := own_form hap.own; subst hv4; clear hap)
                  go_roundw
                  case rel =>
                    have hap := HAP.out
                    have hmv := mv_ap (r := .ls 8 0) (ρ := ρ5) hap HO9.out.2
                    have htk : ((g.code.take (j + 1)).map (movedP (tgtN l) u ac af)).flatMap cC = ((g.code.take j).map (movedP (tgtN l) u ac af)).flatMap cC ++ [.int .i64 y.op, .int .i64 y.a, .int .i64 y.b] := by
                      obtain ⟨hjx, hjx2⟩ := List.getElem?_eq_some_iff.1 HXx.out
                      rw [List.take_succ_eq_append_getElem hjx, hjx2, List.map_append, List.flatMap_append]
                      simp only [List.map_cons, List.map_nil, HY.out, List.flatMap_cons, List.flatMap_nil, List.append_nil]
                      rfl
                    refine ⟨j + 1, grw W9.heap.size (.slice a9 (j + 1) c9) (.ls 8 0) ρ5, by omega, by go_num, hide ?_, hide (HL9.out.mv hmv ⟨nofun, nofun, nofun, nofun, nofun⟩ (hap.frm.block ub hul (fun e => own_nub hrow e.symm))), hide ⟨?_, ?_⟩⟩
                    · rw [htk]; exact ow_ap HO9.out hap
                    · exact (hmv.blk fbk (Array.getElem?_eq_some_iff.1 HF9.out.1).1 (by omega) (by rw [HF9.out.2]; nofun)).trans HF9.out.1
                    · exact (hmv.old fbk (Array.getElem?_eq_some_iff.1 HF9.out.1).1).trans HF9.out.2
                  case measure => simp [intOf]; omega
                · have hje : j = g.code.length := by omega
                  subst hje
                  have HOd : Hid (OwR ρ5 (.ls 8 0) wr (ub + 1) 91 3 (.slice ca g.code.length cc) (g.code.map (movedP (tgtN l) u ac af)).length ((g.code.map (movedP (tgtN l) u ac af)).flatMap cC)) := hide (by have h := HOc.out; rw [List.take_length] at h; rw [List.length_map]; exact h)
                  have fz : wr.frozen? ⟨fbk, 3, none⟩ = false := heap_frozen HF5.out.1
                  clear hjl hj HOc
                  go_upto_region 30 with fail
                  have hne : ∀ bb, bb ≠ fbk → (wr.setCell ⟨fbk, 3, none⟩ (.slice ca g.code.length cc)).heap[bb]? = wr.heap[bb]? := fun bb hb => Below.heap_setCell _ _ _ _ hb
                  have HLA := hide ((HL5.out.free hfu HF5.out.2 (by simp) hne ⟨rfl, rfl, rfl⟩).fin_)
                  have HCd := hide (code_dn (HOd.out.free nofun HF5.out.2 hne))
                  have hbx := heap_set (o := 3) (v := .slice ca g.code.length cc) HF5.out.1
                  have d0 : (wr.setCell ⟨fbk, 3, none⟩ (.slice ca g.code.length cc)).cell? ⟨fbk, 0, none⟩ = some (.slice pa g.params.length pc) := by rw [heap_cell hbx]; rfl
                  have d1 : (wr.setCell ⟨fbk, 3, none⟩ (.slice ca g.code.length cc)).cell? ⟨fbk, 1, none⟩ = some (.int .i64 g.result) := by rw [heap_cell hbx]; rfl
                  have d2 : (wr.setCell ⟨fbk, 3, none⟩ (.slice ca g.code.length cc)).cell? ⟨fbk, 2, none⟩ = some (.slice la g.locals.length lc) := by rw [heap_cell hbx]; rfl
                  have d3 : (wr.setCell ⟨fbk, 3, none⟩ (.slice ca g.code.length cc)).cell? ⟨fbk, 3, none⟩ = some (.slice ca g.code.length cc) := by rw [heap_cell hbx]; rfl
                  clear hbx hne fz g3 HL5 HOd HF5
                  generalize wr.setCell ⟨fbk, 3, none⟩ (.slice ca g.code.length cc) = WA at HLA HCd d0 d1 d2 d3 ⊢
                  generalize fin (.ls 8 0) ρ5 = ρ6 at HLA HCd
                  have u2 : WA.cell? ⟨ub, 2, none⟩ = some (.slice p4 gs.length q4) := by rw [heap_cell HLA.out.box]; rfl
                  have hrow := HLA.out.o3.1
                  have hlen : gs.length ≤ 10000000 := by omega
                  have hul := HLA.out.lt
                  have hnu := own_nub hrow
                  have HBA := hide HLA.out.box
                  go_wp2_with (at_builtin; refine wpList_append_vals _ rfl _ _ 24 76 4 80 (Value.agg #[.slice none 0 0, .int .i64 0, .slice none 0 0, .slice none 0 0]) Tryd.ownFunc Tryd.underlying24 rfl (by decide) (by decide) rfl (ub + 1) (.slice p4 gs.length q4) gs.length (gs.flatMap cF) rfl hrow #[.slice pa g.params.length pc, .int .i64 g.result, .slice la g.locals.length lc, .slice ca g.code.length cc] rfl (by intro u hu; simp at hu; first | (rcases hu with rfl | rfl | rfl | rfl <;> rfl)) _ rfl (by simp) hlen (by omega) ?_; intro v6 w6 hap; have HAP := hide hap; obtain ⟨⟨a6, c6, hv6⟩, _⟩ := own_form hap.own; subst hv6; have hob6 := hap.frm.cell u2 (fun e => hnu e.symm); have hz6 : w6.frozen? ⟨ub, 2, none⟩ = false := (World.frozen?_of_block (hap.frm.block ub hul (fun e => hnu e.symm))).trans (heap_frozen HBA.out); clear hap)
                  go_roundw
                  case rel =>
                    refine ⟨i + 1, _, _, gs ++ [(⟨.slice pa g.params.length pc, .slice la g.locals.length lc, .slice ca g.code.length cc, movedF (tgtN l) u ac af g⟩ : LF)], by omega, by go_num, by simp; omega, hide (HLA.out.app3 (e := ⟨.slice pa g.params.length pc, .slice la g.locals.length lc, .slice ca g.code.length cc, movedF (tgtN l) u ac af g⟩) HAP.out ⟨HPP.out, HPL.out, HCd.out⟩), hide ?_⟩
                    obtain ⟨hix, hix2⟩ := List.getElem?_eq_some_iff.1 HGf.out
                    rw [List.take_succ_eq_append_getElem hix, hix2, List.map_append, List.map_append, HM4.out, List.append_assoc]
                    simp
                  case measure => simp [intOf]; omega
            · have hie : i = u.funcs.length := by omega
              subst hie
              rw [List.take_length] at HM4
              clear hil hi
              go_wp2_with fail
              go_loopw [18] (fun sv wr => ∃ (q : Nat) (v5 : Value) (ρ : Nat → BR) (ys : List LX), q ≤ u.exports.length ∧ sv = .int .i64 (q : Int) ∧ ys.length ≤ k * 20 + q ∧ Hid (LkW w0 W5 ub (.slice z1 u0.shapes.length z2) wr ρ (.slice pv (cs.length + u.consts.length) qv) (.slice p4 gs.length q4) v5 (cs ++ u.consts) gs ys) ∧ Hid (ys.map (·.p) = xs.map (·.p) ++ (u.exports.take q).map (movedE af)) ∧ Hid (∀ e ∈ ys, e.s.size ≤ maxLen)) (fun sv _ => u.exports.length - (intOf sv).toNat)
              case atStart => exact ⟨0, _, _, xs, Nat.zero_le _, rfl, by omega, HL4, hide (by simp), HX⟩
              case round =>
                clear HL4 x3 HG4
                obtain ⟨q, v5, ρ6, ys, hq, rfl, hys, HL6, HM6, HX6⟩ := hrel
                obtain ⟨⟨p6, q6, rfl⟩, _⟩ := own_form HL6.out.o5.1
                have HG6 := hide (HGw.out.trans HL6.out.gr)
                have x5 := HG6.out.cell X5.out (by simp)
                by_cases hql : q < u.exports.length
                · obtain ⟨e, he⟩ : ∃ e, u.exports[q]? = some e := ⟨_, List.getElem?_eq_getElem hql⟩
                  obtain ⟨xb, xo, s, hx5, n0, hs, hsz, n1⟩ := HRW.out.expAll he
                  subst hx5
                  obtain ⟨hef0, hef1⟩ := exp_fine (HC.out.ok (by decide) u (List.mem_of_getElem? HU.out)) (List.mem_of_getElem? he)
                  have hq0 : (0 : Int) ≤ (q : Int) := by omega
                  have hq1 : (q : Int) < (u.exports.length : Int) := by omega
                  have t0 := HG6.out.cell (below_cell HB0.out n0) (by simp)
                  have t1 := HG6.out.cell (below_cell HB0.out n1) (by simp)
                  have HEe := hide he
                  have HSs := hide hs
                  have HSz := hide hsz
                  clear n0 n1 he hs hsz
                  go_upto_region 35 with fail
                  have HFB := hide (heap_alloc_new wr (.cells #[.string s, .int .i64 e.func] 81))
                  have HLF := hide (HL6.out.grow ((Gr.refl wr).alloc (.cells #[.string s, .int .i64 e.func] 81)))
                  have hfu : ub < wr.heap.size := HL6.out.lt
                  have hfn : ρ6 wr.heap.size = .no := by
                    by_cases e0 : ρ6 wr.heap.size = .no
                    · exact e0
                    · have := (HL6.out.pl _ e0).2; omega
                  clear t0 t1 x5
                  generalize wr.alloc (.cells #[.string s, .int .i64 e.func] 81) = W8 at HFB HLF ⊢
                  generalize hfk : wr.heap.size = fbk at HFB hfu hfn ⊢
                  clear hfk
                  have g1 : W8.cell? ⟨fbk, 1, none⟩ = some (.int .i64 e.func) := by rw [heap_cell HFB.out]; rfl
                  have fz : W8.frozen? ⟨fbk, 1, none⟩ = false := heap_frozen HFB.out
                  go_upto_region 36 with fail
                  have hne : ∀ bb, bb ≠ fbk → (W8.setCell ⟨fbk, 1, none⟩ (.int .i64 (e.func + (af : Int)))).heap[bb]? = W8.heap[bb]? := fun bb hb => Below.heap_setCell _ _ _ _ hb
                  have HLA := hide (HLF.out.free hfu hfn (by simp) hne ⟨rfl, rfl, rfl⟩)
                  have hbx := heap_set (o := 1) (v := .int .i64 (e.func + (af : Int))) HFB.out
                  have d0 : (W8.setCell ⟨fbk, 1, none⟩ (.int .i64 (e.func + (af : Int)))).cell? ⟨fbk, 0, none⟩ = some (.string s) := by rw [heap_cell hbx]; rfl
                  have d1 : (W8.setCell ⟨fbk, 1, none⟩ (.int .i64 (e.func + (af : Int)))).cell? ⟨fbk, 1, none⟩ = some (.int .i64 (e.func + (af : Int))) := by rw [heap_cell hbx]; rfl
                  clear hbx hne fz g1 HLF HFB
                  generalize W8.setCell ⟨fbk, 1, none⟩ (.int .i64 (e.func + (af : Int))) = WA at HLA d0 d1 ⊢
                  have u4 : WA.cell? ⟨ub, 4, none⟩ = some (.slice p6 ys.length q6) := by rw [heap_cell HLA.out.box]; rfl
                  have hrow := HLA.out.o5.1
                  have hlen : ys.length ≤ 10000000 := by omega
                  have hul := HLA.out.lt
                  have hnu := own_nub hrow
                  have HBA := hide HLA.out.box
                  go_wp2_with (at_builtin; refine wpList_append_vals _ rfl _ _ 26 81 2 24 (Value.agg #[.string ⟨#[]⟩, .int .i64 0]) Tryd.ownExp Tryd.underlying26 rfl (by decide) (by decide) rfl (ub + 1) (.slice p6 ys.length q6) ys.length (ys.flatMap cX) rfl hrow #[.string s, .int .i64 (e.func + (af : Int))] rfl (by intro u hu; simp at hu; first | (rcases hu with rfl | rfl <;> rfl)) _ rfl (by simp) hlen (by omega) ?_; intro v6 w6 hap; have HAP := hide hap; obtain ⟨⟨a6, c6, hv6⟩, _⟩ := own_form hap.own; subst hv6; have hob6 := hap.frm.cell u4 (fun e => hnu e.symm); have hz6 : w6.frozen? ⟨ub, 4, none⟩ = false := (World.frozen?_of_block (hap.frm.block ub hul (fun e => hnu e.symm))).trans (heap_frozen HBA.out); clear hap)
                  go_roundw
                  case rel =>
                    refine ⟨q + 1, _, _, ys ++ [(⟨s, e.func + (af : Int)⟩ : LX)], by omega, by go_num, by simp; omega, hide (HLA.out.app5 (e := ⟨s, e.func + (af : Int)⟩) HAP.out), hide ?_, hide (fun x hx => ?_)⟩
                    · obtain ⟨hix, hix2⟩ := List.getElem?_eq_some_iff.1 HEe.out
                      rw [List.take_succ_eq_append_getElem hix, hix2, List.map_append, List.map_append, HM6.out, List.append_assoc]
                      simp [LX.p, movedE, HSs.out, Int.add_comm]
                    · rcases List.mem_append.1 hx with hx | hx
                      · exact HX6.out x hx
                      · rw [List.mem_singleton.1 hx]; exact HSz.out
                  case measure => simp [intOf]; omega
                · have hqe : q = u.exports.length := by omega
                  subst hqe
                  rw [List.take_length] at HM6
                  have HJ2 : Hid (JnR l (k + 1) (cs ++ u.consts) (gs.map (·.f)) (ys.map (·.p))) := hide (by
                    have h := HJ.out.step HU.out
                    rw [HAC.out, HAF.out, ← HM4.out, ← HM6.out] at h
                    exact h)
                  clear hql hq
                  go_wp2_with fail
                  go_roundw
                  case rel =>
                    refine ⟨_, _, _, _, _, _, _, _, _, _, _, _, _, _, _, _, _, _, _, _, _, _, _, _, _, _, _, _, _, _, _, _, _, _, _, _, _, _, _, _, _, _, _, _, _, _, _, _, _, _, _, _, _, _, _, _, _, _, _, _, _, _, _, _, _, _, _, _, _, _, _, _, _, _, _, _, _, _, _, _, _, _, _, _, _, _, _, _, _, _, _, _, _, _, _, _, _, _, _, _, _, _, _, _, _, ?_, rfl⟩
                    exact ⟨k + 1, _, _, _, _, _, _, _, by omega, by go_num, by rw [List.length_append]; omega, by omega, by omega, HL6, HJ2, HX6⟩
                  case measure => simp [intOf]; omega
        · have hke : k = l.length := by omega
          subst hke
          obtain ⟨tl, hlt2⟩ : ∃ tl, l = u0 :: tl := by
            cases l with
            | nil => simp at hl1
            | cons h tl => have h0 := HU0.out; simp at h0; subst h0; exact ⟨tl, rfl⟩
          have HLast : Hid (R = if 30 < fs.length ∨ 50 < cs.length ∨ 20 < xs.length then .inr (9, 0) else .inl ⟨u0.shapes, cs, fs.map (·.f), [], xs.map (·.p)⟩) := hide (by
            have hj := HJ.out.last
            have hll := link_last (h := u0) (t := tl) (by rw [← hlt2]; exact hl6) (by rw [← hlt2]; exact HC.out)
            rw [← hlt2] at hll
            rw [← HD.out, hll, hj]
            simp only [List.length_map])
          clear hlt2 hlt hk
          obtain ⟨⟨p2, q2, rfl⟩, _⟩ := own_form HLk.out.o2.1
          obtain ⟨⟨p3, q3, rfl⟩, _⟩ := own_form HLk.out.o3.1
          obtain ⟨⟨p5, q5, rfl⟩, _⟩ := own_form HLk.out.o5.1
          obtain ⟨g0, g1, g2, g3, g4⟩ := heap_box5 HLk.out.box
          have HRx : Hid (wr.heap[w.heap.size]? = some (.cells #[.slice none 0 0, .slice none 0 0, .slice none 0 0, .slice none 0 0, .slice none 0 0] 28 (0, 0))) := hide ((HLk.out.low _ hrl).trans HRB.out)
          obtain ⟨r0, r1, r2, r3, r4⟩ := heap_box5 HRx.out
          have s0 : wr.frozen? ⟨w.heap.size, 0, none⟩ = false := heap_frozen HRx.out
          have s1 : wr.frozen? ⟨w.heap.size, 1, none⟩ = false := heap_frozen HRx.out
          have s2 : wr.frozen? ⟨w.heap.size, 2, none⟩ = false := heap_frozen HRx.out
          have s3 : wr.frozen? ⟨w.heap.size, 3, none⟩ = false := heap_frozen HRx.out
          have s4 : wr.frozen? ⟨w.heap.size, 4, none⟩ = false := heap_frozen HRx.out
          have HBR5 : Hid (Box5 wr w.heap.size (.slice none 0 0) (.slice none 0 0) (.slice none 0 0) (.slice none 0 0) (.slice none 0 0)) := hide ⟨r0, r1, r2, r3, r4, s0, s1, s2, s3, s4⟩
          have HGx := hide (HGw.out.trans HLk.out.gr)
          by_cases hbig : 30 < fs.length ∨ 50 < cs.length ∨ 20 < xs.length
          · have hE := HLast.out
            rw [if_pos hbig] at hE
            subst hE
            clear HLast
            by_cases b1 : 30 < fs.length
            · have i1 : (30 : Int) < (fs.length : Int) := by omega
              clear hbig
              go_wp2_with fail
              rw [put5_eq]
              obtain ⟨r0, r1, r2, r3, r4, s0, s1, s2, s3, s4⟩ := put5_box (.slice none 0 0) (.slice none 0 0) (.slice none 0 0) (.slice none 0 0) (.slice none 0 0) HBR5.out
              exact bodyPost_ret (v := .tuple #[.agg #[.slice none 0 0, .slice none 0 0, .slice none 0 0, .slice none 0 0, .slice none 0 0], .int .i64 9, .int .i64 0]) (by simp [results, Tryd.results25, go_sem, r0, r1, r2, r3, r4]) rfl ⟨rfl, put5_gr HGx.out (Nat.le_refl _)⟩
            · have i1 : (fs.length : Int) ≤ 30 := by omega
              by_cases b2 : 50 < cs.length
              · have i2 : (50 : Int) < (cs.length : Int) := by omega
                clear hbig
                go_wp2_with fail
                rw [put5_eq]
                obtain ⟨r0, r1, r2, r3, r4, s0, s1, s2, s3, s4⟩ := put5_box (.slice none 0 0) (.slice none 0 0) (.slice none 0 0) (.slice none 0 0) (.slice none 0 0) HBR5.out
                exact bodyPost_ret (v := .tuple #[.agg #[.slice none 0 0, .slice none 0 0, .slice none 0 0, .slice none 0 0, .slice none 0 0], .int .i64 9, .int .i64 0]) (by simp [results, Tryd.results25, go_sem, r0, r1, r2, r3, r4]) rfl ⟨rfl, put5_gr HGx.out (Nat.le_refl _)⟩
              · have i2 : (cs.length : Int) ≤ 50 := by omega
                have i3 : (20 : Int) < (xs.length : Int) := by omega
                clear hbig
                go_wp2_with fail
                rw [put5_eq]
                obtain ⟨r0, r1, r2, r3, r4, s0, s1, s2, s3, s4⟩ := put5_box (.slice none 0 0) (.slice none 0 0) (.slice none 0 0) (.slice none 0 0) (.slice none 0 0) HBR5.out
                exact bodyPost_ret (v := .tuple #[.agg #[.slice none 0 0, .slice none 0 0, .slice none 0 0, .slice none 0 0, .slice none 0 0], .int .i64 9, .int .i64 0]) (by simp [results, Tryd.results25, go_sem, r0, r1, r2, r3, r4]) rfl ⟨rfl, put5_gr HGx.out (Nat.le_refl _)⟩
          · have hE := HLast.out
            rw [if_neg hbig] at hE
            subst hE
            clear HLast
            have i1 : (fs.length : Int) ≤ 30 := by omega
            have i2 : (cs.length : Int) ≤ 50 := by omega
            have i3 : (xs.length : Int) ≤ 20 := by omega
            clear hbig
            go_wp2_with fail
            rw [put5_eq]
            have HRU : Hid (∀ w2 : World, (∀ b, b < w0.heap.size → w2.heap[b]? = w0.heap[b]?) → (∀ b, w.heap.size ≤ b → b < (put5 wr w.heap.size (.slice z1 u0.shapes.length z2) (.slice p2 cs.length q2) (.slice p3 fs.length q3) (.slice none 0 0) (.slice p5 xs.length q5)).heap.size → w2.heap[b]? = (put5 wr w.heap.size (.slice z1 u0.shapes.length z2) (.slice p2 cs.length q2) (.slice p3 fs.length q3) (.slice none 0 0) (.slice p5 xs.length q5)).heap[b]?) → RUnit w2 (.agg #[.slice z1 u0.shapes.length z2, .slice p2 cs.length q2, .slice p3 fs.length q3, .slice none 0 0, .slice p5 xs.length q5]) ⟨u0.shapes, cs, fs.map (·.f), [], xs.map (·.p)⟩) := hide (fun w2 k1 k2 => HLk.out.unit k1 (fun bb hb hl => (k2 bb (by omega) (by rw [p5_size]; exact hl)).trans (p5_heap (by omega))) HSh.out HX.out)
            obtain ⟨r0, r1, r2, r3, r4, _⟩ := put5_box (.slice z1 u0.shapes.length z2) (.slice p2 cs.length q2) (.slice p3 fs.length q3) (.slice none 0 0) (.slice p5 xs.length q5) HBR5.out
            exact bodyPost_ret (v := .tuple #[.agg #[.slice z1 u0.shapes.length z2, .slice p2 cs.length q2, .slice p3 fs.length q3, .slice none 0 0, .slice p5 xs.length q5], .int .i64 0, .int .i64 0]) (by simp [results, Tryd.results25, go_sem, r0, r1, r2, r3, r4]) rfl ⟨_, rfl, HRU.out, put5_gr HGx.out (Nat.le_refl _)⟩
end Go.Proofs.YtkgncijcnlfhiaaDoor

