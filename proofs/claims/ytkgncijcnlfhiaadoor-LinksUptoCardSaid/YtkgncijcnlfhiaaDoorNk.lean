import Derived.Test.YtkgncijcnlfhiaaDoorNj
namespace Go.Proofs.YtkgncijcnlfhiaaDoor
set_option linter.unusedVariables false
set_option linter.unusedSimpArgs false
open Go.RowKit
attribute [local go_sem ↓] Go.wp_at_zero Go.wp_at_succ
set_option maxRecDepth 100000 in
set_option maxHeartbeats 1000000 in
theorem sclone_any (s : ByteArray) (w : World) (hs : s.size ≤ 1000000) :
    Calls Tryd.prog 158 #[.string s] w fun x w' => x = .returned (.string s) ∧ Gr w w' := by
  have HC := hide (clone_any s w hs)
  go_enter Tryd.func158, Tryd.ntmps158
  go_wp2_with fail
  refine HC.out.mono ?_
  rintro x w' ⟨rfl, hg⟩
  have HG := hide hg
  clear hg HC
  go_wp2_with fail
  go_ret
  exact ⟨rfl, HG.out⟩

set_option maxRecDepth 100000 in
set_option maxHeartbeats 2000000 in
theorem export_any (u : PUnit) (mb c f : Nat) (a1 a2 a3 a4 a5 : Option Addr) (c1 c2 c3 c4 c5 : Nat) (s : ByteArray) (q : Int) (w : World) (hf : f ≤ 1000) (hs : s.size ≤ 1000000) (hq : 0 ≤ q ∧ q ≤ 1000) :
    Calls Tryd.prog 146 #[.agg #[.slice a1 u.shapes.length c1, .slice a2 u.consts.length c2, .slice a3 u.funcs.length c3, .slice a4 u.imports.length c4, .slice a5 u.exports.length c5, .map (some mb), .int .i64 (c : Int), .int .i64 (f : Int)], .agg #[.string s, .int .i64 q]] w fun x w' => x = .returned (.agg #[.string s, .int .i64 ((f : Int) + q)]) ∧ Gr w w' := by
  have hw : IntKind.i64.wrap ((f : Int) + q) = (f : Int) + q := Go.IntWalk.i64_in _ (by omega)
  have hb0 := heap_alloc_new w (.cells #[.slice a1 u.shapes.length c1, .slice a2 u.consts.length c2, .slice a3 u.funcs.length c3, .slice a4 u.imports.length c4, .slice a5 u.exports.length c5, .map (some mb), .int .i64 (c : Int), .int .i64 (f : Int)] 213)
  have hb1 := heap_alloc_new (w.alloc (.cells #[.slice a1 u.shapes.length c1, .slice a2 u.consts.length c2, .slice a3 u.funcs.length c3, .slice a4 u.imports.length c4, .slice a5 u.exports.length c5, .map (some mb), .int .i64 (c : Int), .int .i64 (f : Int)] 213)) (.cells #[.string s, .int .i64 q] 81)
  have hb2 := heap_alloc_new ((w.alloc (.cells #[.slice a1 u.shapes.length c1, .slice a2 u.consts.length c2, .slice a3 u.funcs.length c3, .slice a4 u.imports.length c4, .slice a5 u.exports.length c5, .map (some mb), .int .i64 (c : Int), .int .i64 (f : Int)] 213)).alloc (.cells #[.string s, .int .i64 q] 81)) (.cells #[.string ⟨#[]⟩, .int .i64 0] 81)
  have s1 : (w.alloc (.cells #[.slice a1 u.shapes.length c1, .slice a2 u.consts.length c2, .slice a3 u.funcs.length c3, .slice a4 u.imports.length c4, .slice a5 u.exports.length c5, .map (some mb), .int .i64 (c : Int), .int .i64 (f : Int)] 213)).heap.size = w.heap.size + 1 := by simp
  have s2 : ((w.alloc (.cells #[.slice a1 u.shapes.length c1, .slice a2 u.consts.length c2, .slice a3 u.funcs.length c3, .slice a4 u.imports.length c4, .slice a5 u.exports.length c5, .map (some mb), .int .i64 (c : Int), .int .i64 (f : Int)] 213)).alloc (.cells #[.string s, .int .i64 q] 81)).heap.size = w.heap.size + 2 := by simp
  have s3 : (((w.alloc (.cells #[.slice a1 u.shapes.length c1, .slice a2 u.consts.length c2, .slice a3 u.funcs.length c3, .slice a4 u.imports.length c4, .slice a5 u.exports.length c5, .map (some mb), .int .i64 (c : Int), .int .i64 (f : Int)] 213)).alloc (.cells #[.string s, .int .i64 q] 81)).alloc (.cells #[.string ⟨#[]⟩, .int .i64 0] 81)).heap.size = w.heap.size + 3 := by simp
  rw [s1] at hb1
  rw [s2] at hb2
  have hg3 : Gr w (((w.alloc (.cells #[.slice a1 u.shapes.length c1, .slice a2 u.consts.length c2, .slice a3 u.funcs.length c3, .slice a4 u.imports.length c4, .slice a5 u.exports.length c5, .map (some mb), .int .i64 (c : Int), .int .i64 (f : Int)] 213)).alloc (.cells #[.string s, .int .i64 q] 81)).alloc (.cells #[.string ⟨#[]⟩, .int .i64 0] 81)) := (((Gr.refl w).alloc _).alloc _).alloc _
  have g2 : Gr ((w.alloc (.cells #[.slice a1 u.shapes.length c1, .slice a2 u.consts.length c2, .slice a3 u.funcs.length c3, .slice a4 u.imports.length c4, .slice a5 u.exports.length c5, .map (some mb), .int .i64 (c : Int), .int .i64 (f : Int)] 213)).alloc (.cells #[.string s, .int .i64 q] 81)) (((w.alloc (.cells #[.slice a1 u.shapes.length c1, .slice a2 u.consts.length c2, .slice a3 u.funcs.length c3, .slice a4 u.imports.length c4, .slice a5 u.exports.length c5, .map (some mb), .int .i64 (c : Int), .int .i64 (f : Int)] 213)).alloc (.cells #[.string s, .int .i64 q] 81)).alloc (.cells #[.string ⟨#[]⟩, .int .i64 0] 81)) := (Gr.refl _).alloc _
  have g1 : Gr (w.alloc (.cells #[.slice a1 u.shapes.length c1, .slice a2 u.consts.length c2, .slice a3 u.funcs.length c3, .slice a4 u.imports.length c4, .slice a5 u.exports.length c5, .map (some mb), .int .i64 (c : Int), .int .i64 (f : Int)] 213)) (((w.alloc (.cells #[.slice a1 u.shapes.length c1, .slice a2 u.consts.length c2, .slice a3 u.funcs.length c3, .slice a4 u.imports.length c4, .slice a5 u.exports.length c5, .map (some mb), .int .i64 (c : Int), .int .i64 (f : Int)] 213)).alloc (.cells #[.string s, .int .i64 q] 81)).alloc (.cells #[.string ⟨#[]⟩, .int .i64 0] 81)) := ((Gr.refl _).alloc _).alloc _
  have KH : Hid (∀ w', Gr (((w.alloc (.cells #[.slice a1 u.shapes.length c1, .slice a2 u.consts.length c2, .slice a3 u.funcs.length c3, .slice a4 u.imports.length c4, .slice a5 u.exports.length c5, .map (some mb), .int .i64 (c : Int), .int .i64 (f : Int)] 213)).alloc (.cells #[.string s, .int .i64 q] 81)).alloc (.cells #[.string ⟨#[]⟩, .int .i64 0] 81)) w' → w'.heap[w.heap.size]? = some (.cells #[.slice a1 u.shapes.length c1, .slice a2 u.consts.length c2, .slice a3 u.funcs.length c3, .slice a4 u.imports.length c4, .slice a5 u.exports.length c5, .map (some mb), .int .i64 (c : Int), .int .i64 (f : Int)] 213 (0, 0)) ∧ w'.heap[w.heap.size + 1]? = some (.cells #[.string s, .int .i64 q] 81 (0, 0)) ∧ w'.heap[w.heap.size + 2]? = some (.cells #[.string ⟨#[]⟩, .int .i64 0] 81 (0, 0))) := hide (fun w' g =>
    ⟨((g1.trans g).block w.heap.size (by rw [s1]; omega) (by simp)).trans hb0, ((g2.trans g).block (w.heap.size + 1) (by rw [s2]; omega) (by simp)).trans hb1, (g.block (w.heap.size + 2) (by rw [s3]; omega) (by simp)).trans hb2⟩)
  have KS : Hid (∀ w', Gr (((w.alloc (.cells #[.slice a1 u.shapes.length c1, .slice a2 u.consts.length c2, .slice a3 u.funcs.length c3, .slice a4 u.imports.length c4, .slice a5 u.exports.length c5, .map (some mb), .int .i64 (c : Int), .int .i64 (f : Int)] 213)).alloc (.cells #[.string s, .int .i64 q] 81)).alloc (.cells #[.string ⟨#[]⟩, .int .i64 0] 81)) w' → w'.cell? ⟨w.heap.size, 7, none⟩ = some (.int .i64 (f : Int)) ∧ w'.cell? ⟨w.heap.size + 1, 0, none⟩ = some (.string s) ∧ w'.cell? ⟨w.heap.size + 1, 1, none⟩ = some (.int .i64 q)) := hide (fun w' g => by
    obtain ⟨e0, e1, _⟩ := KH.out w' g
    exact ⟨by rw [hcell_ e0]; rfl, by rw [hcell_ e1]; rfl, by rw [hcell_ e1]; rfl⟩)
  have KSR : Hid (∀ w', Gr (((w.alloc (.cells #[.slice a1 u.shapes.length c1, .slice a2 u.consts.length c2, .slice a3 u.funcs.length c3, .slice a4 u.imports.length c4, .slice a5 u.exports.length c5, .map (some mb), .int .i64 (c : Int), .int .i64 (f : Int)] 213)).alloc (.cells #[.string s, .int .i64 q] 81)).alloc (.cells #[.string ⟨#[]⟩, .int .i64 0] 81)) w' → (w'.setRow (w.heap.size + 2) #[.string s, .int .i64 ((f : Int) + q)]).cell? ⟨w.heap.size, 7, none⟩ = some (.int .i64 (f : Int)) ∧ (w'.setRow (w.heap.size + 2) #[.string s, .int .i64 ((f : Int) + q)]).cell? ⟨w.heap.size + 1, 0, none⟩ = some (.string s) ∧ (w'.setRow (w.heap.size + 2) #[.string s, .int .i64 ((f : Int) + q)]).cell? ⟨w.heap.size + 1, 1, none⟩ = some (.int .i64 q)) := hide (fun w' g => by
    obtain ⟨e0, e1, _⟩ := KH.out w' g
    have d0 : (w'.setRow (w.heap.size + 2) #[.string s, .int .i64 ((f : Int) + q)]).heap[w.heap.size]? = _ := (setRow_other _ _ _ _ (by omega)).trans e0
    have d1 : (w'.setRow (w.heap.size + 2) #[.string s, .int .i64 ((f : Int) + q)]).heap[w.heap.size + 1]? = _ := (setRow_other _ _ _ _ (by omega)).trans e1
    exact ⟨by rw [hcell_ d0]; rfl, by rw [hcell_ d1]; rfl, by rw [hcell_ d1]; rfl⟩)
  have HG3 := hide hg3
  clear hb0 hb1 hb2 s1 s2 s3 hg3 g1 g2
  go_enter Tryd.func146, Tryd.ntmps146
  go_upto_region 1 with fail
  generalize (((w.alloc (.cells #[.slice a1 u.shapes.length c1, .slice a2 u.consts.length c2, .slice a3 u.funcs.length c3, .slice a4 u.imports.length c4, .slice a5 u.exports.length c5, .map (some mb), .int .i64 (c : Int), .int .i64 (f : Int)] 213)).alloc (.cells #[.string s, .int .i64 q] 81)).alloc (.cells #[.string ⟨#[]⟩, .int .i64 0] 81)) = V3 at KH KS KSR HG3 ⊢
  refine wp_region_held_drew (S := (fun w' => w'.cell? ⟨w.heap.size, 7, none⟩ = some (.int .i64 (f : Int)) ∧ w'.cell? ⟨w.heap.size + 1, 0, none⟩ = some (.string s) ∧ w'.cell? ⟨w.heap.size + 1, 1, none⟩ = some (.int .i64 q))) (by kernel_rfl) (KS.out _ (Gr.drew (Gr.refl _))) (fun hHeld => ?_)
  refine takeL (i := 0) (v := ?av0) rfl (by kernel_rfl) (by kernel_rfl) (by kernel_rfl) (by intro c a w h; exact h) (by rfl) ?ahy0 hHeld ?arest0
  case ahy0 => (intro w hSw; (try dsimp only at hSw); go_simp <;> with_reducible rfl)
  simp only [Act.put, List.setIfInBounds_toArray, List.set_cons_zero, List.set_cons_succ]
  refine takeL (i := 1) (v := ?av1) rfl (by kernel_rfl) (by kernel_rfl) (by kernel_rfl) (by intro c a w h; exact h) (by rfl) ?ahy1 hHeld ?arest1
  case ahy1 => (intro w hSw; (try dsimp only at hSw); go_simp <;> with_reducible rfl)
  simp only [Act.put, List.setIfInBounds_toArray, List.set_cons_zero, List.set_cons_succ]
  refine takeL (i := 3) (v := ?av3) rfl (by kernel_rfl) (by kernel_rfl) (by kernel_rfl) (by intro c a w h; exact h) (by rfl) ?ahy3 hHeld ?arest3
  case ahy3 => (intro w hSw; (try dsimp only at hSw); go_simp <;> with_reducible rfl)
  simp only [Act.put, List.setIfInBounds_toArray, List.set_cons_zero, List.set_cons_succ]
  refine takeL (i := 4) (v := ?av4) rfl (by kernel_rfl) (by kernel_rfl) (by kernel_rfl) (by intro c a w h; exact h) (by rfl) ?ahy4 hHeld ?arest4
  case ahy4 => (intro w hSw; (try dsimp only at hSw); go_simp <;> with_reducible rfl)
  simp only [Act.put, List.setIfInBounds_toArray, List.set_cons_zero, List.set_cons_succ]
  refine takeL (i := 5) (v := ?av5) rfl (by kernel_rfl) (by kernel_rfl) (by kernel_rfl) (by intro c a w h; exact h) (by rfl) ?ahy5 hHeld ?arest5
  case ahy5 => (intro w hSw; (try dsimp only at hSw); go_simp <;> with_reducible rfl)
  simp only [Act.put, List.setIfInBounds_toArray, List.set_cons_zero, List.set_cons_succ]
  refine takeL (i := 6) (v := ?av6) rfl (by kernel_rfl) (by kernel_rfl) (by kernel_rfl) (by intro c a w h; exact h) (by rfl) ?ahy6 hHeld ?arest6
  case ahy6 => (intro w hSw; (try dsimp only at hSw); go_simp <;> with_reducible rfl)
  simp only [Act.put, List.setIfInBounds_toArray, List.set_cons_zero, List.set_cons_succ]
  refine takeL (i := 7) (v := ?av7) rfl (by kernel_rfl) (by kernel_rfl) (by kernel_rfl) (by intro c a w h; exact h) (by rfl) ?ahy7 hHeld ?arest7
  case ahy7 => (intro w hSw; (try dsimp only at hSw); go_simp <;> with_reducible rfl)
  simp only [Act.put, List.setIfInBounds_toArray, List.set_cons_zero, List.set_cons_succ]
  refine aloneL (i := 2) rfl (by kernel_rfl) (fun K hK => ?_)
  refine step_calls_w rfl 158 _ _ rfl #[.string s] (by simp [Act.eval]) (Tryd.callClo _ _) ((sclone_any s _ hs).mono ?_)
  rintro x w2 ⟨rfl, hg2⟩
  have HG2 := hide ((Gr.drew (Gr.refl V3)).trans hg2)
  clear hg2
  refine .inl ⟨_, rfl, ?_⟩
  refine hK.out _ _ (KS.out _ HG2.out) (fun hHeld => ?_)
  clear hK
  try simp only [Act.put, List.setIfInBounds_toArray, List.set_cons_zero, List.set_cons_succ]
  refine takeL (i := 8) (v := ?bv8) rfl (by kernel_rfl) (by kernel_rfl) (by kernel_rfl) (by intro c a w h; exact h) (by rfl) ?bhy8 hHeld ?brest8
  case bhy8 => (intro w hSw; (try dsimp only at hSw); go_simp <;> with_reducible rfl)
  simp only [Act.put, List.setIfInBounds_toArray, List.set_cons_zero, List.set_cons_succ]
  refine aloneL (i := 9) rfl (by kernel_rfl) (fun K hK => ?_)
  refine want_yes (by rfl) (wp_store_row (P := Tryd.prog) 81 _ _ rfl (w.heap.size + 2) #[.string s, .int .i64 ((f : Int) + q)] (by rfl) (by simp [Act.eval]) 81 _ (KH.out w2 HG2.out).2.2 Tryd.infEx rfl (by simp [Value.oneCell']) ?_)
  refine hK.out _ _ (KSR.out _ HG2.out) (fun hHeld => ?_)
  clear hK
  try simp only [Act.put, List.setIfInBounds_toArray, List.set_cons_zero, List.set_cons_succ]
  refine wpAnyH_done (by kernel_rfl) ?_ _
  clear hHeld
  have hbr := setRow_heap w2 (w.heap.size + 2) _ #[.string s, .int .i64 ((f : Int) + q)] _ _ (KH.out w2 HG2.out).2.2
  have e0 : (w2.setRow (w.heap.size + 2) #[.string s, .int .i64 ((f : Int) + q)]).cell? ⟨w.heap.size + 2, 0, none⟩ = some (.string s) := by rw [hcell_ hbr]; rfl
  have e1 : (w2.setRow (w.heap.size + 2) #[.string s, .int .i64 ((f : Int) + q)]).cell? ⟨w.heap.size + 2, 1, none⟩ = some (.int .i64 ((f : Int) + q)) := by rw [hcell_ hbr]; rfl
  clear hbr
  go_wp2_with fail
  refine bodyPost_ret (v := .agg #[.string s, .int .i64 ((f : Int) + q)]) (by simp [results, Tryd.results146, go_sem, e0, e1]) rfl ⟨rfl, ?_⟩
  exact gr_row_ (HG3.out.trans HG2.out) (by omega)
def aheadE (l : List PUnit) (k : Nat) : Nat := ((l.take k).map fun u => u.exports.length).sum
theorem aheadE_succ {l : List PUnit} {k : Nat} {u : PUnit} (h : l[k]? = some u) : aheadE l (k + 1) = aheadE l k + u.exports.length := by
  obtain ⟨hk, rfl⟩ := List.getElem?_eq_some_iff.1 h
  unfold aheadE; rw [List.take_succ_eq_append_getElem hk, List.map_append, List.sum_append_nat]; simp only [List.map_cons, List.map_nil, List.sum_cons, List.sum_nil, Nat.add_zero]
def fewL (l : List PUnit) : Bool := decide (aheadF l l.length ≤ 30) && (decide (aheadC l l.length ≤ 50) && decide (aheadE l l.length ≤ 20))

set_option maxRecDepth 100000 in
set_option maxHeartbeats 2000000 in
theorem few_any (W : World) (l : List PUnit) (vl : Value) (hR : RUnits W vl l) (hl6 : l.length ≤ 6) (hok : ∀ u ∈ l, unitOk u = true) :
    Calls Tryd.prog 105 #[vl] W fun x w' => x = .returned (.bool (fewL l)) ∧ Gr W w' := by
  obtain ⟨ao, cap, rfl, hm, hc⟩ := hR
  have HC := hide hc
  have HOK := hide hok
  clear hc hok
  unfold maxLen at hm
  go_enter Tryd.func105, Tryd.ntmps105
  go_wp2_with fail
  go_loopw [3, 4, 5, 10] (fun vf vc ve i wr => ∃ (k nf nc ne : Nat), vf = .int .i64 (nf : Int) ∧ vc = .int .i64 (nc : Int) ∧ ve = .int .i64 (ne : Int) ∧ i = .int .i64 (k : Int) ∧ k ≤ l.length ∧ aheadF l k = nf ∧ aheadC l k = nc ∧ aheadE l k = ne ∧ nf ≤ 30 * k ∧ nc ≤ 50 * k ∧ ne ≤ 20 * k ∧ Gr W wr) (fun _ _ _ i _ => l.length - (intOf i).toNat)
  case atStart => exact ⟨0, 0, 0, 0, rfl, rfl, rfl, rfl, Nat.zero_le _, by simp [aheadF], by simp [aheadC], by simp [aheadE], by omega, by omega, by omega, Gr.refl _⟩
  case round =>
    obtain ⟨k, nf, nc, ne, rfl, rfl, rfl, rfl, hk, hF, hCo, hE, b1, b2, b3, hgr⟩ := hrel
    have HG := hide hgr
    have HA := hide (And.intro hF (And.intro hCo hE))
    clear hgr hF hCo hE
    by_cases hlt : k < l.length
    · obtain ⟨u, hu⟩ := getElem?_lt hlt
      obtain ⟨b, off, v1, v2, v3, v4, v5, rfl, k1, k2, k3, k4, k5, hru⟩ := HC.out k u hu
      obtain ⟨a1, a2, a3, a4, a5, c1, c2, c3, c4, c5, he, _⟩ := hru.parts
      simp only [Value.agg.injEq, Array.mk.injEq, List.cons.injEq, and_true] at he
      obtain ⟨rfl, rfl, rfl, rfl, rfl⟩ := he
      have k1 := HG.out.cell k1 (by simp)
      have k2 := HG.out.cell k2 (by simp)
      have k3 := HG.out.cell k3 (by simp)
      have k4 := HG.out.cell k4 (by simp)
      have k5 := HG.out.cell k5 (by simp)
      have hfit := unit_fits (HOK.out u (List.mem_of_getElem? hu))
      have q1 := hfit.1
      have q2 := hfit.2.1
      have q3 := hfit.2.2.2.1
      have hki : (k : Int) < (l.length : Int) := by omega
      have hw : IntKind.i64.wrap ((k : Int) + 1) = (k : Int) + 1 := Go.IntWalk.i64_in _ (by omega)
      have hw1 : IntKind.i64.wrap ((nf : Int) + (u.funcs.length : Int)) = (nf : Int) + (u.funcs.length : Int) := Go.IntWalk.i64_in _ (by omega)
      have hw2 : IntKind.i64.wrap ((nc : Int) + (u.consts.length : Int)) = (nc : Int) + (u.consts.length : Int) := Go.IntWalk.i64_in _ (by omega)
      have hw3 : IntKind.i64.wrap ((ne : Int) + (u.exports.length : Int)) = (ne : Int) + (u.exports.length : Int) := Go.IntWalk.i64_in _ (by omega)
      have HS := hide (And.intro (aheadF_succ hu) (And.intro (aheadC_succ hu) (aheadE_succ hu)))
      clear hu hru hfit
      go_wp2_with fail
      refine ⟨⟨k + 1, nf + u.funcs.length, nc + u.consts.length, ne + u.exports.length, by simp, by simp, by simp, by simp, hlt, ?_, ?_, ?_, by omega, by omega, by omega, HG.out.alloc _⟩, by simp [intOf]; omega⟩
      · rw [HS.out.1, HA.out.1]
      · rw [HS.out.2.1, HA.out.2.1]
      · rw [HS.out.2.2, HA.out.2.2]
    · have hkk : k = l.length := by omega
      subst hkk
      have HB : Hid (fewL l = (decide (nf ≤ 30) && (decide (nc ≤ 50) && decide (ne ≤ 20)))) := hide (by unfold fewL; rw [HA.out.1, HA.out.2.1, HA.out.2.2])
      clear hlt hk HA
      by_cases h1 : nf ≤ 30
      · by_cases h2 : nc ≤ 50
        · have i1 : (nf : Int) ≤ 30 := by omega
          have i2 : (nc : Int) ≤ 50 := by omega
          by_cases h3 : ne ≤ 20
          · have i3 : (ne : Int) ≤ 20 := by omega
            have HB2 : Hid (fewL l = true) := hide (by rw [HB.out]; simp [h1, h2, h3])
            go_wp2_with fail
            go_ret
            exact ⟨by rw [HB2.out]; rfl, HG.out⟩
          · have i3 : ¬ (ne : Int) ≤ 20 := by omega
            have HB2 : Hid (fewL l = false) := hide (by rw [HB.out]; simp [h1, h2, h3])
            have id3 : decide ((ne : Int) ≤ 20) = false := by simpa using i3
            go_wp2_with fail
            go_ret
            exact ⟨by rw [HB2.out]; rfl, HG.out⟩
        · have i1 : (nf : Int) ≤ 30 := by omega
          have i2 : ¬ (nc : Int) ≤ 50 := by omega
          have HB2 : Hid (fewL l = false) := hide (by rw [HB.out]; simp [h1, h2])
          have id2 : decide ((nc : Int) ≤ 50) = false := by simpa using i2
          go_wp2_with fail
          go_ret
          exact ⟨by rw [HB2.out]; rfl, HG.out⟩
      · have i1 : ¬ (nf : Int) ≤ 30 := by omega
        have HB2 : Hid (fewL l = false) := hide (by rw [HB.out]; simp [h1])
        have id1 : decide ((nf : Int) ≤ 30) = false := by simpa using i1
        go_wp2_with fail
        go_ret
        exact ⟨by rw [HB2.out]; rfl, HG.out⟩
end Go.Proofs.YtkgncijcnlfhiaaDoor

