import Derived.Test.YtkgncijcnlfhiaaDoorJ5
import Derived.Test.YtkgncijcnlfhiaaDoorW7
namespace Go.Proofs.YtkgncijcnlfhiaaDoor
set_option linter.unusedVariables false
set_option linter.unusedSimpArgs false
open Go.RowKit
attribute [local go_sem ↓] Go.wp_at_zero Go.wp_at_succ
theorem Tryd.callDone (vals : Array Value) (w : World) : (callFunc 112 vals).run Tryd.prog w = .ok (.enter 112 vals) w := by kernel_rfl
theorem next_lt {u : PUnit} {f : PFunc} {q : Nat} {i : PIns} {s s' : List Int} (hd : doneP u f i s = some s') (ha : i.op = 11 ∨ i.op = 12 → 0 ≤ i.a) : ∀ t, some t ∈ nextP f q i → t < f.code.length := by
  intro t ht
  have hj : i.op = 11 ∨ i.op = 12 → i.a < f.code.length := by
    intro h
    unfold doneP at hd
    cases he : effP u f i with
    | none => rw [he] at hd; cases hd
    | some p =>
      unfold effP at he
      rcases h with h | h <;> simp [h] at he <;> exact he.1
  unfold nextP at ht
  by_cases h11 : i.op = 11
  · have := hj (.inl h11); have := ha (.inl h11)
    rw [if_pos h11] at ht; simp at ht; omega
  rw [if_neg h11] at ht
  by_cases h14 : i.op = 14
  · rw [if_pos h14] at ht; cases ht
  rw [if_neg h14] at ht
  by_cases h12 : i.op = 12
  · have := hj (.inr h12); have := ha (.inr h12)
    rw [if_pos h12] at ht
    by_cases hb : q + 1 < f.code.length
    · rw [if_pos hb] at ht; simp at ht; omega
    · rw [if_neg hb] at ht; simp at ht; omega
  · rw [if_neg h12] at ht
    by_cases hb : q + 1 < f.code.length
    · rw [if_pos hb] at ht; simp at ht; omega
    · rw [if_neg hb] at ht; simp at ht
def nxV (o : Option Nat) : Int := match o with
  | none => -1
  | some t => (t : Int)
theorem nextI_at {f : PFunc} {q k : Nat} {i : PIns} {o : Option Nat} (h : (nextP f q i)[k]? = some o) : (nextI f q i).getD k 0 = nxV o := by
  unfold nextI; rw [List.getD_eq_getElem?_getD, List.getElem?_map, h]; cases o <;> rfl
theorem next_len (f : PFunc) (q : Nat) (i : PIns) : (nextP f q i).length ≤ 2 := by
  unfold nextP
  by_cases h11 : i.op = 11
  · rw [if_pos h11]; simp
  rw [if_neg h11]
  by_cases h14 : i.op = 14
  · rw [if_pos h14]; simp
  rw [if_neg h14]
  by_cases h12 : i.op = 12
  · rw [if_pos h12]; simp
  · rw [if_neg h12]; simp

set_option maxRecDepth 100000 in
set_option maxHeartbeats 8000000 in
theorem look_ref (u : PUnit) (f : PFunc) (hok : unitOk u = true) (hfm : f ∈ u.funcs) (v1 v2 v3 v4 v5 vp vl vc : Value) (w : World) (hU : RUnit w (.agg #[v1, v2, v3, v4, v5]) u) (hp : RInts w vp f.params) (hl : RInts w vl f.locals) (hc : RCode w vc f.code) (hN1 : 1 ≤ f.code.length) (hN2 : f.code.length ≤ 200) (hall : f.code.all insOk = true)
    (hE : ∀ i, insOk i = true → ∀ V, Gr w V → Calls Tryd.prog 152 #[.agg #[v1, v2, v3, v4, v5], .agg #[vp, .int .i64 f.result, vl, vc], .agg #[.int .i64 i.op, .int .i64 i.a, .int .i64 i.b]] V (ErfR (effP u f i) V)) :
    Calls Tryd.prog 54 #[.agg #[v1, v2, v3, v4, v5], .agg #[vp, .int .i64 f.result, vl, vc]] w fun x w' => x = .returned (.int .i64 (wrongI u f)) ∧ Gr w w' := by
  have HUU := hide hU
  obtain ⟨x1, x2, x3, x4, x5, he, h1, h2, h3, h4, h5⟩ := hU
  simp only [Value.agg.injEq, Array.mk.injEq, List.cons.injEq, and_true] at he
  obtain ⟨rfl, rfl, rfl, rfl, rfl⟩ := he
  obtain ⟨a1, c1, rfl⟩ := h1.shape
  obtain ⟨a2, c2, rfl⟩ := h2.shape
  obtain ⟨a3, c3, rfl⟩ := h3.shape
  obtain ⟨a4, c4, rfl⟩ := h4.shape
  obtain ⟨a5, c5, rfl⟩ := h5.shape
  obtain ⟨ap, cp, rfl⟩ := hp.shape
  obtain ⟨al, cl, rfl⟩ := hl.shape
  obtain ⟨ac, cc, rfl⟩ := hc.shape
  have HP := hide hp
  have HLo := hide hl
  have HC := hide hc
  have HE := hide hE
  have HALL := hide hall
  have HEN := hide (eff_nn (i := ⟨0, 0, 0⟩) hok hfm)
  have HNN : Hid (∀ i ts ps, effP u f i = some (ts, ps) → ts = [-1] ∨ ∀ t ∈ ts, 0 ≤ t) := hide (fun i ts ps h => by
    by_cases h4 : i.op = 4
    · unfold effP at h; simp [h4] at h; exact .inl h.1.symm
    by_cases h5 : i.op = 5
    · unfold effP at h; simp [h5] at h; exact .inl h.1.symm
    exact .inr (eff_nn hok hfm ts ps h h4 h5).1)
  have HG0 : Hid (Gr w ((w.alloc (.cells #[.slice a1 u.shapes.length c1, .slice a2 u.consts.length c2, .slice a3 u.funcs.length c3, .slice a4 u.imports.length c4, .slice a5 u.exports.length c5] 28)).alloc (.cells #[.slice ap f.params.length cp, .int .i64 f.result, .slice al f.locals.length cl, .slice ac f.code.length cc] 76))) := hide (((Gr.refl w).alloc _).alloc _)
  have HS0 : Hid (((w.alloc (.cells #[.slice a1 u.shapes.length c1, .slice a2 u.consts.length c2, .slice a3 u.funcs.length c3, .slice a4 u.imports.length c4, .slice a5 u.exports.length c5] 28)).alloc (.cells #[.slice ap f.params.length cp, .int .i64 f.result, .slice al f.locals.length cl, .slice ac f.code.length cc] 76)).heap.size = w.heap.size + 1 + 1) := hide (by simp)
  have HB0 : Hid (∀ w', Gr ((w.alloc (.cells #[.slice a1 u.shapes.length c1, .slice a2 u.consts.length c2, .slice a3 u.funcs.length c3, .slice a4 u.imports.length c4, .slice a5 u.exports.length c5] 28)).alloc (.cells #[.slice ap f.params.length cp, .int .i64 f.result, .slice al f.locals.length cl, .slice ac f.code.length cc] 76)) w' → w'.cell? ⟨w.heap.size, 0, none⟩ = some (.slice a1 u.shapes.length c1) ∧ w'.cell? ⟨w.heap.size, 1, none⟩ = some (.slice a2 u.consts.length c2) ∧ w'.cell? ⟨w.heap.size, 2, none⟩ = some (.slice a3 u.funcs.length c3) ∧ w'.cell? ⟨w.heap.size, 3, none⟩ = some (.slice a4 u.imports.length c4) ∧ w'.cell? ⟨w.heap.size, 4, none⟩ = some (.slice a5 u.exports.length c5) ∧ w'.cell? ⟨w.heap.size + 1, 0, none⟩ = some (.slice ap f.params.length cp) ∧ w'.cell? ⟨w.heap.size + 1, 1, none⟩ = some (.int .i64 f.result) ∧ w'.cell? ⟨w.heap.size + 1, 2, none⟩ = some (.slice al f.locals.length cl) ∧ w'.cell? ⟨w.heap.size + 1, 3, none⟩ = some (.slice ac f.code.length cc)) := hide (fun w' g => ⟨g.cell (by simp [go_sem]) (by simp), g.cell (by simp [go_sem]) (by simp), g.cell (by simp [go_sem]) (by simp), g.cell (by simp [go_sem]) (by simp), g.cell (by simp [go_sem]) (by simp), g.cell (by simp [go_sem]) (by simp), g.cell (by simp [go_sem]) (by simp), g.cell (by simp [go_sem]) (by simp), g.cell (by simp [go_sem]) (by simp)⟩)
  clear h1 h2 h3 h4 h5 hp hl hc hE hall HEN
  go_enter Tryd.func54, Tryd.ntmps54
  go_upto_region 1 with fail
  generalize (w.alloc (.cells #[.slice a1 u.shapes.length c1, .slice a2 u.consts.length c2, .slice a3 u.funcs.length c3, .slice a4 u.imports.length c4, .slice a5 u.exports.length c5] 28)).alloc (.cells #[.slice ap f.params.length cp, .int .i64 f.result, .slice al f.locals.length cl, .slice ac f.code.length cc] 76) = V0 at HG0 HS0 HB0 ⊢
  obtain ⟨k0, k1, k2, k3, k4, k5, k6, k7, k8⟩ := HB0.out V0 (Gr.refl _)
  obtain ⟨V1, sb, hmk, hsbe, hsbk, hg01⟩ : ∃ V1 sb, (Instr.makeSlice 22 (.int .i64 (f.code.length : Int)) (.int .i64 (f.code.length : Int))).run Tryd.prog V0 = .ok (.slice (some ⟨sb, 0, none⟩) f.code.length f.code.length) V1 ∧ sb = V0.heap.size ∧ V1.heap[sb]? = some (.cells (madeCells (Value.slice none 0 0).cells (f.code.length * 1)) 23 (0, 0)) ∧ Gr V0 V1 :=
    ⟨_, _, make_own (by kernel_rfl) Tryd.ownSlice (by omega) (by omega) rfl V0, rfl, heap_alloc_new V0 _, (Gr.refl V0).alloc _⟩
  obtain ⟨V2, tb, hmk2, htbe, htbk, hg12⟩ : ∃ V2 tb, (Instr.makeSlice 23 (.int .i64 (f.code.length : Int)) (.int .i64 (f.code.length : Int))).run Tryd.prog V1 = .ok (.slice (some ⟨tb, 0, none⟩) f.code.length f.code.length) V2 ∧ tb = V1.heap.size ∧ V2.heap[tb]? = some (.cells (madeCells (Value.int .i64 0).cells (f.code.length * 1)) 3 (0, 0)) ∧ Gr V1 V2 :=
    ⟨_, _, make_own (by kernel_rfl) Tryd.ownInt (by omega) (by omega) rfl V1, rfl, heap_alloc_new V1 _, (Gr.refl V1).alloc _⟩
  have k8b := hg01.cell k8 (by simp)
  have hsl := (Array.getElem?_eq_some_iff.1 hsbk).1
  have hsbk2 := (hg12.block sb hsl (by simp)).trans hsbk
  have HST := hide (LrAt.start (N := f.code.length) (hg01.trans hg12) (by omega) (by have := hg01.size; omega) (by omega) (by omega) hsbk2 (by simp [size_madeCells]) (fun k hk => by rw [made_at (by simp [Value.cells]) (by omega)]; simp [Value.cells, Nat.mod_one]) htbk (by simp [size_madeCells]) (fun k hk => by rw [made_at (by simp [Value.cells]) (by omega)]; simp [Value.cells, Nat.mod_one]))
  have ht0 : V2.cell? ⟨tb, 0, none⟩ = some (.int .i64 0) := by rw [heap_cell_ htbk, made_at (by simp [Value.cells]) (by omega)]; simp [Value.cells]
  have htf : V2.frozen? ⟨tb, 0, none⟩ = false := heap_frozen_ htbk
  have hNi : (0 : Int) < (f.code.length : Int) := by omega
  have HW : Hid (wrongP u f = lookP u f (undone f.code.length (fun _ => false) + 1) (fun j => if j = 0 then some [] else none) (fun _ => false)) := hide (by rw [undone_none]; rfl)
  clear hsbe htbe hsbk htbk hg01 hg12 hsl hsbk2
  go_wp2_with fail
  generalize V2.setCell ⟨tb, 0, none⟩ (.int .i64 1) = X at HST ⊢
  clear hmk hmk2 ht0 htf k0 k1 k2 k3 k4 k5 k6 k7 k8 k8b
  go_loopg [7] (f.code.length + 1) (fun gk _ wr => ∃ (tv : Nat → Int) (vs : Nat → Value) (st : Nat → Option (List Int)) (dn : Nat → Bool), gk = undone f.code.length dn + 1 ∧ LrAt V0 wr sb tb f.code.length tv vs st dn ∧ wrongP u f = lookP u f (undone f.code.length dn + 1) st dn)
  case atStart => exact ⟨_, _, _, _, by rw [undone_none], HST.out, HW.out⟩
  case round =>
    obtain ⟨tv, vs, st, dn, rfl, hl, hw⟩ := hrel
    have HL := hide hl
    have HWk := hide hw
    obtain ⟨k0, k1, k2, k3, k4, k5, k6, k7, k8⟩ := HB0.out wr hl.gr
    clear hl hw HST HW
    go_wp2_with fail
    go_loopw [7] (fun vk w' => wr = w' ∧ ∃ k : Nat, vk = .int .i64 (k : Int) ∧ k ≤ f.code.length ∧ ∀ j, j < k → ¬ tv j = 1) (fun vk _ => f.code.length - (intOf vk).toNat)
    case atStart => exact ⟨rfl, 0, rfl, Nat.zero_le _, fun j h => by omega⟩
    case round =>
      obtain ⟨rfl, q, rfl, hq, hmin⟩ := hrel
      have HMin := hide hmin
      clear hmin
      by_cases hlt : q < f.code.length
      · have hqi : (q : Int) < (f.code.length : Int) := by omega
        obtain ⟨htc, htf⟩ := HL.out.tcell hlt
        have hwq : IntKind.i64.wrap ((q : Int) + 1) = (q : Int) + 1 := Go.IntWalk.i64_in _ (by omega)
        obtain ⟨tq, htq⟩ : ∃ x, tv q = x := ⟨_, rfl⟩
        rw [htq] at htc
        by_cases h1 : tq = 1
        · subst h1
          obtain ⟨i, hi⟩ := getElem?_lt hlt
          have hii : insOk i = true := List.all_eq_true.1 HALL.out i (List.mem_of_getElem? hi)
          have hnat := ins_natJ hii
          obtain ⟨s, hsq, hrq, hs20⟩ : ∃ s, st q = some s ∧ RIntsQ (fun b => ¬ b = sb ∧ ¬ b = tb) wr (vs q) s ∧ s.length ≤ 20 := by
            rcases HL.out.val q hlt with ⟨e0, _, _⟩ | ⟨_, s, e2, e3, e4⟩
            · rw [htq] at e0; cases e0
            · exact ⟨s, e2, e3, e4⟩
          obtain ⟨xs, xc, hvq⟩ := hrq.to.shape
          have HLm := hide (HL.out.mark hlt htq)
          have HSP : Hid (wrongP u f = match stepP u f q i s st with | .inl t => some t | .inr st' => lookP u f (undone f.code.length dn) st' (fun j => decide (j = q) || dn j)) := hide (by rw [HWk.out, lookP_step (HL.out.least hlt htq HMin.out) hi hsq]; cases stepP u f q i s st <;> rfl)
          have HUD : Hid (undone f.code.length (fun j => decide (j = q) || dn j) + 1 = undone f.code.length dn) := hide (undone_less f.code.length q dn hlt (by rw [HL.out.dnv q, htq]; simp))
          have hbn : ((q : Int) == (f.code.length : Int)) = false := by rw [beq_eq_false_iff_ne]; omega
          have hsbl := (Array.getElem?_eq_some_iff.1 HLm.out.sbk.choose_spec.1).1
          have htbl := (Array.getElem?_eq_some_iff.1 HLm.out.tbk.choose_spec.1).1
          have HRm : Hid (RIntsQ (fun b => ¬ b = sb ∧ ¬ b = tb) (wr.setCell ⟨tb, q, none⟩ (.int .i64 2)) (.slice xs s.length xc) s) := hide (by
            rw [← hvq]; exact hrq.mono fun b hb hl => ⟨Below.heap_setCell _ _ _ _ hb.2, hb⟩)
          have HVQ := hide hvq
          have HI := hide hi
          have hmx : ((1 : Int) != 1) = false := by decide
          clear hrq hsq HL HWk HMin hvq htq hi
          go_upto_region 10 with fail
          generalize wr.setCell ⟨tb, q, none⟩ (.int .i64 2) = wm at HLm HRm hsbl htbl ⊢
          obtain ⟨cao, ccc, hce, _, hcc⟩ := HC.out
          obtain ⟨cb, coff, rfl, p0, p1, p2⟩ := hcc q i HI.out
          simp only [Value.slice.injEq, true_and] at hce
          obtain ⟨rfl, rfl⟩ := hce
          have HGm := hide (HG0.out.trans HLm.out.gr)
          have KD : Hid (∀ w', Gr wm w' → w'.cell? ⟨w.heap.size, 0, none⟩ = some (.slice a1 u.shapes.length c1) ∧ w'.cell? ⟨w.heap.size, 1, none⟩ = some (.slice a2 u.consts.length c2) ∧ w'.cell? ⟨w.heap.size, 2, none⟩ = some (.slice a3 u.funcs.length c3) ∧ w'.cell? ⟨w.heap.size, 3, none⟩ = some (.slice a4 u.imports.length c4) ∧ w'.cell? ⟨w.heap.size, 4, none⟩ = some (.slice a5 u.exports.length c5) ∧ w'.cell? ⟨w.heap.size + 1, 0, none⟩ = some (.slice ap f.params.length cp) ∧ w'.cell? ⟨w.heap.size + 1, 1, none⟩ = some (.int .i64 f.result) ∧ w'.cell? ⟨w.heap.size + 1, 2, none⟩ = some (.slice al f.locals.length cl) ∧ w'.cell? ⟨w.heap.size + 1, 3, none⟩ = some (.slice (some ⟨cb, coff, none⟩) f.code.length cc) ∧ w'.cell? ⟨cb, coff + q * 3, none⟩ = some (.int .i64 i.op) ∧ w'.cell? ⟨cb, coff + q * 3 + 1, none⟩ = some (.int .i64 i.a) ∧ w'.cell? ⟨cb, coff + q * 3 + 2, none⟩ = some (.int .i64 i.b) ∧ w'.cell? ⟨sb, q, none⟩ = some (.slice xs s.length xc)) := hide (fun w' g => by
            obtain ⟨n0, n1, n2, n3, n4, n5, n6, n7, n8⟩ := HB0.out w' (HLm.out.gr.trans g)
            have g0 := HGm.out.trans g
            have hsc := ((HLm.out.go g).scell hlt).1
            rw [HVQ.out] at hsc
            exact ⟨n0, n1, n2, n3, n4, n5, n6, n7, n8, g0.cell p0 (by simp), g0.cell p1 (by simp), g0.cell p2 (by simp), hsc⟩)
          have HDN := hide (done_ref u f i s hii (HNN.out i) _ _ _ _ _ _ _ _ (.slice xs s.length xc) wm.drew (HUU.out.gr HGm.out.drew) (HP.out.gr HGm.out.drew) (HLo.out.gr HGm.out.drew) ⟨_, _, rfl⟩ (HRm.out.to.gr (Gr.drew (Gr.refl _))) ⟨_, _, rfl, HRm.out.cap⟩ hs20 (fun V g => HE.out i hii V (HGm.out.drew.trans g)))
          clear hcc k0 k1 k2 k3 k4 k5 k6 k7 k8 htc htf
          refine wp_region_held_drew (S := (fun w' => w'.cell? ⟨w.heap.size, 0, none⟩ = some (.slice a1 u.shapes.length c1) ∧ w'.cell? ⟨w.heap.size, 1, none⟩ = some (.slice a2 u.consts.length c2) ∧ w'.cell? ⟨w.heap.size, 2, none⟩ = some (.slice a3 u.funcs.length c3) ∧ w'.cell? ⟨w.heap.size, 3, none⟩ = some (.slice a4 u.imports.length c4) ∧ w'.cell? ⟨w.heap.size, 4, none⟩ = some (.slice a5 u.exports.length c5) ∧ w'.cell? ⟨w.heap.size + 1, 0, none⟩ = some (.slice ap f.params.length cp) ∧ w'.cell? ⟨w.heap.size + 1, 1, none⟩ = some (.int .i64 f.result) ∧ w'.cell? ⟨w.heap.size + 1, 2, none⟩ = some (.slice al f.locals.length cl) ∧ w'.cell? ⟨w.heap.size + 1, 3, none⟩ = some (.slice (some ⟨cb, coff, none⟩) f.code.length cc) ∧ w'.cell? ⟨cb, coff + q * 3, none⟩ = some (.int .i64 i.op) ∧ w'.cell? ⟨cb, coff + q * 3 + 1, none⟩ = some (.int .i64 i.a) ∧ w'.cell? ⟨cb, coff + q * 3 + 2, none⟩ = some (.int .i64 i.b) ∧ w'.cell? ⟨sb, q, none⟩ = some (.slice xs s.length xc))) (by kernel_rfl) (KD.out _ (Gr.drew (Gr.refl _))) (fun hHeld => ?_)
          refine takeL (i := 0) (v := ?dv0) rfl (by kernel_rfl) (by kernel_rfl) (by kernel_rfl) (by intro c a w h; exact h) (by rfl) ?dhy0 hHeld ?drest0
          case dhy0 => (intro w hSw; (try dsimp only at hSw); go_simp <;> with_reducible rfl)
          simp only [Act.put, List.setIfInBounds_toArray, List.set_cons_zero, List.set_cons_succ]
          refine takeL (i := 1) (v := ?dv1) rfl (by kernel_rfl) (by kernel_rfl) (by kernel_rfl) (by intro c a w h; exact h) (by rfl) ?dhy1 hHeld ?drest1
          case dhy1 => (intro w hSw; (try dsimp only at hSw); go_simp <;> with_reducible rfl)
          simp only [Act.put, List.setIfInBounds_toArray, List.set_cons_zero, List.set_cons_succ]
          refine takeL (i := 2) (v := ?dv2) rfl (by kernel_rfl) (by kernel_rfl) (by kernel_rfl) (by intro c a w h; exact h) (by rfl) ?dhy2 hHeld ?drest2
          case dhy2 => (intro w hSw; (try dsimp only at hSw); go_simp <;> with_reducible rfl)
          simp only [Act.put, List.setIfInBounds_toArray, List.set_cons_zero, List.set_cons_succ]
          refine takeL (i := 3) (v := ?dv3) rfl (by kernel_rfl) (by kernel_rfl) (by kernel_rfl) (by intro c a w h; exact h) (by rfl) ?dhy3 hHeld ?drest3
          case dhy3 => (intro w hSw; (try dsimp only at hSw); go_simp <;> with_reducible rfl)
          simp only [Act.put, List.setIfInBounds_toArray, List.set_cons_zero, List.set_cons_succ]
          refine takeL (i := 4) (v := ?dv4) rfl (by kernel_rfl) (by kernel_rfl) (by kernel_rfl) (by intro c a w h; exact h) (by rfl) ?dhy4 hHeld ?drest4
          case dhy4 => (intro w hSw; (try dsimp only at hSw); go_simp <;> with_reducible rfl)
          simp only [Act.put, List.setIfInBounds_toArray, List.set_cons_zero, List.set_cons_succ]
          refine takeL (i := 5) (v := ?dv5) rfl (by kernel_rfl) (by kernel_rfl) (by kernel_rfl) (by intro c a w h; exact h) (by rfl) ?dhy5 hHeld ?drest5
          case dhy5 => (intro w hSw; (try dsimp only at hSw); go_simp <;> with_reducible rfl)
          simp only [Act.put, List.setIfInBounds_toArray, List.set_cons_zero, List.set_cons_succ]
          refine takeL (i := 6) (v := ?dv6) rfl (by kernel_rfl) (by kernel_rfl) (by kernel_rfl) (by intro c a w h; exact h) (by rfl) ?dhy6 hHeld ?drest6
          case dhy6 => (intro w hSw; (try dsimp only at hSw); go_simp <;> with_reducible rfl)
          simp only [Act.put, List.setIfInBounds_toArray, List.set_cons_zero, List.set_cons_succ]
          refine takeL (i := 7) (v := ?dv7) rfl (by kernel_rfl) (by kernel_rfl) (by kernel_rfl) (by intro c a w h; exact h) (by rfl) ?dhy7 hHeld ?drest7
          case dhy7 => (intro w hSw; (try dsimp only at hSw); go_simp <;> with_reducible rfl)
          simp only [Act.put, List.setIfInBounds_toArray, List.set_cons_zero, List.set_cons_succ]
          refine takeL (i := 8) (v := ?dv8) rfl (by kernel_rfl) (by kernel_rfl) (by kernel_rfl) (by intro c a w h; exact h) (by rfl) ?dhy8 hHeld ?drest8
          case dhy8 => (intro w hSw; (try dsimp only at hSw); go_simp <;> with_reducible rfl)
          simp only [Act.put, List.setIfInBounds_toArray, List.set_cons_zero, List.set_cons_succ]
          refine takeL (i := 9) (v := ?dv9) rfl (by kernel_rfl) (by kernel_rfl) (by kernel_rfl) (by intro c a w h; exact h) (by rfl) ?dhy9 hHeld ?drest9
          case dhy9 => (intro w hSw; (try dsimp only at hSw); go_simp <;> with_reducible rfl)
          simp only [Act.put, List.setIfInBounds_toArray, List.set_cons_zero, List.set_cons_succ]
          refine takeL (i := 10) (v := ?dv10) rfl (by kernel_rfl) (by kernel_rfl) (by kernel_rfl) (by intro c a w h; exact h) (by rfl) ?dhy10 hHeld ?drest10
          case dhy10 => (intro w hSw; (try dsimp only at hSw); go_simp <;> with_reducible rfl)
          simp only [Act.put, List.setIfInBounds_toArray, List.set_cons_zero, List.set_cons_succ]
          refine aloneL (i := 11) rfl (by kernel_rfl) (fun K hK => ?_)
          refine step_calls_w rfl 112 _ _ rfl #[.agg #[.slice a1 u.shapes.length c1, .slice a2 u.consts.length c2, .slice a3 u.funcs.length c3, .slice a4 u.imports.length c4, .slice a5 u.exports.length c5], .agg #[.slice ap f.params.length cp, .int .i64 f.result, .slice al f.locals.length cl, .slice (some ⟨cb, coff, none⟩) f.code.length cc], .agg #[.int .i64 i.op, .int .i64 i.a, .int .i64 i.b], .slice xs s.length xc] (by simp [Act.eval]) (Tryd.callDone _ _) (HDN.out.mono ?_)
          rintro x w5 ⟨hg5, v5, out, rfl, hrq5, hout⟩
          obtain ⟨x5, y5, rfl⟩ := hrq5.to.shape
          have HG5 : Hid (Gr wm w5) := hide (Gr.trans (Gr.drew (Gr.refl _)) hg5)
          have HRQ5 := hide hrq5
          have HOUT := hide hout
          refine .inl ⟨_, rfl, ?_⟩
          clear hg5 hrq5 hout HDN
          refine hK.out _ _ (KD.out _ HG5.out) (fun hHeld => ?_)
          clear hK
          try simp only [Act.put, List.setIfInBounds_toArray, List.set_cons_zero, List.set_cons_succ]
          refine takeL (i := 12) (v := ?ev12) rfl (by kernel_rfl) (by kernel_rfl) (by kernel_rfl) (by intro c a w h; exact h) (by rfl) ?ehy12 hHeld ?erest12
          case ehy12 => (intro w hSw; (try dsimp only at hSw); go_simp <;> with_reducible rfl)
          simp only [Act.put, List.setIfInBounds_toArray, List.set_cons_zero, List.set_cons_succ]
          refine takeL (i := 13) (v := ?ev13) rfl (by kernel_rfl) (by kernel_rfl) (by kernel_rfl) (by intro c a w h; exact h) (by rfl) ?ehy13 hHeld ?erest13
          case ehy13 => (intro w hSw; (try dsimp only at hSw); go_simp <;> with_reducible rfl)
          simp only [Act.put, List.setIfInBounds_toArray, List.set_cons_zero, List.set_cons_succ]
          refine takeL (i := 14) (v := ?ev14) rfl (by kernel_rfl) (by kernel_rfl) (by kernel_rfl) (by intro c a w h; exact h) (by rfl) ?ehy14 hHeld ?erest14
          case ehy14 => (intro w hSw; (try dsimp only at hSw); go_simp <;> with_reducible rfl)
          simp only [Act.put, List.setIfInBounds_toArray, List.set_cons_zero, List.set_cons_succ]
          refine takeL (i := 15) (v := ?ev15) rfl (by kernel_rfl) (by kernel_rfl) (by kernel_rfl) (by intro c a w h; exact h) (by rfl) ?ehy15 hHeld ?erest15
          case ehy15 => (intro w hSw; (try dsimp only at hSw); go_simp <;> with_reducible rfl)
          simp only [Act.put, List.setIfInBounds_toArray, List.set_cons_zero, List.set_cons_succ]
          refine takeL (i := 16) (v := ?ev16) rfl (by kernel_rfl) (by kernel_rfl) (by kernel_rfl) (by intro c a w h; exact h) (by rfl) ?ehy16 hHeld ?erest16
          case ehy16 => (intro w hSw; (try dsimp only at hSw); go_simp <;> with_reducible rfl)
          simp only [Act.put, List.setIfInBounds_toArray, List.set_cons_zero, List.set_cons_succ]
          refine wpAnyH_done (by kernel_rfl) ?_ _
          have HPd : Hid (∀ b, wm.drew.heap.size ≤ b → ¬ b = sb ∧ ¬ b = tb) := hide (fun b hb => by
            have h1 : wm.heap.size ≤ b := hb
            exact ⟨by omega, by omega⟩)
          cases hdp : doneP u f i s with
          | none =>
            have HNo : Hid (wrongI u f = (q : Int)) := hide (by unfold wrongI; rw [HSP.out]; unfold stepP; rw [hdp])
            simp only [Option.isSome_none]
            clear hdp HSP
            go_wp2_with fail
            go_ret
            exact ⟨by rw [HNo.out]; rfl, HGm.out.trans HG5.out⟩
          | some s' =>
            obtain rfl := HOUT.out s' hdp
            have HSC : Hid (wrongP u f = match comesP s' q (nextP f q i) st with | .inl t => some t | .inr st' => lookP u f (undone f.code.length dn) st' (fun j => decide (j = q) || dn j)) := hide (by rw [HSP.out]; unfold stepP; rw [hdp])
            have HNL := hide (next_lt (q := q) hdp (fun h => by rcases h with h | h <;> omega))
            have hs'20 : s'.length ≤ 20 := by
              unfold doneP at hdp
              cases he : effP u f i with
              | none => rw [he] at hdp; cases hdp
              | some p =>
                rw [he] at hdp
                simp only [] at hdp
                split at hdp
                · cases hdp
                split at hdp
                · cases hdp
                split at hdp
                · rename_i hx; obtain rfl := Option.some.inj hdp; exact hx.1
                · cases hdp
            have HNX := hide (next_ref f q i HI.out (fun h => by rcases h with h | h <;> omega) _ _ _ w5 (HP.out.gr (HGm.out.trans HG5.out)) (HLo.out.gr (HGm.out.trans HG5.out)) (HC.out.gr (HGm.out.trans HG5.out)) (by omega))
            obtain ⟨n0, n1, n2, n3, n4, n5, n6, n7, n8, -, -, -, -⟩ := KD.out w5 HG5.out
            simp only [Option.isSome_some]
            clear hdp HSP HOUT
            go_wp2_with fail
            refine HNX.out.mono ?_
            rintro x w6 ⟨v6, rfl, hr6, hg6, hob6⟩
            obtain ⟨x6, y6, rfl⟩ := hr6.shape
            have HL6 := hide ((HLm.out.go HG5.out).go hg6)
            have HR5 : Hid (RIntsQ (fun b => ¬ b = sb ∧ ¬ b = tb) w6 (.slice x5 s'.length y5) s') := hide (HRQ5.out.mono fun b hb hl => ⟨hg6.block b hl (by simp), HPd.out b hb⟩)
            have HR6 := hide hr6
            have HOB : Hid (∀ b, (Value.slice x6 (nextI f q i).length y6).ownBlock = some b → ¬ b = sb ∧ ¬ b = tb) := hide (fun b hb => by
              have h1 := hob6 b hb
              have h2 := HG5.out.size
              exact ⟨by omega, by omega⟩)
            have hnl : (nextI f q i).length = (nextP f q i).length := by unfold nextI; rw [List.length_map]
            have hnl2 := next_len f q i
            have HNLen := hide hnl
            have HNL2 : (nextI f q i).length ≤ 2 := by omega
            have HGw := hide (HGm.out.trans (HG5.out.trans hg6))
            clear hr6 hg6 hob6 HNX hnl hnl2 HLm HRm HVQ KD HRQ5 HPd hsbl htbl n0 n1 n2 n3 n4 n5 n6 n7 n8
            go_wp2_with fail
            go_loopw [11] (fun vk w' => ∃ (k : Nat) (tv2 : Nat → Int) (vs2 : Nat → Value) (st2 : Nat → Option (List Int)), vk = .int .i64 (k : Int) ∧ k ≤ (nextI f q i).length ∧ LrAt V0 w' sb tb f.code.length tv2 vs2 st2 (fun j => decide (j = q) || dn j) ∧ comesP s' q (nextP f q i) st = comesP s' q ((nextP f q i).drop k) st2 ∧ w6.heap.size ≤ w'.heap.size ∧ ∀ b, b < w6.heap.size → ¬ b = sb → ¬ b = tb → w'.heap[b]? = w6.heap[b]?) (fun vk _ => (nextI f q i).length - (intOf vk).toNat)
            case atStart => exact ⟨0, _, _, _, rfl, Nat.zero_le _, HL6.out, rfl, Nat.le_refl _, fun b _ _ _ => rfl⟩
            case round =>
              obtain ⟨k, tv2, vs2, st2, rfl, hk, hl2, hcm, hsz, hkp⟩ := hrel
              have HL2 := hide hl2
              have HCM := hide hcm
              have HKP := hide hkp
              have HRs : Hid (RIntsQ (fun b => ¬ b = sb ∧ ¬ b = tb) wr (.slice x5 s'.length y5) s') := hide (HR5.out.mono fun b hb hl => ⟨hkp b hl hb.1 hb.2, hb⟩)
              have HGr2 := hide (HG0.out.trans hl2.gr)
              clear hl2 hcm hkp HL6
              by_cases hlt4 : k < (nextI f q i).length
              · obtain ⟨o, ho⟩ := getElem?_lt (show k < (nextP f q i).length by have := HNLen.out; omega)
                have hdr : (nextP f q i).drop k = o :: (nextP f q i).drop (k + 1) := by
                  have hkl := (List.getElem?_eq_some_iff.1 ho).1
                  rw [List.drop_eq_getElem_cons hkl]
                  rw [List.getElem?_eq_getElem hkl] at ho
                  rw [Option.some.inj ho]
                have hval := nextI_at ho
                obtain ⟨ao6, cp6, he6, _, hc6⟩ := HR6.out
                obtain ⟨b6, o6, rfl, hcell⟩ := hc6 k hlt4
                simp only [Value.slice.injEq, true_and] at he6
                obtain ⟨rfl, rfl⟩ := he6
                obtain ⟨nb1, nb2⟩ := HOB.out b6 rfl
                have hcell := (World.cell?_of_block (a := ⟨b6, o6 + k, none⟩) (HKP.out b6 (World.block_lt_of_cell? w6 _ hcell) nb1 nb2)).trans hcell
                rw [hval] at hcell
                have hki : (k : Int) < ((nextI f q i).length : Int) := by omega
                have hwk : IntKind.i64.wrap ((k : Int) + 1) = (k : Int) + 1 := Go.IntWalk.i64_in _ (by omega)
                have HDR := hide hdr
                have HO := hide ho
                clear hdr hval hc6 ho
                cases o with
                | none =>
                  have HNo : Hid (wrongI u f = (q : Int)) := hide (by unfold wrongI; rw [HSC.out, HCM.out, HDR.out]; rfl)
                  simp only [nxV] at hcell
                  clear HSC HCM HDR
                  go_wp2_with fail
                  go_ret
                  exact ⟨by rw [HNo.out]; rfl, HGr2.out⟩
                | some t =>
                  simp only [nxV] at hcell
                  have htN : t < f.code.length := HNL.out t (List.mem_of_getElem? HO.out)
                  have hti : (t : Int) < (f.code.length : Int) := by omega
                  have htg : ¬ (t : Int) < 0 := by omega
                  have htgd : decide ((t : Int) < 0) = false := by simp
                  obtain ⟨htc, htf⟩ := HL2.out.tcell htN
                  obtain ⟨hsc, hsf⟩ := HL2.out.scell htN
                  rcases HL2.out.val t htN with ⟨e0, e1, e2⟩ | ⟨e1, s0, e2, e3, e4⟩
                  · rw [e0] at htc
                    rw [e2] at hsc
                    have HSI := hide (ref_same_ints (.slice none 0 0) (.slice x5 s'.length y5) [] s' wr (rints_nil _) HRs.out.to)
                    have HE0 := hide e0
                    have HCN : Hid (comesP s' q (nextP f q i) st = comesP s' q ((nextP f q i).drop (k + 1)) (fun j => if j = t then some s' else st2 j)) := hide (by rw [HCM.out, HDR.out]; simp [comesP, e1])
                    clear e0 e1 e2 HCM HDR
                    go_wp2_with fail
                    refine HSI.out.mono ?_
                    rintro x w7 ⟨rfl, hg7⟩
                    have HL7 := hide (HL2.out.go hg7)
                    have HR7 : Hid (RIntsQ (fun b => ¬ b = sb ∧ ¬ b = tb) w7 (.slice x5 s'.length y5) s') := hide (HRs.out.mono fun b hb hl => ⟨hg7.block b hl (by simp), hb⟩)
                    have HK7 : Hid (∀ b, b < w6.heap.size → ¬ b = sb → ¬ b = tb → w7.heap[b]? = w6.heap[b]?) := hide (fun b h1 h2 h3 => (hg7.block b (by omega) (by simp)).trans (HKP.out b h1 h2 h3))
                    have hsz7 := hg7.size
                    have hcell := hg7.cell hcell (by simp)
                    have htc := hg7.cell htc (by simp)
                    have hsc := hg7.cell hsc (by simp)
                    have htf := (HL7.out.tcell htN).2
                    have hsf := (HL7.out.scell htN).2
                    have hsnt : ¬ sb = tb := HL7.out.ne
                    have htns : ¬ tb = sb := fun e => hsnt e.symm
                    have nb1' : ¬ tb = b6 := fun e => nb2 e.symm
                    generalize decide ([] = s') = bb
                    clear hg7 HSI HL2 HRs HKP
                    go_wp2_with fail
                    exact ⟨⟨k + 1, _, _, _, by simp, hlt4, HL7.out.come htN HE0.out HR7.out hs'20, HCN.out, by simp; omega, fun b h1 h2 h3 => (Below.heap_setCell _ _ _ _ h2).trans ((Below.heap_setCell _ _ _ _ h3).trans (HK7.out b h1 h2 h3))⟩, by simp [intOf]; omega⟩
                  · obtain ⟨xa, xb, hvt⟩ := e3.to.shape
                    rw [hvt] at hsc
                    have HSI := hide (ref_same_ints (.slice xa s0.length xb) (.slice x5 s'.length y5) s0 s' wr (by rw [← hvt]; exact e3.to) HRs.out.to)
                    obtain ⟨tt, htt⟩ : ∃ x, tv2 t = x := ⟨_, rfl⟩
                    rw [htt] at htc e1
                    have hpos : 0 < tt := by omega
                    have hposd : decide (0 < tt) = true := by simpa using hpos
                    have ht0 : (tt == 0) = false := by rw [beq_eq_false_iff_ne]; omega
                    clear e1 e3 hvt htt
                    go_wp2_with fail
                    refine HSI.out.mono ?_
                    rintro x w7 ⟨rfl, hg7⟩
                    have HL7 := hide (HL2.out.go hg7)
                    have HK7 : Hid (∀ b, b < w6.heap.size → ¬ b = sb → ¬ b = tb → w7.heap[b]? = w6.heap[b]?) := hide (fun b h1 h2 h3 => (hg7.block b (by omega) (by simp)).trans (HKP.out b h1 h2 h3))
                    have HG7 := hide (HGr2.out.trans hg7)
                    have hsz7 := hg7.size
                    have hcell := hg7.cell hcell (by simp)
                    have htc := hg7.cell htc (by simp)
                    by_cases heq : s0 = s'
                    · have hd : decide (s0 = s') = true := by simpa using heq
                      rw [hd]
                      have HCN : Hid (comesP s' q (nextP f q i) st = comesP s' q ((nextP f q i).drop (k + 1)) st2) := hide (by rw [HCM.out, HDR.out]; simp [comesP, e2, heq])
                      clear hd heq e2 hg7 HSI HL2 HRs HKP HCM HDR
                      go_wp2_with fail
                      exact ⟨⟨k + 1, tv2, vs2, st2, by simp, hlt4, HL7.out, HCN.out, by omega, HK7.out⟩, by simp [intOf]; omega⟩
                    · have hd : decide (s0 = s') = false := by simpa using heq
                      rw [hd]
                      have HNo : Hid (wrongI u f = (t : Int)) := hide (by unfold wrongI; rw [HSC.out, HCM.out, HDR.out]; simp [comesP, e2, heq])
                      clear hd heq e2 hg7 HSI HL2 HRs HKP HCM HDR HSC
                      go_wp2_with fail
                      go_ret
                      exact ⟨by rw [HNo.out]; rfl, HG7.out⟩
              · have hkk : k = (nextI f q i).length := by omega
                subst hkk
                have HWN : Hid (wrongP u f = lookP u f (undone f.code.length dn) st2 (fun j => decide (j = q) || dn j)) := hide (by
                  have e : (nextP f q i).drop (nextI f q i).length = [] := by rw [HNLen.out, List.drop_length]
                  rw [HSC.out, HCM.out, e]; rfl)
                clear HSC HCM hlt4 hk
                go_wp2_with fail
                go_roundg (undone f.code.length (fun j => decide (j = q) || dn j) + 1)
                case measure => have := HUD.out; omega
                case rel => exact ⟨tv2, vs2, st2, _, rfl, HL2.out, by rw [HWN.out, HUD.out]⟩
        · have hb : (tq != 1) = true := by simp [h1]
          have HM2 : Hid (∀ j, j < q + 1 → ¬ tv j = 1) := hide (fun j hj => by
            by_cases e : j = q
            · subst e; rw [htq]; exact h1
            · exact HMin.out j (by omega))
          clear h1 htq
          go_wp2_with fail
          exact ⟨⟨by first | rfl | trivial, q + 1, by simp, hlt, HM2.out⟩, by simp [intOf]; omega⟩
      · have hqq : q = f.code.length := by omega
        subst hqq
        have hbe : ((f.code.length : Int) == (f.code.length : Int)) = true := by simp
        have HNo : Hid (wrongI u f = -1) := hide (by
          unfold wrongI
          rw [HWk.out, lookP_none (HL.out.no HMin.out)])
        have HGF := hide (HG0.out.trans HL.out.gr)
        clear hlt hq
        go_wp2_with fail
        go_ret
        exact ⟨by rw [HNo.out]; rfl, HGF.out⟩
end Go.Proofs.YtkgncijcnlfhiaaDoor

