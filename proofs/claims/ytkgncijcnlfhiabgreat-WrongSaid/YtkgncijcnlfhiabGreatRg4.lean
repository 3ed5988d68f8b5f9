import Derived.Test.YtkgncijcnlfhiabGreatNs
import Derived.Test.YtkgncijcnlfhiabGreatZq
import Derived.Test.YtkgncijcnlfhiabGreatW4
import Derived.Test.YtkgncijcnlfhiabGreatNl
namespace Go.Proofs.YtkgncijcnlfhiabGreat
set_option linter.unusedVariables false
set_option linter.unusedSimpArgs false
open Go.RowKit
attribute [local go_sem ↓] Go.wp_at_zero Go.wp_at_succ
set_option maxRecDepth 100000 in
set_option maxHeartbeats 1000000 in
theorem kop_any (o a : Int) (w : World) : Calls Tryz.prog 10 #[.int .i64 o, .int .i64 a] w fun x w' => x = .returned (.agg #[.int .i64 o, .int .i64 a, .int .i64 0]) ∧ Gr w w' := by
  go_enter Tryz.func10, Tryz.ntmps10
  go_wp2_with fail
  exact bodyPost_ret (v := .agg #[.int .i64 o, .int .i64 a, .int .i64 0]) (by simp [results, Tryz.results10, go_sem]) rfl ⟨rfl, (Gr.refl _).alloc _⟩
def mainV : Value := .string ⟨#[109, 97, 105, 110]⟩
/-- a unit of one function -/
def PrgR (vs vl vc : Value) (w : World) (x : Ending) (w' : World) : Prop := ∃ fb eb, x = .returned (.agg #[vs, .slice none 0 0, .slice (some ⟨fb, 0, none⟩) 1 1, .slice none 0 0, .slice (some ⟨eb, 0, none⟩) 1 1]) ∧ w'.heap[fb]? = some (.cells #[.slice none 0 0, .int .i64 0, vl, vc] 47 (0, 0)) ∧ w'.heap[eb]? = some (.cells #[mainV, .int .i64 0] 60 (0, 0)) ∧ w.heap.size ≤ fb ∧ w.heap.size ≤ eb ∧ Gr w w'
set_option maxRecDepth 100000 in
set_option maxHeartbeats 1000000 in
theorem program_any (sa la ca : Option Addr) (sn ln cn sc lc cc : Nat) (w : World) : Calls Tryz.prog 11 #[.slice sa sn sc, .slice la ln lc, .slice ca cn cc] w (PrgR (.slice sa sn sc) (.slice la ln lc) (.slice ca cn cc) w) := by
  go_enter Tryz.func11, Tryz.ntmps11
  go_wp2_with fail
  have h0 := heap_alloc_new (w.alloc (.cells #[.slice sa sn sc, .slice none 0 0, .slice (some ⟨w.heap.size + 1, 0, none⟩) 1 1, .slice none 0 0, .slice (some ⟨w.heap.size + 1 + 1, 0, none⟩) 1 1] 29)) (.cells #[.slice none 0 0, .int .i64 0, .slice la ln lc, .slice ca cn cc] 47)
  have h1 := heap_alloc_new ((w.alloc (.cells #[.slice sa sn sc, .slice none 0 0, .slice (some ⟨w.heap.size + 1, 0, none⟩) 1 1, .slice none 0 0, .slice (some ⟨w.heap.size + 1 + 1, 0, none⟩) 1 1] 29)).alloc (.cells #[.slice none 0 0, .int .i64 0, .slice la ln lc, .slice ca cn cc] 47)) (.cells #[mainV, .int .i64 0] 60)
  have s1 : (w.alloc (.cells #[.slice sa sn sc, .slice none 0 0, .slice (some ⟨w.heap.size + 1, 0, none⟩) 1 1, .slice none 0 0, .slice (some ⟨w.heap.size + 1 + 1, 0, none⟩) 1 1] 29)).heap.size = w.heap.size + 1 := by simp
  have s2 : ((w.alloc (.cells #[.slice sa sn sc, .slice none 0 0, .slice (some ⟨w.heap.size + 1, 0, none⟩) 1 1, .slice none 0 0, .slice (some ⟨w.heap.size + 1 + 1, 0, none⟩) 1 1] 29)).alloc (.cells #[.slice none 0 0, .int .i64 0, .slice la ln lc, .slice ca cn cc] 47)).heap.size = w.heap.size + 1 + 1 := by simp
  rw [s1] at h0
  rw [s2] at h1
  refine bodyPost_ret (v := .agg #[.slice sa sn sc, .slice none 0 0, .slice (some ⟨w.heap.size + 1, 0, none⟩) 1 1, .slice none 0 0, .slice (some ⟨w.heap.size + 1 + 1, 0, none⟩) 1 1]) (by simp [results, Tryz.results11, go_sem]) rfl ?_
  exact ⟨w.heap.size + 1, w.heap.size + 1 + 1, rfl, (((Gr.refl _).alloc _ : Gr _ _).block _ (by rw [s2]; omega) (by simp)).trans h0, h1, by omega, by omega, (((Gr.refl w).alloc _).alloc _).alloc _⟩
/-- texts in a list of one's own -/
theorem rtexts_of {w : World} {B : Nat} {e : TypeId} {v : Value} {es : List ByteArray} (h : w.ownsRow B e 1 v es.length (es.map fun s => Value.string s)) (hs : ∀ s ∈ es, s.size ≤ maxLen) : RTexts w v (es.map fun s => s.data.toList) := by
  obtain ⟨ao, cap, rfl⟩ := own_shape_ h
  refine ⟨ao, cap, by simp, by simpa using own_len h, fun i x hi => ?_⟩
  simp only [List.getElem?_map, Option.map_eq_some_iff] at hi
  obtain ⟨s, he, rfl⟩ := hi
  have hl : i < es.length := (List.getElem?_eq_some_iff.1 he).1
  obtain ⟨b, cp, e1, e2⟩ := own_cell h (j := i) (by omega)
  simp only [Value.slice.injEq, true_and] at e1
  exact ⟨b, 0, s, e1.1, by rw [Nat.zero_add, e2]; simp [he], rfl, hs s (List.mem_of_getElem? he)⟩
theorem Tryz.infTx : (Tryz.prog.info? 9).map (fun i => (i.zero, i.size, i.bytes)) = some (some (.string ⟨#[]⟩), 1, 16) := by kernel_rfl
theorem Tryz.uTx : Tryz.prog.underlying 55 = some (.slice 9) := by kernel_rfl
/-- a unit that is written -/
structure Wrt (u : PUnit) : Prop where
  ok : unitOk u = true
  fit : Fits u
  len : (enc u).length ≤ 20000
theorem Wrt.dec {u : PUnit} (h : Wrt u) : dec (enc u) = .inl u ∧ 40 ≤ (enc u).length := by
  have hd := dec_tail h.ok h.fit [] (by simp; exact h.len)
  rw [List.append_nil, if_pos rfl] at hd
  exact ⟨hd, (dec_ok hd).2.2.2.2⟩
theorem Wrt.all {l : List PUnit} (h : ∀ u ∈ l, Wrt u) : ∀ k, decAll k (l.map enc) = .inl l := by
  induction l with
  | nil => intro k; rfl
  | cons u l ih =>
    intro k
    rw [List.map_cons, decAll, (h u List.mem_cons_self).dec.1, ih (fun v hv => h v (List.mem_cons_of_mem _ hv)) (k + 1)]
def encS (u : PUnit) : ByteArray := ⟨(enc u).toArray⟩
theorem encS_size (u : PUnit) : (encS u).size = (enc u).length := by show (enc u).toArray.size = _; simp
def KrR (W : World) (o : POut) (x : Ending) (w' : World) : Prop := ∃ vo, x = .returned (.tuple #[vo, .bool true]) ∧ ROutF W.heap.size w' vo o ∧ Gr W w'

set_option maxRecDepth 100000 in
set_option maxHeartbeats 2000000 in
theorem krun_any (M : PUnit → POut) (fuel heap : Int) (l : List PUnit) (vl : Value) (W : World) (hR : RUnits W vl l) (hw : ∀ u ∈ l, Wrt u) (hM : MachC M fuel heap l) (hll : l.length ≤ 1000) :
    Calls Tryz.prog 8 #[vl, .int .i64 fuel, .int .i64 heap] W (KrR W (runP M (l.map enc) fuel heap)) := by
  obtain ⟨ao, cap, rfl, hm, hc⟩ := hR
  have HC := hide hc
  have HW := hide hw
  have HM := hide hM
  have HB0 := hide (heap_alloc_new W (.cells #[.int .i64 0, .int .i64 0, .int .i64 0, .int .i64 0, .int .i64 0, .slice none 0 0, .int .i64 0] 35))
  have HGV : Hid (Gr W (W.alloc (.cells #[.int .i64 0, .int .i64 0, .int .i64 0, .int .i64 0, .int .i64 0, .slice none 0 0, .int .i64 0] 35))) := hide ((Gr.refl W).alloc _)
  have HSV : Hid ((W.alloc (.cells #[.int .i64 0, .int .i64 0, .int .i64 0, .int .i64 0, .int .i64 0, .slice none 0 0, .int .i64 0] 35)).heap.size = W.heap.size + 1) := hide (by simp)
  clear hc hw hM hm
  go_enter Tryz.func8, Tryz.ntmps8
  go_wp2_with fail
  generalize (W.alloc (.cells #[.int .i64 0, .int .i64 0, .int .i64 0, .int .i64 0, .int .i64 0, .slice none 0 0, .int .i64 0] 35)) = V at HB0 HGV HSV ⊢
  go_loopw [8, 9] (fun vb i wr => ∃ k : Nat, i = .int .i64 (k : Int) ∧ k ≤ l.length ∧ wr.ownsRow V.heap.size 9 1 vb ((l.take k).map encS).length (((l.take k).map encS).map fun s => Value.string s) ∧ Gr V wr) (fun _ i _ => l.length - (intOf i).toNat)
  case atStart => exact ⟨0, rfl, Nat.zero_le _, World.ownsRow_nil _ _ _ _, Gr.refl _⟩
  case round =>
    obtain ⟨k, rfl, hk, hown, hgr⟩ := hrel
    have HOW := hide hown
    have HGR := hide hgr
    obtain ⟨bao, bcp, rfl⟩ := own_shape_ hown
    clear hown hgr
    generalize hnb : ((l.take k).map encS).length = nb at HOW ⊢
    have HNB := hide hnb
    clear hnb
    by_cases hlt : k < l.length
    · obtain ⟨u, hu⟩ := getElem?_lt hlt
      obtain ⟨b, off, v1, v2, v3, v4, v5, rfl, k1, k2, k3, k4, k5, hru⟩ := HC.out k u hu
      have hgW := HGV.out.trans HGR.out
      have k1 := hgW.cell k1 (by simp)
      have k2 := hgW.cell k2 (by simp)
      have k3 := hgW.cell k3 (by simp)
      have k4 := hgW.cell k4 (by simp)
      have k5 := hgW.cell k5 (by simp)
      have hwt := HW.out u (List.mem_of_getElem? hu)
      have e1 : encErr u = 0 := by unfold encErr; rw [hwt.ok, if_pos rfl, if_pos hwt.len]
      have e2 : encStr u = enc u := by unfold encStr; rw [hwt.ok, if_pos rfl, if_pos hwt.len]
      have HEN := hide (encode_any u _ wr (hru.gr hgW) hwt.fit)
      rw [e1, e2] at HEN
      have hge := hwt.dec.2
      have hle := hwt.len
      obtain ⟨S, hS⟩ : ∃ S : ByteArray, S = ⟨(enc u).toArray⟩ := ⟨_, rfl⟩
      rw [← hS] at HEN
      have hSz : S.size = (enc u).length := by rw [hS]; exact encS_size u
      have hS40 : ¬ (S.size : Int) < 40 := by omega
      have hd40 : decide ((S.size : Int) < 40) = false := by simpa using hS40
      have hS40n : ¬ S.size < 40 := by omega
      have hki : (k : Int) < (l.length : Int) := by omega
      have hw1 : IntKind.i64.wrap ((k : Int) + 1) = (k : Int) + 1 := Go.IntWalk.i64_in _ (by omega)
      have HTK : Hid ((l.take (k + 1)).map encS = (l.take k).map encS ++ [S]) := hide (by
        obtain ⟨hk', rfl⟩ := List.getElem?_eq_some_iff.1 hu
        rw [List.take_succ_eq_append_getElem hk', List.map_append, hS]; rfl)
      obtain ⟨⟨a1, c1, rfl⟩, ⟨a2, c2, rfl⟩, ⟨a3, c3, rfl⟩, ⟨a4, c4, rfl⟩, ⟨a5, c5, rfl⟩⟩ := hru.slices
      have hbl : nb ≤ 1000 := by have := HNB.out; simp at this; omega
      clear hu hru hwt e1 e2 hge hle hS hSz hgW
      go_wp2_with fail
      refine HEN.out.mono ?_
      rintro x w2 ⟨rfl, hb2⟩
      have hg2 := below_Gr hb2
      have gA := hg2.alloc (.cells #[.string S] 9)
      obtain ⟨v6, w6, hr6, ho6, hg6, hl6⟩ := app_rows (ty := 55) 55 9 _ Tryz.infTx Tryz.uTx rfl (by decide) (by decide) (own_gr HOW.out gA) (rrow_new w2 #[.string S] 9 1) rfl (by intro q hq; simp at hq; subst hq; rfl) (by omega) (by have := HGR.out.size; have := gA.size; omega)
      obtain ⟨bao6, bcp6, rfl⟩ := own_shape_ ho6
      have hgn : Gr V w6 := ⟨hg6.os.trans (HGR.out.trans gA).os, hg6.tape.trans (HGR.out.trans gA).tape, hg6.output.trans (HGR.out.trans gA).output, Nat.le_trans (HGR.out.trans gA).size hg6.size, fun i hi hne => (hg6.block i (Nat.lt_of_lt_of_le hi (HGR.out.trans gA).size) (fun e => by have := (HOW.out.lt i e.symm).1; omega)).trans ((HGR.out.trans gA).block i hi hne)⟩
      have HR6 := hide hr6
      have HO6 := hide ho6
      have HGN := hide hgn
      clear hb2 hg2 gA hr6 ho6 hg6 hl6 hgn HEN k1 k2 k3 k4 k5
      go_wp2_with (at_builtin; refine Lib.wpList_append_run _ rfl _ _ _ _ rfl _ _ rfl rfl _ _ HR6.out ?_)
      refine ⟨⟨k + 1, by simp, hlt, ?_, HGN.out⟩, by simp [intOf]; omega⟩
      rw [HTK.out, List.length_append, List.map_append, HNB.out]
      exact HO6.out
    · have hkk : k = l.length := by omega
      subst hkk
      have HRT := hide (rtexts_of (es := (l.take l.length).map encS) (by rw [HNB.out]; exact HOW.out) (fun s hs => by
        simp only [List.mem_map] at hs
        obtain ⟨u, hu, rfl⟩ := hs
        have := (HW.out u (List.mem_of_mem_take hu)).len
        rw [encS_size]; unfold maxLen; omega))
      rw [List.take_length] at HRT
      have e : (l.map encS).map (fun s => s.data.toList) = l.map enc := by rw [List.map_map]; rfl
      rw [e] at HRT
      have HRN := hide (run_any M fuel heap (l.map enc) _ wr (fun u => through_any u) HRT.out (fun us h => by rw [Wrt.all HW.out 0] at h; obtain rfl := Sum.inl.inj h; exact HM.out) (by simp; omega))
      clear hlt hk e
      go_wp2_with fail
      refine HRN.out.mono ?_
      rintro x w2 ⟨vo, rfl, ⟨vt, rfl, hvt⟩, hg2⟩
      obtain ⟨ta, tc, rfl⟩ := hvt.shape
      generalize hoo : runP M (l.map enc) fuel heap = o at hvt HRN ⊢
      have HOO := hide hoo
      clear hoo
      have gA := (Gr.refl w2).alloc (.cells #[.int .i64 o.why, .int .i64 o.unit, .int .i64 o.at_, .int .i64 o.e, .int .i64 o.result, .slice ta o.told.length tc, .int .i64 o.steps] 35)
      have HGF := hide (HGR.out.trans (hg2.trans gA))
      have hbk := (HGF.out.block W.heap.size (by have := HSV.out; omega) (by simp)).trans HB0.out
      have HBK := hide hbk
      have HVT := hide (hvt.kp (B := wr.heap.size) gA.kp)
      have HXB := hide (heap_alloc_new w2 (.cells #[.int .i64 o.why, .int .i64 o.unit, .int .i64 o.at_, .int .i64 o.e, .int .i64 o.result, .slice ta o.told.length tc, .int .i64 o.steps] 35))
      obtain ⟨⟨o0, o1, o2, o3, o4, o5, o6⟩, f0, f1, f2, f3, f4, f5, f6⟩ := out_cells hbk
      have hlt2 : W.heap.size < w2.heap.size := by have := HSV.out; have := HGR.out.size; have := hg2.size; omega
      have hnw : ¬ W.heap.size = w2.heap.size := by omega
      clear hvt hg2 gA HRN
      go_upto_region 10 with fail
      generalize w2.alloc (.cells #[.int .i64 o.why, .int .i64 o.unit, .int .i64 o.at_, .int .i64 o.e, .int .i64 o.result, .slice ta o.told.length tc, .int .i64 o.steps] 35) = wE at HGF HBK HVT HXB hbk o0 o1 o2 o3 o4 o5 o6 f0 f1 f2 f3 f4 f5 f6 ⊢
      have x0 : wE.cell? ⟨w2.heap.size, 0, none⟩ = some (.int .i64 o.why) := by rw [hcell_ HXB.out]; rfl
      have x1 : wE.cell? ⟨w2.heap.size, 1, none⟩ = some (.int .i64 o.unit) := by rw [hcell_ HXB.out]; rfl
      have x2 : wE.cell? ⟨w2.heap.size, 2, none⟩ = some (.int .i64 o.at_) := by rw [hcell_ HXB.out]; rfl
      have x3 : wE.cell? ⟨w2.heap.size, 3, none⟩ = some (.int .i64 o.e) := by rw [hcell_ HXB.out]; rfl
      have x4 : wE.cell? ⟨w2.heap.size, 4, none⟩ = some (.int .i64 o.result) := by rw [hcell_ HXB.out]; rfl
      have x5 : wE.cell? ⟨w2.heap.size, 5, none⟩ = some (.slice ta o.told.length tc) := by rw [hcell_ HXB.out]; rfl
      have x6 : wE.cell? ⟨w2.heap.size, 6, none⟩ = some (.int .i64 o.steps) := by rw [hcell_ HXB.out]; rfl
      clear hbk
      go_wp2_with fail
      rw [put7_eq]
      have hwb := put7_same (y0 := .int .i64 o.why) (y1 := .int .i64 o.unit) (y2 := .int .i64 o.at_) (y3 := .int .i64 o.e) (y4 := .int .i64 o.result) (y5 := .slice ta o.told.length tc) (y6 := .int .i64 o.steps) HBK.out
      have hwf : ∀ q, ¬ q = W.heap.size → (put7 wE W.heap.size (.int .i64 o.why) (.int .i64 o.unit) (.int .i64 o.at_) (.int .i64 o.e) (.int .i64 o.result) (.slice ta o.told.length tc) (.int .i64 o.steps)).heap[q]? = wE.heap[q]? := fun q hq => put7_other hq
      have hws : (put7 wE W.heap.size (.int .i64 o.why) (.int .i64 o.unit) (.int .i64 o.at_) (.int .i64 o.e) (.int .i64 o.result) (.slice ta o.told.length tc) (.int .i64 o.steps)).heap.size = wE.heap.size := put7_size
      have hWEe := put7_e wE W.heap.size (.int .i64 o.why) (.int .i64 o.unit) (.int .i64 o.at_) (.int .i64 o.e) (.int .i64 o.result) (.slice ta o.told.length tc) (.int .i64 o.steps)
      generalize put7 wE W.heap.size (.int .i64 o.why) (.int .i64 o.unit) (.int .i64 o.at_) (.int .i64 o.e) (.int .i64 o.result) (.slice ta o.told.length tc) (.int .i64 o.steps) = WE at hwb hwf hws hWEe ⊢
      have t0 : WE.cell? ⟨W.heap.size, 0, none⟩ = some (.int .i64 o.why) := by rw [hcell_ hwb]; rfl
      have t1 : WE.cell? ⟨W.heap.size, 1, none⟩ = some (.int .i64 o.unit) := by rw [hcell_ hwb]; rfl
      have t2 : WE.cell? ⟨W.heap.size, 2, none⟩ = some (.int .i64 o.at_) := by rw [hcell_ hwb]; rfl
      have t3 : WE.cell? ⟨W.heap.size, 3, none⟩ = some (.int .i64 o.e) := by rw [hcell_ hwb]; rfl
      have t4 : WE.cell? ⟨W.heap.size, 4, none⟩ = some (.int .i64 o.result) := by rw [hcell_ hwb]; rfl
      have t5 : WE.cell? ⟨W.heap.size, 5, none⟩ = some (.slice ta o.told.length tc) := by rw [hcell_ hwb]; rfl
      have t6 : WE.cell? ⟨W.heap.size, 6, none⟩ = some (.int .i64 o.steps) := by rw [hcell_ hwb]; rfl
      refine bodyPost_ret (v := .tuple #[.agg #[.int .i64 o.why, .int .i64 o.unit, .int .i64 o.at_, .int .i64 o.e, .int .i64 o.result, .slice ta o.told.length tc, .int .i64 o.steps], .bool true]) (by simp [results, Tryz.results8, go_sem, t0, t1, t2, t3, t4, t5, t6]) rfl ?_
      have hgf := HGV.out.trans HGF.out
      rw [HOO.out]
      exact ⟨_, rfl, ⟨_, rfl, (HVT.out.kp (fun q hq _ => hwf q (by have := HGR.out.size; have := HSV.out; omega))).mono (B := W.heap.size) (by have := HGR.out.size; have := HSV.out; omega)⟩, ⟨hWEe.1.trans hgf.os, hWEe.2.1.trans hgf.tape, hWEe.2.2.trans hgf.output, by rw [hws]; exact hgf.size, fun i hi hne => (hwf i (by omega)).trans (hgf.block i hi hne)⟩⟩
end Go.Proofs.YtkgncijcnlfhiabGreat

namespace Go.Proofs.YtkgncijcnlfhiabGreat
set_option linter.unusedVariables false
set_option linter.unusedSimpArgs false
open Go.RowKit
section
variable {P : Program} {l : List Oper} {md : Region.Mode} {Q : Exit → Act → World → Prop} {S : World → Prop}
theorem one_ofZ {z i : Nat} {o : Oper} {fuel : Nat} {listed : Array Bool} {a : Act} {w : World} {R : Value → World → Prop} (ho : l[i]? = some o) (hw : Region.wanted o (yielded l.toArray a.tmps) = true)
    (h : ∀ K : Act → World → Prop, (∀ v w2, R v w2 → K (a.put o.dst v) w2) → o.wp P a w K Q) (rest : ∀ v w2, R v w2 → S w2 ∧ wpAnyZ P md l.toArray Q S z fuel (listed.setIfInBounds i true) (a.put o.dst v) w2) :
    wpOp P l.toArray Q i (fun a' w' => (i ≠ z → S w') ∧ wpAnyZ P md l.toArray Q S z fuel (listed.setIfInBounds i true) a' w') a w := by
  refine wpOp_step (o := o) (by simpa using ho) (fun K hK => ?_)
  rw [if_pos hw]
  exact h K (fun v w2 hr => hK _ _ ⟨fun _ => (rest v w2 hr).1, (rest v w2 hr).2⟩)
/-- two operations in whatever order, and what both leave -/
theorem phase2z {z x y : Nat} {ox oy : Oper} {fuel : Nat} {listed : Array Bool} {a : Act} {w : World} (hx : l[x]? = some ox) (hy : l[y]? = some oy) (hs : Region.noSelect l.toArray = true) (hap : ox.apart l.toArray oy = true) (hne : x ≠ y)
    (hr : Region.ready md l.toArray listed = [x, y]) (hrx : Region.ready md l.toArray (listed.setIfInBounds x true) = [y]) (hry : Region.ready md l.toArray (listed.setIfInBounds y true) = [x])
    (hwx : Region.wanted ox (yielded l.toArray a.tmps) = true) (hwy : Region.wanted oy (yielded l.toArray a.tmps) = true)
    (hQ : ∀ c a d v w, Q (.panic c) a w → Q (.panic c) (a.put d v) w) (PX PY : Value → World → Prop) (R : Value → Value → World → Prop) (hSX : ∀ v w, PX v w → S w) (hSY : ∀ v w, PY v w → S w) (hSR : ∀ vx vy w, R vx vy w → S w)
    (stepX : ∀ K : Act → World → Prop, (∀ v w2, PX v w2 → K (a.put ox.dst v) w2) → ox.wp P a w K Q)
    (stepXY : ∀ vx w', PX vx w' → ∀ K : Act → World → Prop, (∀ v w2, R vx v w2 → K (a.put oy.dst v) w2) → oy.wp P a w' K Q)
    (stepY : ∀ K : Act → World → Prop, (∀ v w2, PY v w2 → K (a.put oy.dst v) w2) → oy.wp P a w K Q)
    (stepYX : ∀ vy w', PY vy w' → ∀ K : Act → World → Prop, (∀ v w2, R v vy w2 → K (a.put ox.dst v) w2) → ox.wp P a w' K Q)
    (rest : ∀ vx vy w', R vx vy w' → wpAnyZ P md l.toArray Q S z fuel ((listed.setIfInBounds x true).setIfInBounds y true) ((a.put ox.dst vx).put oy.dst vy) w') :
    wpAnyZ P md l.toArray Q S z (fuel + 1 + 1) listed a w := by
  obtain ⟨h1, h2, h3⟩ := Oper.apart_spec hap
  have hsx : ∀ cs b, ox.op ≠ .select cs b := fun cs b => Region.noSelect_spec hs x ox cs b (by simpa using hx)
  have hsy : ∀ cs b, oy.op ≠ .select cs b := fun cs b => Region.noSelect_spec hs y oy cs b (by simpa using hy)
  have h2' : ∀ d, oy.dst = some d → ox.dst ≠ some d := fun d hd e => h2 d e hd
  refine ⟨fun h0 => absurd (hr ▸ h0) (by simp), hr ▸ fun i hi => ?_⟩
  rcases List.mem_cons.1 hi with rfl | hi
  · refine one_ofZ hx hwx stepX ?_
    intro vx w2 px
    refine ⟨hSX _ _ px, ⟨fun h0 => absurd (hrx ▸ h0) (by simp), hrx ▸ fun i hi => ?_⟩⟩
    rcases List.mem_cons.1 hi with rfl | hi
    · refine one_ofZ hy ((wanted_put oy a ox.dst vx h1).trans hwy) (wp_moved (ops := l.toArray) hsy h1 h2 (fun c a v w => hQ c a _ v w) (stepXY vx w2 px)) ?_
      intro vy w3 r
      exact ⟨hSR _ _ _ r, rest vx vy w3 r⟩
    · cases hi
  · rcases List.mem_cons.1 hi with rfl | hi
    · refine one_ofZ hy hwy stepY ?_
      intro vy w2 py
      refine ⟨hSY _ _ py, ⟨fun h0 => absurd (hry ▸ h0) (by simp), hry ▸ fun i hi => ?_⟩⟩
      rcases List.mem_cons.1 hi with rfl | hi
      · refine one_ofZ hx ((wanted_put ox a oy.dst vy h3).trans hwx) (wp_moved (ops := l.toArray) hsx h3 h2' (fun c a v w => hQ c a _ v w) (stepYX vy w2 py)) ?_
        intro vx w3 r
        refine ⟨hSR _ _ _ r, ?_⟩
        have := rest vx vy w3 r
        rw [Array.setIfInBounds_comm _ _ hne, Act.put_comm a vx vy h2] at this
        exact this
      · cases hi
    · cases hi
end
end Go.Proofs.YtkgncijcnlfhiabGreat

