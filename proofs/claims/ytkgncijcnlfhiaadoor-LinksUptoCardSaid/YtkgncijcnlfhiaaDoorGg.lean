import Derived.Test.YtkgncijcnlfhiaaDoorK7
import Derived.Test.YtkgncijcnlfhiaaDoorGd
import Derived.Test.YtkgncijcnlfhiaaDoorKe
namespace Go.Proofs.YtkgncijcnlfhiaaDoor
set_option linter.unusedVariables false
set_option linter.unusedSimpArgs false
open Go.RowKit
def noU : PUnit := ⟨[], [], [], [], []⟩
theorem noU_r (w : World) : RUnit w (.agg #[.slice none 0 0, .slice none 0 0, .slice none 0 0, .slice none 0 0, .slice none 0 0]) noU :=
  ⟨_, _, _, _, _, rfl, ⟨none, 0, rfl, Nat.zero_le _, fun i x h => by simp [noU] at h⟩, ⟨none, 0, rfl, Nat.zero_le _, fun i h => by simp [noU] at h⟩, ⟨none, 0, rfl, Nat.zero_le _, fun i x h => by simp [noU] at h⟩, ⟨none, 0, rfl, Nat.zero_le _, fun i x h => by simp [noU] at h⟩, ⟨none, 0, rfl, Nat.zero_le _, fun i x h => by simp [noU] at h⟩⟩
def linkO (l : List PUnit) : PUnit × Int × Nat := match linkP l with
  | .inl u => (u, 0, 0)
  | .inr (e, k) => (noU, e, k)
/-- it is read wherever its blocks stand -/
theorem LnkV.reads {C : Nat} {w wA : World} {v : Value} {u : PUnit} (h : LnkV C w v u) (hs : w.heap.size ≤ wA.heap.size) (g : ∀ k, C ≤ k → k < w.heap.size → wA.heap[k]? = w.heap[k]?) : RUnit wA v u := by
  obtain ⟨v1, v2, v3, v5, es1, cs, es3, es5, ρ, B, rfl, hCB, ho, rfl, hx⟩ := h
  have m : ∀ (r : Rl) (e : TypeId) (n len : Nat) (v : Value) (xs : List Value), Ow ρ r w B e n v len xs → Ow ρ r wA B e n v len xs := fun r e n len v xs h => ⟨own_at_ h.1 fun k hk => g k (Nat.le_trans hCB (h.1.lt k hk).1) (h.1.lt k hk).2, h.2⟩
  exact OU.runit ⟨Nat.le_trans ho.bs hs, m _ _ _ _ _ _ ho.o1, fun i e he => m _ _ _ _ _ _ (ho.o1i i e he), m _ _ _ _ _ _ ho.o2, m _ _ _ _ _ _ ho.o3, fun i e he => ⟨m _ _ _ _ _ _ (ho.o3i i e he).1, m _ _ _ _ _ _ (ho.o3i i e he).2.1, m _ _ _ _ _ _ (ho.o3i i e he).2.2⟩, m _ _ _ _ _ _ ho.o5⟩ hx
/-- what came out is its own: lists in blocks from C to N, that may be written in a book as long as these blocks stay -/
structure OwnsU (u : PUnit) (db C N : Nat) (w2 : World) (v1 v2 v3 v4 v5 : Value) (r : Nat → BR) (es1 : List (Value × Nat)) (n2 : Nat) (es3 : List UF) (n5 : Nat) : Prop where
  l1 : es1.length ≤ 20
  l3 : es3.length ≤ 30
  l5 : n5 ≤ 20
  role : ∀ k, r k ≠ .no → C ≤ k ∧ k < N
  uno : ∀ wA : World, (∀ k, C ≤ k → k < N → wA.heap[k]? = w2.heap[k]?) → ∀ ρ : Nat → BR, (∀ k, r k ≠ .no → ρ k = r k) → UnO db v1 v2 v3 v4 v5 es1 n2 es3 [] n5 ρ wA
  back : ∀ wA : World, w2.heap.size ≤ wA.heap.size → (∀ k, C ≤ k → k < N → wA.heap[k]? = w2.heap[k]?) → RUnit wA (.agg #[v1, v2, v3, v4, v5]) u
def LkUni (db : Nat) (W : World) (l : List PUnit) (x : Ending) (w' : World) : Prop :=
  ∃ a1 n1 c1 a2 n2 c2 a3 n3 c3 a4 n4 c4 a5 n5 c5, x = .returned (.tuple #[.agg #[.slice a1 n1 c1, .slice a2 n2 c2, .slice a3 n3 c3, .slice a4 n4 c4, .slice a5 n5 c5], .int .i64 (linkO l).2.1, .int .i64 ((linkO l).2.2 : Int)]) ∧ Gr W w' ∧ RUnit w' (.agg #[.slice a1 n1 c1, .slice a2 n2 c2, .slice a3 n3 c3, .slice a4 n4 c4, .slice a5 n5 c5]) (linkO l).1 ∧
    ∃ r es1 m2 es3 m5, OwnsU (linkO l).1 db W.heap.size w'.heap.size w' (.slice a1 n1 c1) (.slice a2 n2 c2) (.slice a3 n3 c3) (.slice a4 n4 c4) (.slice a5 n5 c5) r es1 m2 es3 m5
theorem LinkR.uni {db : Nat} {W : World} {l : List PUnit} {x : Ending} {w' : World} (h : LinkR W l x w') (hdb : db + 1 ≤ W.heap.size) : LkUni db W l x w' := by
  obtain ⟨hg, h⟩ := h
  rcases h with ⟨v, u, hl, rfl, hv⟩ | ⟨e, k, hl, rfl⟩
  · have e1 : linkO l = (u, 0, 0) := by unfold linkO; rw [hl]
    have hlen := link_lens hl
    obtain ⟨v1, v2, v3, v5, es1, es3, r, rfl, q1, q3, hr, hU⟩ := lnk_uno hv hdb hlen
    obtain ⟨a1, a2, a3, a5, n1, n2, n3, n5, c1, c2, c3, c5, ev⟩ := hv.slices
    have hru := hv.runit
    simp only [Value.agg.injEq, Array.mk.injEq, List.cons.injEq, and_true, true_and] at ev
    obtain ⟨rfl, rfl, rfl, rfl⟩ := ev
    exact ⟨a1, n1, c1, a2, n2, c2, a3, n3, c3, none, 0, 0, a5, n5, c5, by rw [e1]; rfl, hg, by rw [e1]; exact hru, r, es1, _, es3, _, by rw [q1]; exact hlen.shapes, by rw [q3]; exact hlen.funcs, hlen.exports, hr, hU, fun wA hs g => by rw [e1]; exact hv.reads hs g⟩
  · have e1 : linkO l = (noU, e, k) := by unfold linkO; rw [hl]
    refine ⟨none, 0, 0, none, 0, 0, none, 0, 0, none, 0, 0, none, 0, 0, by rw [e1], hg, by rw [e1]; exact noU_r _, fun _ => .no, [], 0, [], 0, by decide, by decide, by decide, fun k hk => absurd rfl hk, fun wA _ ρ _ => UnO.nils db ρ wA, fun wA _ _ => by rw [e1]; exact noU_r _⟩
theorem LkR.uni {w0 w : World} {l : List PUnit} {x : Ending} {w' : World} (h : LkR w0 w (linkP l) x w') (hs : w0.heap.size ≤ w.heap.size) (hb : ∀ b, b < w0.heap.size → w.heap[b]? = w0.heap[b]?) : ∃ a1 n1 c1 a2 n2 c2 a3 n3 c3 a4 n4 c4 a5 n5 c5, x = .returned (.tuple #[.agg #[.slice a1 n1 c1, .slice a2 n2 c2, .slice a3 n3 c3, .slice a4 n4 c4, .slice a5 n5 c5], .int .i64 (linkO l).2.1, .int .i64 ((linkO l).2.2 : Int)]) ∧ Gr w w' ∧ ∀ w2 : World, (∀ b, b < w0.heap.size → w2.heap[b]? = w0.heap[b]?) → (∀ b, w.heap.size ≤ b → b < w'.heap.size → w2.heap[b]? = w'.heap[b]?) → RUnit w2 (.agg #[.slice a1 n1 c1, .slice a2 n2 c2, .slice a3 n3 c3, .slice a4 n4 c4, .slice a5 n5 c5]) (linkO l).1 := by
  unfold linkO
  cases hl : linkP l with
  | inl u =>
    rw [hl] at h
    obtain ⟨v, rfl, hr, hg⟩ := h
    have hr' := hr w' (fun b hb' => (hg.block b (Nat.lt_of_lt_of_le hb' hs) (by simp)).trans (hb b hb')) (fun _ _ _ => rfl)
    obtain ⟨y1, y2, y3, y4, y5, rfl, k1, k2, k3, k4, k5⟩ := hr'
    obtain ⟨p1, q1, rfl⟩ := k1.shape
    obtain ⟨p2, q2, rfl⟩ := k2.shape
    obtain ⟨p3, q3, rfl⟩ := k3.shape
    obtain ⟨p4, q4, rfl⟩ := k4.shape
    obtain ⟨p5, q5, rfl⟩ := k5.shape
    exact ⟨_, _, _, _, _, _, _, _, _, _, _, _, _, _, _, rfl, hg, hr⟩
  | inr q =>
    obtain ⟨e, k⟩ := q
    rw [hl] at h
    obtain ⟨rfl, hg⟩ := h
    exact ⟨_, _, _, _, _, _, _, _, _, _, _, _, _, _, _, rfl, hg, fun w2 _ _ => noU_r _⟩
end Go.Proofs.YtkgncijcnlfhiaaDoor

namespace Go.Proofs.YtkgncijcnlfhiaaDoor
set_option linter.unusedVariables false
set_option linter.unusedSimpArgs false
open Go.RowKit
attribute [local go_sem ↓] Go.wp_at_zero Go.wp_at_succ
theorem Tryd.ownUnit : (Tryd.prog.info? 28).map (fun i => (i.zero, i.size, i.bytes)) = some (some (Value.agg #[.slice none 0 0, .slice none 0 0, .slice none 0 0, .slice none 0 0, .slice none 0 0]), 5, 120) := by kernel_rfl
theorem Tryd.ownRow7 : (Tryd.prog.info? 45).map (fun i => (i.zero, i.size, i.bytes)) = some (some (Value.slice none 0 0), 1, 24) := by kernel_rfl
theorem RUnit.slices5 {w : World} {v1 v2 v3 v4 v5 : Value} {u : PUnit} (h : RUnit w (.agg #[v1, v2, v3, v4, v5]) u) : ∃ a1 c1 a2 c2 a3 c3 a4 c4 a5 c5, v1 = .slice a1 u.shapes.length c1 ∧ v2 = .slice a2 u.consts.length c2 ∧ v3 = .slice a3 u.funcs.length c3 ∧ v4 = .slice a4 u.imports.length c4 ∧ v5 = .slice a5 u.exports.length c5 := by
  obtain ⟨y1, y2, y3, y4, y5, hv, h1, h2, h3, h4, h5⟩ := h
  simp only [Value.agg.injEq, Array.mk.injEq, List.cons.injEq, and_true] at hv
  obtain ⟨rfl, rfl, rfl, rfl, rfl⟩ := hv
  obtain ⟨a1, q1, e1⟩ := h1.shape
  obtain ⟨a2, q2, e2⟩ := h2.shape
  obtain ⟨a3, q3, e3⟩ := h3.shape
  obtain ⟨a4, q4, e4⟩ := h4.shape
  obtain ⟨a5, q5, e5⟩ := h5.shape
  exact ⟨a1, q1, a2, q2, a3, q3, a4, q4, a5, q5, e1, e2, e3, e4, e5⟩
set_option maxRecDepth 100000 in
set_option maxHeartbeats 4000000 in
theorem all_any (lo ob : Nat) (V : Nat → Value) (S : Nat → List (Nat × Nat)) (l : List PUnit) (vl : Value) (w00 w : World) (h : OwnAt lo w ob false V S) (hL : RUnits w00 vl l) (h00 : w00.heap.size ≤ lo) (hB : Below lo w00 w) (hF : FewL l) (hS : Cn S 0 0 0) (hlo : lo ≤ w.heap.size) :
    Calls Tryd.prog 23 #[.pointer (some ⟨ob, 0, none⟩), vl] w (AllLent lo ob V l w) := by
  obtain ⟨aL, cL, rfl⟩ := hL.shape
  have HL := hide hL
  have HF := hide hF
  have HB := hide hB
  have hln := hF.len
  have hwr1 : IntKind.i64.wrap ((l.length : Int) + 2) = (l.length : Int) + 2 := Go.IntWalk.i64_in _ (by omega)
  have hwr2 : IntKind.i64.wrap ((l.length : Int) + 1) = (l.length : Int) + 1 := Go.IntWalk.i64_in _ (by omega)
  have hmk1 := fun V : World => make_own (n := l.length + 2) (m := (l.length : Int) + 2) Tryd.underlying45 Tryd.ownUnit (by decide) (by omega) (by simp) V
  have hzz : (Value.agg #[.slice none 0 0, .slice none 0 0, .slice none 0 0, .slice none 0 0, .slice none 0 0]).cells = zU := rfl
  rw [hzz] at hmk1
  have HL1 := hide (LpU.start l h hlo hS)
  generalize madeCells zU ((l.length + 2) * 5) = M at hmk1 HL1
  clear h hL hF hB hS hzz
  go_enter Tryd.func23, Tryd.ntmps23
  go_wp2
  clear hmk1
  generalize hxb : w.heap.size = xb at HL1 ⊢
  have HXB := hide hxb
  clear hxb
  go_loopw [7] (fun i wr => ∃ k : Nat, k ≤ l.length ∧ i = .int .i64 k ∧ LpU lo ob xb w V l k wr) (fun i _ => l.length - (intOf i).toNat)
  case atStart => exact ⟨0, Nat.zero_le _, rfl, HL1.out⟩
  case round =>
    clear HL1
    obtain ⟨k, hk, rfl, V', S', cur, es, ho, hwb, hcn, hes, hlen, hri, hc, hsl, hfx⟩ := hrel
    have HO := hide ho
    have HWB := hide hwb
    have HCN := hide hcn
    have HES := hide hes
    have HLEN := hide hlen
    have HRI := hide hri
    have HC := hide hc
    have HSL := hide hsl
    have HFX := hide hfx
    have HBr := hide (HB.out.trans hfx.low)
    have hlor : lo ≤ wr.heap.size := Nat.le_trans hlo hfx.size
    clear ho hwb hcn hes hlen hri hc hsl hfx
    by_cases hlt : k < l.length
    · obtain ⟨u, hu⟩ := getElem?_lt hlt
      obtain ⟨ao', cap', hv', hm', hc'⟩ := HL.out
      obtain ⟨b, off, v1, v2, v3, v4, v5, hao, k1, k2, k3, k4, k5, hru⟩ := hc' k u hu
      simp only [Value.slice.injEq, true_and] at hv'
      obtain ⟨e1, -⟩ := hv'
      subst e1
      subst hao
      have hbB := HBr.out.mono h00
      have k1 := below_cell hbB k1
      have k2 := below_cell hbB k2
      have k3 := below_cell hbB k3
      have k4 := below_cell hbB k4
      have k5 := below_cell hbB k5
      have HRU := hide hru
      obtain ⟨a1, c1, a2, c2, a3, c3, a4, c4, a5, c5, rfl, rfl, rfl, rfl, rfl⟩ := hru.slices5
      have HU := hide hu
      have HFu := hide (HF.out.each u (List.mem_of_getElem? hu))
      have hk0 := HF.out.c0 k
      have hk2 := HF.out.c2 k
      have hki : (k : Int) < (l.length : Int) := by omega
      clear hc' hru hu hm' hbB
      go_wp2_with fail
      refine (ownunit_any lo ob V' S' u _ w00 wr HO.out HRU.out h00 HBr.out HFu.out (c0U l k) (c2U l k) (4 * k) (by omega) (by omega) (by omega) HCN.out hlor).mono ?_
      rintro y w' ⟨v, V2, S2, rfl, hr2, ho2, hc2, hf2, sb, n, q, y2, y3, y4, y5, rfl, hsb⟩
      have hwb2 := HWB.out.fr hf2
      obtain ⟨⟨x0, i0⟩, j0⟩ := hwb2.cell (j := k * 5) (by simp [sZ]; omega)
      obtain ⟨⟨x1, i1⟩, j1⟩ := hwb2.cell (j := k * 5 + 1) (by simp [sZ]; omega)
      obtain ⟨⟨x2, i2⟩, j2⟩ := hwb2.cell (j := k * 5 + 2) (by simp [sZ]; omega)
      obtain ⟨⟨x3, i3⟩, j3⟩ := hwb2.cell (j := k * 5 + 3) (by simp [sZ]; omega)
      obtain ⟨⟨x4, i4⟩, j4⟩ := hwb2.cell (j := k * 5 + 4) (by simp [sZ]; omega)
      have HN := hide (LpU.step HWB.out HES.out HLEN.out HRI.out HC.out HSL.out HFX.out HU.out hr2 ho2 hc2 hf2 hsb)
      obtain ⟨z2, z3, z4, z5⟩ : (∃ a n c, y2 = .slice a n c) ∧ (∃ a n c, y3 = .slice a n c) ∧ (∃ a n c, y4 = .slice a n c) ∧ ∃ a n c, y5 = .slice a n c := ⟨hr2.slices _ (by simp), hr2.slices _ (by simp), hr2.slices _ (by simp), hr2.slices _ (by simp)⟩
      obtain ⟨p2, m2, q2, rfl⟩ := z2
      obtain ⟨p3, m3, q3, rfl⟩ := z3
      obtain ⟨p4, m4, q4, rfl⟩ := z4
      obtain ⟨p5, m5, q5, rfl⟩ := z5
      clear hwb2 hr2 ho2 hc2 hf2 hsb k1 k2 k3 k4 k5
      have hki2 : (k : Int) < ((l.length + 2 : Nat) : Int) := by omega
      have hki3 : k < l.length + 2 := by omega
      go_wp2_with fail
      go_roundw
      case rel => exact ⟨k + 1, by omega, by go_num, HN.out⟩
      case measure => simp [intOf]; omega
    · have hkn : k = l.length := by omega
      subst hkn
      clear hlt hk
      have hslt : xb < wr.heap.size := block_lt HWB.out.heap
      obtain ⟨⟨x5, hx5⟩, hz5⟩ := HWB.out.cell (j := l.length * 5 + 1) (by simp [sZ]; omega)
      obtain ⟨⟨x6, hx6⟩, hz6⟩ := HWB.out.cell (j := (l.length + 1) * 5 + 1) (by simp [sZ]; omega)
      have hob := HO.out.cell 7 (by decide)
      have hobl := block_lt HO.out.box
      have hobs : ¬ ob = xb := fun e => HWB.out.po.2.1 e.symm
      have hobs' : ¬ xb = ob := HWB.out.po.2.1
      have n1 : ¬ xb = wr.heap.size := by omega
      have n2 : ¬ xb = wr.heap.size + 1 := by omega
      have n3 : ¬ ob = wr.heap.size := by omega
      have n4 : ¬ ob = wr.heap.size + 1 := by omega
      obtain ⟨W4, hW4, o4, f4, r4, po4, ⟨cc, hcc, hcf⟩, u4⟩ := all_mid HO.out hlor HWB.out (by rw [HES.out, List.take_length]) (by omega) HRI.out HC.out HFX.out (by have := HXB.out; omega)
      have HU4 := hide (show _ ∧ _ ∧ _ ∧ _ ∧ _ ∧ _ from ⟨o4, f4, r4, po4, (⟨cc, hcc, hcf⟩ : ∃ c, W4.heap[xb]? = some (.cells c 28 (0, 0)) ∧ ∀ i e, es[i]? = some e → ∀ q, q < 5 → c[i * 5 + q]? = (fU e)[q]?), u4⟩)
      have HO4 := hide o4
      have hlo4 : lo ≤ W4.heap.size := Nat.le_trans hlo f4.size
      have hsx := HCN.out.rest 7 (by decide) (by decide) (by decide)
      clear o4 f4 r4 po4 hcc hcf u4
      subst hW4
      go_wp2_with (first
        | (at_builtin; refine wpList_append_vals _ rfl _ _ 50 45 1 24 (.slice none 0 0) Tryd.ownRow7 Tryd.underlying50 rfl (by decide) (by decide) rfl lo _ (S' 7).length ((S' 7).map rowV) rfl (HO4.out.own 7 (by decide)) #[rowV (xb, l.length + 2)] rfl (by intro u hu; simp at hu; subst hu; rfl) _ rfl (by simp) (by omega) hlo4 ?_; intro v3 w3 hap; obtain ⟨⟨a8, c8, hv3⟩, _⟩ := own_form hap.own; subst hv3; have hob3 := hap.frm.cell (HO4.out.cell 7 (by decide)) (fun e => HO4.out.not_ob (f := 7) (by decide) e.symm); have hz3 : w3.frozen? ⟨ob, 7, none⟩ = false := (World.frozen?_of_block (hap.frm.block ob (block_lt HO4.out.box) (fun e => HO4.out.not_ob (f := 7) (by decide) e.symm))).trans (HO4.out.frozen 7)))
      go_ret
      obtain ⟨o4, f4, r4, po4, ⟨cc, hcc, hcf⟩, u4⟩ := HU4.out
      obtain ⟨k1, k2⟩ := HO4.out.push (k := 7) (r := (xb, l.length + 2)) (by decide) hap r4 hlo4
      exact ⟨_, _, _, _, rfl, all_units (by rw [HES.out, List.take_length]) (by omega) po4 hcc hcf u4 k2.stay, k1, f4.trans k2⟩
end Go.Proofs.YtkgncijcnlfhiaaDoor

