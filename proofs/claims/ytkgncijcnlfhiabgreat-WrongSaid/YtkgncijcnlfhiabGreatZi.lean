import Derived.Test.YtkgncijcnlfhiabGreatZe
import Derived.Test.YtkgncijcnlfhiabGreatNh
import Derived.Test.YtkgncijcnlfhiabGreatB2
namespace Go.Proofs.YtkgncijcnlfhiabGreat
set_option linter.unusedVariables false
set_option linter.unusedSimpArgs false
open Go.RowKit
attribute [local go_sem ↓] Go.wp_at_zero Go.wp_at_succ
def RIntsQ (P : Nat → Prop) (w : World) (v : Value) (l : List Int) : Prop :=
  ∃ ao cap, v = .slice ao l.length cap ∧ (l.length ≤ maxLen ∧ l.length ≤ cap) ∧ ∀ i, i < l.length → ∃ b off, ao = some ⟨b, off, none⟩ ∧ P b ∧ w.cell? ⟨b, off + i, none⟩ = some (.int .i64 (l.getD i 0))
theorem RIntsQ.to {P : Nat → Prop} {w : World} {v : Value} {l : List Int} (h : RIntsQ P w v l) : RInts w v l := by
  obtain ⟨ao, cap, h1, h2, h3⟩ := h
  exact ⟨ao, cap, h1, h2.1, fun i hi => by obtain ⟨b, off, e1, _, e3⟩ := h3 i hi; exact ⟨b, off, e1, e3⟩⟩
theorem RIntsQ.cap {P : Nat → Prop} {w : World} {l : List Int} {ao : Option Addr} {n c : Nat} (h : RIntsQ P w (.slice ao n c) l) : l.length ≤ c := by
  obtain ⟨ao', cap, h1, h2, h3⟩ := h
  simp only [Value.slice.injEq] at h1
  obtain ⟨_, _, rfl⟩ := h1
  exact h2.2
theorem RIntsQ.mono {P P' : Nat → Prop} {w w' : World} {v : Value} {l : List Int} (h : RIntsQ P w v l) (g : ∀ b, P b → b < w.heap.size → w'.heap[b]? = w.heap[b]? ∧ P' b) : RIntsQ P' w' v l := by
  obtain ⟨ao, cap, h1, h2, h3⟩ := h
  refine ⟨ao, cap, h1, h2, fun i hi => ?_⟩
  obtain ⟨b, off, e1, e2, e3⟩ := h3 i hi
  have hb := World.block_lt_of_cell? w _ e3
  obtain ⟨g1, g2⟩ := g b e2 hb
  exact ⟨b, off, e1, g2, (World.cell?_of_block (a := ⟨b, off + i, none⟩) g1).trans e3⟩
theorem rintsq_nil (P : Nat → Prop) (w : World) : RIntsQ P w (.slice none 0 0) [] := ⟨none, 0, rfl, ⟨by decide, by decide⟩, fun i h => by simp at h⟩
/-- blocks of stacks: new ones, and not where the waiting ones lie -/
def Sb (B : Nat) (vw : Value) (b : Nat) : Prop := B ≤ b ∧ ¬ vw.ownBlock = some b
def lkArr (v1 v2 v3 v4 v5 vs : Value) (N res : Int) (n : Nat) (vc : Value) (mb : Nat) (vw : Value) : Array Value := #[v1, v2, v3, v4, v5, vs, .int .i64 N, .int .i64 res, .int .i64 (n : Int), vc, .map (some mb), vw]
structure LkAt (W0 w : World) (lb mb B : Nat) (v1 v2 v3 v4 v5 vs : Value) (sl : List Int) (N : Nat) (res : Int) (n : Nat) (vc vw : Value) (st : Nat → Option (List Int)) (dn : Nat → Bool) (m : Nat → Option Value) (l : List Int) (k : Nat) : Prop where
  box : w.heap[lb]? = some (.cells (lkArr v1 v2 v3 v4 v5 vs (N : Int) res n vc mb vw) 87 (0, 0))
  row : HpRow w B vw l
  lbB : lb < B
  bs : B ≤ w.heap.size
  mp : MapIs w mb k m
  mbB : mb < B
  mbl : ¬ mb = lb
  sts : ∀ j s, st j = some s → ∃ v, m j = some v ∧ RIntsQ (Sb B vw) w v s
  len : ∀ j s, st j = some s → s.length ≤ 20
  non : ∀ j, st j = none → m j = none
  wait : Wait N (fnL l) l.length st dn
  bound : k + undone N (fun j => (st j).isSome) ≤ N
  small : N ≤ 1000
  wl : l.length ≤ k
  slt : RIntsQ (fun b => ¬ b = lb ∧ ¬ b = mb ∧ b < B) w vs sl
  low : Below W0.heap.size W0 w
  w0l : W0.heap.size ≤ lb
  w0m : W0.heap.size ≤ mb
/-- only the looker, its map and the waiting ones are turned -/
structure LkFr (w w' : World) (lb mb : Nat) (vw : Value) : Prop where
  size : w.heap.size ≤ w'.heap.size
  rest : ∀ b, b < w.heap.size → ¬ b = lb → ¬ b = mb → ¬ vw.ownBlock = some b → w'.heap[b]? = w.heap[b]?
theorem heap_cell_ {w : World} {b : Nat} {arr : Array Value} {t : TypeId} {o : Nat} {f : Nat × Nat} (h : w.heap[b]? = some (.cells arr t f)) : w.cell? ⟨b, o, none⟩ = arr[o]? := by
  simp [World.cell?, h]
theorem heap_frozen_ {w : World} {b : Nat} {arr : Array Value} {t : TypeId} {o : Nat} (h : w.heap[b]? = some (.cells arr t (0, 0))) : w.frozen? ⟨b, o, none⟩ = false := by
  simp [World.frozen?, h]
theorem LkAt.wt {W0 w : World} {lb mb B : Nat} {v1 v2 v3 v4 v5 vs : Value} {sl : List Int} {N : Nat} {res : Int} {n : Nat} {vc vw : Value} {st : Nat → Option (List Int)} {dn : Nat → Bool} {m : Nat → Option Value} {l : List Int} {k : Nat} (h : LkAt W0 w lb mb B v1 v2 v3 v4 v5 vs sl N res n vc vw st dn m l k) : WtAt w lb 11 B vw l :=
  ⟨by rw [heap_cell_ h.box]; rfl, heap_frozen_ h.box, h.row, h.lbB, h.bs, by have := h.wl; have := h.small; have := h.bound; omega⟩
theorem LkAt.gr {W0 w w' : World} {lb mb B : Nat} {v1 v2 v3 v4 v5 vs : Value} {sl : List Int} {N : Nat} {res : Int} {n : Nat} {vc vw : Value} {st : Nat → Option (List Int)} {dn : Nat → Bool} {m : Nat → Option Value} {l : List Int} {k : Nat} (h : LkAt W0 w lb mb B v1 v2 v3 v4 v5 vs sl N res n vc vw st dn m l k) (g : Gr w w') : LkAt W0 w' lb mb B v1 v2 v3 v4 v5 vs sl N res n vc vw st dn m l k := by
  have hlb : lb < w.heap.size := by have := h.lbB; have := h.bs; omega
  have hmb : mb < w.heap.size := h.mp.lt
  refine ⟨(g.block lb hlb (by simp)).trans h.box, h.row.keep fun b hb => g.block b (World.ownsRow.lt h.row b hb).2 (by simp), h.lbB, Nat.le_trans h.bs g.size, h.mp.kept (g.block mb hmb (by simp)), h.mbB, h.mbl, fun j s hs => ?_, h.len, h.non, h.wait, h.bound, h.small, h.wl, h.slt.mono fun b hb hl => ⟨g.block b hl (by simp), hb⟩, h.low.grown g h.low.size (by simp), h.w0l, h.w0m⟩
  obtain ⟨v, e1, e2⟩ := h.sts j s hs
  exact ⟨v, e1, e2.mono fun b hb hl => ⟨g.block b hl (by simp), hb⟩⟩
set_option maxRecDepth 100000 in
set_option maxHeartbeats 1000000 in
theorem wrong_any (lb n at_ : Nat) (w : World) (hc : w.cell? ⟨lb, 8, none⟩ = some (.int .i64 (n : Int))) :
    Calls Tryz.prog 105 #[.pointer (some ⟨lb, 0, none⟩), .int .i64 (at_ : Int)] w fun x w' => x = .returned (.agg #[.int .i64 10, .int .i64 (n : Int), .int .i64 (at_ : Int)]) ∧ Gr w w' := by
  have hc1 := (World.grownBy_alloc w (.cells #[.int .i64 0, .int .i64 0, .int .i64 0] 62) none).cell hc (by simp)
  go_enter Tryz.func105, Tryz.ntmps105
  go_wp2_with fail
  exact bodyPost_ret (v := .agg #[.int .i64 10, .int .i64 (n : Int), .int .i64 (at_ : Int)]) (by simp [results, Tryz.results105, go_sem]) rfl ⟨rfl, (Gr.refl w).alloc _⟩
end Go.Proofs.YtkgncijcnlfhiabGreat

namespace Go.Proofs.YtkgncijcnlfhiabGreat
set_option linter.unusedVariables false
set_option linter.unusedSimpArgs false
open Go.RowKit
attribute [local go_sem ↓] Go.wp_at_zero Go.wp_at_succ
theorem Sb.of {B : Nat} {vw vw' : Value} {b : Nat} (h : Sb B vw b) {w : World} (hl : b < w.heap.size) (g : ∀ b, vw'.ownBlock = some b → vw.ownBlock = some b ∨ w.heap.size ≤ b) : Sb B vw' b :=
  ⟨h.1, fun e => by rcases g b e with e2 | e2
                    · exact h.2 e2
                    · omega⟩
/-- one is come to -/
def ComeR (W0 w : World) (lb mb B : Nat) (v1 v2 v3 v4 v5 vs : Value) (sl : List Int) (N : Nat) (res : Int) (n : Nat) (vc vw : Value) (st : Nat → Option (List Int)) (dn : Nat → Bool) (t : Nat) (s : List Int) (x : Ending) (w' : World) : Prop :=
  (∃ s0, st t = some s0 ∧ ¬ s0 = s ∧ x = .panicked (thr3 10 n t) ∧ Below W0.heap.size W0 w') ∨
  (x = .returned (.tuple #[]) ∧ ∃ vw' m' l' k', LkAt W0 w' lb mb B v1 v2 v3 v4 v5 vs sl N res n vc vw' (fun j => if j = t then some s else st j) dn m' l' k' ∧ LkFr w w' lb mb vw ∧ (∀ b, vw'.ownBlock = some b → vw.ownBlock = some b ∨ w.heap.size ≤ b) ∧ (st t = none ∨ st t = some s))

set_option maxRecDepth 100000 in
set_option maxHeartbeats 2000000 in
theorem come_any (W0 w : World) (lb mb B : Nat) (v1 v2 v3 v4 v5 vs : Value) (sl : List Int) (N : Nat) (res : Int) (n : Nat) (vc vw : Value) (st : Nat → Option (List Int)) (dn : Nat → Bool) (m : Nat → Option Value) (l : List Int) (k : Nat) (t : Nat) (s : List Int) (v : Value)
    (h : LkAt W0 w lb mb B v1 v2 v3 v4 v5 vs sl N res n vc vw st dn m l k) (ht : t < N) (hs : RIntsQ (Sb B vw) w v s) (hsl : s.length ≤ 20) :
    Calls Tryz.prog 58 #[.pointer (some ⟨lb, 0, none⟩), .int .i64 (t : Int), v] w (ComeR W0 w lb mb B v1 v2 v3 v4 v5 vs sl N res n vc vw st dn t s) := by
  have HH := hide h
  have HS := hide hs
  obtain ⟨av, cv, rfl⟩ := hs.to.shape
  have hN := h.small
  have hc8 : w.cell? ⟨lb, 8, none⟩ = some (.int .i64 (n : Int)) := by rw [heap_cell_ h.box]; rfl
  have hc10 : w.cell? ⟨lb, 10, none⟩ = some (.map (some mb)) := by rw [heap_cell_ h.box]; rfl
  have hlk := h.mp.look t (by omega)
  cases hst : st t with
  | some s0 =>
    obtain ⟨v0, hm0, hr0⟩ := h.sts t s0 hst
    rw [hm0] at hlk
    obtain ⟨a0, c0, rfl⟩ := hr0.to.shape
    simp only [Option.getD_some, Option.isSome_some] at hlk
    have HR0 := hide hr0.to
    have HST := hide hst
    have HWR := hide (wrong_any lb n t w hc8)
    clear h hs hr0 hst hm0
    go_enter Tryz.func58, Tryz.ntmps58
    go_wp2_with fail
    refine HWR.out.mono ?_
    rintro x w1 ⟨rfl, hg1⟩
    have HG1 := hide hg1
    clear hg1 hlk hc8 hc10
    go_wp2_with fail
    refine (equal_any _ _ s s0 w1 (HS.out.to.gr HG1.out) (HR0.out.gr HG1.out)).mono ?_
    rintro x w2 ⟨rfl, hg2⟩
    have HG2 := hide (HG1.out.trans hg2)
    clear hg2
    by_cases he : s = s0
    · have hd : decide (s = s0) = true := by simpa using he
      rw [hd]
      have HE := hide he
      clear hd he
      go_wp2_with fail
      refine (unless3_yes _ _ _ _).mono ?_
      rintro x w3 ⟨rfl, hg3⟩
      have HG3 := hide (HG2.out.trans hg3)
      clear hg3
      go_wp2_with fail
      go_end0
      refine .inr ⟨rfl, vw, m, l, k, ?_, ⟨HG3.out.size, fun b hb _ _ _ => HG3.out.block b hb (by simp)⟩, fun b hb => .inl hb, .inr (by rw [HST.out, HE.out])⟩
      have e : (fun j => if j = t then some s else st j) = st := by
        funext j
        by_cases hj : j = t
        · rw [if_pos hj, hj, HST.out, HE.out]
        · rw [if_neg hj]
      rw [e]
      exact HH.out.gr HG3.out
    · have hd : decide (s = s0) = false := by simpa using he
      rw [hd]
      have HE := hide he
      clear hd he
      go_wp2_with fail
      refine (unless3_no _ _ _ _).mono ?_
      rintro x w3 ⟨rfl, hg3⟩
      have HG3 := hide (HG2.out.trans hg3)
      clear hg3
      exact ⟨rfl, .inl ⟨s0, HST.out, fun e => HE.out e.symm, rfl, HH.out.low.grown HG3.out HH.out.low.size (by simp)⟩⟩
  | none =>
    rw [h.non t hst] at hlk
    simp only [Option.getD_none, Option.isSome_none] at hlk
    unfold nilV at hlk
    obtain ⟨w1, hrun, hm1, hg1⟩ := h.mp.store t (by omega) (by have := h.bound; omega) (.slice av s.length cv)
    have HST := hide hst
    have HM1 := hide hm1
    have HG1 := hide hg1
    have hwt1 : WtAt w1 lb 11 B vw l := by
      have hw := h.wt
      have hlbw : lb < w.heap.size := by have := h.lbB; have := h.bs; omega
      have hb1 : w1.heap[lb]? = w.heap[lb]? := hg1.block lb hlbw (by have := h.mbl; simp; omega)
      exact ⟨(World.cell?_of_block (a := ⟨lb, 11, none⟩) hb1).trans hw.cell, (World.frozen?_of_block (a := ⟨lb, 11, none⟩) hb1).trans hw.fz, hw.row.keep fun b hb => hg1.block b (World.ownsRow.lt hw.row b hb).2 (by have := (World.ownsRow.lt hw.row b hb).1; have := h.mbB; simp; omega), hw.lb, Nat.le_trans hw.bs hg1.size, hw.small⟩
    have HW1 := hide hwt1
    have hln : l.length < 100000 := by have := h.wl; have := h.bound; omega
    have HP := hide (hpush_any lb 11 B vw l (t : Int) w1 hwt1 hln h.wait.hp)
    clear h hs hst hm1 hg1 hwt1
    go_enter Tryz.func58, Tryz.ntmps58
    go_wp2_with fail
    refine HP.out.mono ?_
    rintro x w2 ⟨vw', l2, rfl, hwt2, hlen2, hhp2, hsm2, hfr2⟩
    have HR : Hid (ComeR W0 w lb mb B v1 v2 v3 v4 v5 vs sl N res n vc vw st dn t s (.returned (.tuple #[])) w2) := hide (by
      have h := HH.out
      have hg1 := HG1.out
      have hsz1 := hg1.size
      have hsz2 := hfr2.size
      have hlb := h.lbB
      have hbs := h.bs
      have hmb := h.mbB
      have hmbl := h.mbl
      have hbd := h.bound
      have hwl := h.wl
      have hmw : mb < w.heap.size := h.mp.lt
      have hvw : ∀ b, vw.ownBlock = some b → B ≤ b ∧ b < w.heap.size := fun b hb => World.ownsRow.lt h.row b hb
      have hb1 : w1.heap[lb]? = some (.cells (lkArr v1 v2 v3 v4 v5 vs (N : Int) res n vc mb vw) 87 (0, 0)) := (hg1.block lb (by omega) (by simp; omega)).trans h.box
      have hnt : ∀ b, b < w.heap.size → Sb B vw b → w2.heap[b]? = w.heap[b]? := fun b hb hs => (hfr2.rest b (by omega) (by have := hs.1; omega) hs.2).trans (hg1.block b hb (by have := hs.1; simp; omega))
      have hmt : ∀ b, b < w.heap.size → ¬ b = lb → ¬ b = mb → ¬ vw.ownBlock = some b → w2.heap[b]? = w.heap[b]? := fun b hb e1 e2 e3 => (hfr2.rest b (by omega) e1 e3).trans (hg1.block b hb (by simp; omega))
      have hlies : ∀ b, vw'.ownBlock = some b → vw.ownBlock = some b ∨ w.heap.size ≤ b := fun b hb => by
        rcases hfr2.lies b hb with e | e
        · exact .inl e
        · right; omega
      refine .inr ⟨rfl, vw', _, l2, k + 1, ⟨?_, hwt2.row, hlb, hwt2.bs, HM1.out.kept (hfr2.rest mb (by omega) hmbl (fun e => by have := (hvw mb e).1; omega)), hmb, hmbl, fun j s' hj => ?_, fun j s' hj => ?_, fun j hj => ?_, ?_, ?_, h.small, by omega, h.slt.mono fun b hb hl => ⟨hmt b hl hb.1 hb.2.1 (fun e => by have := (hvw b e).1; have := hb.2.2; omega), hb⟩, ?_, h.w0l, h.w0m⟩, ⟨by omega, hmt⟩, hlies, .inl HST.out⟩
      · rw [hfr2.box, heap_setCell_same w1 lb 11 _ _ vw' hb1]; rfl
      · by_cases e : j = t
        · subst e
          rw [if_pos rfl] at hj
          obtain rfl := Option.some.inj hj
          exact ⟨_, if_pos rfl, HS.out.mono fun b hb hl => ⟨hnt b hl hb, hb.of hl hlies⟩⟩
        · rw [if_neg e] at hj
          obtain ⟨v0, e1, e2⟩ := h.sts j s' hj
          exact ⟨v0, by rw [if_neg e]; exact e1, e2.mono fun b hb hl => ⟨hnt b hl hb, hb.of hl hlies⟩⟩
      · by_cases e : j = t
        · rw [if_pos e] at hj; obtain rfl := Option.some.inj hj; exact hsl
        · rw [if_neg e] at hj; exact h.len j s' hj
      · by_cases e : j = t
        · rw [if_pos e] at hj; cases hj
        · rw [if_neg e] at hj ⊢; exact h.non j hj
      · rw [hlen2]; exact h.wait.push ht HST.out hhp2 hsm2
      · have e : (fun j => (if j = t then some s else st j).isSome) = fun j => decide (j = t) || (st j).isSome := by
          funext j
          by_cases hj : j = t <;> simp [hj]
        rw [e]
        have := undone_less N t (fun j => (st j).isSome) ht (by simp only [HST.out]; rfl)
        omega
      · refine ⟨hfr2.os.trans (hg1.os.trans h.low.os), hfr2.tape.trans (hg1.tape.trans h.low.tape), hfr2.output.trans (hg1.output.trans h.low.output), ?_, ?_⟩
        · have := h.low.size; omega
        · intro b hb
          have := h.w0l
          have := h.w0m
          exact (hmt b (by have := h.low.size; omega) (by omega) (by omega) (fun e => by have := (hvw b e).1; omega)).trans (h.low.block b hb))
    clear hwt2 hlen2 hhp2 hsm2 hfr2 hrun hlk
    go_wp2_with fail
    go_end0
    exact HR.out
end Go.Proofs.YtkgncijcnlfhiabGreat

