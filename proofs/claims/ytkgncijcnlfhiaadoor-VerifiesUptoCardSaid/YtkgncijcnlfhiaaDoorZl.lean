import Derived.Test.YtkgncijcnlfhiaaDoorZp
namespace Go.Proofs.YtkgncijcnlfhiaaDoor
set_option linter.unusedVariables false
set_option linter.unusedSimpArgs false
open Go.RowKit
attribute [local go_sem ↓] Go.wp_at_zero Go.wp_at_succ
theorem Sb.of {B : Nat} {vw vw' : Value} {b : Nat} (h : Sb B vw b) {w : World} (hl : b < w.heap.size) (g : ∀ b, vw'.ownBlock = some b → vw.ownBlock = some b ∨ w.heap.size ≤ b) : Sb B vw' b :=
  ⟨h.1, fun e => by rcases g b e with e2 | e2
                    · exact h.2 e2
                    · omega⟩
/-- one is come to -/
def ComeR (W0 w : World) (lb mb B : Nat) (v1 v2 v3 v4 v5 vs : Value) (sl : List Int) (N : Nat) (res : Int) (n : Nat) (vc vw : Value) (st : Nat → Option (List Int)) (dn : Nat → Bool) (t : Nat) (s : List Int) (x : Ending) (w' : World) : Prop :=
  (∃ s0, st t = some s0 ∧ ¬ s0 = s ∧ x = .panicked (thr3 10 n t) ∧ Below W0.heap.size W0 w') ∨
  (x = .returned (.tuple #[]) ∧ ∃ vw' m' l' k', LkAt W0 w' lb mb B v1 v2 v3 v4 v5 vs sl N res n vc vw' (fun j => if j = t then some s else st j) dn m' l' k' ∧ LkFr w w' lb mb vw ∧ (∀ b, vw'.ownBlock = some b → vw.ownBlock = some b ∨ w.heap.size ≤ b) ∧ (st t = none ∨ st t = some s))

set_option maxRecDepth 100000 in
set_option maxHeartbeats 2000000 in
theorem come_any (W0 w : World) (lb mb B : Nat) (v1 v2 v3 v4 v5 vs : Value) (sl : List Int) (N : Nat) (res : Int) (n : Nat) (vc vw : Value) (st : Nat → Option (List Int)) (dn : Nat → Bool) (m : Nat → Option Value) (l : List Int) (k : Nat) (t : Nat) (s : List Int) (v : Value)
    (h : LkAt W0 w lb mb B v1 v2 v3 v4 v5 vs sl N res n vc vw st dn m l k) (ht : t < N) (hs : RIntsQ (Sb B vw) w v s) (hsl : s.length ≤ 20) :
    Calls Tryd.prog 148 #[.pointer (some ⟨lb, 0, none⟩), .int .i64 (t : Int), v] w (ComeR W0 w lb mb B v1 v2 v3 v4 v5 vs sl N res n vc vw st dn t s) := by
  have HH := hide h
  have HS := hide hs
  obtain ⟨av, cv, rfl⟩ := hs.to.shape
  have hN := h.small
  have hc8 : w.cell? ⟨lb, 8, none⟩ = some (.int .i64 (n : Int)) := by rw [heap_cell_ h.box]; rfl
  have hc10 : w.cell? ⟨lb, 10, none⟩ = some (.map (some mb)) := by rw [heap_cell_ h.box]; rfl
  have hlk := h.mp.look t (by omega)
  cases hst : st t with
  | some s0 =>
    obtain ⟨v0, hm0, hr0⟩ := h.sts t s0 hst
    rw [hm0] at hlk
    obtain ⟨a0, c0, rfl⟩ := hr0.to.shape
    simp only [Option.getD_some, Option.isSome_some] at hlk
    have HR0 := hide hr0.to
    have HST := hide hst
    have HWR := hide (wrong_any lb n t w hc8)
    clear h hs hr0 hst hm0
    go_enter Tryd.func148, Tryd.ntmps148
    go_wp2_with fail
    refine HWR.out.mono ?_
    rintro x w1 ⟨rfl, hg1⟩
    have HG1 := hide hg1
    clear hg1 hlk hc8 hc10
    go_wp2_with fail
    refine (equal_any _ _ s s0 w1 (HS.out.to.gr HG1.out) (HR0.out.gr HG1.out)).mono ?_
    rintro x w2 ⟨rfl, hg2⟩
    have HG2 := hide (HG1.out.trans hg2)
    clear hg2
    by_cases he : s = s0
    · have hd : decide (s = s0) = true := by simpa using he
      rw [hd]
      have HE := hide he
      clear hd he
      go_wp2_with fail
      refine (unless3_yes _ _ _ _).mono ?_
      rintro x w3 ⟨rfl, hg3⟩
      have HG3 := hide (HG2.out.trans hg3)
      clear hg3
      go_wp2_with fail
      go_end0
      refine .inr ⟨rfl, vw, m, l, k, ?_, ⟨HG3.out.size, fun b hb _ _ _ => HG3.out.block b hb (by simp)⟩, fun b hb => .inl hb, .inr (by rw [HST.out, HE.out])⟩
      have e : (fun j => if j = t then some s else st j) = st := by
        funext j
        by_cases hj : j = t
        · rw [if_pos hj, hj, HST.out, HE.out]
        · rw [if_neg hj]
      rw [e]
      exact HH.out.gr HG3.out
    · have hd : decide (s = s0) = false := by simpa using he
      rw [hd]
      have HE := hide he
      clear hd he
      go_wp2_with fail
      refine (unless3_no _ _ _ _).mono ?_
      rintro x w3 ⟨rfl, hg3⟩
      have HG3 := hide (HG2.out.trans hg3)
      clear hg3
      exact ⟨rfl, .inl ⟨s0, HST.out, fun e => HE.out e.symm, rfl, HH.out.low.grown HG3.out HH.out.low.size (by simp)⟩⟩
  | none =>
    rw [h.non t hst] at hlk
    simp only [Option.getD_none, Option.isSome_none] at hlk
    unfold nilV at hlk
    obtain ⟨w1, hrun, hm1, hg1⟩ := h.mp.store t (by omega) (by have := h.bound; omega) (.slice av s.length cv)
    have HST := hide hst
    have HM1 := hide hm1
    have HG1 := hide hg1
    have hwt1 : WtAt w1 lb 11 B vw l := by
      have hw := h.wt
      have hlbw : lb < w.heap.size := by have := h.lbB; have := h.bs; omega
      have hb1 : w1.heap[lb]? = w.heap[lb]? := hg1.block lb hlbw (by have := h.mbl; simp; omega)
      exact ⟨(World.cell?_of_block (a := ⟨lb, 11, none⟩) hb1).trans hw.cell, (World.frozen?_of_block (a := ⟨lb, 11, none⟩) hb1).trans hw.fz, hw.row.keep fun b hb => hg1.block b (World.ownsRow.lt hw.row b hb).2 (by have := (World.ownsRow.lt hw.row b hb).1; have := h.mbB; simp; omega), hw.lb, Nat.le_trans hw.bs hg1.size, hw.small⟩
    have HW1 := hide hwt1
    have hln : l.length < 100000 := by have := h.wl; have := h.bound; omega
    have HP := hide (hpush_any lb 11 B vw l (t : Int) w1 hwt1 hln h.wait.hp)
    clear h hs hst hm1 hg1 hwt1
    go_enter Tryd.func148, Tryd.ntmps148
    go_wp2_with fail
    refine HP.out.mono ?_
    rintro x w2 ⟨vw', l2, rfl, hwt2, hlen2, hhp2, hsm2, hfr2⟩
    have HR : Hid (ComeR W0 w lb mb B v1 v2 v3 v4 v5 vs sl N res n vc vw st dn t s (.returned (.tuple #[])) w2) := hide (by
      have h := HH.out
      have hg1 := HG1.out
      have hsz1 := hg1.size
      have hsz2 := hfr2.size
      have hlb := h.lbB
      have hbs := h.bs
      have hmb := h.mbB
      have hmbl := h.mbl
      have hbd := h.bound
      have hwl := h.wl
      have hmw : mb < w.heap.size := h.mp.lt
      have hvw : ∀ b, vw.ownBlock = some b → B ≤ b ∧ b < w.heap.size := fun b hb => World.ownsRow.lt h.row b hb
      have hb1 : w1.heap[lb]? = some (.cells (lkArr v1 v2 v3 v4 v5 vs (N : Int) res n vc mb vw) 174 (0, 0)) := (hg1.block lb (by omega) (by simp; omega)).trans h.box
      have hnt : ∀ b, b < w.heap.size → Sb B vw b → w2.heap[b]? = w.heap[b]? := fun b hb hs => (hfr2.rest b (by omega) (by have := hs.1; omega) hs.2).trans (hg1.block b hb (by have := hs.1; simp; omega))
      have hmt : ∀ b, b < w.heap.size → ¬ b = lb → ¬ b = mb → ¬ vw.ownBlock = some b → w2.heap[b]? = w.heap[b]? := fun b hb e1 e2 e3 => (hfr2.rest b (by omega) e1 e3).trans (hg1.block b hb (by simp; omega))
      have hlies : ∀ b, vw'.ownBlock = some b → vw.ownBlock = some b ∨ w.heap.size ≤ b := fun b hb => by
        rcases hfr2.lies b hb with e | e
        · exact .inl e
        · right; omega
      refine .inr ⟨rfl, vw', _, l2, k + 1, ⟨?_, hwt2.row, hlb, hwt2.bs, HM1.out.kept (hfr2.rest mb (by omega) hmbl (fun e => by have := (hvw mb e).1; omega)), hmb, hmbl, fun j s' hj => ?_, fun j s' hj => ?_, fun j hj => ?_, ?_, ?_, h.small, by omega, h.slt.mono fun b hb hl => ⟨hmt b hl hb.1 hb.2.1 (fun e => by have := (hvw b e).1; have := hb.2.2; omega), hb⟩, ?_, h.w0l, h.w0m⟩, ⟨by omega, hmt⟩, hlies, .inl HST.out⟩
      · rw [hfr2.box, heap_setCell_same w1 lb 11 _ _ vw' hb1]; rfl
      · by_cases e : j = t
        · subst e
          rw [if_pos rfl] at hj
          obtain rfl := Option.some.inj hj
          exact ⟨_, if_pos rfl, HS.out.mono fun b hb hl => ⟨hnt b hl hb, hb.of hl hlies⟩⟩
        · rw [if_neg e] at hj
          obtain ⟨v0, e1, e2⟩ := h.sts j s' hj
          exact ⟨v0, by rw [if_neg e]; exact e1, e2.mono fun b hb hl => ⟨hnt b hl hb, hb.of hl hlies⟩⟩
      · by_cases e : j = t
        · rw [if_pos e] at hj; obtain rfl := Option.some.inj hj; exact hsl
        · rw [if_neg e] at hj; exact h.len j s' hj
      · by_cases e : j = t
        · rw [if_pos e] at hj; cases hj
        · rw [if_neg e] at hj ⊢; exact h.non j hj
      · rw [hlen2]; exact h.wait.push ht HST.out hhp2 hsm2
      · have e : (fun j => (if j = t then some s else st j).isSome) = fun j => decide (j = t) || (st j).isSome := by
          funext j
          by_cases hj : j = t <;> simp [hj]
        rw [e]
        have := undone_less N t (fun j => (st j).isSome) ht (by simp only [HST.out]; rfl)
        omega
      · refine ⟨hfr2.os.trans (hg1.os.trans h.low.os), hfr2.tape.trans (hg1.tape.trans h.low.tape), hfr2.output.trans (hg1.output.trans h.low.output), ?_, ?_⟩
        · have := h.low.size; omega
        · intro b hb
          have := h.w0l
          have := h.w0m
          exact (hmt b (by have := h.low.size; omega) (by omega) (by omega) (fun e => by have := (hvw b e).1; omega)).trans (h.low.block b hb))
    clear hwt2 hlen2 hhp2 hsm2 hfr2 hrun hlk
    go_wp2_with fail
    go_end0
    exact HR.out
end Go.Proofs.YtkgncijcnlfhiaaDoor

namespace Go.Proofs.YtkgncijcnlfhiaaDoor
set_option linter.unusedVariables false
set_option linter.unusedSimpArgs false
open Go.RowKit
attribute [local go_sem ↓] Go.wp_at_zero Go.wp_at_succ
theorem below_gr_ {W0 w : World} (h : Below W0.heap.size W0 w) : Gr W0 w := ⟨h.os, h.tape, h.output, h.size, fun k hk _ => h.block k hk⟩
/-- how a look ends -/
def LookR (W0 : World) (lb mb B : Nat) (v1 v2 v3 v4 v5 vs : Value) (sl : List Int) (N : Nat) (res : Int) (n : Nat) (vc : Value) (dn : Nat → Bool) (o : Nat ⊕ (Nat → Option (List Int))) (x : Ending) (w' : World) : Prop := match o with
  | .inl t => x = .panicked (thr3 10 n t) ∧ Below W0.heap.size W0 w'
  | .inr st' => x = .returned (.tuple #[]) ∧ ∃ vw m l k, LkAt W0 w' lb mb B v1 v2 v3 v4 v5 vs sl N res n vc vw st' dn m l k
/-- a look, the program's way -/
def stepQ (u : PUnit) (f : PFunc) (q : Nat) (i : PIns) (s : List Int) (st : Nat → Option (List Int)) : Nat ⊕ (Nat → Option (List Int)) :=
  match doneQ u f i s with
  | none => .inl q
  | some s' => comesP s' q (nextP f q i) st
theorem stepQ_eq {u : PUnit} {f : PFunc} {q : Nat} {i : PIns} {s : List Int} {st : Nat → Option (List Int)} (hu : unitOk u = true) (hf : f ∈ u.funcs) : stepQ u f q i s st = stepP u f q i s st := by
  unfold stepQ stepP
  rw [doneQ_eq s (eff_nn hu hf)]
  cases doneP u f i s <;> rfl
/-- each look is as it should be -/
def LookC (W0 : World) (lb mb B : Nat) (v1 v2 v3 v4 v5 vs : Value) (sl : List Int) (u : PUnit) (f : PFunc) (n : Nat) (vc : Value) : Prop := ∀ (w : World) (vw : Value) (st : Nat → Option (List Int)) (dn : Nat → Bool) (m : Nat → Option Value) (l : List Int) (k q : Nat) (i : PIns) (s : List Int),
  LkAt W0 w lb mb B v1 v2 v3 v4 v5 vs sl f.code.length f.result n vc vw st dn m l k → f.code[q]? = some i → st q = some s →
  Calls Tryd.prog 150 #[.pointer (some ⟨lb, 0, none⟩), .int .i64 (q : Int)] w (LookR W0 lb mb B v1 v2 v3 v4 v5 vs sl f.code.length f.result n vc dn (stepQ u f q i s st))
/-- how a function is looked through -/
def ThruR (W0 : World) (n : Nat) (o : Option Nat) (x : Ending) (w' : World) : Prop := Below W0.heap.size W0 w' ∧ match o with
  | some t => x = .panicked (thr3 10 n t)
  | none => x = .returned (.tuple #[])
theorem undone_none : ∀ n, undone n (fun _ => false) = n
  | 0 => rfl
  | n + 1 => by rw [undone, undone_none n]; simp
/-- what waits is taken: the state behind a pop -/
theorem LkAt.popped {W0 w w' : World} {lb mb B : Nat} {v1 v2 v3 v4 v5 vs : Value} {sl : List Int} {N : Nat} {res : Int} {n : Nat} {vc vw vw' : Value} {st : Nat → Option (List Int)} {dn : Nat → Bool} {m : Nat → Option Value} {l l' : List Int} {k nn q : Nat} (h : LkAt W0 w lb mb B v1 v2 v3 v4 v5 vs sl N res n vc vw st dn m l k) (hl : l.length = nn + 1) (hq : fnL l 0 = (q : Int)) (hwt : WtAt w' lb 11 B vw' l') (hl' : l'.length = nn) (hp : Hp (fnL l') nn) (hs : Same (swp (fnL l) 0 nn) (fnL l') nn) (hf : WtFr w w' lb 11 vw vw') :
    LkAt W0 w' lb mb B v1 v2 v3 v4 v5 vs sl N res n vc vw' st (fun j => decide (j = q) || dn j) m l' k := by
  have hlb := h.lbB
  have hbs := h.bs
  have hmb := h.mbB
  have hvw : ∀ b, vw.ownBlock = some b → B ≤ b ∧ b < w.heap.size := fun b hb => World.ownsRow.lt h.row b hb
  have hwait := h.wait
  rw [hl] at hwait
  refine ⟨?_, hwt.row, hlb, hwt.bs, h.mp.kept (hf.rest mb h.mp.lt h.mbl (fun e => by have := (hvw mb e).1; omega)), hmb, h.mbl, fun j s hj => ?_, h.len, h.non, ?_, h.bound, h.small, by have := h.wl; omega, h.slt.mono fun b hb hl => ⟨hf.rest b hl hb.1 (fun e => by have := (hvw b e).1; have := hb.2.2; omega), hb⟩, ?_, h.w0l, h.w0m⟩
  · rw [hf.box, heap_setCell_same w lb 11 _ _ vw' h.box]; rfl
  · obtain ⟨v, e1, e2⟩ := h.sts j s hj
    exact ⟨v, e1, e2.mono fun b hb hlt => ⟨hf.rest b hlt (by have := hb.1; omega) hb.2, hb.of hlt hf.lies⟩⟩
  · rw [hl']; exact hwait.pop hq hp hs
  · refine ⟨hf.os.trans h.low.os, hf.tape.trans h.low.tape, hf.output.trans h.low.output, by have := h.low.size; have := hf.size; omega, fun b hb => ?_⟩
    have := h.w0l
    exact (hf.rest b (by have := h.low.size; omega) (by omega) (fun e => by have := (hvw b e).1; omega)).trans (h.low.block b hb)

set_option maxRecDepth 100000 in
set_option maxHeartbeats 2000000 in
theorem through_of (W0 w : World) (lb mb B : Nat) (v1 v2 v3 v4 v5 vs : Value) (sl : List Int) (u : PUnit) (f : PFunc) (n : Nat) (vc : Value) (HL : LookC W0 lb mb B v1 v2 v3 v4 v5 vs sl u f n vc) (hu : unitOk u = true) (hf : f ∈ u.funcs) (hN : 0 < f.code.length)
    (h : LkAt W0 w lb mb B v1 v2 v3 v4 v5 vs sl f.code.length f.result n vc (.slice none 0 0) (fun _ => none) (fun _ => false) (fun _ => none) [] 0) :
    Calls Tryd.prog 111 #[.pointer (some ⟨lb, 0, none⟩)] w (ThruR W0 n (wrongP u f)) := by
  have HH := hide h
  have HLC := hide HL
  have HCM := hide (come_any W0 w lb mb B v1 v2 v3 v4 v5 vs sl f.code.length f.result n vc (.slice none 0 0) (fun _ => none) (fun _ => false) (fun _ => none) [] 0 0 [] (.slice none 0 0) h hN (rintsq_nil _ _) (by simp))
  have HW : Hid (wrongP u f = lookP u f (undone f.code.length (fun _ => false) + 1) (fun j => if j = 0 then some [] else none) (fun _ => false)) := hide (by rw [undone_none]; rfl)
  clear h HL
  go_enter Tryd.func111, Tryd.ntmps111
  go_wp2_with fail
  refine HCM.out.mono ?_
  rintro x w1 (⟨s0, e1, _⟩ | ⟨rfl, vw1, m1, l1, k1, hl1, _⟩)
  · cases e1
  have HL1 := hide hl1
  clear hl1 HCM
  go_wp2_with fail
  go_loopg [4] (f.code.length + 1) (fun gk _ wr => ∃ (vw : Value) (st : Nat → Option (List Int)) (dn : Nat → Bool) (m : Nat → Option Value) (l : List Int) (k : Nat), gk = undone f.code.length dn + 1 ∧ LkAt W0 wr lb mb B v1 v2 v3 v4 v5 vs sl f.code.length f.result n vc vw st dn m l k ∧ wrongP u f = lookP u f (undone f.code.length dn + 1) st dn)
  case atStart => exact ⟨vw1, _, _, m1, l1, k1, by rw [undone_none], HL1.out, HW.out⟩
  case round =>
    obtain ⟨vw, st, dn, m, l, k, rfl, hl, hw⟩ := hrel
    have HL2 := hide hl
    have HW2 := hide hw
    have hN2 := hl.small
    obtain ⟨⟨ao, cap, rfl⟩, _⟩ := hl.row.form
    have hc := hl.wt.cell
    clear hl hw HL1 HW
    have has := fun (v : Value) (w : World) => asInt v w
    by_cases hl0 : l.length = 0
    · have hnil : l = [] := List.length_eq_zero_iff.1 hl0
      have HNo : Hid (wrongP u f = none) := hide (by
        have hwt := HL2.out.wait
        rw [hl0] at hwt
        rw [HW2.out, lookP_none hwt.nothing])
      rw [hl0] at hc
      have HLo := hide HL2.out.low
      clear hnil hl0 HL2 HW2
      go_wp2_with (go_at_call 149; refine (islen_any _ _ _ _).mono ?_; rintro e w' ⟨rfl, hw'⟩; obtain rfl := hw'.symm)
      go_end0
      exact ⟨HLo.out, by rw [HNo.out]⟩
    · obtain ⟨nn, hnn⟩ : ∃ nn, l.length = nn + 1 := ⟨l.length - 1, by omega⟩
      have HWait := hide HL2.out.wait
      obtain ⟨q, hq0, hqN, hsq, hdq, hle⟩ := HWait.out.top (by omega)
      obtain ⟨s, hsq⟩ := Option.isSome_iff_exists.1 hsq
      obtain ⟨i, hiq⟩ := getElem?_lt hqN
      have HPop := hide (hpop_any lb 11 B _ l nn wr HL2.out.wt hnn (by have := HWait.out.hp; rw [hnn] at this; exact this))
      have HQ := hide hq0
      have HNN := hide hnn
      have HST := hide hsq
      have HI := hide hiq
      have HU := hide (undone_less f.code.length q dn hqN hdq)
      have HSP : Hid (wrongP u f = match stepP u f q i s st with | .inl t => some t | .inr st' => lookP u f (undone f.code.length dn) st' (fun j => decide (j = q) || dn j)) := hide (by rw [HW2.out, lookP_step hle hiq hsq]; cases stepP u f q i s st <;> rfl)
      have hpos : (0 : Int) < (l.length : Int) := by omega
      clear hl0 hnn hsq hiq hle hdq HW2
      go_wp2_with (go_at_call 149; refine (islen_any _ _ _ _).mono ?_; rintro e w' ⟨rfl, hw'⟩; obtain rfl := hw'.symm)
      refine HPop.out.mono ?_
      rintro x w2 ⟨vw2, l2, rfl, ht2, hl2, hp2, hs2, hf2⟩
      rw [HQ.out]
      have HL3 := hide (HL2.out.popped HNN.out HQ.out ht2 hl2 hp2 hs2 hf2)
      clear ht2 hl2 hp2 hs2 hf2 HPop hc hq0
      go_wp2_with fail
      refine (HLC.out w2 vw2 st _ m l2 k q i s HL3.out HI.out HST.out).mono ?_
      intro x w3 h3
      unfold LookR at h3
      rw [stepQ_eq hu hf] at h3
      generalize hsp : stepP u f q i s st = SP at h3 HSP
      clear hsp
      cases SP with
      | inl t =>
        obtain ⟨rfl, hb⟩ := h3
        exact ⟨rfl, hb, by rw [HSP.out]⟩
      | inr st' =>
        obtain ⟨rfl, vw4, m4, l4, k4, hl4⟩ := h3
        have HL4 := hide hl4
        clear hl4
        go_wp2_with fail
        go_roundg (undone f.code.length (fun j => decide (j = q) || dn j) + 1)
        case measure => have := HU.out; omega
        case rel => exact ⟨vw4, st', _, m4, l4, k4, rfl, HL4.out, by rw [HSP.out, HU.out]⟩
end Go.Proofs.YtkgncijcnlfhiaaDoor

