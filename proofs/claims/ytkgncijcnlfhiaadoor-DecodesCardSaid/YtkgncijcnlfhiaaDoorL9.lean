import Derived.Test.YtkgncijcnlfhiaaDoorF1
import Derived.Test.YtkgncijcnlfhiaaDoorW4c
namespace Go.Proofs.YtkgncijcnlfhiaaDoor
set_option linter.unusedVariables false
set_option linter.unusedSimpArgs false
open Go.RowKit
attribute [local go_sem ↓] Go.wp_at_zero Go.wp_at_succ
/-- the document's table of operands lies where it was laid -/
def Tab (w : World) : Prop := ∀ j : Nat, j < 21 → w.cell? ⟨0, j, none⟩ = some (.int .i64 (operandsN j))
theorem Tab.gr {w w' : World} (h : Tab w) (g : Gr w w') : Tab w' := fun j hj => g.cell (h j hj) (by simp)
theorem opN_cases (op : Int) : operandsN op = 0 ∨ operandsN op = 1 ∨ operandsN op = 2 := by
  unfold operandsN; split
  · exact .inr (.inr rfl)
  · split
    · exact .inr (.inl rfl)
    · exact .inl rfl

set_option maxRecDepth 100000 in
set_option maxHeartbeats 1000000 in
theorem kinds_ref (v : Value) (l : List Int) (n most : Int) (w : World) (hR : RInts w v l) :
    Calls Tryd.prog 69 #[v, .int .i64 n, .int .i64 most] w fun x w' => x = .returned (.bool (l.all (inB n) && decide ((l.length : Int) ≤ most))) ∧ w' = w := by
  have HR := hide hR
  obtain ⟨a1, c1, rfl, hm, _⟩ := hR
  unfold maxLen at hm
  go_enter Tryd.func69, Tryd.ntmps69
  go_wp2_with fail
  go_loopw [7] (fun i wr => ∃ k : Nat, i = .int .i64 k ∧ k ≤ l.length ∧ (l.take k).all (inB n) = true ∧ wr = w) (fun i _ => l.length - (intOf i).toNat)
  case atStart => exact ⟨0, rfl, Nat.zero_le _, by simp, rfl⟩
  case round =>
    obtain ⟨k, rfl, hk, hall, rfl⟩ := hrel
    have HA := hide hall
    clear hall
    by_cases hlt : k < l.length
    · obtain ⟨a1', c1', h1e, _, hc1⟩ := HR.out
      simp only [Value.slice.injEq, true_and] at h1e
      obtain ⟨b1, o1, rfl, hx1⟩ := hc1 k hlt
      obtain ⟨rfl, rfl⟩ := h1e
      have hxk : l[k]? = some (l.getD k 0) := by simp [List.getD_eq_getElem?_getD, hlt]
      generalize l.getD k 0 = x at hx1 hxk
      have HXk := hide hxk
      clear hc1 hxk
      by_cases h0 : x < 0
      · have HF : Hid (l.all (inB n) = false) := hide (all_false_at HXk.out (by simp [inB, wB]; omega))
        go_wp2_with fail
        go_ret
        exact ⟨by rw [HF.out]; rfl, rfl⟩
      · by_cases h1 : n < x
        · have HF : Hid (l.all (inB n) = false) := hide (all_false_at HXk.out (by simp [inB, wB]; omega))
          go_wp2_with fail
          go_ret
          exact ⟨by rw [HF.out]; rfl, rfl⟩
        · have HT : Hid ((l.take (k + 1)).all (inB n) = true) := hide (by rw [all_take_succ HXk.out, HA.out]; simp [inB, wB]; omega)
          go_wp2_with fail
          exact ⟨⟨k + 1, by simp, hlt, HT.out, trivial⟩, by simp [intOf]; omega⟩
    · have hkk : k = l.length := by omega
      subst hkk
      have HE : Hid (l.all (inB n) = true) := hide (by have h := HA.out; rwa [List.take_length] at h)
      go_wp2_with fail
      go_ret
      exact ⟨by rw [HE.out]; rfl, rfl⟩

set_option maxRecDepth 100000 in
set_option maxHeartbeats 2000000 in
theorem ins_ref (i : PIns) (w : World) (hT : Tab w) :
    Calls Tryd.prog 120 #[.agg #[.int .i64 i.op, .int .i64 i.a, .int .i64 i.b]] w fun x w' => x = .returned (.bool (insOk i)) ∧ Gr w w' := by
  obtain ⟨op, a, b⟩ := i
  have hga := Gr.alloc (Gr.refl w) (.cells #[.int .i64 op, .int .i64 a, .int .i64 b] 91)
  have HG := hide hga
  by_cases hr : 0 ≤ op ∧ op ≤ 20
  · obtain ⟨j, rfl⟩ : ∃ j : Nat, op = (j : Int) := ⟨op.toNat, by omega⟩
    have hj : j < 21 := by omega
    have ht := hga.cell (hT j hj) (by simp)
    by_cases h1 : j = 1
    · subst h1
      clear ht hga
      go_enter Tryd.func120, Tryd.ntmps120
      go_wp2_with fail
      all_goals go_ret
      all_goals refine ⟨?_, (Gr.refl w).alloc _⟩
      all_goals show Ending.returned (Value.bool _) = Ending.returned (Value.bool _)
      all_goals refine congrArg (fun t => Ending.returned (Value.bool t)) ?_
      all_goals rw [Bool.eq_iff_iff]
      all_goals simp [insOk, wB, operandOk, operandsN]
      all_goals omega
    · have hj1 : ¬ (j : Int) = 1 := by omega
      have hjb : ((j : Int) == 1) = false := by simpa using hj1
      have HOK : Hid (∀ a b, insOk ⟨j, a, b⟩ = (operandOk a (decide (1 ≤ operandsN j)) && operandOk b (decide (2 ≤ operandsN j)))) := hide (by
        intro a b; unfold insOk; simp only [if_neg hj1]; rw [show wB (j : Int) 0 20 = true by simp [wB]; omega]; simp)
      have HN := hide (opN_cases (j : Int))
      clear hga
      generalize operandsN (j : Int) = n at ht HOK HN
      have hj0 : (0 : Int) ≤ (j : Int) := by omega
      have hj2 : (j : Int) < 21 := by omega
      by_cases hb0 : b = 0
      · subst hb0
        rcases HN.out with rfl | rfl | rfl
        · clear HN hr hj1
          go_enter Tryd.func120, Tryd.ntmps120
          go_wp2_with fail
          all_goals go_ret
          all_goals refine ⟨?_, (Gr.refl w).alloc _⟩
          all_goals show Ending.returned (Value.bool _) = Ending.returned (Value.bool _)
          all_goals refine congrArg (fun t => Ending.returned (Value.bool t)) ?_
          all_goals rw [HOK.out, Bool.eq_iff_iff]
          all_goals simp [wB, operandOk]
          all_goals omega
        · clear HN hr hj1
          go_enter Tryd.func120, Tryd.ntmps120
          go_wp2_with fail
          all_goals go_ret
          all_goals refine ⟨?_, (Gr.refl w).alloc _⟩
          all_goals show Ending.returned (Value.bool _) = Ending.returned (Value.bool _)
          all_goals refine congrArg (fun t => Ending.returned (Value.bool t)) ?_
          all_goals rw [HOK.out, Bool.eq_iff_iff]
          all_goals simp [wB, operandOk]
          all_goals omega
        · clear HN hr hj1
          go_enter Tryd.func120, Tryd.ntmps120
          go_wp2_with fail
          all_goals go_ret
          all_goals refine ⟨?_, (Gr.refl w).alloc _⟩
          all_goals show Ending.returned (Value.bool _) = Ending.returned (Value.bool _)
          all_goals refine congrArg (fun t => Ending.returned (Value.bool t)) ?_
          all_goals rw [HOK.out, Bool.eq_iff_iff]
          all_goals simp [wB, operandOk]
          all_goals omega
      · have hbn : (b != 0) = true := by simpa using hb0
        rcases HN.out with rfl | rfl | rfl
        · clear HN hr hj1
          go_enter Tryd.func120, Tryd.ntmps120
          go_wp2_with fail
          all_goals go_ret
          all_goals refine ⟨?_, (Gr.refl w).alloc _⟩
          all_goals show Ending.returned (Value.bool _) = Ending.returned (Value.bool _)
          all_goals refine congrArg (fun t => Ending.returned (Value.bool t)) ?_
          all_goals rw [HOK.out, Bool.eq_iff_iff]
          all_goals simp [wB, operandOk]
          all_goals omega
        · clear HN hr hj1
          go_enter Tryd.func120, Tryd.ntmps120
          go_wp2_with fail
          all_goals go_ret
          all_goals refine ⟨?_, (Gr.refl w).alloc _⟩
          all_goals show Ending.returned (Value.bool _) = Ending.returned (Value.bool _)
          all_goals refine congrArg (fun t => Ending.returned (Value.bool t)) ?_
          all_goals rw [HOK.out, Bool.eq_iff_iff]
          all_goals simp [wB, operandOk]
          all_goals omega
        · clear HN hr hj1
          go_enter Tryd.func120, Tryd.ntmps120
          go_wp2_with fail
          all_goals go_ret
          all_goals refine ⟨?_, (Gr.refl w).alloc _⟩
          all_goals show Ending.returned (Value.bool _) = Ending.returned (Value.bool _)
          all_goals refine congrArg (fun t => Ending.returned (Value.bool t)) ?_
          all_goals rw [HOK.out, Bool.eq_iff_iff]
          all_goals simp [wB, operandOk]
          all_goals omega
  · have HF : Hid (insOk ⟨op, a, b⟩ = false) := hide (by unfold insOk; rw [show wB op 0 20 = false by simp [wB]; omega]; rfl)
    clear hga
    by_cases h0 : op < 0
    · go_enter Tryd.func120, Tryd.ntmps120
      go_wp2_with fail
      go_ret
      exact ⟨by rw [HF.out]; rfl, HG.out⟩
    · have h20 : 20 < op := by omega
      go_enter Tryd.func120, Tryd.ntmps120
      go_wp2_with fail
      go_ret
      exact ⟨by rw [HF.out]; rfl, HG.out⟩
end Go.Proofs.YtkgncijcnlfhiaaDoor

namespace Go.Proofs.YtkgncijcnlfhiaaDoor
set_option linter.unusedVariables false
set_option linter.unusedSimpArgs false
open Go.RowKit
def lC (i : PIns) : List Value := [.int .i64 i.op, .int .i64 i.a, .int .i64 i.b]
/-- fb: the function's box; its first three fields stand; c: what was read of its code, in blocks from H on -/
structure FnW (V : World) (H rb fb : Nat) (s : ByteArray) (x0 x1 x2 : Value) (c : List PIns) (vc : Value) (r : List UInt8) (bad : Bool) (w : World) : Prop where
  lt : rb < H ∧ fb < H ∧ ¬ rb = fb
  bx : Box4 w fb x0 x1 x2 vc
  low : ∀ b, b < H → ¬ b = rb → ¬ b = fb → w.heap[b]? = V.heap[b]?
  hs : H ≤ w.heap.size
  ow : w.ownsRow H 91 3 vc c.length (c.flatMap lC)
  ls : LsR w rb s r bad
  env : w.os = V.os ∧ w.tape = V.tape ∧ w.output = V.output
section
variable {V w w' : World} {H rb fb : Nat} {s : ByteArray} {x0 x1 x2 vc : Value} {c : List PIns} {r r' : List UInt8} {bad bad' : Bool}
/-- behind a call of the reader -/
theorem FnW.call (h : FnW V H rb fb s x0 x1 x2 c vc r bad w) (g : Gc rb w w') (hl : LsR w' rb s r' bad') : FnW V H rb fb s x0 x1 x2 c vc r' bad' w' :=
  ⟨h.lt, h.bx.gc g (fun e => h.lt.2.2 e.symm), fun b hb h1 h2 => (g.block b (by have := h.hs; omega) (by intro e; exact h1 (Option.some.inj e))).trans (h.low b hb h1 h2), Nat.le_trans h.hs g.size,
    h.ow.kept g (.inr (by intro e; have := lown_ge h.ow _ e; have := h.lt.1; omega)), hl, by rw [g.os, g.tape, g.output]; exact h.env⟩
theorem FnW.gr (h : FnW V H rb fb s x0 x1 x2 c vc r bad w) (g : Gr w w') : FnW V H rb fb s x0 x1 x2 c vc r bad w' := h.call g.toGc (h.ls.gr g)
/-- a cell of a block of later times, which is not the code's -/
theorem FnW.set (h : FnW V H rb fb s x0 x1 x2 c vc r bad w) {g o : Nat} {v : Value} (hg : H ≤ g) (hv : ¬ vc.ownBlock = some g) : FnW V H rb fb s x0 x1 x2 c vc r bad (w.setCell ⟨g, o, none⟩ v) := by
  have hb : ∀ b, ¬ b = g → (w.setCell ⟨g, o, none⟩ v).heap[b]? = w.heap[b]? := fun b hb => Below.heap_setCell _ _ _ _ hb
  refine ⟨h.lt, h.bx.other (by have := h.lt; omega), fun b hb1 h1 h2 => (hb b (by omega)).trans (h.low b hb1 h1 h2), by simpa using h.hs, ?_, ?_, h.env⟩
  · rcases h.ow.2 with ⟨e, h0⟩ | ⟨k, cap, cur, e, h1, h2, h3⟩
    · exact ⟨h.ow.1, .inl ⟨e, h0⟩⟩
    · exact ⟨h.ow.1, .inr ⟨k, cap, cur, e, h1, (hb k (fun e2 => hv (by rw [e, e2]; rfl))).trans h2, h3⟩⟩
  · obtain ⟨q, h1, h2⟩ := h.ls
    exact ⟨q, ⟨(hb rb (by have := h.lt; omega)).trans h1.1, h1.2⟩, h2⟩
end
end Go.Proofs.YtkgncijcnlfhiaaDoor

namespace Go.Proofs.YtkgncijcnlfhiaaDoor
set_option linter.unusedVariables false
set_option linter.unusedSimpArgs false
open Go.RowKit
attribute [local go_sem ↓] Go.wp_at_zero Go.wp_at_succ
def FnV (B : Nat) (w : World) (v : Value) (f : PFunc) : Prop := ∃ vp vl vc, v = .agg #[vp, .int .i64 f.result, vl, vc] ∧ w.ownsRow B 3 1 vp f.params.length (icL f.params) ∧ w.ownsRow B 3 1 vl f.locals.length (icL f.locals) ∧ w.ownsRow B 91 3 vc f.code.length (f.code.flatMap lC)
theorem lown_same {w w' : World} {B n len : Nat} {e : TypeId} {v : Value} {xs : List Value} (h : w.ownsRow B e n v len xs) (g : ∀ k, v.ownBlock = some k → w'.heap[k]? = w.heap[k]?) : w'.ownsRow B e n v len xs := by
  rcases h.2 with ⟨e1, h0⟩ | ⟨k, cap, cur, e1, h1, h2, h3⟩
  · exact ⟨h.1, .inl ⟨e1, h0⟩⟩
  · exact ⟨h.1, .inr ⟨k, cap, cur, e1, h1, (g k (by rw [e1]; rfl)).trans h2, h3⟩⟩
theorem lown_lt {w : World} {B n len : Nat} {e : TypeId} {v : Value} {xs : List Value} (h : w.ownsRow B e n v len xs) : ∀ k, v.ownBlock = some k → B ≤ k ∧ k < w.heap.size := fun k hk => by
  rcases h.2 with ⟨e1, h0⟩ | ⟨j, cap, cur, e1, h1, h2, h3⟩
  · rw [e1] at hk; cases hk
  · rw [e1] at hk
    have : j = k := Option.some.inj hk
    subst this
    exact ⟨h1, (Array.getElem?_eq_some_iff.1 h2).1⟩
theorem lown_mono {w : World} {B B' n len : Nat} {e : TypeId} {v : Value} {xs : List Value} (h : w.ownsRow B e n v len xs) (hB : B' ≤ B) : w.ownsRow B' e n v len xs := by
  rcases h.2 with ⟨e1, h0⟩ | ⟨k, cap, cur, e1, h1, h2, h3⟩
  · exact ⟨h.1, .inl ⟨e1, h0⟩⟩
  · exact ⟨h.1, .inr ⟨k, cap, cur, e1, Nat.le_trans hB h1, h2, h3⟩⟩
/-- what stands when the loop begins -/
structure FnS (w : World) (rb fb : Nat) (s : ByteArray) (vp vl : Value) (p l : List Int) (q : Int) (V : World) : Prop where
  gc : Gc rb w V
  hfb : w.heap.size < fb ∧ fb < V.heap.size
  hrb : rb < w.heap.size
  res : Box4 V w.heap.size (.slice none 0 0) (.int .i64 0) (.slice none 0 0) (.slice none 0 0)
  op : V.ownsRow (w.heap.size + 1) 3 1 vp p.length (icL p)
  ol : V.ownsRow (w.heap.size + 1) 3 1 vl l.length (icL l)
  np : ¬ vp.ownBlock = some fb
  nl : ¬ vl.ownBlock = some fb
section
variable {w V wr : World} {rb fb : Nat} {s : ByteArray} {vp vl vc : Value} {p l : List Int} {q : Int} {c : List PIns} {r : List UInt8} {bad : Bool}
def put4 (w : World) (b : Nat) (x0 x1 x2 x3 : Value) : World := (((w.setCell ⟨b, 0, none⟩ x0).setCell ⟨b, 1, none⟩ x1).setCell ⟨b, 2, none⟩ x2).setCell ⟨b, 3, none⟩ x3
theorem put4_other {b k : Nat} {x0 x1 x2 x3 : Value} (h : ¬ k = b) : (put4 w b x0 x1 x2 x3).heap[k]? = w.heap[k]? := by
  unfold put4
  rw [Below.heap_setCell _ _ _ _ h, Below.heap_setCell _ _ _ _ h, Below.heap_setCell _ _ _ _ h, Below.heap_setCell _ _ _ _ h]
theorem FnS.res_ (h : FnS w rb fb s vp vl p l q V) (f : FnW V V.heap.size rb fb s vp (.int .i64 q) vl c vc r bad wr) : Box4 wr w.heap.size (.slice none 0 0) (.int .i64 0) (.slice none 0 0) (.slice none 0 0) := by
  have e := f.low w.heap.size (by have := h.hfb; omega) (by have := h.hrb; omega) (by have := h.hfb; omega)
  obtain ⟨h0, h1, h2, h3, z0, z1, z2, z3⟩ := h.res
  have hc : ∀ j, wr.cell? ⟨w.heap.size, j, none⟩ = V.cell? ⟨w.heap.size, j, none⟩ := fun j => World.cell?_of_block e
  have hz : ∀ j, wr.frozen? ⟨w.heap.size, j, none⟩ = V.frozen? ⟨w.heap.size, j, none⟩ := fun j => World.frozen?_of_block e
  exact ⟨(hc 0).trans h0, (hc 1).trans h1, (hc 2).trans h2, (hc 3).trans h3, (hz 0).trans z0, (hz 1).trans z1, (hz 2).trans z2, (hz 3).trans z3⟩
/-- what is given back -/
theorem FnS.end_ (h : FnS w rb fb s vp vl p l q V) (f : FnW V V.heap.size rb fb s vp (.int .i64 q) vl c vc r bad wr) : FnV w.heap.size (put4 wr w.heap.size vp (.int .i64 q) vl vc) (.agg #[vp, .int .i64 q, vl, vc]) ⟨p, q, l, c⟩ ∧ LsR (put4 wr w.heap.size vp (.int .i64 q) vl vc) rb s r bad ∧ Gc rb w (put4 wr w.heap.size vp (.int .i64 q) vl vc) := by
  have hfb := h.hfb
  have hrb := h.hrb
  have old : ∀ k, w.heap.size < k → k < V.heap.size → ¬ k = fb → (put4 wr w.heap.size vp (.int .i64 q) vl vc).heap[k]? = V.heap[k]? := fun k h1 h2 h3 => (put4_other (by omega)).trans (f.low k h2 (by omega) h3)
  refine ⟨⟨vp, vl, vc, rfl, lown_mono (lown_same h.op fun k hk => old k (by have := lown_lt h.op k hk; omega) (lown_lt h.op k hk).2 (fun e => h.np (e ▸ hk))) (by omega), lown_mono (lown_same h.ol fun k hk => old k (by have := lown_lt h.ol k hk; omega) (lown_lt h.ol k hk).2 (fun e => h.nl (e ▸ hk))) (by omega), lown_mono (lown_same f.ow fun k hk => put4_other (by have := lown_lt f.ow k hk; omega)) (by omega)⟩, ?_, ?_⟩
  · obtain ⟨j, h1, h2⟩ := f.ls
    exact ⟨j, ⟨(put4_other (by omega)).trans h1.1, h1.2⟩, h2⟩
  · refine ⟨f.env.1.trans h.gc.os, f.env.2.1.trans h.gc.tape, f.env.2.2.trans h.gc.output, Nat.le_trans h.gc.size (Nat.le_trans f.hs (by simp [put4])), fun i hi hne => ?_⟩
    have hir : ¬ i = rb := fun e => hne (by rw [e])
    exact (put4_other (by omega)).trans ((f.low i (by omega) hir (by omega)).trans (h.gc.block i hi hne))
end
end Go.Proofs.YtkgncijcnlfhiaaDoor

