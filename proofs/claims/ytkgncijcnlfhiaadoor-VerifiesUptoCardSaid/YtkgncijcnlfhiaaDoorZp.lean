import Derived.Test.YtkgncijcnlfhiaaDoorZe
import Derived.Test.YtkgncijcnlfhiaaDoorZ4
import Derived.Test.YtkgncijcnlfhiaaDoorV3
namespace Go.Proofs.YtkgncijcnlfhiaaDoor
set_option linter.unusedVariables false
set_option linter.unusedSimpArgs false
open Go.RowKit
attribute [local go_sem ↓] Go.wp_at_zero Go.wp_at_succ
def RIntsQ (P : Nat → Prop) (w : World) (v : Value) (l : List Int) : Prop :=
  ∃ ao cap, v = .slice ao l.length cap ∧ (l.length ≤ maxLen ∧ l.length ≤ cap) ∧ ∀ i, i < l.length → ∃ b off, ao = some ⟨b, off, none⟩ ∧ P b ∧ w.cell? ⟨b, off + i, none⟩ = some (.int .i64 (l.getD i 0))
theorem RIntsQ.to {P : Nat → Prop} {w : World} {v : Value} {l : List Int} (h : RIntsQ P w v l) : RInts w v l := by
  obtain ⟨ao, cap, h1, h2, h3⟩ := h
  exact ⟨ao, cap, h1, h2.1, fun i hi => by obtain ⟨b, off, e1, _, e3⟩ := h3 i hi; exact ⟨b, off, e1, e3⟩⟩
theorem RIntsQ.cap {P : Nat → Prop} {w : World} {l : List Int} {ao : Option Addr} {n c : Nat} (h : RIntsQ P w (.slice ao n c) l) : l.length ≤ c := by
  obtain ⟨ao', cap, h1, h2, h3⟩ := h
  simp only [Value.slice.injEq] at h1
  obtain ⟨_, _, rfl⟩ := h1
  exact h2.2
theorem RIntsQ.mono {P P' : Nat → Prop} {w w' : World} {v : Value} {l : List Int} (h : RIntsQ P w v l) (g : ∀ b, P b → b < w.heap.size → w'.heap[b]? = w.heap[b]? ∧ P' b) : RIntsQ P' w' v l := by
  obtain ⟨ao, cap, h1, h2, h3⟩ := h
  refine ⟨ao, cap, h1, h2, fun i hi => ?_⟩
  obtain ⟨b, off, e1, e2, e3⟩ := h3 i hi
  have hb := World.block_lt_of_cell? w _ e3
  obtain ⟨g1, g2⟩ := g b e2 hb
  exact ⟨b, off, e1, g2, (World.cell?_of_block (a := ⟨b, off + i, none⟩) g1).trans e3⟩
theorem rintsq_nil (P : Nat → Prop) (w : World) : RIntsQ P w (.slice none 0 0) [] := ⟨none, 0, rfl, ⟨by decide, by decide⟩, fun i h => by simp at h⟩
/-- blocks of stacks: new ones, and not where the waiting ones lie -/
def Sb (B : Nat) (vw : Value) (b : Nat) : Prop := B ≤ b ∧ ¬ vw.ownBlock = some b
def lkArr (v1 v2 v3 v4 v5 vs : Value) (N res : Int) (n : Nat) (vc : Value) (mb : Nat) (vw : Value) : Array Value := #[v1, v2, v3, v4, v5, vs, .int .i64 N, .int .i64 res, .int .i64 (n : Int), vc, .map (some mb), vw]
structure LkAt (W0 w : World) (lb mb B : Nat) (v1 v2 v3 v4 v5 vs : Value) (sl : List Int) (N : Nat) (res : Int) (n : Nat) (vc vw : Value) (st : Nat → Option (List Int)) (dn : Nat → Bool) (m : Nat → Option Value) (l : List Int) (k : Nat) : Prop where
  box : w.heap[lb]? = some (.cells (lkArr v1 v2 v3 v4 v5 vs (N : Int) res n vc mb vw) 174 (0, 0))
  row : HpRow w B vw l
  lbB : lb < B
  bs : B ≤ w.heap.size
  mp : MapIs w mb k m
  mbB : mb < B
  mbl : ¬ mb = lb
  sts : ∀ j s, st j = some s → ∃ v, m j = some v ∧ RIntsQ (Sb B vw) w v s
  len : ∀ j s, st j = some s → s.length ≤ 20
  non : ∀ j, st j = none → m j = none
  wait : Wait N (fnL l) l.length st dn
  bound : k + undone N (fun j => (st j).isSome) ≤ N
  small : N ≤ 1000
  wl : l.length ≤ k
  slt : RIntsQ (fun b => ¬ b = lb ∧ ¬ b = mb ∧ b < B) w vs sl
  low : Below W0.heap.size W0 w
  w0l : W0.heap.size ≤ lb
  w0m : W0.heap.size ≤ mb
/-- only the looker, its map and the waiting ones are turned -/
structure LkFr (w w' : World) (lb mb : Nat) (vw : Value) : Prop where
  size : w.heap.size ≤ w'.heap.size
  rest : ∀ b, b < w.heap.size → ¬ b = lb → ¬ b = mb → ¬ vw.ownBlock = some b → w'.heap[b]? = w.heap[b]?
theorem heap_cell_ {w : World} {b : Nat} {arr : Array Value} {t : TypeId} {o : Nat} {f : Nat × Nat} (h : w.heap[b]? = some (.cells arr t f)) : w.cell? ⟨b, o, none⟩ = arr[o]? := by
  simp [World.cell?, h]
theorem heap_frozen_ {w : World} {b : Nat} {arr : Array Value} {t : TypeId} {o : Nat} (h : w.heap[b]? = some (.cells arr t (0, 0))) : w.frozen? ⟨b, o, none⟩ = false := by
  simp [World.frozen?, h]
theorem LkAt.wt {W0 w : World} {lb mb B : Nat} {v1 v2 v3 v4 v5 vs : Value} {sl : List Int} {N : Nat} {res : Int} {n : Nat} {vc vw : Value} {st : Nat → Option (List Int)} {dn : Nat → Bool} {m : Nat → Option Value} {l : List Int} {k : Nat} (h : LkAt W0 w lb mb B v1 v2 v3 v4 v5 vs sl N res n vc vw st dn m l k) : WtAt w lb 11 B vw l :=
  ⟨by rw [heap_cell_ h.box]; rfl, heap_frozen_ h.box, h.row, h.lbB, h.bs, by have := h.wl; have := h.small; have := h.bound; omega⟩
theorem LkAt.gr {W0 w w' : World} {lb mb B : Nat} {v1 v2 v3 v4 v5 vs : Value} {sl : List Int} {N : Nat} {res : Int} {n : Nat} {vc vw : Value} {st : Nat → Option (List Int)} {dn : Nat → Bool} {m : Nat → Option Value} {l : List Int} {k : Nat} (h : LkAt W0 w lb mb B v1 v2 v3 v4 v5 vs sl N res n vc vw st dn m l k) (g : Gr w w') : LkAt W0 w' lb mb B v1 v2 v3 v4 v5 vs sl N res n vc vw st dn m l k := by
  have hlb : lb < w.heap.size := by have := h.lbB; have := h.bs; omega
  have hmb : mb < w.heap.size := h.mp.lt
  refine ⟨(g.block lb hlb (by simp)).trans h.box, h.row.keep fun b hb => g.block b (World.ownsRow.lt h.row b hb).2 (by simp), h.lbB, Nat.le_trans h.bs g.size, h.mp.kept (g.block mb hmb (by simp)), h.mbB, h.mbl, fun j s hs => ?_, h.len, h.non, h.wait, h.bound, h.small, h.wl, h.slt.mono fun b hb hl => ⟨g.block b hl (by simp), hb⟩, h.low.grown g h.low.size (by simp), h.w0l, h.w0m⟩
  obtain ⟨v, e1, e2⟩ := h.sts j s hs
  exact ⟨v, e1, e2.mono fun b hb hl => ⟨g.block b hl (by simp), hb⟩⟩
set_option maxRecDepth 100000 in
set_option maxHeartbeats 1000000 in
theorem wrong_any (lb n at_ : Nat) (w : World) (hc : w.cell? ⟨lb, 8, none⟩ = some (.int .i64 (n : Int))) :
    Calls Tryd.prog 162 #[.pointer (some ⟨lb, 0, none⟩), .int .i64 (at_ : Int)] w fun x w' => x = .returned (.agg #[.int .i64 10, .int .i64 (n : Int), .int .i64 (at_ : Int)]) ∧ Gr w w' := by
  have hc1 := (World.grownBy_alloc w (.cells #[.int .i64 0, .int .i64 0, .int .i64 0] 83) none).cell hc (by simp)
  go_enter Tryd.func162, Tryd.ntmps162
  go_wp2_with fail
  exact bodyPost_ret (v := .agg #[.int .i64 10, .int .i64 (n : Int), .int .i64 (at_ : Int)]) (by simp [results, Tryd.results162, go_sem]) rfl ⟨rfl, (Gr.refl w).alloc _⟩
end Go.Proofs.YtkgncijcnlfhiaaDoor

namespace Go.Proofs.YtkgncijcnlfhiaaDoor
set_option linter.unusedVariables false
set_option linter.unusedSimpArgs false
open Go.RowKit
theorem effP_puts {u : PUnit} {f : PFunc} {i : PIns} {ts ps : List Int} (he : effP u f i = some (ts, ps)) : ps.length ≤ 2 := by
  unfold effP at he
  generalize (if 1 ≤ i.a then u.shapes[(i.a - 1).toNat]? else none) = S at he
  by_cases c0 : i.op = 0
  · rw [if_pos c0] at he; split at he
    · cases he; simp
    · cases he
  rw [if_neg c0] at he
  by_cases c1 : i.op = 1
  · rw [if_pos c1] at he; cases he; simp
  rw [if_neg c1] at he
  by_cases c2 : i.op = 2
  · rw [if_pos c2] at he; rw [Option.map_eq_some_iff] at he; obtain ⟨k, hk, e⟩ := he; cases e; simp
  rw [if_neg c2] at he
  by_cases c3 : i.op = 3
  · rw [if_pos c3] at he; rw [Option.map_eq_some_iff] at he; obtain ⟨k, hk, e⟩ := he; cases e; simp
  rw [if_neg c3] at he
  by_cases c4 : i.op = 4
  · rw [if_pos c4] at he; cases he; simp
  rw [if_neg c4] at he
  by_cases c5 : i.op = 5
  · rw [if_pos c5] at he; cases he; simp
  rw [if_neg c5] at he
  by_cases c6 : i.op = 6 ∨ i.op = 7 ∨ i.op = 8 ∨ i.op = 9 ∨ i.op = 10
  · rw [if_pos c6] at he; cases he; simp
  rw [if_neg c6] at he
  by_cases c7 : i.op = 11
  · rw [if_pos c7] at he; split at he
    · cases he; simp
    · cases he
  rw [if_neg c7] at he
  by_cases c8 : i.op = 12
  · rw [if_pos c8] at he; split at he
    · cases he; simp
    · cases he
  rw [if_neg c8] at he
  by_cases c9 : i.op = 13
  · rw [if_pos c9] at he; split at he
    · cases he; simp
    · rw [Option.map_eq_some_iff] at he; obtain ⟨g, hg, e⟩ := he; cases e; simp
  rw [if_neg c9] at he
  by_cases c10 : i.op = 14
  · rw [if_pos c10] at he; cases he; simp
  rw [if_neg c10] at he
  by_cases c11 : i.op = 15
  · rw [if_pos c11] at he; rw [Option.map_eq_some_iff] at he; obtain ⟨k, hk, e⟩ := he; cases e; simp
  rw [if_neg c11] at he
  by_cases c12 : i.op = 16
  · rw [if_pos c12] at he; rw [Option.bind_eq_some_iff] at he; obtain ⟨s, hs, he⟩ := he
    rw [Option.map_eq_some_iff] at he; obtain ⟨k, hk, e⟩ := he; cases e; simp
  rw [if_neg c12] at he
  by_cases c13 : i.op = 17
  · rw [if_pos c13] at he; rw [Option.bind_eq_some_iff] at he; obtain ⟨s, hs, he⟩ := he
    rw [Option.map_eq_some_iff] at he; obtain ⟨k, hk, e⟩ := he; cases e; simp
  rw [if_neg c13] at he
  by_cases c14 : i.op = 18
  · rw [if_pos c14] at he; rw [Option.map_eq_some_iff] at he; obtain ⟨k, hk, e⟩ := he; cases e; simp
  rw [if_neg c14] at he
  by_cases c15 : i.op = 19
  · rw [if_pos c15] at he; rw [Option.map_eq_some_iff] at he; obtain ⟨k, hk, e⟩ := he; cases e; simp
  rw [if_neg c15] at he
  by_cases c16 : i.op = 20
  · rw [if_pos c16] at he; cases he; simp
  rw [if_neg c16] at he
  cases he
theorem effQ_puts {u : PUnit} {f : PFunc} {i : PIns} {s ts ps : List Int} (he : effQ u f i s = some (ts, ps)) : ps.length ≤ 2 := by
  unfold effQ at he
  by_cases c4 : i.op = 4
  · rw [if_pos c4, Option.map_eq_some_iff] at he; obtain ⟨k, hk, e⟩ := he; cases e; simp
  rw [if_neg c4] at he
  by_cases c5 : i.op = 5
  · rw [if_pos c5, Option.map_eq_some_iff] at he; obtain ⟨k, hk, e⟩ := he; cases e; simp
  rw [if_neg c5] at he
  exact effP_puts he
theorem effQ_jump {u : PUnit} {f : PFunc} {i : PIns} {s ts ps : List Int} (he : effQ u f i s = some (ts, ps)) (hop : i.op = 11 ∨ i.op = 12) : i.a < f.code.length := by
  unfold effQ effP at he
  rcases hop with h | h <;> simp [h] at he <;> exact he.1
theorem rints_drop {w : World} {ao : Option Addr} {c : Nat} {l : List Int} (h : RInts w (.slice ao l.length c) l) (hc : l.length ≤ c) {d : Nat} (hd : d ≤ l.length) : RInts w (.slice (if c = d then ao else Option.map (fun x => x.add d) ao) (l.length - d) (c - d)) (l.drop d) := by
  obtain ⟨ao', c', h1, h2, h3⟩ := h
  simp only [Value.slice.injEq, true_and] at h1
  obtain ⟨rfl, rfl⟩ := h1
  refine ⟨_, _, by rw [List.length_drop], by rw [List.length_drop]; omega, fun i hi => ?_⟩
  rw [List.length_drop] at hi
  obtain ⟨b, off, rfl, hcell⟩ := h3 (d + i) (by omega)
  rw [if_neg (by omega)]
  refine ⟨b, off + d, by simp [Addr.add], ?_⟩
  have e : (l.drop d).getD i 0 = l.getD (d + i) 0 := by rw [List.getD_eq_getElem?_getD, List.getD_eq_getElem?_getD, List.getElem?_drop]
  rw [e, ← hcell, Nat.add_assoc]
theorem rints_take {w : World} {ao : Option Addr} {c : Nat} {l : List Int} (h : RInts w (.slice ao l.length c) l) {d : Nat} (hd : d ≤ l.length) : RInts w (.slice ao d c) (l.take d) := by
  obtain ⟨ao', c', h1, h2, h3⟩ := h
  simp only [Value.slice.injEq, true_and] at h1
  obtain ⟨rfl, rfl⟩ := h1
  have hl : (l.take d).length = d := by rw [List.length_take]; omega
  refine ⟨_, _, by rw [hl], by omega, fun i hi => ?_⟩
  rw [hl] at hi
  obtain ⟨b, off, rfl, hcell⟩ := h3 i (by omega)
  refine ⟨b, off, rfl, ?_⟩
  have e : (l.take d).getD i 0 = l.getD i 0 := by rw [List.getD_eq_getElem?_getD, List.getD_eq_getElem?_getD, List.getElem?_take, if_pos hi]
  rw [e, ← hcell]
theorem rints_put {w : World} {v x : Value} {l : List Int} {p : Addr} {ao : Option Addr} {n c : Nat} (h : RInts w v l) (hp : w.cell? p = some (.slice ao n c)) : RInts (w.setCell p x) v l := by
  obtain ⟨a, cap, hv, hm, hc⟩ := h
  refine ⟨a, cap, hv, hm, fun i hi => ?_⟩
  obtain ⟨b, off, h1, h2⟩ := hc i hi
  refine ⟨b, off, h1, ?_⟩
  rw [World.cell?_setCell_other _ _ _ _ (by intro e; rw [← e, hp] at h2; cases h2)]
  exact h2
theorem rints_put2 {w : World} {v x y : Value} {l : List Int} {g : Nat} {ao a1 : Option Addr} {n c n1 c1 : Nat} (h : RInts w v l) (h0 : w.cell? ⟨g, 0, none⟩ = some (.slice ao n c)) (h1 : w.cell? ⟨g, 1, none⟩ = some (.slice a1 n1 c1)) : RInts ((w.setCell ⟨g, 0, none⟩ x).setCell ⟨g, 1, none⟩ y) v l :=
  rints_put (rints_put h h0) (by rw [World.cell?_setCell_other _ _ _ _ (by intro e; simp at e)]; exact h1)
end Go.Proofs.YtkgncijcnlfhiaaDoor

