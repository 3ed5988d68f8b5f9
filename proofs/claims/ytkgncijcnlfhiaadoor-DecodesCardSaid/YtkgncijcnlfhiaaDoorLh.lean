import Derived.Test.YtkgncijcnlfhiaaDoorF3
import Derived.Test.YtkgncijcnlfhiaaDoorH2
import Derived.Test.YtkgncijcnlfhiaaDoorLf
namespace Go.Proofs.YtkgncijcnlfhiaaDoor
set_option linter.unusedVariables false
set_option linter.unusedSimpArgs false
open Go.RowKit
attribute [local go_sem ↓] Go.wp_at_zero Go.wp_at_succ
def DcR (w : World) : PUnit ⊕ (Int × Nat) → Ending → World → Prop
  | .inl u, x, w' => ∃ v, x = .returned (.tuple #[v, .int .i64 0, .int .i64 0]) ∧ RUnit w' v u ∧ Gr w w'
  | .inr (e, p), x, w' => x = .returned (.tuple #[.agg #[.slice none 0 0, .slice none 0 0, .slice none 0 0, .slice none 0 0, .slice none 0 0], .int .i64 e, .int .i64 p]) ∧ Gr w w'
set_option maxRecDepth 100000 in
set_option maxHeartbeats 2000000 in
theorem decode_ref1 (s : ByteArray) (w : World) (hs : s.size ≤ maxLen) (hl : 20000 < s.size) :
    Calls Tryd.prog 21 #[.string s] w (DcR w (.inr (3, 0))) := by
  have hl2 : (20000 : Int) < s.size := by omega
  have HG := hide (Gr.alloc (Gr.refl w) (.cells #[.slice none 0 0, .slice none 0 0, .slice none 0 0, .slice none 0 0, .slice none 0 0] 28))
  have HB := hide (Box5.new w 28 (.slice none 0 0) (.slice none 0 0) (.slice none 0 0) (.slice none 0 0) (.slice none 0 0))
  go_enter Tryd.func21, Tryd.ntmps21
  go_upto_region 2 with fail
  generalize w.alloc (.cells #[.slice none 0 0, .slice none 0 0, .slice none 0 0, .slice none 0 0, .slice none 0 0] 28) = W at HG HB ⊢
  obtain ⟨r0, r1, r2, r3, r4, s0, s1, s2, s3, s4⟩ := HB.out
  go_wp2_with fail
  rw [put5_eq]
  have HG3 := hide (put5_gr (b := w.heap.size) (y0 := .slice none 0 0) (y1 := .slice none 0 0) (y2 := .slice none 0 0) (y3 := .slice none 0 0) (y4 := .slice none 0 0) HG.out (Nat.le_refl _))
  obtain ⟨r0, r1, r2, r3, r4, s0, s1, s2, s3, s4⟩ := put5_box (.slice none 0 0) (.slice none 0 0) (.slice none 0 0) (.slice none 0 0) (.slice none 0 0) HB.out
  exact bodyPost_ret (v := .tuple #[.agg #[.slice none 0 0, .slice none 0 0, .slice none 0 0, .slice none 0 0, .slice none 0 0], .int .i64 3, .int .i64 0]) (by simp [results, Tryd.results21, go_sem, r0, r1, r2, r3, r4]) rfl ⟨rfl, HG3.out⟩
set_option maxRecDepth 100000 in
set_option maxHeartbeats 2000000 in
theorem decode_ref2 (s : ByteArray) (w : World) (hs : s.size ≤ maxLen) (hl : s.size < 5) :
    Calls Tryd.prog 21 #[.string s] w (DcR w (.inr (2, 0))) := by
  have hl2 : ¬ (20000 : Int) < s.size := by omega
  have hl3 : (s.size : Int) < 5 := by omega
  have HG := hide (Gr.alloc (Gr.refl w) (.cells #[.slice none 0 0, .slice none 0 0, .slice none 0 0, .slice none 0 0, .slice none 0 0] 28))
  have HB := hide (Box5.new w 28 (.slice none 0 0) (.slice none 0 0) (.slice none 0 0) (.slice none 0 0) (.slice none 0 0))
  go_enter Tryd.func21, Tryd.ntmps21
  go_upto_region 4 with fail
  generalize w.alloc (.cells #[.slice none 0 0, .slice none 0 0, .slice none 0 0, .slice none 0 0, .slice none 0 0] 28) = W at HG HB ⊢
  obtain ⟨r0, r1, r2, r3, r4, s0, s1, s2, s3, s4⟩ := HB.out
  go_wp2_with fail
  rw [put5_eq]
  have HG3 := hide (put5_gr (b := w.heap.size) (y0 := .slice none 0 0) (y1 := .slice none 0 0) (y2 := .slice none 0 0) (y3 := .slice none 0 0) (y4 := .slice none 0 0) HG.out (Nat.le_refl _))
  obtain ⟨r0, r1, r2, r3, r4, s0, s1, s2, s3, s4⟩ := put5_box (.slice none 0 0) (.slice none 0 0) (.slice none 0 0) (.slice none 0 0) (.slice none 0 0) HB.out
  exact bodyPost_ret (v := .tuple #[.agg #[.slice none 0 0, .slice none 0 0, .slice none 0 0, .slice none 0 0, .slice none 0 0], .int .i64 2, .int .i64 0]) (by simp [results, Tryd.results21, go_sem, r0, r1, r2, r3, r4]) rfl ⟨rfl, HG3.out⟩
set_option maxRecDepth 100000 in
set_option maxHeartbeats 2000000 in
theorem decode_ref3 (s : ByteArray) (w : World) (hs : s.size ≤ maxLen) (hl : s.size ≤ 20000) (h5 : 5 ≤ s.size) (hm : (!(s.extract 0 5).toList == [75, 73, 76, 78, 1]) = true) :
    Calls Tryd.prog 21 #[.string s] w (DcR w (.inr (2, 0))) := by
  have hl2 : ¬ (20000 : Int) < s.size := by omega
  have hl3 : ¬ (s.size : Int) < 5 := by omega
  have HG := hide (Gr.alloc (Gr.refl w) (.cells #[.slice none 0 0, .slice none 0 0, .slice none 0 0, .slice none 0 0, .slice none 0 0] 28))
  have HB := hide (Box5.new w 28 (.slice none 0 0) (.slice none 0 0) (.slice none 0 0) (.slice none 0 0) (.slice none 0 0))
  go_enter Tryd.func21, Tryd.ntmps21
  go_upto_region 4 with fail
  generalize w.alloc (.cells #[.slice none 0 0, .slice none 0 0, .slice none 0 0, .slice none 0 0, .slice none 0 0] 28) = W at HG HB ⊢
  obtain ⟨r0, r1, r2, r3, r4, s0, s1, s2, s3, s4⟩ := HB.out
  go_wp2_with fail
  rw [put5_eq]
  have HG3 := hide (put5_gr (b := w.heap.size) (y0 := .slice none 0 0) (y1 := .slice none 0 0) (y2 := .slice none 0 0) (y3 := .slice none 0 0) (y4 := .slice none 0 0) HG.out (Nat.le_refl _))
  obtain ⟨r0, r1, r2, r3, r4, s0, s1, s2, s3, s4⟩ := put5_box (.slice none 0 0) (.slice none 0 0) (.slice none 0 0) (.slice none 0 0) (.slice none 0 0) HB.out
  exact bodyPost_ret (v := .tuple #[.agg #[.slice none 0 0, .slice none 0 0, .slice none 0 0, .slice none 0 0, .slice none 0 0], .int .i64 2, .int .i64 0]) (by simp [results, Tryd.results21, go_sem, r0, r1, r2, r3, r4]) rfl ⟨rfl, HG3.out⟩
end Go.Proofs.YtkgncijcnlfhiaaDoor

namespace Go.Proofs.YtkgncijcnlfhiaaDoor
set_option linter.unusedVariables false
set_option linter.unusedSimpArgs false
open Go.RowKit
attribute [local go_sem ↓] Go.wp_at_zero Go.wp_at_succ
/-- the heap while sections are read: W: what stood when the unit's box ub was new -/
structure DcW (W : World) (cb ub : Nat) (n : Nat) (x1 x2 x3 x4 x5 : Value) (u : PUnit) (w : World) : Prop where
  bx : UBx 0 ub w x1 x2 x3 x4 x5 u
  ni : Nils n x1 x2 x3 x4 x5
  low : ∀ b, b < ub → w.heap[b]? = W.heap[b]?
  hs : ub < w.heap.size
  env : w.os = W.os ∧ w.tape = W.tape ∧ w.output = W.output
  fits : Fits u
theorem fillU_fits {k : Nat} (h1 : 1 ≤ k) (h5 : k ≤ 5) {u : PUnit} (h : Fits u) (r : List UInt8) (bad : Bool) : Fits (fillU k u r bad).1 := by
  have hc : k = 1 ∨ k = 2 ∨ k = 3 ∨ k = 4 ∨ k = 5 := by omega
  rcases hc with rfl | rfl | rfl | rfl | rfl
  · exact h
  · exact fun x hx => lfills_all (F := Fit) lsigned_fit _ _ _ x hx
  · exact h
  · exact h
  · exact h
theorem RUnit.nils (w : World) : RUnit w (.agg #[.slice none 0 0, .slice none 0 0, .slice none 0 0, .slice none 0 0, .slice none 0 0]) ⟨[], [], [], [], []⟩ :=
  ⟨_, _, _, _, _, rfl, ⟨none, 0, rfl, Nat.zero_le _, fun i x h => by simp at h⟩, ⟨none, 0, rfl, Nat.zero_le _, fun i h => by simp at h⟩, ⟨none, 0, rfl, Nat.zero_le _, fun i x h => by simp at h⟩, ⟨none, 0, rfl, Nat.zero_le _, fun i x h => by simp at h⟩, ⟨none, 0, rfl, Nat.zero_le _, fun i x h => by simp at h⟩⟩
/-- where the loop begins -/
theorem DcW.start (w : World) : DcW ((w.alloc (.cells #[.slice none 0 0, .slice none 0 0, .slice none 0 0, .slice none 0 0, .slice none 0 0] 28)).alloc (.cells #[.slice none 0 0, .slice none 0 0, .slice none 0 0, .slice none 0 0, .slice none 0 0] 28)) w.heap.size (w.heap.size + 1) 1 (.slice none 0 0) (.slice none 0 0) (.slice none 0 0) (.slice none 0 0) (.slice none 0 0) ⟨[], [], [], [], []⟩ ((w.alloc (.cells #[.slice none 0 0, .slice none 0 0, .slice none 0 0, .slice none 0 0, .slice none 0 0] 28)).alloc (.cells #[.slice none 0 0, .slice none 0 0, .slice none 0 0, .slice none 0 0, .slice none 0 0] 28)) := by
  have hb : Box5 ((w.alloc (.cells #[.slice none 0 0, .slice none 0 0, .slice none 0 0, .slice none 0 0, .slice none 0 0] 28)).alloc (.cells #[.slice none 0 0, .slice none 0 0, .slice none 0 0, .slice none 0 0, .slice none 0 0] 28)) (w.heap.size + 1) (.slice none 0 0) (.slice none 0 0) (.slice none 0 0) (.slice none 0 0) (.slice none 0 0) := by
    have := Box5.new (w.alloc (.cells #[.slice none 0 0, .slice none 0 0, .slice none 0 0, .slice none 0 0, .slice none 0 0] 28)) 28 (.slice none 0 0) (.slice none 0 0) (.slice none 0 0) (.slice none 0 0) (.slice none 0 0)
    simpa using this
  exact ⟨⟨hb, fun wq _ => RUnit.nils wq⟩, ⟨fun _ => rfl, fun _ => rfl, fun _ => rfl, fun _ => rfl, fun _ => rfl⟩, fun _ _ => rfl, by simp, ⟨rfl, rfl, rfl⟩, fun x hx => by simp at hx⟩
/-- a new reader -/
theorem LsR.new (w : World) (s : ByteArray) (q : Nat) (hq : q ≤ s.size) (hs : s.size ≤ 1000000) : LsR (w.alloc (.cells #[.string s, .int .i64 (q : Int), .bool false] 97)) w.heap.size s (s.data.toList.drop q) false :=
  ⟨q, ⟨by show (w.heap.push _)[w.heap.size]? = _; simp, hq, hs⟩, rfl⟩
theorem gr_low {w W w5 : World} (hg : Gr w W) (hl : ∀ b, b < w.heap.size + 1 → w5.heap[b]? = W.heap[b]?) (he : w5.os = W.os ∧ w5.tape = W.tape ∧ w5.output = W.output) (hs : w.heap.size + 1 < w5.heap.size) : Gr w w5 :=
  ⟨he.1.trans hg.os, he.2.1.trans hg.tape, he.2.2.trans hg.output, by omega, fun b hb hne => (hl b (by omega)).trans (hg.block b hb hne)⟩
theorem box_low {W w5 : World} {c : Nat} {x0 x1 x2 x3 x4 : Value} (hb : Box5 W c x0 x1 x2 x3 x4) (h : w5.heap[c]? = W.heap[c]?) : Box5 w5 c x0 x1 x2 x3 x4 := by
  obtain ⟨h0, h1, h2, h3, h4, z0, z1, z2, z3, z4⟩ := hb
  exact ⟨(World.cell?_of_block h).trans h0, (World.cell?_of_block h).trans h1, (World.cell?_of_block h).trans h2, (World.cell?_of_block h).trans h3, (World.cell?_of_block h).trans h4, (World.frozen?_of_block h).trans z0, (World.frozen?_of_block h).trans z1, (World.frozen?_of_block h).trans z2, (World.frozen?_of_block h).trans z3, (World.frozen?_of_block h).trans z4⟩
/-- out of the loop -/
theorem way_out {w W w3 w4 : World} (hg : Gr w W) (hc : Box5 W w.heap.size (.slice none 0 0) (.slice none 0 0) (.slice none 0 0) (.slice none 0 0) (.slice none 0 0)) (hl : ∀ b, b < w.heap.size + 1 → w3.heap[b]? = W.heap[b]?) (he : w3.os = W.os ∧ w3.tape = W.tape ∧ w3.output = W.output) (hs : w.heap.size + 1 < w3.heap.size) (g4 : Gr w3 w4) : Gr w w4 ∧ Box5 w4 w.heap.size (.slice none 0 0) (.slice none 0 0) (.slice none 0 0) (.slice none 0 0) (.slice none 0 0) :=
  ⟨(gr_low hg hl he hs).trans g4, (box_low hc (hl _ (Nat.lt_succ_self _))).gr g4⟩
theorem loop_none {t : List UInt8} {n q : Nat} {u : PUnit} {D : PUnit ⊕ (Int × Nat)} (hn : n ≤ 5) (h : loopU t (6 - n) n u (t.drop q) = D) (hq : q ≤ t.length) (hs : stepU n u (t.drop q) = none) : D = .inr (2, q) := by
  obtain ⟨m, hm⟩ : ∃ m, 6 - n = m + 1 := ⟨5 - n, by omega⟩
  rw [hm, loopU, hs] at h
  rw [← h]
  simp only [pl, List.length_drop]
  rw [show t.length - (t.length - q) = q by omega]
theorem loop_some {t : List UInt8} {n q : Nat} {u u' : PUnit} {r' : List UInt8} {D : PUnit ⊕ (Int × Nat)} (hn : n ≤ 5) (h : loopU t (6 - n) n u (t.drop q) = D) (hs : stepU n u (t.drop q) = some (u', r')) : loopU t (6 - (n + 1)) (n + 1) u' r' = D := by
  obtain ⟨m, hm⟩ : ∃ m, 6 - n = m + 1 := ⟨5 - n, by omega⟩
  rw [hm, loopU, hs] at h
  rw [show 6 - (n + 1) = m by omega]
  exact h
theorem put5_heap {w : World} {b g : Nat} {y0 y1 y2 y3 y4 : Value} (h : ¬ g = b) : (put5 w b y0 y1 y2 y3 y4).heap[g]? = w.heap[g]? := by
  have hc : ∀ (V : World) (q : Nat) (v : Value), (V.setCell ⟨b, q, none⟩ v).heap[g]? = V.heap[g]? := fun V q v => Below.heap_setCell _ _ _ _ h
  unfold put5; rw [hc, hc, hc, hc, hc]
theorem cut_take (s : ByteArray) (q m : Nat) (h : q + m ≤ s.size) : (s.extract q (q + m)).toList = (s.data.toList.drop q).take m := by
  rw [ByteArray.toList_eq, ByteArray.data_extract, Array.toList_extract]
  simp [List.extract, List.take_drop]
end Go.Proofs.YtkgncijcnlfhiaaDoor

