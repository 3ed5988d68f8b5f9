import Derived.Test.YtkgncijcnlfhiaaC1
import Derived.Test.YtkgncijcnlfhiaaW2
namespace Go.Proofs.Ytkgncijcnlfhiaa
set_option linter.unusedVariables false
set_option linter.unusedSimpArgs false
open Go.RowKit
attribute [local go_sem ↓] Go.wp_at_zero Go.wp_at_succ

/-- a cursor: what is left, and what it is refused by -/
def Cur (w : World) (cb : Nat) (r : List UInt8) (e a : Int) : Prop :=
  (∃ s : ByteArray, w.cell? ⟨cb, 0, none⟩ = some (.string s) ∧ s.data.toList = r) ∧ r.length ≤ 1000000 ∧ w.cell? ⟨cb, 1, none⟩ = some (.int .i64 e) ∧ w.cell? ⟨cb, 3, none⟩ = some (.int .i64 a) ∧ w.frozen? ⟨cb, 0, none⟩ = false ∧ w.cell? ⟨cb, 2, none⟩ = some (.int .i64 0)
/-- new blocks, and writes into the cursor alone -/
abbrev Gc (cb : Nat) (w w' : World) : Prop := w.grownBy w' (some cb)
theorem Gc.refl (cb : Nat) (w : World) : Gc cb w w := World.grownBy.refl w _
theorem Gr.toGc {cb : Nat} {w w' : World} (h : Gr w w') : Gc cb w w' := ⟨h.os, h.tape, h.output, h.size, fun i hi _ => h.block i hi (by simp)⟩
theorem Gc.set {cb : Nat} {w w' : World} (h : Gc cb w w') (o : Nat) (v : Value) : Gc cb w (w'.setCell ⟨cb, o, none⟩ v) :=
  ⟨h.os, h.tape, h.output, by simpa using h.size, fun i hi hne => by rw [Below.heap_setCell _ _ _ _ (fun e => hne (by rw [e]))]; exact h.block i hi hne⟩
theorem Gc.drew {cb : Nat} {a b : World} (h : Gc cb a b) : Gc cb a b.drew := ⟨h.os, h.tape, h.output, h.size, h.block⟩
theorem Cur.gr {w w' : World} {cb : Nat} {r : List UInt8} {e a : Int} (h : Cur w cb r e a) (g : Gr w w') : Cur w' cb r e a := by
  obtain ⟨⟨s, h0, h1⟩, h2, h3, h4, h5, h6⟩ := h
  exact ⟨⟨s, g.cell h0 (by simp), h1⟩, h2, g.cell h3 (by simp), g.cell h4 (by simp), (World.frozen?_of_block (g.block cb (World.block_lt_of_cell? w _ h3) (by simp))).trans h5, g.cell h6 (by simp)⟩

/-- how a reader ends -/
def Rds {α : Type} (cb : Nat) (e a : Int) (w : World) (R : World → Value → α → Prop) : Option (α × List UInt8) → Ending → World → Prop
  | some (y, r'), x, w' => ∃ v, x = .returned v ∧ R w' v y ∧ Cur w' cb r' e a ∧ Gc cb w w'
  | none, x, w' => x = .panicked (thrown e a) ∧ Gc cb w w'

def rdTake (n : Nat) (r : List UInt8) : Option (List UInt8 × List UInt8) := if n ≤ r.length then some (r.take n, r.drop n) else none

theorem cur_put {w : World} {cb : Nat} {e a : Int} {s' : ByteArray} {l : List UInt8} (h0 : ∃ x, w.cell? ⟨cb, 0, none⟩ = some x) (hs : s'.data.toList = l) (hl : l.length ≤ 1000000) (h1 : w.cell? ⟨cb, 1, none⟩ = some (.int .i64 e)) (h2 : w.cell? ⟨cb, 3, none⟩ = some (.int .i64 a)) (hz : w.frozen? ⟨cb, 0, none⟩ = false) (hj : w.cell? ⟨cb, 2, none⟩ = some (.int .i64 0)) :
    Cur (w.setCell ⟨cb, 0, none⟩ (.string s')) cb l e a := by
  obtain ⟨x, hx⟩ := h0
  refine ⟨⟨s', World.cell?_setCell_same w ⟨cb, 0, none⟩ _ hx, hs⟩, hl, ?_, ?_, ?_, ?_⟩
  · exact (World.cell?_setCell_other w ⟨cb, 0, none⟩ ⟨cb, 1, none⟩ _ (by intro h; cases h)).trans h1
  · exact (World.cell?_setCell_other w ⟨cb, 0, none⟩ ⟨cb, 3, none⟩ _ (by intro h; cases h)).trans h2
  · rw [World.frozen?_setCell]; exact hz
  · exact (World.cell?_setCell_other w ⟨cb, 0, none⟩ ⟨cb, 2, none⟩ _ (by intro h; cases h)).trans hj
theorem take_bytes (s : ByteArray) (n : Nat) : s.extract 0 n = ⟨(s.data.toList.take n).toArray⟩ := by
  have h : (s.extract 0 n).data.toList = s.data.toList.take n := by simp [ByteArray.data_extract]
  rw [← h]
theorem drop_bytes (s : ByteArray) (n : Nat) : (s.extract n s.size).data.toList = s.data.toList.drop n := by
  have e : s.size = s.data.toList.length := by rw [Array.length_toList]; rfl
  simp [ByteArray.data_extract]
  rw [List.take_of_length_le (by simp)]

set_option maxRecDepth 100000 in
set_option maxHeartbeats 1000000 in
theorem take_any (cb : Nat) (r : List UInt8) (e a : Int) (n : Nat) (hn : n < 18446744073709551616) (w : World) (hc : Cur w cb r e a) :
    Calls Try.prog 78 #[.pointer (some ⟨cb, 0, none⟩), .int .u64 n] w (Rds cb e a w (fun _ v y => v = .string ⟨y.toArray⟩) (rdTake n r)) := by
  obtain ⟨⟨s, h0, hs⟩, hl, h1, h2, hz, hj⟩ := hc
  have hsz : s.size = r.length := by rw [← hs, Array.length_toList]; rfl
  by_cases hle : n ≤ r.length
  · have HT : Hid (rdTake n r = some (r.take n, r.drop n)) := hide (by simp [rdTake, hle])
    have hd : (n : Int) ≤ (s.size : Int) := by omega
    have hd0 : (0 : Int) ≤ (n : Int) := by omega
    have hss : s.size ≤ 1000000 := by omega
    have hwr : IntKind.u64.wrap (s.size : Int) = s.size := Go.IntWalk.u64_in _ (by omega)
    have HS := hide hs
    clear hs hsz hle
    go_enter Try.func78, Try.ntmps78
    go_wp2
    go_region_held3 (fun w' => w'.cell? ⟨cb, 0, none⟩ = some (.string s) ∧ w'.cell? ⟨cb, 1, none⟩ = some (.int .i64 e) ∧ w'.cell? ⟨cb, 3, none⟩ = some (.int .i64 a) ∧ w'.cell? ⟨cb, 2, none⟩ = some (.int .i64 0)) (first | go_keep | (refine ⟨?_, ?_, ?_, ?_⟩ <;> exact hg'.cell (by assumption) (by simp))) (first | (go_at_call 36; refine (unless_yes _ _ _).mono ?_; rintro e w' ⟨rfl, hg'⟩))
    have h01 := hg'.cell h0 (by simp)
    have h11 := hg'.cell h1 (by simp)
    have h21 := hg'.cell h2 (by simp)
    have hj1 := hg'.cell hj (by simp)
    have hz1 : w'.frozen? ⟨cb, 0, none⟩ = false := (World.frozen?_of_block (hg'.block cb (World.block_lt_of_cell? w _ h1) (by simp))).trans hz
    have hgc : Gc cb w w' := (Gr.trans (Gr.drew (Gr.refl w)) hg').toGc
    clear hg' h0 h1 h2 hz hj
    go_wp2_with fail
    go_ret
    rw [HT.out]
    have hcur := cur_put (s' := s.extract n s.size) (l := r.drop n) ⟨_, h01⟩ (by rw [← HS.out]; exact drop_bytes s n) (by rw [List.length_drop]; omega) h11 h21 hz1 hj1
    refine ⟨_, rfl, ?_, hcur, hgc.set 0 _⟩
    show Value.string _ = _
    rw [take_bytes s n, HS.out]
  · have HT : Hid (rdTake n r = none) := hide (by simp [rdTake, hle])
    have hd : decide (n ≤ s.size) = false := by rw [decide_eq_false_iff_not]; omega
    have hss : s.size ≤ 1000000 := by omega
    have hwr : IntKind.u64.wrap (s.size : Int) = s.size := Go.IntWalk.u64_in _ (by omega)
    clear hs hsz hle
    go_enter Try.func78, Try.ntmps78
    go_wp2
    go_region_with (first | (go_at_call 36; refine (unless_no _ _ _).mono ?_; rintro e w' ⟨rfl, hg'⟩; refine left_region ?_))
    all_goals exact ⟨rfl, by rw [HT.out]; exact ⟨rfl, (Gr.trans (Gr.drew (Gr.refl w)) hg').toGc⟩⟩
end Go.Proofs.Ytkgncijcnlfhiaa
