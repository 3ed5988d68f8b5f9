import Derived.Test.YtkgncijcnlfhiaaDoorH4
namespace Go.Proofs.YtkgncijcnlfhiaaDoor
set_option linter.unusedVariables false
set_option linter.unusedSimpArgs false
open Go.RowKit
theorem Tryd.ownInt : (Tryd.prog.info? 3).map (fun i => (i.zero, i.size, i.bytes)) = some (some (Value.int .i64 0), 1, 8) := by kernel_rfl
theorem Tryd.ownSlice : (Tryd.prog.info? 23).map (fun i => (i.zero, i.size, i.bytes)) = some (some (Value.slice none 0 0), 1, 24) := by kernel_rfl
theorem Tryd.ownIns : (Tryd.prog.info? 91).map (fun i => (i.zero, i.size, i.bytes)) = some (some (Value.agg #[.int .i64 0, .int .i64 0, .int .i64 0]), 3, 24) := by kernel_rfl
theorem Tryd.ownFunc : (Tryd.prog.info? 76).map (fun i => (i.zero, i.size, i.bytes)) = some (some (Value.agg #[.slice none 0 0, .int .i64 0, .slice none 0 0, .slice none 0 0]), 4, 80) := by kernel_rfl
theorem Tryd.ownImp : (Tryd.prog.info? 79).map (fun i => (i.zero, i.size, i.bytes)) = some (some (Value.agg #[.string ⟨#[]⟩, .slice none 0 0, .int .i64 0]), 3, 48) := by kernel_rfl
theorem Tryd.ownExp : (Tryd.prog.info? 81).map (fun i => (i.zero, i.size, i.bytes)) = some (some (Value.agg #[.string ⟨#[]⟩, .int .i64 0]), 2, 24) := by kernel_rfl
theorem Tryd.ownRow0 : (Tryd.prog.info? 23).map (fun i => (i.zero, i.size, i.bytes)) = some (some (Value.slice none 0 0), 1, 24) := by kernel_rfl
theorem Tryd.ownRow1 : (Tryd.prog.info? 22).map (fun i => (i.zero, i.size, i.bytes)) = some (some (Value.slice none 0 0), 1, 24) := by kernel_rfl
theorem Tryd.ownRow2 : (Tryd.prog.info? 74).map (fun i => (i.zero, i.size, i.bytes)) = some (some (Value.slice none 0 0), 1, 24) := by kernel_rfl
theorem Tryd.ownRow3 : (Tryd.prog.info? 24).map (fun i => (i.zero, i.size, i.bytes)) = some (some (Value.slice none 0 0), 1, 24) := by kernel_rfl
theorem Tryd.ownRow4 : (Tryd.prog.info? 25).map (fun i => (i.zero, i.size, i.bytes)) = some (some (Value.slice none 0 0), 1, 24) := by kernel_rfl
theorem Tryd.ownRow5 : (Tryd.prog.info? 26).map (fun i => (i.zero, i.size, i.bytes)) = some (some (Value.slice none 0 0), 1, 24) := by kernel_rfl
theorem info_size {x : Option TypeInfo} {z : Value} {n b : Nat} (h : x.map (fun i => (i.zero, i.size, i.bytes)) = some (some z, n, b)) : x.map (·.size) = some n := by
  cases x with
  | none => cases h
  | some i => simp only [Option.map_some, Option.some.injEq, Prod.mk.injEq] at h ⊢; exact h.2.1
/-- make: a block of n elements -/
theorem make_own {t e : TypeId} {z : Value} {sz by_ n : Nat} {m : Int} (ht : Tryd.prog.underlying t = some (.slice e)) (inf : (Tryd.prog.info? e).map (fun i => (i.zero, i.size, i.bytes)) = some (some z, sz, by_)) (hb : by_ ≤ 1000) (hn : n ≤ 10000000) (hm : m = (n : Int)) (V : World) :
    (Instr.makeSlice t (.int .i64 m) (.int .i64 m)).run Tryd.prog V = .ok (.slice (some ⟨V.heap.size, 0, none⟩) n n) (V.alloc (.cells (madeCells z.cells (n * sz)) e)) := by
  subst hm
  obtain ⟨i0, hi, hz0, hz1, hz2⟩ := info_parts inf
  have hle : by_ * n ≤ 1000 * 10000000 := Nat.mul_le_mul hb hn
  have hle2 : (by_ : Int) * (n : Int) ≤ 10000000000 := by rw [← Int.natCast_mul]; omega
  have h := run_make (P := Tryd.prog) V t e i0 z ht hi hz0 .i64 .i64 (n : Int) (n : Int) (by omega) (by omega) (by rw [hz2]; omega) (by omega)
  rw [hz1] at h
  simpa using h
theorem made_at {z : Array Value} {n j : Nat} (hz : 0 < z.size) (hj : j < n) : (madeCells z n)[j]? = z[j % z.size]? := by
  have hm : j % z.size < z.size := Nat.mod_lt _ hz
  simp [madeCells, hj, hm, Array.getElem?_eq_getElem]
/-- new, and then copied into -/
theorem copied (w : World) (M : Array Value) (e : TypeId) (cs : List Value) :
    ((w.alloc (.cells M e)).setRow w.heap.size (cs ++ M.toList.drop cs.length).toArray).heap[w.heap.size]? = some (.cells (cs ++ M.toList.drop cs.length).toArray e (0, 0)) ∧ Gr w ((w.alloc (.cells M e)).setRow w.heap.size (cs ++ M.toList.drop cs.length).toArray) := by
  have h0 : (w.alloc (.cells M e)).heap[w.heap.size]? = some (.cells M e (0, 0)) := by show (w.heap.push _)[w.heap.size]? = _; simp
  refine ⟨setRow_heap _ _ M _ e _ h0, ?_⟩
  have hg := Gr.alloc (Gr.refl w) (.cells M e)
  exact ⟨hg.os, hg.tape, hg.output, by rw [setRow_size]; exact hg.size, fun i hi hne => (setRow_other _ _ _ _ (by omega)).trans (hg.block i hi hne)⟩
theorem heap_cell {w : World} {b j : Nat} {cur : Array Value} {e : TypeId} (h : w.heap[b]? = some (.cells cur e (0, 0))) : w.cell? ⟨b, j, none⟩ = cur[j]? := by simp [World.cell?, h]
theorem heap_frozen {w : World} {b j : Nat} {cur : Array Value} {e : TypeId} (h : w.heap[b]? = some (.cells cur e (0, 0))) : w.frozen? ⟨b, j, none⟩ = false := by simp [World.frozen?, h]
theorem OwnAt.gr {lo : Nat} {w w' : World} {ob : Nat} {all : Bool} {V : Nat → Value} {S : Nat → List (Nat × Nat)} (h : OwnAt lo w ob all V S) (g : Gr w w') : OwnAt lo w' ob all V S := h.keep fun b _ hl => g.block b hl (by simp)
theorem OwnAt.not_ob {lo : Nat} {w : World} {ob : Nat} {all : Bool} {V : Nat → Value} {S : Nat → List (Nat × Nat)} (h : OwnAt lo w ob all V S) {f : Nat} (hf : f < 8) : ¬ (V f).ownBlock = some ob := fun e => by
  obtain ⟨_, c, hc⟩ := h.lows hf e
  rw [h.box] at hc; simp only [Option.some.injEq, Obj.cells.injEq] at hc
  exact oT_own f hf hc.2.1.symm
/-- a block that is new -/
theorem OwnAt.fresh {lo : Nat} {w : World} {ob : Nat} {all : Bool} {V : Nat → Value} {S : Nat → List (Nat × Nat)} (h : OwnAt lo w ob all V S) (hlo : lo ≤ w.heap.size) {b : Nat} (hb : w.heap.size ≤ b) : PO lo ob V b := by
  refine ⟨by omega, ?_, fun f hf e => ?_⟩
  · intro e; have := block_lt h.box; omega
  · obtain ⟨_, c, hc⟩ := h.lows hf e; have := block_lt hc; omega

theorem gr_set2 {w W2 : World} {b o1 o2 : Nat} {v1 v2 : Value} (h : Gr w W2) (hb : w.heap.size ≤ b) : Gr w ((W2.setCell ⟨b, o1, none⟩ v1).setCell ⟨b, o2, none⟩ v2) := gr_set (gr_set h hb) hb
end Go.Proofs.YtkgncijcnlfhiaaDoor

namespace Go.Proofs.YtkgncijcnlfhiaaDoor
set_option linter.unusedVariables false
set_option linter.unusedSimpArgs false
open Go.RowKit
theorem lend_mid {w W2 : World} {lo ob : Nat} {V : Nat → Value} {S : Nat → List (Nat × Nat)} {l : List Int} {M : Array Value} (hW : W2.heap[w.heap.size]? = some (.cells ((l.map fun x => Value.int .i64 x) ++ M.toList.drop (l.map fun x => Value.int .i64 x).length).toArray 3 (0, 0)))
    (hG : Gr w W2) (hsz : M.size = l.length + 2) (h : OwnAt lo w ob false V S) (hlo : lo ≤ w.heap.size) (hn : l.length ≤ 2000000) :
    (∃ x, W2.cell? ⟨w.heap.size, l.length, none⟩ = some x) ∧ (∃ x, W2.cell? ⟨w.heap.size, l.length + 1, none⟩ = some x) ∧ W2.frozen? ⟨w.heap.size, l.length, none⟩ = false ∧ W2.frozen? ⟨w.heap.size, l.length + 1, none⟩ = false ∧
    W2.cell? ⟨ob, 0, none⟩ = some (V 0) ∧ OwnAt lo ((W2.setCell ⟨w.heap.size, l.length, none⟩ inkV).setCell ⟨w.heap.size, l.length + 1, none⟩ inkV) ob false V S ∧ Gr w ((W2.setCell ⟨w.heap.size, l.length, none⟩ inkV).setCell ⟨w.heap.size, l.length + 1, none⟩ inkV) ∧
    RowOk (PO lo ob V) ((W2.setCell ⟨w.heap.size, l.length, none⟩ inkV).setCell ⟨w.heap.size, l.length + 1, none⟩ inkV) 0 false (w.heap.size, l.length + 2) ∧
    RIntsP (PO lo ob V) ((W2.setCell ⟨w.heap.size, l.length, none⟩ inkV).setCell ⟨w.heap.size, l.length + 1, none⟩ inkV) (.slice (some ⟨w.heap.size, 0, none⟩) l.length (l.length + 2)) l := by
  generalize hcur : ((l.map fun x => Value.int .i64 x) ++ M.toList.drop (l.map fun x => Value.int .i64 x).length).toArray = cur at hW
  have hcs : cur.size = l.length + 2 := by rw [← hcur]; simp [hsz]
  have hci : ∀ i y, l[i]? = some y → cur[i]? = some (Value.int .i64 y) := fun i y hi => by
    have hil : i < l.length := (List.getElem?_eq_some_iff.1 hi).1
    rw [← hcur, List.getElem?_toArray, List.getElem?_append_left (by simpa using hil), List.getElem?_map, hi]; rfl
  have hg4 : Gr w ((W2.setCell ⟨w.heap.size, l.length, none⟩ inkV).setCell ⟨w.heap.size, l.length + 1, none⟩ inkV) := gr_set2 hG (Nat.le_refl _)
  have hW4 := heap_set (o := l.length + 1) (v := inkV) (heap_set (o := l.length) (v := inkV) hW)
  have hP : PO lo ob V w.heap.size := h.fresh hlo (Nat.le_refl _)
  refine ⟨⟨cur[l.length]'(by omega), by rw [heap_cell hW]; simp⟩, ⟨cur[l.length + 1]'(by omega), by rw [heap_cell hW]; simp⟩, heap_frozen hW, heap_frozen hW, hG.cell (h.cell 0 (by decide)) (by simp), h.gr hg4, hg4, ⟨hP, by simp, by simp; omega, ⟨_, hW4, by simp [hcs, sZ]⟩, fun k hk hl => ?_⟩, ⟨_, _, rfl, by unfold maxLen; omega, fun i y hi => ⟨_, 0, rfl, hP, ?_⟩⟩⟩
  · rcases hk with hk | hk
    · cases hk
    · show _ = _
      rw [heap_cell hW4]
      simp only at hk hl
      have : k = l.length ∨ k = l.length + 1 := by omega
      rcases this with rfl | rfl
      · rw [Array.getElem?_setIfInBounds_ne (by omega), Array.getElem?_setIfInBounds_self_of_lt (by omega)]
      · rw [Array.getElem?_setIfInBounds_self_of_lt (by simp; omega)]
  · have hil : i < l.length := (List.getElem?_eq_some_iff.1 hi).1
    rw [Nat.zero_add, heap_cell hW4, Array.getElem?_setIfInBounds_ne (by omega), Array.getElem?_setIfInBounds_ne (by omega)]
    exact hci i y hi

/-- a list that was lent -/
def Lent (lo ob : Nat) (V : Nat → Value) (S : Nat → List (Nat × Nat)) (k m : Nat) (w : World) (R : (Nat → Prop) → World → Value → Prop) (x : Ending) (w' : World) : Prop :=
  ∃ b V', x = .returned (.slice (some ⟨b, 0, none⟩) m (m + 2)) ∧ w.heap.size ≤ b ∧ R (PO lo ob V') w' (.slice (some ⟨b, 0, none⟩) m (m + 2)) ∧ OwnAt lo w' ob false V' (updS S k (b, m + 2)) ∧ Fr lo ob V V' w w'
set_option maxRecDepth 100000 in
set_option maxHeartbeats 2000000 in
theorem lend_any (lo ob : Nat) (V : Nat → Value) (S : Nat → List (Nat × Nat)) (l : List Int) (vl : Value) (w : World) (h : OwnAt lo w ob false V S) (hl : RInts w vl l) (hn : l.length ≤ 2000000) (hS : (S 0).length ≤ 9000000) (hlo : lo ≤ w.heap.size) :
    Calls Tryd.prog 28 #[.pointer (some ⟨ob, 0, none⟩), vl] w (Lent lo ob V S 0 l.length w fun P w' v => RIntsP P w' v l) := by
  obtain ⟨ao, cap, rfl, hm, hc⟩ := hl
  have HC := hide hc
  have HO := hide h
  have hobl := block_lt h.box
  have hne : ¬ ob = w.heap.size := by omega
  have hne' : ¬ w.heap.size = ob := by omega
  have hwr1 : IntKind.i64.wrap ((l.length : Int) + 2) = (l.length : Int) + 2 := Go.IntWalk.i64_in _ (by omega)
  have hwr2 : IntKind.i64.wrap ((l.length : Int) + 1) = (l.length : Int) + 1 := Go.IntWalk.i64_in _ (by omega)
  have hmk := fun V : World => make_own (n := l.length + 2) (m := (l.length : Int) + 2) Tryd.underlying23 Tryd.ownInt (by decide) (by omega) (by simp) V
  have hsz : (madeCells (Value.int .i64 0).cells ((l.length + 2) * 1)).size = l.length + 2 := by rw [size_madeCells, Nat.mul_one]
  generalize hM : madeCells (Value.int .i64 0).cells ((l.length + 2) * 1) = M at hmk hsz
  have H0 : Hid ((w.alloc (.cells M 3)).heap[w.heap.size]? = some (.cells M 3 (0, 0))) := hide (by show (w.heap.push _)[w.heap.size]? = _; simp)
  have HP : Hid (0 < l.length → ∃ ad, ao = some ad ∧ ∀ j v, (l.map fun x => Value.int .i64 x)[j]? = some v → (w.alloc (.cells M 3)).cell? (ad.add j) = some v) := hide (by
    intro h0
    obtain ⟨b, off, rfl, _⟩ := HC.out 0 h0
    refine ⟨_, rfl, fun j v hj => ?_⟩
    rw [List.getElem?_map, Option.map_eq_some_iff] at hj
    obtain ⟨x, hx, rfl⟩ := hj
    have hjl : j < l.length := (List.getElem?_eq_some_iff.1 hx).1
    obtain ⟨b', off', e, hcell⟩ := HC.out j hjl
    simp only [Option.some.injEq, Addr.mk.injEq] at e
    obtain ⟨rfl, rfl, -⟩ := e
    have hadd : (⟨b, off, none⟩ : Addr).add j = ⟨b, off + j, none⟩ := by unfold Addr.add; split <;> simp_all
    rw [hadd, List.getD_eq_getElem?_getD, hx] at *
    exact (World.grownBy_alloc w _ none).cell hcell (by simp))
  have HE := hide (copied w M 3 (l.map fun x => Value.int .i64 x))
  have hcp : ∀ ty, (Builtin.copy_ #[23, 23] ty #[.slice (some ⟨w.heap.size, 0, none⟩) (l.length + 2) (l.length + 2), .slice ao l.length cap]).run Tryd.prog (w.alloc (.cells M 3)) = .ok (goInt l.length) ((w.alloc (.cells M 3)).setRow w.heap.size ((l.map fun x => Value.int .i64 x) ++ M.toList.drop (l.map fun x => Value.int .i64 x).length).toArray) := fun ty =>
    run_copy_n (P := Tryd.prog) (w.alloc (.cells M 3)) 23 23 ty 3 1 w.heap.size (l.length + 2) (l.length + 2) ao l.length cap M 3 (l.map fun x => Value.int .i64 x) Tryd.underlying23 (info_size Tryd.ownInt) H0.out (by omega) (by simp) HP.out (by rw [hsz]; simp) (by intro v hv; simp at hv; obtain ⟨x, _, rfl⟩ := hv; rfl)
  obtain ⟨hW, hGW⟩ := HE.out
  generalize World.setRow (w.alloc (.cells M 3)) w.heap.size ((l.map fun x => Value.int .i64 x) ++ M.toList.drop (l.map fun x => Value.int .i64 x).length).toArray = W2 at hW hGW hcp
  obtain ⟨⟨x1, hx1⟩, ⟨x2, hx2⟩, hz1, hz2, hob, ho4, hg4, hr4, hri4⟩ := lend_mid hW hGW hsz HO.out hlo hn
  have HO4 := hide ho4
  have HG4 := hide hg4
  have HR4 := hide hr4
  have HRI := hide hri4
  clear hM hc h hsz hW hGW ho4 hg4 hr4 hri4 HE H0 HP
  go_enter Tryd.func28, Tryd.ntmps28
  go_wp2_with (first
    | (at_builtin; refine wpList_append_vals _ rfl _ _ 22 23 1 24 (.slice none 0 0) Tryd.ownRow0 Tryd.underlying22 rfl (by decide) (by decide) rfl lo _ (S 0).length ((S 0).map rowV) rfl (HO4.out.own 0 (by decide)) #[rowV (w.heap.size, l.length + 2)] rfl (by intro u hu; simp at hu; subst hu; rfl) _ rfl (by simp) (by omega) (Nat.le_trans hlo HG4.out.size) ?_; intro v3 w3 hap; obtain ⟨⟨a3, c3, hv3⟩, _⟩ := own_form hap.own; subst hv3; have hob3 := hap.frm.cell (HO4.out.cell 0 (by decide)) (fun e => HO4.out.not_ob (f := 0) (by decide) e.symm); have hz3 : w3.frozen? ⟨ob, 0, none⟩ = false := (World.frozen?_of_block (hap.frm.block ob (block_lt HO4.out.box) (fun e => HO4.out.not_ob (f := 0) (by decide) e.symm))).trans (HO4.out.frozen 0)))
  go_ret
  obtain ⟨k1, k2⟩ := HO4.out.push (k := 0) (r := (w.heap.size, l.length + 2)) (by decide) hap HR4.out (Nat.le_trans hlo HG4.out.size)
  exact ⟨w.heap.size, _, rfl, Nat.le_refl _, HRI.out.stay k2.stay, k1, (fr_gr HG4.out hlo).trans k2⟩
end Go.Proofs.YtkgncijcnlfhiaaDoor

