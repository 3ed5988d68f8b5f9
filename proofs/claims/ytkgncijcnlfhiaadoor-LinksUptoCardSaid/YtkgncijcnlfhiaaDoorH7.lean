import Derived.Test.YtkgncijcnlfhiaaDoorH5
namespace Go.Proofs.YtkgncijcnlfhiaaDoor
set_option linter.unusedVariables false
set_option linter.unusedSimpArgs false
open Go.RowKit
/-- what was copied, and what stands behind it -/
theorem cur_front {cs : List Value} {M : Array Value} {j : Nat} (hj : j < cs.length) : (cs ++ M.toList.drop cs.length).toArray[j]? = cs[j]? := by
  rw [List.getElem?_toArray, List.getElem?_append_left hj]
theorem cur_back {cs : List Value} {M : Array Value} {j : Nat} (hj : cs.length ≤ j) : (cs ++ M.toList.drop cs.length).toArray[j]? = M[j]? := by
  rw [List.getElem?_toArray, List.getElem?_append_right hj, List.getElem?_drop, Array.getElem?_toList]; congr 1; omega
theorem cur_size {cs : List Value} {M : Array Value} (h : cs.length ≤ M.size) : (cs ++ M.toList.drop cs.length).toArray.size = M.size := by simp; omega
theorem fC_len : ∀ x, (fC x).length = 3 := fun _ => rfl

theorem code_mid {w W2 : World} {lo ob : Nat} {V : Nat → Value} {S : Nat → List (Nat × Nat)} {l : List PIns} (hW : W2.heap[w.heap.size]? = some (.cells (l.flatMap fC ++ (madeCells (Value.agg #[zI, zI, zI]).cells ((l.length + 2) * 3)).toList.drop (l.flatMap fC).length).toArray 91 (0, 0)))
    (hG : Gr w W2) (h : OwnAt lo w ob false V S) (hlo : lo ≤ w.heap.size) (hn : l.length ≤ 2000000) :
    (∃ x, W2.cell? ⟨w.heap.size, l.length * 3, none⟩ = some x) ∧ (∃ x, W2.cell? ⟨w.heap.size, (l.length + 1) * 3, none⟩ = some x) ∧ W2.frozen? ⟨w.heap.size, l.length * 3, none⟩ = false ∧ W2.frozen? ⟨w.heap.size, (l.length + 1) * 3, none⟩ = false ∧
    W2.cell? ⟨ob, 2, none⟩ = some (V 2) ∧ OwnAt lo ((W2.setCell ⟨w.heap.size, l.length * 3, none⟩ inkV).setCell ⟨w.heap.size, (l.length + 1) * 3, none⟩ inkV) ob false V S ∧ Gr w ((W2.setCell ⟨w.heap.size, l.length * 3, none⟩ inkV).setCell ⟨w.heap.size, (l.length + 1) * 3, none⟩ inkV) ∧
    RowOk (PO lo ob V) ((W2.setCell ⟨w.heap.size, l.length * 3, none⟩ inkV).setCell ⟨w.heap.size, (l.length + 1) * 3, none⟩ inkV) 2 false (w.heap.size, l.length + 2) ∧
    RCodeP (PO lo ob V) ((W2.setCell ⟨w.heap.size, l.length * 3, none⟩ inkV).setCell ⟨w.heap.size, (l.length + 1) * 3, none⟩ inkV) (.slice (some ⟨w.heap.size, 0, none⟩) l.length (l.length + 2)) l := by
  have hfs := flat_size fC_len l
  have hMs : (madeCells (Value.agg #[zI, zI, zI]).cells ((l.length + 2) * 3)).size = (l.length + 2) * 3 := size_madeCells _ _
  have hz : ∀ j, j < (l.length + 2) * 3 → (madeCells (Value.agg #[zI, zI, zI]).cells ((l.length + 2) * 3))[j]? = some zI := fun j hj => by
    rw [made_at (by decide) hj]
    have : j % (Value.agg #[zI, zI, zI]).cells.size = 0 ∨ j % (Value.agg #[zI, zI, zI]).cells.size = 1 ∨ j % (Value.agg #[zI, zI, zI]).cells.size = 2 := by
      have : j % 3 < 3 := Nat.mod_lt _ (by decide)
      show j % 3 = 0 ∨ j % 3 = 1 ∨ j % 3 = 2; omega
    rcases this with e | e | e <;> rw [e] <;> rfl
  generalize madeCells (Value.agg #[zI, zI, zI]).cells ((l.length + 2) * 3) = M at hW hMs hz
  have hcs := cur_size (cs := l.flatMap fC) (M := M) (by omega)
  have hcf : ∀ j, j < (l.flatMap fC).length → _ := fun j hj => cur_front (M := M) hj
  have hcb : ∀ j, (l.flatMap fC).length ≤ j → _ := fun j hj => cur_back (M := M) hj
  generalize (l.flatMap fC ++ M.toList.drop (l.flatMap fC).length).toArray = cur at hW hcs hcf hcb
  have hg4 : Gr w ((W2.setCell ⟨w.heap.size, l.length * 3, none⟩ inkV).setCell ⟨w.heap.size, (l.length + 1) * 3, none⟩ inkV) := gr_set2 hG (Nat.le_refl _)
  have hW4 := heap_set (o := (l.length + 1) * 3) (v := inkV) (heap_set (o := l.length * 3) (v := inkV) hW)
  have hP : PO lo ob V w.heap.size := h.fresh hlo (Nat.le_refl _)
  refine ⟨⟨cur[l.length * 3]'(by omega), by rw [heap_cell hW]; simp⟩, ⟨cur[(l.length + 1) * 3]'(by omega), by rw [heap_cell hW]; simp⟩, heap_frozen hW, heap_frozen hW, hG.cell (h.cell 2 (by decide)) (by simp), h.gr hg4, hg4, ⟨hP, by simp, by simp; omega, ⟨_, hW4, by simp [hcs, hMs, sZ]⟩, fun k hk hl => ?_⟩, ⟨_, _, rfl, by unfold maxLen; omega, fun i x hi => ⟨_, 0, rfl, hP, ?_⟩⟩⟩
  · rcases hk with hk | hk
    · cases hk
    · simp only at hk hl
      have e0 : k = l.length ∨ k = l.length + 1 := by omega
      have hcell : ∀ j, (((W2.setCell ⟨w.heap.size, l.length * 3, none⟩ inkV).setCell ⟨w.heap.size, (l.length + 1) * 3, none⟩ inkV)).cell? ⟨w.heap.size, j, none⟩ = ((cur.setIfInBounds (l.length * 3) inkV).setIfInBounds ((l.length + 1) * 3) inkV)[j]? := fun j => heap_cell hW4
      simp only [Ink]
      rw [hcell, hcell, hcell]
      rcases e0 with rfl | rfl
      · refine ⟨?_, ?_, ?_⟩
        · rw [Array.getElem?_setIfInBounds_ne (by omega), Array.getElem?_setIfInBounds_self_of_lt (by omega)]
        · rw [Array.getElem?_setIfInBounds_ne (by omega), Array.getElem?_setIfInBounds_ne (by omega), hcb _ (by omega)]; exact hz _ (by omega)
        · rw [Array.getElem?_setIfInBounds_ne (by omega), Array.getElem?_setIfInBounds_ne (by omega), hcb _ (by omega)]; exact hz _ (by omega)
      · refine ⟨?_, ?_, ?_⟩
        · rw [Array.getElem?_setIfInBounds_self_of_lt (by simp; omega)]
        · rw [Array.getElem?_setIfInBounds_ne (by omega), Array.getElem?_setIfInBounds_ne (by omega), hcb _ (by omega)]; exact hz _ (by omega)
        · rw [Array.getElem?_setIfInBounds_ne (by omega), Array.getElem?_setIfInBounds_ne (by omega), hcb _ (by omega)]; exact hz _ (by omega)
  · have hil : i < l.length := (List.getElem?_eq_some_iff.1 hi).1
    have hcell : ∀ j, j < 3 → (((W2.setCell ⟨w.heap.size, l.length * 3, none⟩ inkV).setCell ⟨w.heap.size, (l.length + 1) * 3, none⟩ inkV)).cell? ⟨w.heap.size, 0 + (i * 3 + j), none⟩ = (fC x)[j]? := fun j hj => by
      rw [Nat.zero_add, heap_cell hW4, Array.getElem?_setIfInBounds_ne (by omega), Array.getElem?_setIfInBounds_ne (by omega), hcf _ (by omega)]
      exact flat_at fC_len hi hj
    exact ⟨hcell 0 (by decide), hcell 1 (by decide), hcell 2 (by decide)⟩

set_option maxRecDepth 100000 in
set_option maxHeartbeats 2000000 in
theorem owncode_any (lo ob : Nat) (V : Nat → Value) (S : Nat → List (Nat × Nat)) (l : List PIns) (vl : Value) (w : World) (h : OwnAt lo w ob false V S) (hl : RCode w vl l) (hn : l.length ≤ 2000000) (hS : (S 2).length ≤ 9000000) (hlo : lo ≤ w.heap.size) :
    Calls Tryd.prog 29 #[.pointer (some ⟨ob, 0, none⟩), vl] w (Lent lo ob V S 2 l.length w fun P w' v => RCodeP P w' v l) := by
  obtain ⟨ao, cap, rfl, hm, hc⟩ := hl
  have HC := hide hc
  have HO := hide h
  have hobl := block_lt h.box
  have hne : ¬ ob = w.heap.size := by omega
  have hne' : ¬ w.heap.size = ob := by omega
  have hwr1 : IntKind.i64.wrap ((l.length : Int) + 2) = (l.length : Int) + 2 := Go.IntWalk.i64_in _ (by omega)
  have hwr2 : IntKind.i64.wrap ((l.length : Int) + 1) = (l.length : Int) + 1 := Go.IntWalk.i64_in _ (by omega)
  have hmk := fun V : World => make_own (n := l.length + 2) (m := (l.length : Int) + 2) Tryd.underlying74 Tryd.ownIns (by decide) (by omega) (by simp) V
  have hsz : (madeCells (Value.agg #[zI, zI, zI]).cells ((l.length + 2) * 3)).size = (l.length + 2) * 3 := size_madeCells _ _
  have HE := hide (copied w (madeCells (Value.agg #[zI, zI, zI]).cells ((l.length + 2) * 3)) 91 (l.flatMap fC))
  have HMid := fun W2 hW hG => hide (code_mid (w := w) (W2 := W2) (l := l) hW hG h hlo hn)
  generalize madeCells (Value.agg #[zI, zI, zI]).cells ((l.length + 2) * 3) = M at hmk hsz HE HMid
  have H0 : Hid ((w.alloc (.cells M 91)).heap[w.heap.size]? = some (.cells M 91 (0, 0))) := hide (by show (w.heap.push _)[w.heap.size]? = _; simp)
  have HP : Hid (0 < l.length → ∃ ad, ao = some ad ∧ ∀ j v, (l.flatMap fC)[j]? = some v → (w.alloc (.cells M 91)).cell? (ad.add j) = some v) := hide (by
    intro h0
    obtain ⟨x0, hx0⟩ := getElem?_lt h0
    obtain ⟨b, off, rfl, _⟩ := HC.out 0 x0 hx0
    refine ⟨_, rfl, fun j v hj => ?_⟩
    have hjl : j < l.length * 3 := by rw [← flat_size fC_len l]; exact (List.getElem?_eq_some_iff.1 hj).1
    have hd : j / 3 < l.length := by omega
    obtain ⟨x, hx⟩ := getElem?_lt hd
    obtain ⟨b', off', e, c0, c1, c2⟩ := HC.out (j / 3) x hx
    simp only [Option.some.injEq, Addr.mk.injEq] at e
    obtain ⟨rfl, rfl, -⟩ := e
    have hadd : (⟨b, off, none⟩ : Addr).add j = ⟨b, off + j, none⟩ := by unfold Addr.add; split <;> simp_all
    have hr := flat_at fC_len (j := j % 3) hx (Nat.mod_lt _ (by decide))
    rw [show j / 3 * 3 + j % 3 = j by omega, hj] at hr
    rw [hadd]
    refine (World.grownBy_alloc w _ none).cell ?_ (by simp)
    have e3 : j % 3 = 0 ∨ j % 3 = 1 ∨ j % 3 = 2 := by omega
    rcases e3 with e | e | e <;> rw [e] at hr
    · rw [show off + j = off + j / 3 * 3 by omega, c0]; exact hr.symm
    · rw [show off + j = off + j / 3 * 3 + 1 by omega, c1]; exact hr.symm
    · rw [show off + j = off + j / 3 * 3 + 2 by omega, c2]; exact hr.symm)
  have hcp : ∀ ty, (Builtin.copy_ #[74, 74] ty #[.slice (some ⟨w.heap.size, 0, none⟩) (l.length + 2) (l.length + 2), .slice ao l.length cap]).run Tryd.prog (w.alloc (.cells M 91)) = .ok (goInt l.length) ((w.alloc (.cells M 91)).setRow w.heap.size (l.flatMap fC ++ M.toList.drop (l.flatMap fC).length).toArray) := fun ty =>
    run_copy_n (P := Tryd.prog) (w.alloc (.cells M 91)) 74 74 ty 91 3 w.heap.size (l.length + 2) (l.length + 2) ao l.length cap M 91 (l.flatMap fC) Tryd.underlying74 (info_size Tryd.ownIns) H0.out (by omega) (flat_size fC_len l) HP.out (by rw [hsz, flat_size fC_len l]; omega) (by intro v hv; simp only [List.mem_flatMap, fC, List.mem_cons, List.not_mem_nil, or_false] at hv; obtain ⟨x, _, rfl | rfl | rfl⟩ := hv <;> rfl)
  obtain ⟨hW, hGW⟩ := HE.out
  generalize World.setRow (w.alloc (.cells M 91)) w.heap.size (l.flatMap fC ++ M.toList.drop (l.flatMap fC).length).toArray = W2 at hW hGW hcp
  obtain ⟨⟨x1, hx1⟩, ⟨x2, hx2⟩, hz1, hz2, hob, ho4, hg4, hr4, hri4⟩ := (HMid W2 hW hGW).out
  have HO4 := hide ho4
  have HG4 := hide hg4
  have HR4 := hide hr4
  have HRI := hide hri4
  clear hc h hsz hW hGW ho4 hg4 hr4 hri4 HE H0 HP HMid
  go_enter Tryd.func29, Tryd.ntmps29
  go_wp2_with (first
    | (at_builtin; refine wpList_append_vals _ rfl _ _ 31 74 1 24 (.slice none 0 0) Tryd.ownRow2 Tryd.underlying31 rfl (by decide) (by decide) rfl lo _ (S 2).length ((S 2).map rowV) rfl (HO4.out.own 2 (by decide)) #[rowV (w.heap.size, l.length + 2)] rfl (by intro u hu; simp at hu; subst hu; rfl) _ rfl (by simp) (by omega) (Nat.le_trans hlo HG4.out.size) ?_; intro v3 w3 hap; obtain ⟨⟨a3, c3, hv3⟩, _⟩ := own_form hap.own; subst hv3; have hob3 := hap.frm.cell (HO4.out.cell 2 (by decide)) (fun e => HO4.out.not_ob (f := 2) (by decide) e.symm); have hz3 : w3.frozen? ⟨ob, 2, none⟩ = false := (World.frozen?_of_block (hap.frm.block ob (block_lt HO4.out.box) (fun e => HO4.out.not_ob (f := 2) (by decide) e.symm))).trans (HO4.out.frozen 2)))
  go_ret
  obtain ⟨k1, k2⟩ := HO4.out.push (k := 2) (r := (w.heap.size, l.length + 2)) (by decide) hap HR4.out (Nat.le_trans hlo HG4.out.size)
  exact ⟨w.heap.size, _, rfl, Nat.le_refl _, HRI.out.stay k2.stay, k1, (fr_gr HG4.out hlo).trans k2⟩
end Go.Proofs.YtkgncijcnlfhiaaDoor

namespace Go.Proofs.YtkgncijcnlfhiaaDoor
set_option linter.unusedVariables false
set_option linter.unusedSimpArgs false
open Go.RowKit
structure WB (lo ob : Nat) (V : Nat → Value) (w : World) (b k m : Nat) (cur : Array Value) : Prop where
  po : PO lo ob V b
  heap : w.heap[b]? = some (.cells cur (eT k) (0, 0))
  size : cur.size = m * sZ k
/-- all blocks but the box, the lists of rows and the block that is being filled -/
def PX (lo ob : Nat) (V : Nat → Value) (sb b : Nat) : Prop := PO lo ob V b ∧ ¬ b = sb
theorem WB.fr {lo ob : Nat} {V V' : Nat → Value} {w w' : World} {b k m : Nat} {cur : Array Value} (h : WB lo ob V w b k m cur) (g : Fr lo ob V V' w w') : WB lo ob V' w' b k m cur :=
  ⟨(g.stay b h.po (block_lt h.heap)).2, ((g.stay b h.po (block_lt h.heap)).1).trans h.heap, h.size⟩
theorem WB.set {lo ob : Nat} {V : Nat → Value} {w : World} {b k m : Nat} {cur : Array Value} (h : WB lo ob V w b k m cur) (o : Nat) (v : Value) : WB lo ob V (w.setCell ⟨b, o, none⟩ v) b k m (cur.setIfInBounds o v) :=
  ⟨h.po, heap_set h.heap, by simpa using h.size⟩
theorem WB.gr {lo ob : Nat} {V : Nat → Value} {w w' : World} {b k m : Nat} {cur : Array Value} (h : WB lo ob V w b k m cur) (g : Gr w w') : WB lo ob V w' b k m cur := ⟨h.po, (g.block b (block_lt h.heap) (by simp)).trans h.heap, h.size⟩
theorem WB.cell {lo ob : Nat} {V : Nat → Value} {w : World} {b k m : Nat} {cur : Array Value} (h : WB lo ob V w b k m cur) {j : Nat} (hj : j < m * sZ k) : (∃ x, w.cell? ⟨b, j, none⟩ = some x) ∧ w.frozen? ⟨b, j, none⟩ = false :=
  ⟨⟨cur[j]'(by rw [h.size]; exact hj), by rw [heap_cell h.heap]; simp⟩, heap_frozen h.heap⟩
theorem px_fr {lo ob sb : Nat} {V V' : Nat → Value} {w w' : World} (g : Fr lo ob V V' w w') : Stay (PX lo ob V sb) (PX lo ob V' sb) w w' := fun b hb hl => ⟨(g.stay b hb.1 hl).1, (g.stay b hb.1 hl).2, hb.2⟩
theorem px_set {lo ob sb o : Nat} {V : Nat → Value} {w : World} {v : Value} : Stay (PX lo ob V sb) (PX lo ob V sb) w (w.setCell ⟨sb, o, none⟩ v) := fun b hb _ => ⟨Below.heap_setCell _ _ _ _ hb.2, hb⟩
theorem px_po {lo ob sb : Nat} {V : Nat → Value} {w : World} : Stay (PX lo ob V sb) (PO lo ob V) w w := fun _ hb _ => ⟨rfl, hb.1⟩
theorem rints_at {P P' : Nat → Prop} {w : World} {b m c : Nat} {l : List Int} (h : RIntsP P w (.slice (some ⟨b, 0, none⟩) m c) l) (hb : P' b) : RIntsP P' w (.slice (some ⟨b, 0, none⟩) m c) l := by
  obtain ⟨ao, cap, hv, hm, hc⟩ := h
  refine ⟨ao, cap, hv, hm, fun i y hi => ?_⟩
  obtain ⟨b', off, h1, h2, h3⟩ := hc i y hi
  simp only [Value.slice.injEq] at hv
  have e : b' = b := by have := hv.1.trans h1; simp only [Option.some.injEq, Addr.mk.injEq] at this; exact this.1.symm
  exact ⟨b', off, h1, e ▸ hb, h3⟩
theorem rcode_at {P P' : Nat → Prop} {w : World} {b m c : Nat} {l : List PIns} (h : RCodeP P w (.slice (some ⟨b, 0, none⟩) m c) l) (hb : P' b) : RCodeP P' w (.slice (some ⟨b, 0, none⟩) m c) l := by
  obtain ⟨ao, cap, hv, hm, hc⟩ := h
  refine ⟨ao, cap, hv, hm, fun i y hi => ?_⟩
  obtain ⟨b', off, h1, h2, h3⟩ := hc i y hi
  simp only [Value.slice.injEq] at hv
  have e : b' = b := by have := hv.1.trans h1; simp only [Option.some.injEq, Addr.mk.injEq] at this; exact this.1.symm
  exact ⟨b', off, h1, e ▸ hb, h3⟩
theorem RowOk.set {P : Nat → Prop} {w : World} {f : Nat} {all : Bool} {r : Nat × Nat} {sb o : Nat} {v : Value} {cur : Array Value} {t : TypeId} (h : RowOk P w f all r) (hne : ¬ r.1 = sb) (hs : w.heap[sb]? = some (.cells cur t (0, 0))) (ht : ¬ t = 3) : RowOk P (w.setCell ⟨sb, o, none⟩ v) f all r := by
  have hst : Stay (fun b => P b ∧ ¬ b = sb) P w (w.setCell ⟨sb, o, none⟩ v) := fun b hb _ => ⟨Below.heap_setCell _ _ _ _ hb.2, hb.1⟩
  refine RowOk.stay (P := fun b => P b ∧ ¬ b = sb) ⟨⟨h.here, hne⟩, h.two, h.most, h.cells, fun k hk hl => ?_⟩ hst
  have hi := h.inked k hk hl
  rcases f with _ | _ | _ | _ | _ | _ | _ | f <;> simp only [Ink] at hi ⊢
  · exact hi
  · obtain ⟨b', h1, h2, h3⟩ := hi
    exact ⟨b', h1, ⟨h2, fun e => by rw [e, hs] at h3; simp only [Option.some.injEq, Obj.cells.injEq] at h3; exact ht h3.2.1⟩, h3⟩
  · exact hi
  · exact hi
  · exact hi
  · exact hi
  · exact hi
  · obtain ⟨b', h0, h1, h4, h5, h6, h2, h3⟩ := hi
    exact ⟨b', h0, h1, h4, h5, h6, ⟨h2, fun e => by rw [e, hs] at h3; simp only [Option.some.injEq, Obj.cells.injEq] at h3; exact ht h3.2.1⟩, h3⟩
theorem eT_int : ∀ k, k < 8 → k ≠ 0 → ¬ eT k = 3 := by decide
theorem OwnAt.setw {lo : Nat} {w : World} {ob : Nat} {all : Bool} {V : Nat → Value} {S : Nat → List (Nat × Nat)} {b k m : Nat} {cur : Array Value} (h : OwnAt lo w ob all V S) (wb : WB lo ob V w b k m cur) (hk : k < 8) (hk0 : k ≠ 0) (hS : ∀ r ∈ S k, ¬ r.1 = b) (o : Nat) (v : Value) :
    OwnAt lo (w.setCell ⟨b, o, none⟩ v) ob all V S := by
  have hne : ∀ q, ¬ q = b → (w.setCell ⟨b, o, none⟩ v).heap[q]? = w.heap[q]? := fun q hq => Below.heap_setCell _ _ _ _ hq
  refine ⟨(hne ob (fun e => wb.po.2.1 e.symm)).trans h.box, h.low, fun f hf => ownsRow_same (h.own f hf) fun g hg => hne g (fun e => wb.po.2.2 f hf (e ▸ hg)), fun f hf r hr => (h.rows f hf r hr).set ?_ wb.heap (eT_int k hk hk0)⟩
  by_cases hfk : f = k
  · subst hfk; exact hS r hr
  · intro e
    obtain ⟨cs, hcs, _⟩ := (h.rows f hf r hr).cells
    rw [e, wb.heap] at hcs
    simp only [Option.some.injEq, Obj.cells.injEq] at hcs
    exact eT_ne f hf k hk hfk hcs.2.1.symm
/-- how many rows there are -/
structure Cn (S : Nat → List (Nat × Nat)) (c0 c2 c : Nat) : Prop where
  ints : (S 0).length ≤ c0
  codes : (S 2).length ≤ c2
  rest : ∀ f, f < 8 → f ≠ 0 → f ≠ 2 → (S f).length ≤ c
theorem Cn.push0 {S : Nat → List (Nat × Nat)} {c0 c2 c : Nat} {r : Nat × Nat} (h : Cn S c0 c2 c) : Cn (updS S 0 r) (c0 + 1) c2 c :=
  ⟨by simp [updS]; exact h.ints, by simp [updS]; exact h.codes, fun f hf h0 h2 => by simp only [updS, if_neg h0]; exact h.rest f hf h0 h2⟩
theorem Cn.push2 {S : Nat → List (Nat × Nat)} {c0 c2 c : Nat} {r : Nat × Nat} (h : Cn S c0 c2 c) : Cn (updS S 2 r) c0 (c2 + 1) c :=
  ⟨by simp [updS]; exact h.ints, by simp [updS]; exact h.codes, fun f hf h0 h2 => by simp only [updS, if_neg h2]; exact h.rest f hf h0 h2⟩
theorem Cn.push {S : Nat → List (Nat × Nat)} {c0 c2 c k : Nat} {r : Nat × Nat} (h : Cn S c0 c2 c) (hk0 : k ≠ 0) (hk2 : k ≠ 2) : Cn (updS S k r) c0 c2 (c + 1) :=
  ⟨by simp only [updS, if_neg (Ne.symm hk0)]; exact h.ints, by simp only [updS, if_neg (Ne.symm hk2)]; exact h.codes, fun f hf h0 h2 => by
    have := h.rest f hf h0 h2
    unfold updS; split
    · simp; omega
    · omega⟩
theorem Cn.mono {S : Nat → List (Nat × Nat)} {c0 c2 c d0 d2 d : Nat} (h : Cn S c0 c2 c) (h0 : c0 ≤ d0) (h2 : c2 ≤ d2) (hc : c ≤ d) : Cn S d0 d2 d :=
  ⟨Nat.le_trans h.ints h0, Nat.le_trans h.codes h2, fun f hf k0 k2 => Nat.le_trans (h.rest f hf k0 k2) hc⟩
/-- unit's own things: the Own, the box of u, the box of the answer -/
structure UO (lo ob ub rb : Nat) (V : Nat → Value) (S : Nat → List (Nat × Nat)) (v1 v2 v3 v4 v5 : Value) (w00 w : World) : Prop where
  own : OwnAt lo w ob false V S
  pu : PO lo ob V ub
  pr : PO lo ob V rb
  hu : w.heap[ub]? = some (.cells #[v1, v2, v3, v4, v5] 28 (0, 0))
  hr : w.heap[rb]? = some (.cells #[nS, nS, nS, nS, nS] 28 (0, 0))
  low : Below lo w00 w
  size : lo ≤ w.heap.size
theorem UO.fr {lo ob ub rb : Nat} {V V' : Nat → Value} {S S' : Nat → List (Nat × Nat)} {v1 v2 v3 v4 v5 : Value} {w00 w w' : World} (h : UO lo ob ub rb V S v1 v2 v3 v4 v5 w00 w) (ho : OwnAt lo w' ob false V' S') (g : Fr lo ob V V' w w') : UO lo ob ub rb V' S' v1 v2 v3 v4 v5 w00 w' :=
  ⟨ho, (g.stay ub h.pu (block_lt h.hu)).2, (g.stay rb h.pr (block_lt h.hr)).2, ((g.stay ub h.pu (block_lt h.hu)).1).trans h.hu, ((g.stay rb h.pr (block_lt h.hr)).1).trans h.hr, h.low.trans g.low, Nat.le_trans h.size g.size⟩
theorem UO.gr {lo ob ub rb : Nat} {V : Nat → Value} {S : Nat → List (Nat × Nat)} {v1 v2 v3 v4 v5 : Value} {w00 w w' : World} (h : UO lo ob ub rb V S v1 v2 v3 v4 v5 w00 w) (g : Gr w w') : UO lo ob ub rb V S v1 v2 v3 v4 v5 w00 w' := h.fr (h.own.gr g) (fr_gr g h.size)
theorem UO.setw {lo ob ub rb : Nat} {V : Nat → Value} {S : Nat → List (Nat × Nat)} {v1 v2 v3 v4 v5 : Value} {w00 w : World} {b k m : Nat} {cur : Array Value} (h : UO lo ob ub rb V S v1 v2 v3 v4 v5 w00 w) (wb : WB lo ob V w b k m cur) (hk : k < 7) (hk0 : k ≠ 0) (hS : ∀ r ∈ S k, ¬ r.1 = b) (o : Nat) (v : Value) :
    UO lo ob ub rb V S v1 v2 v3 v4 v5 w00 (w.setCell ⟨b, o, none⟩ v) := by
  have hty : ∀ k, k < 7 → ¬ eT k = 28 := by decide
  have hub : ¬ ub = b := fun e => by have := wb.heap; rw [← e, h.hu] at this; simp only [Option.some.injEq, Obj.cells.injEq] at this; exact hty k hk this.2.1.symm
  have hrb : ¬ rb = b := fun e => by have := wb.heap; rw [← e, h.hr] at this; simp only [Option.some.injEq, Obj.cells.injEq] at this; exact hty k hk this.2.1.symm
  exact ⟨h.own.setw wb (by omega) hk0 hS o v, h.pu, h.pr, (Below.heap_setCell _ _ _ _ hub).trans h.hu, (Below.heap_setCell _ _ _ _ hrb).trans h.hr, h.low.setCell (p := ⟨b, o, none⟩) wb.po.1 _, by simpa using h.size⟩
theorem UO.ucell {lo ob ub rb : Nat} {V : Nat → Value} {S : Nat → List (Nat × Nat)} {v1 v2 v3 v4 v5 : Value} {w00 w : World} (h : UO lo ob ub rb V S v1 v2 v3 v4 v5 w00 w) : w.cell? ⟨ub, 0, none⟩ = some v1 ∧ w.cell? ⟨ub, 1, none⟩ = some v2 ∧ w.cell? ⟨ub, 2, none⟩ = some v3 ∧ w.cell? ⟨ub, 3, none⟩ = some v4 ∧ w.cell? ⟨ub, 4, none⟩ = some v5 := by
  refine ⟨?_, ?_, ?_, ?_, ?_⟩ <;> rw [heap_cell h.hu] <;> rfl
/-- a new block to fill -/
theorem UO.make {lo ob ub rb : Nat} {V : Nat → Value} {S : Nat → List (Nat × Nat)} {v1 v2 v3 v4 v5 : Value} {w00 w : World} (h : UO lo ob ub rb V S v1 v2 v3 v4 v5 w00 w) (k m : Nat) (z : Array Value) (hz : z.size = sZ k) :
    UO lo ob ub rb V S v1 v2 v3 v4 v5 w00 (w.alloc (.cells (madeCells z (m * sZ k)) (eT k))) ∧ WB lo ob V (w.alloc (.cells (madeCells z (m * sZ k)) (eT k))) w.heap.size k m (madeCells z (m * sZ k)) ∧ (∀ f, f < 8 → ∀ r ∈ S f, ¬ r.1 = w.heap.size) ∧ Fr lo ob V V w (w.alloc (.cells (madeCells z (m * sZ k)) (eT k))) := by
  have hg := Gr.alloc (Gr.refl w) (.cells (madeCells z (m * sZ k)) (eT k))
  refine ⟨h.gr hg, ⟨h.own.fresh h.size (Nat.le_refl _), by show (w.heap.push _)[w.heap.size]? = _; simp, size_madeCells _ _⟩, fun f hf r hr e => ?_, fr_gr hg h.size⟩
  obtain ⟨cs, hcs, _⟩ := (h.own.rows f hf r hr).cells
  have := block_lt hcs; omega
end Go.Proofs.YtkgncijcnlfhiaaDoor

