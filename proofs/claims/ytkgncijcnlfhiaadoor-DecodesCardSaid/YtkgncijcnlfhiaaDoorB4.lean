import Derived.Test.YtkgncijcnlfhiaaDoorV1
import Derived.Test.YtkgncijcnlfhiaaDoorT1
namespace Go.Proofs.YtkgncijcnlfhiaaDoor
set_option linter.unusedVariables false
set_option linter.unusedSimpArgs false
open Go.RowKit
attribute [local go_sem ↓] Go.wp_at_zero Go.wp_at_succ


theorem Tryd.rinfo_rlist_shape : (Tryd.prog.info? 23).map (fun i => (i.zero, i.size, i.bytes)) = some (some (Value.slice none 0 0), 1, 24) := by kernel_rfl

set_option maxRecDepth 100000 in
set_option maxHeartbeats 2000000 in
theorem rlist_shape (cb B : Nat) (r : List UInt8) (e a : Int) (w : World) (hc : Cur w cb r e a) (hb : cb < B) (hB : B ≤ w.heap.size) :
    Calls Tryd.prog 128 #[.pointer (some ⟨cb, 0, none⟩), .func (.func 79) #[] #[]] w (Rds cb e a w (fun w' v (y : List (List Int)) => RShapesG B w' v y) (rdList rdKinds r)) := by
  have HC := hide hc
  clear hc
  go_enter Tryd.func128, Tryd.ntmps128
  go_wp2_with fail
  refine (number_any cb r e a _ HC.out).mono ?_
  intro x w1 h
  cases hn : rdNum 0 0 r with
  | none =>
    obtain ⟨rfl, hg⟩ := h.none_ hn
    exact ⟨rfl, by unfold rdList; rw [hn]; exact ⟨rfl, hg⟩⟩
  | some p =>
    obtain ⟨n, r1⟩ := p
    obtain ⟨v, rfl, rfl, hcur, hg⟩ := h.some_ hn
    have HG1 := hide hg
    have HC1 := hide hcur
    obtain ⟨⟨s, h0, hs⟩, hl, h1, h2, hz, hj⟩ := hcur
    have hsz : s.size = r1.length := by rw [← hs, Array.length_toList]; rfl
    have hss : s.size ≤ 1000000 := by omega
    have hwr : IntKind.u64.wrap (s.size : Int) = s.size := Go.IntWalk.u64_in _ (by omega)
    by_cases hle : n ≤ r1.length
    · have HE : Hid (rdList rdKinds r = rdN rdKinds n r1) := hide (by unfold rdList; rw [hn]; simp only [if_pos hle])
      have hd : (n : Int) ≤ (s.size : Int) := by omega
      have hn6 : n ≤ 1000000 := by omega
      clear h hg hn hs hl hz hsz hle
      go_wp2
      go_region_held3 (fun w' => w'.cell? ⟨cb, 0, none⟩ = some (.string s) ∧ w'.cell? ⟨cb, 1, none⟩ = some (.int .i64 e) ∧ w'.cell? ⟨cb, 3, none⟩ = some (.int .i64 a) ∧ w'.cell? ⟨cb, 2, none⟩ = some (.int .i64 0)) (first | go_keep | (refine ⟨?_, ?_, ?_, ?_⟩ <;> exact hg'.cell (by assumption) (by simp))) (first | (go_at_call 76; refine (unless_yes _ _ _).mono ?_; rintro e w' ⟨rfl, hg'⟩))
      have HC2 := hide (HC1.out.gr (Gr.trans (Gr.drew (Gr.refl w1)) hg'))
      have HG2 := hide (HG1.out.trans (Gr.trans (Gr.drew (Gr.refl w1)) hg').toGc)
      clear hg' h0 h1 h2 hj HC1 HG1 hss hwr hd
      obtain ⟨i0, hi, hz0, hz1, hz2⟩ := info_parts Tryd.rinfo_rlist_shape
      obtain ⟨M, hM⟩ : ∃ M, M = madeCells (Value.slice none 0 0).cells ((n : Int).toNat * i0.size) := ⟨_, rfl⟩
      have hMs : M.size = n * 1 := by rw [hM, size_madeCells, hz1]; simp
      have hmk : ∀ V : World, (Instr.makeSlice 22 (.int .u64 (n : Int)) (.int .u64 (n : Int))).run Tryd.prog V = .ok (.slice (some ⟨V.heap.size, 0, none⟩) n n) (V.alloc (.cells M 23)) := by
        intro V
        have h := run_make (P := Tryd.prog) V 22 23 i0 (Value.slice none 0 0) Tryd.underlying22 hi hz0 .u64 .u64 (n : Int) (n : Int) (by omega) (by omega) (by rw [hz2]; omega) (by omega)
        rw [← hM] at h
        simpa using h
      have HM := hide hMs
      have HDL : ∀ (V : World) (S : Nat), Hid (DL (V.alloc (.cells M 23)) V.heap.size (n * 1) S) := fun V S => hide (by rw [hM]; exact DL.new V _ _ _ _ _ (by simp [Value.cells, Value.ownBlock]) (by simp [Value.cells]))
      clear hM hMs hi hz0 hz1 hz2
      go_wp2
      have hgB : B ≤ w'.heap.size := Nat.le_trans hB HG2.out.size
      have hgW : w.heap.size ≤ w'.heap.size := HG2.out.size
      go_loopw [27] (fun i wr => ∃ (k : Nat) (ys : List (List Int)) (rk : List UInt8), k ≤ n ∧ i = .int .i64 k ∧ ys.length = k ∧ Cur wr cb rk e a ∧ Gc cb w wr ∧ rdN rdKinds n r1 = glue ys (rdN rdKinds (n - k) rk) ∧ w'.heap.size < wr.heap.size ∧ (Blk wr w'.heap.size 23 (n * 1) ∧ DL wr w'.heap.size (n * 1) wr.heap.size) ∧ (∀ j, j < n * 1 → (∃ x, wr.cell? ⟨w'.heap.size, j, none⟩ = some x) ∧ wr.frozen? ⟨w'.heap.size, j, none⟩ = false) ∧ ∀ j y, ys[j]? = some y → ∃ vx, wr.cell? ⟨w'.heap.size, j, none⟩ = some vx ∧ RIntsG (w'.heap.size + 1) wr vx y) (fun i _ => n - (intOf i).toNat)
      case atStart =>
        have HBN : Blk (w'.alloc (.cells M 23)) w'.heap.size 23 (n * 1) := by have := Blk.new w' M 23; rw [HM.out] at this; exact this
        refine ⟨0, [], r1, Nat.zero_le _, rfl, rfl, HC2.out.gr ((Gr.refl _).alloc _), HG2.out.trans ((Gr.refl _).alloc _).toGc, by rw [glue_nil]; rfl, by simp, ⟨HBN, by have := (HDL w' (w'.heap.size + 1)).out; simpa using this⟩, fun j hj => ?_, fun j y hy => by simp at hy⟩
        exact new_row w' M 23 j (by rw [HM.out]; exact hj)
      case round =>
        obtain ⟨k, ys, rk, hk, rfl, hyl, hcur, hgc, hrd, hsz, hblk, hrow, hel⟩ := hrel
        have HBk := hide hblk
        clear hblk
        have HN := hide hrd
        have HEl := hide hel
        have HRow := hide hrow
        have HG3 := hide hgc
        have HC3 := hide hcur
        have hYL := hide hyl
        clear hrd hel hrow hgc hcur HC2 HG2 hyl hmk
        by_cases hlt : k < n
        · obtain ⟨m, hm⟩ : ∃ m, n - k = m + 1 := ⟨n - k - 1, by omega⟩
          have HMM := hide hm
          clear hm
          go_wp2_with fail
          refine (kinds_read cb wr.heap.size rk e a _ HC3.out (by omega) (Nat.le_refl _)).mono ?_
          intro x w4 h
          cases hf : rdKinds rk with
          | none =>
            obtain ⟨rfl, hg⟩ := h.none_ hf
            exact ⟨rfl, by rw [HE.out, HN.out, HMM.out, glue_none hf]; exact ⟨rfl, HG3.out.trans hg⟩⟩
          | some p =>
            obtain ⟨y, r4⟩ := p
            obtain ⟨v, rfl, hy, hcur, hg⟩ := h.some_ hf
            have HN2 : Hid (rdN rdKinds n r1 = glue (ys ++ [y]) (rdN rdKinds (n - (k + 1)) r4)) := hide (by rw [HN.out, HMM.out, glue_some hf, show n - (k + 1) = m by have := HMM.out; omega])
            have hkp : Kp (w'.heap.size) wr w4 := hg.kp (by omega)
            have hsz4 : w'.heap.size < w4.heap.size := Nat.lt_of_lt_of_le hsz hg.size
            have HRow4 : Hid (∀ j, j < n * 1 → (∃ x, w4.cell? ⟨w'.heap.size, j, none⟩ = some x) ∧ w4.frozen? ⟨w'.heap.size, j, none⟩ = false) := hide (row_keep HRow.out hkp hsz)
            have HB4 := hide (HBk.out.1.kp hkp (Nat.le_refl _))
            have HD4 := hide (HBk.out.2.kp hkp (Nat.le_refl _) hsz (Nat.le_refl _))
            have HC4 := hide hcur
            have HG4 := hide (HG3.out.trans hg)
            have HKP := hide hkp
            have HY := hide hy
            clear h hf hcur hkp
            obtain ⟨av, cv, hv⟩ := HY.out.shape
            subst hv
            obtain ⟨⟨x0, hx0⟩, hz0⟩ := HRow4.out k (by omega)
            have hkn : (0 : Int) ≤ (k : Int) := by omega
            have hkn2 : (k : Int) < (n : Int) := by omega
            have hg4s := hg.size
            clear hg hy
            go_wp2
            go_roundw
            case rel =>
              have hyl := hYL.out
              refine ⟨k + 1, ys ++ [y], r4, by omega, by go_num, by simp [hyl], cur_set HC4.out (by omega), gc_new HG4.out hgW, HN2.out, by simpa using hsz4, ⟨HB4.out.set, HD4.out.set (fun b hb => by have := HY.out.at hb; simpa using this) (by have := hg4s; simp; omega) ⟨x0, hx0⟩⟩, row_set HRow4.out, fun j z hj => ?_⟩
              rcases snoc_at hj with ⟨h1, h2⟩ | ⟨h1, h2⟩
              · obtain ⟨vx, q1, q2⟩ := HEl.out j z h1
                exact ⟨vx, by rw [cell_set_ne (by omega)]; exact HKP.out.cell (Nat.le_refl _) q1, (q2.kp (HKP.out.mono (by omega))).kp (Kp.set _ (by omega))⟩
              · subst h1; subst h2; rw [hyl]; exact ⟨_, World.cell?_setCell_same _ _ _ hx0, (HY.out.mono (by omega)).kp (Kp.set _ (by omega))⟩
            case measure => simp [intOf]; omega
        · have hk2 : k = n := by omega
          subst hk2
          have HFin : Hid (rdList rdKinds r = some (ys, rk)) := hide (by rw [HE.out, HN.out, Nat.sub_self, glue_end])
          go_wp2
          go_ret
          rw [HFin.out]
          refine ⟨_, rfl, ?_, HC3.out, HG3.out⟩
          have hyl := hYL.out
          show RShapesG B wr (.slice (some ⟨w'.heap.size, 0, none⟩) k k) ys
          exact ⟨w'.heap.size, by rw [hyl], hgB, by rw [hyl]; exact HBk.out.1, by unfold maxLen; omega, ⟨_, by rw [hyl]; exact HBk.out.2⟩, HEl.out⟩
    · have HE : Hid (rdList rdKinds r = none) := hide (by unfold rdList; rw [hn]; simp only [if_neg hle])
      have hd : decide (n ≤ s.size) = false := by rw [decide_eq_false_iff_not]; omega
      clear h hg hn hs hl hz hsz hle
      go_wp2
      go_region_with (first | (go_at_call 76; refine (unless_no _ _ _).mono ?_; rintro e w' ⟨rfl, hg'⟩; refine left_region ?_))
      all_goals exact ⟨rfl, by rw [HE.out]; exact ⟨rfl, HG1.out.trans (Gr.trans (Gr.drew (Gr.refl w1)) hg').toGc⟩⟩
end Go.Proofs.YtkgncijcnlfhiaaDoor

namespace Go.Proofs.YtkgncijcnlfhiaaDoor
set_option linter.unusedVariables false
set_option linter.unusedSimpArgs false
open Go.RowKit

theorem RShapes.below {W w : World} {v : Value} {l : List (List Int)} (h : RShapes W v l) (g : Below W.heap.size W w) : RShapes w v l := by
  obtain ⟨ao, cap, hv, hm, hc⟩ := h
  refine ⟨ao, cap, hv, hm, fun i x hi => ?_⟩
  obtain ⟨b, off, vx, h1, h2, h3⟩ := hc i x hi
  exact ⟨b, off, vx, h1, below_cell g h2, h3.below g⟩
theorem RCode.below {W w : World} {v : Value} {l : List PIns} (h : RCode W v l) (g : Below W.heap.size W w) : RCode w v l := by
  obtain ⟨ao, cap, hv, hm, hc⟩ := h
  refine ⟨ao, cap, hv, hm, fun i x hi => ?_⟩
  obtain ⟨b, off, h1, h2, h3, h4⟩ := hc i x hi
  exact ⟨b, off, h1, below_cell g h2, below_cell g h3, below_cell g h4⟩
theorem RFuncs.below {W w : World} {v : Value} {l : List PFunc} (h : RFuncs W v l) (g : Below W.heap.size W w) : RFuncs w v l := by
  obtain ⟨ao, cap, hv, hm, hc⟩ := h
  refine ⟨ao, cap, hv, hm, fun i x hi => ?_⟩
  obtain ⟨b, off, vp, vl, vc, h1, h2, h3, h4, h5, h6, h7, h8⟩ := hc i x hi
  exact ⟨b, off, vp, vl, vc, h1, below_cell g h2, below_cell g h3, below_cell g h4, below_cell g h5, h6.below g, h7.below g, h8.below g⟩
theorem RImports.below {W w : World} {v : Value} {l : List PImp} (h : RImports W v l) (g : Below W.heap.size W w) : RImports w v l := by
  obtain ⟨ao, cap, hv, hm, hc⟩ := h
  refine ⟨ao, cap, hv, hm, fun i x hi => ?_⟩
  obtain ⟨b, off, vs, vp, h1, h2, h3, h4, h5, h6⟩ := hc i x hi
  exact ⟨b, off, vs, vp, h1, below_cell g h2, below_cell g h3, below_cell g h4, h5, h6.below g⟩
theorem RExports.below {W w : World} {v : Value} {l : List PExp} (h : RExports W v l) (g : Below W.heap.size W w) : RExports w v l := by
  obtain ⟨ao, cap, hv, hm, hc⟩ := h
  refine ⟨ao, cap, hv, hm, fun i x hi => ?_⟩
  obtain ⟨b, off, vs, h1, h2, h3, h4⟩ := hc i x hi
  exact ⟨b, off, vs, h1, below_cell g h2, below_cell g h3, h4⟩

/-- lists in bytes -/
def encs {α : Type} (f : α → List UInt8) (xs : List α) : List UInt8 := num xs.length ++ xs.flatMap f
def encTo {α : Type} (f : α → List UInt8) (xs : List α) (k : Nat) : List UInt8 := num xs.length ++ (xs.take k).flatMap f
theorem encTo_zero {α : Type} (f : α → List UInt8) (xs : List α) : encTo f xs 0 = num xs.length := by simp [encTo]
theorem encTo_succ {α : Type} {f : α → List UInt8} {xs : List α} {k : Nat} {x : α} (h : xs[k]? = some x) : encTo f xs (k + 1) = encTo f xs k ++ f x := by
  obtain ⟨hk, rfl⟩ := List.getElem?_eq_some_iff.1 h
  unfold encTo
  rw [List.take_succ_eq_append_getElem hk, List.flatMap_append, List.append_assoc]; simp
theorem encs_end {α : Type} {f : α → List UInt8} {xs : List α} {k : Nat} (h : ¬ k < xs.length) : encs f xs = encTo f xs k := by
  unfold encs encTo; rw [List.take_of_length_le (by omega)]
theorem encTo_le {α : Type} (f : α → List UInt8) (xs : List α) (k : Nat) : (encTo f xs k).length ≤ (encs f xs).length := by
  have e : xs.flatMap f = (xs.take k).flatMap f ++ (xs.drop k).flatMap f := by rw [← List.flatMap_append, List.take_append_drop]
  unfold encs encTo; rw [e]; simp only [List.length_append]; omega
def encWhole (x : Int) : List UInt8 := num x.toNat
def encSigned (x : Int) : List UInt8 := num (zig x)
def encKinds (l : List Int) : List UInt8 := encs encWhole l
def encIns (i : PIns) : List UInt8 :=
  UInt8.ofNat i.op.toNat :: (if i.op = 1 then num (zig i.a) else (if 1 ≤ operandsN i.op then num i.a.toNat else []) ++ (if 2 ≤ operandsN i.op then num i.b.toNat else []))
def encFunc (f : PFunc) : List UInt8 := encKinds f.params ++ (encKinds f.locals ++ (num f.result.toNat ++ encs encIns f.code))
def encText (s : List UInt8) : List UInt8 := num s.length ++ s
def encImp (i : PImp) : List UInt8 := encText i.name ++ (encKinds i.params ++ num i.result.toNat)
def encExp (e : PExp) : List UInt8 := encText e.name ++ num e.func.toNat

end Go.Proofs.YtkgncijcnlfhiaaDoor

namespace Go.Proofs.YtkgncijcnlfhiaaDoor
set_option linter.unusedVariables false
set_option linter.unusedSimpArgs false
open Go.RowKit

theorem App.box {base : Nat} {w w' : World} {v v' : Value} {l' : List UInt8} (k : App base w v w' v' l') {B o : Nat} {x : Value} (hx : w.cell? ⟨B, o, none⟩ = some x) (hv : ∀ i, v.ownBlock = some i → i < B) : w'.cell? ⟨B, o, none⟩ = some x :=
  k.frm.cell hx (fun e => by have := hv B e.symm; omega)
theorem operandsN_cases (op : Int) : operandsN op = 0 ∨ operandsN op = 1 ∨ operandsN op = 2 := by
  unfold operandsN; split
  · exact .inr (.inr rfl)
  · split
    · exact .inr (.inl rfl)
    · exact .inl rfl
theorem byte_op {op : Int} (h0 : 0 ≤ op) (h1 : op ≤ 20) : op = (UInt8.ofNat op.toNat).toNat := by simp [UInt8.toNat_ofNat']; omega
end Go.Proofs.YtkgncijcnlfhiaaDoor

