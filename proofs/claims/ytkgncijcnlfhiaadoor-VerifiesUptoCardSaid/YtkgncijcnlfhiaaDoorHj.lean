import Derived.Test.YtkgncijcnlfhiaaDoorHa
import Derived.Test.YtkgncijcnlfhiaaDoorHc
import Derived.Test.YtkgncijcnlfhiaaDoorHe
import Derived.Test.YtkgncijcnlfhiaaDoorHg
import Derived.Test.YtkgncijcnlfhiaaDoorF4
import Derived.Test.YtkgncijcnlfhiaaDoorV3
import Derived.Test.YtkgncijcnlfhiaaDoorW4
import Derived.Test.YtkgncijcnlfhiaaDoorE1
import Derived.Test.YtkgncijcnlfhiaaDoorG2
namespace Go.Proofs.YtkgncijcnlfhiaaDoor
set_option linter.unusedVariables false
set_option linter.unusedSimpArgs false
open Go.RowKit
theorem RUnit.low {W w : World} {v : Value} {u : PUnit} (h : RUnit W v u) (g : Below W.heap.size W w) : RUnit w v u := by
  obtain ⟨v1, v2, v3, v4, v5, hv, h1, h2, h3, h4, h5⟩ := h
  exact ⟨v1, v2, v3, v4, v5, hv, h1.below g, h2.below g, h3.below g, h4.below g, h5.below g⟩
theorem RUnitP.to {P : Nat → Prop} {w : World} {v : Value} {u : PUnit} (h : RUnitP P w v u) : RUnit w v u := by
  obtain ⟨v1, v2, v3, v4, v5, hv, h1, h2, h3, h4, h5⟩ := h
  exact ⟨v1, v2, v3, v4, v5, hv, h1.to.to, h2.to.to, h3.to.to, h4.to.to, h5.to.to⟩
theorem Tab.low {w w' : World} {B : Nat} (h : Tab w) (hB : 0 < B) (g : Below B w w') : Tab w' := fun j hj => (g.cell (p := ⟨0, j, none⟩) hB).trans (h j hj)
def ptrV (ob : Nat) : Value := .pointer (some ⟨ob, 0, none⟩)
def deskArr (vo : Value) : Array Value := #[vo, zI, nS, nS, nS, nS, nS, nS, nS, nS, nS]
/-- one of the caller's, written over: all its blocks lie from lo on, below what was there then -/
structure Kept (db : Nat) (vo : Value) (hi : Nat) (w : World) (ob : Nat) : Prop where
  is : ∃ lo V S w1, OwnAt lo w1 ob true V S ∧ (∀ b, lo ≤ b → b < w1.heap.size → w.heap[b]? = w1.heap[b]?) ∧ w1.heap.size ≤ hi ∧ db < lo ∧ ∀ g, vo.ownBlock = some g → g < lo ∨ w1.heap.size ≤ g
/-- the desk, with an empty book; all below hi -/
structure DeskAt (hi : Nat) (w : World) (db : Nat) (vo : Value) (os : List Nat) : Prop where
  box : w.heap[db]? = some (.cells (deskArr vo) 39 (0, 0))
  own : w.ownsRow (db + 1) 48 1 vo os.length (os.map ptrV)
  dbl : db < hi
  ownl : ∀ g, vo.ownBlock = some g → g < hi
  kept : ∀ ob ∈ os, Kept db vo hi w ob
theorem DeskAt.below {hi : Nat} {w w' : World} {db : Nat} {vo : Value} {os : List Nat} (h : DeskAt hi w db vo os) (g : Below hi w w') : DeskAt hi w' db vo os := by
  refine ⟨(g.block db h.dbl).trans h.box, ownsRow_same h.own fun q hq => g.block q (h.ownl q hq), h.dbl, h.ownl, fun ob hob => ?_⟩
  obtain ⟨lo, V, S, w1, k1, k2, k3, k4, k5⟩ := (h.kept ob hob).is
  exact ⟨lo, V, S, w1, k1, fun b hb hl => (g.block b (by omega)).trans (k2 b hb hl), k3, k4, k5⟩
theorem DeskAt.mono {hi hi' : Nat} {w : World} {db : Nat} {vo : Value} {os : List Nat} (h : DeskAt hi w db vo os) (g : hi ≤ hi') : DeskAt hi' w db vo os :=
  ⟨h.box, h.own, Nat.lt_of_lt_of_le h.dbl g, fun q hq => Nat.lt_of_lt_of_le (h.ownl q hq) g, fun ob hob => by
    obtain ⟨lo, V, S, w1, k1, k2, k3, k4, k5⟩ := (h.kept ob hob).is
    exact ⟨lo, V, S, w1, k1, k2, Nat.le_trans k3 g, k4, k5⟩⟩
theorem DeskAt.not_db {hi : Nat} {w : World} {db : Nat} {vo : Value} {os : List Nat} (h : DeskAt hi w db vo os) : ¬ vo.ownBlock = some db := fun e => by have := (h.own.lt db e).1; omega
/-- one more -/
theorem DeskAt.push {lo : Nat} {w w1 : World} {db ob : Nat} {vo v' : Value} {os : List Nat} {V : Nat → Value} {S : Nat → List (Nat × Nat)} (h : DeskAt lo w db vo os) (ho : OwnAt lo w ob true V S) (hlo : lo ≤ w.heap.size)
    (ha : Ap (db + 1) 48 1 w vo w1 v' (os.length + 1) (os.map ptrV ++ [ptrV ob])) :
    DeskAt w1.heap.size (w1.setCell ⟨db, 0, none⟩ v') db v' (os ++ [ob]) ∧ Below db w (w1.setCell ⟨db, 0, none⟩ v') := by
  have hdbl := h.dbl
  have hs := ha.frm.size
  have hdb1 : w1.heap[db]? = w.heap[db]? := ha.frm.block db (by omega) (fun e => h.not_db e.symm)
  have hvdb : ¬ v'.ownBlock = some db := fun e => by have := (ha.own.lt db e).1; omega
  have hne : ∀ b, ¬ b = db → (w1.setCell ⟨db, 0, none⟩ v').heap[b]? = w1.heap[b]? := fun b hb => Below.heap_setCell _ _ _ _ hb
  refine ⟨⟨?_, ?_, by omega, fun q hq => (ha.own.lt q hq).2, fun o hmem => ?_⟩, ?_⟩
  · have := heap_set (o := 0) (v := v') (hdb1.trans h.box)
    exact this
  · have : w1.ownsRow (db + 1) 48 1 v' (os ++ [ob]).length ((os ++ [ob]).map ptrV) := by
      rw [List.length_append, List.map_append]; exact ha.own
    exact ownsRow_same this fun q hq => hne q (fun e => hvdb (e ▸ hq))
  · rcases List.mem_append.1 hmem with hm | hm
    · obtain ⟨lo', V', S', w', k1, k2, k3, k4, k5⟩ := (h.kept o hm).is
      refine ⟨lo', V', S', w', k1, fun b hb hl => ?_, by omega, k4, fun g hg => ?_⟩
      · refine (hne b (by omega)).trans ((ha.frm.block b (by omega) (fun e => ?_)).trans (k2 b hb hl))
        rcases k5 b e.symm with e | e <;> omega
      · rcases ha.lies g hg with e | e
        · exact k5 g e
        · right; omega
    · rw [List.mem_singleton.1 hm]
      refine ⟨lo, V, S, w, ho, fun b hb hl => ?_, by omega, hdbl, fun g hg => ?_⟩
      · refine (hne b (by omega)).trans (ha.frm.block b hl (fun e => ?_))
        have := h.ownl b e.symm; omega
      · rcases ha.lies g hg with e | e
        · exact .inl (h.ownl g e)
        · exact .inr e
  · have hb1 : Below db w w1 := (Below.refl _ _).grown ha.frm (by omega) (fun q hq => by have := (h.own.lt q hq).1; omega)
    exact hb1.setCell (p := ⟨db, 0, none⟩) (Nat.le_refl _) _
theorem Tryd.ownPtr : (Tryd.prog.info? 48).map (fun i => (i.zero, i.size, i.bytes)) = some (some (Value.pointer none), 1, 8) := by kernel_rfl
def Put (db ob : Nat) (os : List Nat) (w : World) (x : Ending) (w' : World) : Prop := ∃ vo', x = .returned (.bool true) ∧ DeskAt w'.heap.size w' db vo' (os ++ [ob]) ∧ Below db w w'

set_option maxRecDepth 100000 in
set_option maxHeartbeats 2000000 in
theorem put_any (lo db ob : Nat) (vo : Value) (os : List Nat) (V : Nat → Value) (S : Nat → List (Nat × Nat)) (w : World) (hd : DeskAt lo w db vo os) (ho : OwnAt lo w ob false V S) (hlo : lo ≤ w.heap.size) (hos : os.length ≤ 100) :
    Calls Tryd.prog 16 #[.pointer (some ⟨db, 0, none⟩), .pointer (some ⟨ob, 0, none⟩)] w (Put db ob os w) := by
  have HD := hide hd
  have HO := hide ho
  clear hd ho
  go_enter Tryd.func16, Tryd.ntmps16
  go_wp2_with fail
  refine (behind_any lo ob V S w HO.out).mono ?_
  rintro e w' ⟨rfl, hw'⟩
  obtain rfl := hw'.symm
  go_wp2_with fail
  refine (spoil_any lo ob V S w HO.out hlo).mono ?_
  rintro e w1 ⟨rfl, ho1, hb1, hl1⟩
  have HD1 := hide (HD.out.below hb1)
  have HO1 := hide ho1
  have HB1 := hide (hb1.mono (Nat.le_of_lt HD.out.dbl))
  have hdc : w1.cell? ⟨db, 0, none⟩ = some vo := by rw [heap_cell HD1.out.box]; rfl
  have hsl : os.length ≤ 10000000 := by omega
  clear HD HO ho1 hb1
  go_wp2_with (first
    | (at_builtin; refine wpList_append_vals _ rfl _ _ 30 48 1 8 (.pointer none) Tryd.ownPtr Tryd.underlying30 rfl (by decide) (by decide) rfl (db + 1) _ os.length (os.map ptrV) rfl HD1.out.own #[ptrV ob] rfl (by intro u hu; simp at hu; subst hu; rfl) _ rfl (by simp) hsl (by have := HD1.out.dbl; omega) ?_; intro v3 w3 hap; obtain ⟨⟨a8, c8, hv3⟩, _⟩ := own_form hap.own; subst hv3; have hob3 := hap.frm.cell hdc (fun e => HD1.out.not_db e.symm); have hz3 : w3.frozen? ⟨db, 0, none⟩ = false := (World.frozen?_of_block (hap.frm.block db (block_lt HD1.out.box) (fun e => HD1.out.not_db e.symm))).trans (heap_frozen HD1.out.box)))
  go_ret
  obtain ⟨k1, k2⟩ := HD1.out.push HO1.out hl1 hap
  exact ⟨_, rfl, by simpa using k1, HB1.out.trans k2⟩
end Go.Proofs.YtkgncijcnlfhiaaDoor

namespace Go.Proofs.YtkgncijcnlfhiaaDoor
set_option linter.unusedVariables false
set_option linter.unusedSimpArgs false
open Go.RowKit
theorem num_any (e : Int) (w : World) : Calls Tryd.prog 17 #[.int .i64 e] w fun x w' => x = .returned (.int .i64 e) ∧ w' = w := by
  go_enter Tryd.func17, Tryd.ntmps17
  go_wp2
  go_ret
  exact ⟨rfl, rfl⟩
/-- an Own of nothing -/
theorem OwnAt.none_ {w : World} {ob lo : Nat} (hl : lo ≤ ob) (h : w.heap[ob]? = some (.cells #[nS, nS, nS, nS, nS, nS, nS, nS] 52 (0, 0))) : OwnAt lo w ob false (fun _ => nS) (fun _ => []) :=
  ⟨h, hl, fun f _ => World.ownsRow_nil _ _ _ _, fun _ _ r hr => (List.not_mem_nil hr).elim⟩
def encD (w : World) (v1 v2 v3 v4 v5 : Value) : World := (w.alloc (.cells #[v1, v2, v3, v4, v5] 28)).alloc (.cells #[nS, nS, nS, nS, nS, nS, nS, nS] 52)
theorem encD_eq (w : World) (v1 v2 v3 v4 v5 : Value) : (w.alloc (.cells #[v1, v2, v3, v4, v5] 28)).alloc (.cells #[nS, nS, nS, nS, nS, nS, nS, nS] 52) = encD w v1 v2 v3 v4 v5 := rfl
theorem encD_facts (w : World) (v1 v2 v3 v4 v5 : Value) :
    OwnAt w.heap.size (encD w v1 v2 v3 v4 v5) (w.heap.size + 1) false (fun _ => nS) (fun _ => []) ∧ Gr w (encD w v1 v2 v3 v4 v5) ∧ (encD w v1 v2 v3 v4 v5).heap[w.heap.size]? = some (.cells #[v1, v2, v3, v4, v5] 28 (0, 0)) ∧ (encD w v1 v2 v3 v4 v5).heap.size = w.heap.size + 2 := by
  have hg : Gr w (encD w v1 v2 v3 v4 v5) := ((Gr.refl w).alloc _).alloc _
  have h1 := heap_new w (.cells #[v1, v2, v3, v4, v5] 28)
  have h2 := heap_new (w.alloc (.cells #[v1, v2, v3, v4, v5] 28)) (.cells #[nS, nS, nS, nS, nS, nS, nS, nS] 52)
  rw [show (w.alloc (.cells #[v1, v2, v3, v4, v5] 28)).heap.size = w.heap.size + 1 by simp] at h2
  refine ⟨OwnAt.none_ (by omega) h2, hg, ?_, by simp [encD]⟩
  exact ((World.grownBy_alloc (w.alloc (.cells #[v1, v2, v3, v4, v5] 28)) (.cells #[nS, nS, nS, nS, nS, nS, nS, nS] 52) none).block w.heap.size (by simp) (by simp)).trans h1
theorem heap_box5 {w : World} {b : Nat} {v1 v2 v3 v4 v5 : Value} {t : TypeId} (h : w.heap[b]? = some (.cells #[v1, v2, v3, v4, v5] t (0, 0))) : w.cell? ⟨b, 0, none⟩ = some v1 ∧ w.cell? ⟨b, 1, none⟩ = some v2 ∧ w.cell? ⟨b, 2, none⟩ = some v3 ∧ w.cell? ⟨b, 3, none⟩ = some v4 ∧ w.cell? ⟨b, 4, none⟩ = some v5 := by
  refine ⟨?_, ?_, ?_, ?_, ?_⟩ <;> rw [heap_cell h] <;> rfl
def Encd (db : Nat) (os : List Nat) (w : World) (x : Ending) (w' : World) : Prop := ∃ vo' ob, x = .returned (.bool true) ∧ DeskAt w'.heap.size w' db vo' (os ++ [ob]) ∧ Below db w w'

end Go.Proofs.YtkgncijcnlfhiaaDoor

namespace Go.Proofs.YtkgncijcnlfhiaaDoor
set_option linter.unusedVariables false
set_option linter.unusedSimpArgs false
open Go.RowKit
set_option maxRecDepth 100000 in
set_option maxHeartbeats 2000000 in
theorem book_empty (db : Nat) (w : World) (vo : Value) (h : w.heap[db]? = some (.cells (deskArr vo) 39 (0, 0))) :
    Calls Tryd.prog 19 #[.pointer (some ⟨db, 1, none⟩)] w fun x w' => x = .returned (.bool true) ∧ w' = w := by
  have c2 : w.cell? ⟨db, 2, none⟩ = some (.slice none 0 0) := by rw [heap_cell h]; rfl
  have c4 : w.cell? ⟨db, 4, none⟩ = some (.slice none 0 0) := by rw [heap_cell h]; rfl
  have c6 : w.cell? ⟨db, 6, none⟩ = some (.slice none 0 0) := by rw [heap_cell h]; rfl
  have c7 : w.cell? ⟨db, 7, none⟩ = some (.slice none 0 0) := by rw [heap_cell h]; rfl
  have c8 : w.cell? ⟨db, 8, none⟩ = some (.slice none 0 0) := by rw [heap_cell h]; rfl
  have c9 : w.cell? ⟨db, 9, none⟩ = some (.slice none 0 0) := by rw [heap_cell h]; rfl
  clear h
  go_enter Tryd.func19, Tryd.ntmps19
  go_wp2_with fail
  go_loopw [3] (fun i wr => i = .int .i64 0 ∧ w = wr) (fun _ _ => 0)
  case atStart => exact ⟨rfl, rfl⟩
  case round =>
    obtain ⟨rfl, rfl⟩ := hrel
    go_wp2_with fail
    go_loopw [5] (fun i wr => i = .int .i64 0 ∧ w = wr) (fun _ _ => 0)
    case atStart => exact ⟨rfl, rfl⟩
    case round =>
      obtain ⟨rfl, rfl⟩ := hrel
      go_wp2_with fail
      go_loopw [7] (fun i wr => i = .int .i64 0 ∧ w = wr) (fun _ _ => 0)
      case atStart => exact ⟨rfl, rfl⟩
      case round =>
        obtain ⟨rfl, rfl⟩ := hrel
        go_wp2_with fail
        go_loopw [9] (fun i wr => i = .int .i64 0 ∧ w = wr) (fun _ _ => 0)
        case atStart => exact ⟨rfl, rfl⟩
        case round =>
          obtain ⟨rfl, rfl⟩ := hrel
          go_wp2_with fail
          go_loopw [12] (fun i wr => i = .int .i64 0 ∧ w = wr) (fun _ _ => 0)
          case atStart => exact ⟨rfl, rfl⟩
          case round =>
            obtain ⟨rfl, rfl⟩ := hrel
            go_wp2_with fail
            go_loopw [14] (fun i wr => i = .int .i64 0 ∧ w = wr) (fun _ _ => 0)
            case atStart => exact ⟨rfl, rfl⟩
            case round =>
              obtain ⟨rfl, rfl⟩ := hrel
              go_wp2_with fail
              go_ret
              exact ⟨rfl, rfl⟩

set_option maxRecDepth 100000 in
set_option maxHeartbeats 2000000 in
theorem holds_any (hi db : Nat) (vo : Value) (os : List Nat) (w : World) (h : DeskAt hi w db vo os) :
    Calls Tryd.prog 8 #[.pointer (some ⟨db, 0, none⟩)] w fun x w' => x = .returned (.bool true) ∧ w' = w := by
  have hnot : ∀ (x : Bool) (w : World), (Op.unary .not (.bool x)).run Tryd.prog w = .ok (.bool (!x)) w := fun _ _ => rfl
  obtain ⟨⟨ao, cap, hv⟩, hm⟩ := own_form h.own
  have hc0 : w.cell? ⟨db, 0, none⟩ = some (.slice ao os.length cap) := by rw [heap_cell h.box, ← hv]; rfl
  have HRow : ∀ i o, os[i]? = some o → Hid (∃ g, ao = some ⟨g, 0, none⟩ ∧ w.cell? ⟨g, i, none⟩ = some (.pointer (some ⟨o, 0, none⟩)) ∧ ∃ lo V S, OwnAt lo w o true V S) := fun i o hi => hide (by
    have hil : i < os.length := (List.getElem?_eq_some_iff.1 hi).1
    obtain ⟨g, k1, k2, ⟨cap', k3⟩, k4⟩ := own_at h.own (j := i) (by omega)
    rw [hv] at k3
    simp only [Value.slice.injEq] at k3
    rw [Nat.zero_add] at k4
    obtain ⟨lo, V, S, w1, m1, m2, _⟩ := (h.kept o (List.mem_of_getElem? hi)).is
    exact ⟨g, k3.1, by rw [k4, List.getElem?_map, hi]; rfl, lo, V, S, m1.keep m2⟩)
  have HB := hide h.box
  unfold maxLen at hm
  clear hv h
  go_enter Tryd.func8, Tryd.ntmps8
  go_wp2_with fail
  go_loopw [3] (fun i wr => ∃ k : Nat, k ≤ os.length ∧ i = .int .i64 k ∧ w = wr) (fun i _ => os.length - (intOf i).toNat)
  case atStart => exact ⟨0, Nat.zero_le _, rfl, rfl⟩
  case round =>
    obtain ⟨k, hk, rfl, rfl⟩ := hrel
    by_cases hlt : k < os.length
    · obtain ⟨o, ho⟩ := getElem?_lt hlt
      obtain ⟨g, rfl, hrow, lo, V, S, hok⟩ := (HRow k o ho).out
      have HOK := hide hok
      clear hok ho HRow
      go_wp2_with (go_at_call 18; refine (spoilt_any lo o V S w HOK.out).mono ?_; rintro e w' ⟨rfl, hw'⟩; obtain rfl := hw'.symm)
      go_roundw
      case rel => exact ⟨k + 1, by omega, by go_num, by first | rfl | trivial⟩
      case measure => simp [intOf]; omega
    · have hkk : k = os.length := by omega
      subst hkk
      clear hlt hk HRow
      go_wp2_with (go_at_call 19; refine (book_empty db w vo HB.out).mono ?_; rintro e w' ⟨rfl, hw'⟩; obtain rfl := hw'.symm)
      go_ret
      exact ⟨rfl, rfl⟩
theorem DeskAt.new {w : World} {db : Nat} (h : w.heap[db]? = some (.cells (deskArr nS) 39 (0, 0))) : DeskAt w.heap.size w db nS [] :=
  ⟨h, World.ownsRow_nil _ _ _ _, block_lt h, fun g hg => by simp [nS, Value.ownBlock] at hg, fun _ h => (List.not_mem_nil h).elim⟩
def lawW (w : World) (a1 a2 a3 a4 a5 b1 b2 b3 b4 b5 : Value) : World := ((w.alloc (.cells #[a1, a2, a3, a4, a5] 28)).alloc (.cells #[b1, b2, b3, b4, b5] 28)).alloc (.cells #[nS, zI, nS, nS, nS, nS, nS, nS, nS, nS, nS] 39)
theorem lawW_eq (w : World) (a1 a2 a3 a4 a5 b1 b2 b3 b4 b5 : Value) : ((w.alloc (.cells #[a1, a2, a3, a4, a5] 28)).alloc (.cells #[b1, b2, b3, b4, b5] 28)).alloc (.cells #[nS, zI, nS, nS, nS, nS, nS, nS, nS, nS, nS] 39) = lawW w a1 a2 a3 a4 a5 b1 b2 b3 b4 b5 := rfl
theorem lawW_facts (w : World) (a1 a2 a3 a4 a5 b1 b2 b3 b4 b5 : Value) : Gr w (lawW w a1 a2 a3 a4 a5 b1 b2 b3 b4 b5) ∧ (lawW w a1 a2 a3 a4 a5 b1 b2 b3 b4 b5).heap[w.heap.size]? = some (.cells #[a1, a2, a3, a4, a5] 28 (0, 0)) ∧ (lawW w a1 a2 a3 a4 a5 b1 b2 b3 b4 b5).heap[w.heap.size + 1]? = some (.cells #[b1, b2, b3, b4, b5] 28 (0, 0)) ∧ (lawW w a1 a2 a3 a4 a5 b1 b2 b3 b4 b5).heap[w.heap.size + 2]? = some (.cells (deskArr nS) 39 (0, 0)) ∧ (lawW w a1 a2 a3 a4 a5 b1 b2 b3 b4 b5).heap.size = w.heap.size + 3 := by
  have hs1 : (w.alloc (.cells #[a1, a2, a3, a4, a5] 28)).heap.size = w.heap.size + 1 := by simp
  have hs2 : ((w.alloc (.cells #[a1, a2, a3, a4, a5] 28)).alloc (.cells #[b1, b2, b3, b4, b5] 28)).heap.size = w.heap.size + 2 := by simp
  have h1 := heap_new w (.cells #[a1, a2, a3, a4, a5] 28)
  have h2 := heap_new (w.alloc (.cells #[a1, a2, a3, a4, a5] 28)) (.cells #[b1, b2, b3, b4, b5] 28)
  have h3 := heap_new ((w.alloc (.cells #[a1, a2, a3, a4, a5] 28)).alloc (.cells #[b1, b2, b3, b4, b5] 28)) (.cells #[nS, zI, nS, nS, nS, nS, nS, nS, nS, nS, nS] 39)
  rw [hs1] at h2
  rw [hs2] at h3
  have g2 := Gr.alloc (Gr.refl (w.alloc (.cells #[a1, a2, a3, a4, a5] 28))) (.cells #[b1, b2, b3, b4, b5] 28)
  have g3 := Gr.alloc (Gr.refl ((w.alloc (.cells #[a1, a2, a3, a4, a5] 28)).alloc (.cells #[b1, b2, b3, b4, b5] 28))) (.cells #[nS, zI, nS, nS, nS, nS, nS, nS, nS, nS, nS] 39)
  exact ⟨(((Gr.refl w).alloc _).alloc _).alloc _, ((g2.trans g3).block _ (by omega) (by simp)).trans h1, (g3.block _ (by omega) (by simp)).trans h2, h3, by simp [lawW]⟩
def LawR (w : World) (x : Ending) (w' : World) : Prop := x = .returned (.bool true) ∧ Below w.heap.size w w'

end Go.Proofs.YtkgncijcnlfhiaaDoor

