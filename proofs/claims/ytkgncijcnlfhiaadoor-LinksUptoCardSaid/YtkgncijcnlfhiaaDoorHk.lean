import Derived.Test.YtkgncijcnlfhiaaDoorHa
import Derived.Test.YtkgncijcnlfhiaaDoorHc
import Derived.Test.YtkgncijcnlfhiaaDoorHe
import Derived.Test.YtkgncijcnlfhiaaDoorHg
import Derived.Test.YtkgncijcnlfhiaaDoorF4
import Derived.Test.YtkgncijcnlfhiaaDoorW4
import Derived.Test.YtkgncijcnlfhiaaDoorH1
import Derived.Test.YtkgncijcnlfhiaaDoorG2
import Derived.Test.YtkgncijcnlfhiaaDoorRows
import Derived.Deep.Slices
import Derived.OpenShut
import Derived.ChangeSlices
namespace Go.Proofs.YtkgncijcnlfhiaaDoor
set_option linter.unusedVariables false
set_option linter.unusedSimpArgs false
open Go.RowKit
theorem RUnit.low {W w : World} {v : Value} {u : PUnit} (h : RUnit W v u) (g : Below W.heap.size W w) : RUnit w v u := by
  obtain ⟨v1, v2, v3, v4, v5, hv, h1, h2, h3, h4, h5⟩ := h
  exact ⟨v1, v2, v3, v4, v5, hv, h1.below g, h2.below g, h3.below g, h4.below g, h5.below g⟩
theorem RUnitP.to {P : Nat → Prop} {w : World} {v : Value} {u : PUnit} (h : RUnitP P w v u) : RUnit w v u := by
  obtain ⟨v1, v2, v3, v4, v5, hv, h1, h2, h3, h4, h5⟩ := h
  exact ⟨v1, v2, v3, v4, v5, hv, h1.to.to, h2.to.to, h3.to.to, h4.to.to, h5.to.to⟩
theorem Tab.low {w w' : World} {B : Nat} (h : Tab w) (hB : 0 < B) (g : Below B w w') : Tab w' := fun j hj => (g.cell (p := ⟨0, j, none⟩) hB).trans (h j hj)
def ptrV (ob : Nat) : Value := .pointer (some ⟨ob, 0, none⟩)
def deskArr (vo : Value) : Array Value := #[vo, zI, nS, nS, nS, nS, nS, nS, nS, nS, nS]
/-- one of the caller's, written over: all its blocks lie from lo on, below what was there then -/
structure Kept (db : Nat) (vo : Value) (hi : Nat) (w : World) (ob : Nat) : Prop where
  is : ∃ lo V S w1, OwnAt lo w1 ob true V S ∧ (∀ b, lo ≤ b → b < w1.heap.size → w.heap[b]? = w1.heap[b]?) ∧ w1.heap.size ≤ hi ∧ db < lo ∧ ∀ g, vo.ownBlock = some g → g < lo ∨ w1.heap.size ≤ g
/-- the desk, with an empty book; all below hi -/
structure DeskAt (hi : Nat) (w : World) (db : Nat) (vo : Value) (os : List Nat) : Prop where
  box : w.heap[db]? = some (.cells (deskArr vo) 39 (0, 0))
  own : w.ownsRow (db + 1) 48 1 vo os.length (os.map ptrV)
  dbl : db < hi
  ownl : ∀ g, vo.ownBlock = some g → g < hi
  kept : ∀ ob ∈ os, Kept db vo hi w ob
theorem DeskAt.below {hi : Nat} {w w' : World} {db : Nat} {vo : Value} {os : List Nat} (h : DeskAt hi w db vo os) (g : Below hi w w') : DeskAt hi w' db vo os := by
  refine ⟨(g.block db h.dbl).trans h.box, ownsRow_same h.own fun q hq => g.block q (h.ownl q hq), h.dbl, h.ownl, fun ob hob => ?_⟩
  obtain ⟨lo, V, S, w1, k1, k2, k3, k4, k5⟩ := (h.kept ob hob).is
  exact ⟨lo, V, S, w1, k1, fun b hb hl => (g.block b (by omega)).trans (k2 b hb hl), k3, k4, k5⟩
theorem DeskAt.mono {hi hi' : Nat} {w : World} {db : Nat} {vo : Value} {os : List Nat} (h : DeskAt hi w db vo os) (g : hi ≤ hi') : DeskAt hi' w db vo os :=
  ⟨h.box, h.own, Nat.lt_of_lt_of_le h.dbl g, fun q hq => Nat.lt_of_lt_of_le (h.ownl q hq) g, fun ob hob => by
    obtain ⟨lo, V, S, w1, k1, k2, k3, k4, k5⟩ := (h.kept ob hob).is
    exact ⟨lo, V, S, w1, k1, k2, Nat.le_trans k3 g, k4, k5⟩⟩
theorem DeskAt.not_db {hi : Nat} {w : World} {db : Nat} {vo : Value} {os : List Nat} (h : DeskAt hi w db vo os) : ¬ vo.ownBlock = some db := fun e => by have := (h.own.lt db e).1; omega
/-- one more -/
theorem DeskAt.push {lo : Nat} {w w1 : World} {db ob : Nat} {vo v' : Value} {os : List Nat} {V : Nat → Value} {S : Nat → List (Nat × Nat)} (h : DeskAt lo w db vo os) (ho : OwnAt lo w ob true V S) (hlo : lo ≤ w.heap.size)
    (ha : Ap (db + 1) 48 1 w vo w1 v' (os.length + 1) (os.map ptrV ++ [ptrV ob])) :
    DeskAt w1.heap.size (w1.setCell ⟨db, 0, none⟩ v') db v' (os ++ [ob]) ∧ Below db w (w1.setCell ⟨db, 0, none⟩ v') := by
  have hdbl := h.dbl
  have hs := ha.frm.size
  have hdb1 : w1.heap[db]? = w.heap[db]? := ha.frm.block db (by omega) (fun e => h.not_db e.symm)
  have hvdb : ¬ v'.ownBlock = some db := fun e => by have := (ha.own.lt db e).1; omega
  have hne : ∀ b, ¬ b = db → (w1.setCell ⟨db, 0, none⟩ v').heap[b]? = w1.heap[b]? := fun b hb => Below.heap_setCell _ _ _ _ hb
  refine ⟨⟨?_, ?_, by omega, fun q hq => (ha.own.lt q hq).2, fun o hmem => ?_⟩, ?_⟩
  · have := heap_set (o := 0) (v := v') (hdb1.trans h.box)
    exact this
  · have : w1.ownsRow (db + 1) 48 1 v' (os ++ [ob]).length ((os ++ [ob]).map ptrV) := by
      rw [List.length_append, List.map_append]; exact ha.own
    exact ownsRow_same this fun q hq => hne q (fun e => hvdb (e ▸ hq))
  · rcases List.mem_append.1 hmem with hm | hm
    · obtain ⟨lo', V', S', w', k1, k2, k3, k4, k5⟩ := (h.kept o hm).is
      refine ⟨lo', V', S', w', k1, fun b hb hl => ?_, by omega, k4, fun g hg => ?_⟩
      · refine (hne b (by omega)).trans ((ha.frm.block b (by omega) (fun e => ?_)).trans (k2 b hb hl))
        rcases k5 b e.symm with e | e <;> omega
      · rcases ha.lies g hg with e | e
        · exact k5 g e
        · right; omega
    · rw [List.mem_singleton.1 hm]
      refine ⟨lo, V, S, w, ho, fun b hb hl => ?_, by omega, hdbl, fun g hg => ?_⟩
      · refine (hne b (by omega)).trans (ha.frm.block b hl (fun e => ?_))
        have := h.ownl b e.symm; omega
      · rcases ha.lies g hg with e | e
        · exact .inl (h.ownl g e)
        · exact .inr e
  · have hb1 : Below db w w1 := (Below.refl _ _).grown ha.frm (by omega) (fun q hq => by have := (h.own.lt q hq).1; omega)
    exact hb1.setCell (p := ⟨db, 0, none⟩) (Nat.le_refl _) _
theorem Tryd.ownPtr : (Tryd.prog.info? 48).map (fun i => (i.zero, i.size, i.bytes)) = some (some (Value.pointer none), 1, 8) := by kernel_rfl
end Go.Proofs.YtkgncijcnlfhiaaDoor

namespace Go.Proofs.YtkgncijcnlfhiaaDoor
set_option linter.unusedVariables false
set_option linter.unusedSimpArgs false
open Go.RowKit
theorem num_any (e : Int) (w : World) : Calls Tryd.prog 17 #[.int .i64 e] w fun x w' => x = .returned (.int .i64 e) ∧ w' = w := by
  go_enter Tryd.func17, Tryd.ntmps17
  go_wp2
  go_ret
  exact ⟨rfl, rfl⟩
/-- an Own of nothing -/
theorem OwnAt.none_ {w : World} {ob lo : Nat} (hl : lo ≤ ob) (h : w.heap[ob]? = some (.cells #[nS, nS, nS, nS, nS, nS, nS, nS] 52 (0, 0))) : OwnAt lo w ob false (fun _ => nS) (fun _ => []) :=
  ⟨h, hl, fun f _ => World.ownsRow_nil _ _ _ _, fun _ _ r hr => (List.not_mem_nil hr).elim⟩
theorem heap_box5 {w : World} {b : Nat} {v1 v2 v3 v4 v5 : Value} {t : TypeId} (h : w.heap[b]? = some (.cells #[v1, v2, v3, v4, v5] t (0, 0))) : w.cell? ⟨b, 0, none⟩ = some v1 ∧ w.cell? ⟨b, 1, none⟩ = some v2 ∧ w.cell? ⟨b, 2, none⟩ = some v3 ∧ w.cell? ⟨b, 3, none⟩ = some v4 ∧ w.cell? ⟨b, 4, none⟩ = some v5 := by
  refine ⟨?_, ?_, ?_, ?_, ?_⟩ <;> rw [heap_cell h] <;> rfl
end Go.Proofs.YtkgncijcnlfhiaaDoor

namespace Go.Proofs.YtkgncijcnlfhiaaDoor
set_option linter.unusedVariables false
set_option linter.unusedSimpArgs false
open Go.RowKit
theorem DeskAt.new {w : World} {db : Nat} (h : w.heap[db]? = some (.cells (deskArr nS) 39 (0, 0))) : DeskAt w.heap.size w db nS [] :=
  ⟨h, World.ownsRow_nil _ _ _ _, block_lt h, fun g hg => by simp [nS, Value.ownBlock] at hg, fun _ h => (List.not_mem_nil h).elim⟩
def LawR (w : World) (x : Ending) (w' : World) : Prop := x = .returned (.bool true) ∧ Below w.heap.size w w'

end Go.Proofs.YtkgncijcnlfhiaaDoor

namespace Go.Proofs.YtkgncijcnlfhiaaDoor
set_option linter.unusedVariables false
set_option linter.unusedSimpArgs false
open Go.ChangeShapes Go.WideShapes Go.RowKit Go.Deep
theorem blk_one {H : Type} (d : DataW H) : 1 ≤ Rows.uptoBulk d := by
  cases d with
  | lit l => cases l <;> simp [Rows.uptoBulk]
  | nil => simp [Rows.uptoBulk]
  | ptr d => simp [Rows.uptoBulk]
  | slice a b => simp [Rows.uptoBulk]
  | agg a => simp [Rows.uptoBulk]
  | iface n d => simp [Rows.uptoBulk]
  | map a => simp [Rows.uptoBulk]
  | held h => simp [Rows.uptoBulk]
theorem blk_mem {H : Type} {d : DataW H} : ∀ {l : List (DataW H)}, d ∈ l → Rows.uptoBulk d ≤ Rows.uptoBulkAll l
  | a :: l, h => by
    simp only [Rows.uptoBulkAll]
    rcases List.mem_cons.1 h with e | e
    · subst e; omega
    · have := blk_mem e; omega
theorem blk_len {H : Type} : ∀ (l : List (DataW H)), l.length ≤ Rows.uptoBulkAll l
  | [] => by simp
  | a :: l => by have := blk_len l; have := blk_one a; simp only [List.length_cons, Rows.uptoBulkAll]; omega
theorem list2 {α : Type} {l : List α} (h : l.length = 2) : ∃ c0 c1, l = [c0, c1] := by
  match l, h with
  | [c0, c1], _ => exact ⟨c0, c1, rfl⟩
theorem list3 {α : Type} {l : List α} (h : l.length = 3) : ∃ c0 c1 c2, l = [c0, c1, c2] := by
  match l, h with
  | [c0, c1, c2], _ => exact ⟨c0, c1, c2, rfl⟩
theorem list4 {α : Type} {l : List α} (h : l.length = 4) : ∃ c0 c1 c2 c3, l = [c0, c1, c2, c3] := by
  match l, h with
  | [c0, c1, c2, c3], _ => exact ⟨c0, c1, c2, c3, rfl⟩
theorem list5 {α : Type} {l : List α} (h : l.length = 5) : ∃ c0 c1 c2 c3 c4, l = [c0, c1, c2, c3, c4] := by
  match l, h with
  | [c0, c1, c2, c3, c4], _ => exact ⟨c0, c1, c2, c3, c4, rfl⟩
section
variable {H : Type} {enc : TypeId × Value → H} {w : World} {spare : Nat → Bool} {held : Bool}
/-- a list of elements of c cells each, opened -/
theorem read_rows {t e : TypeId} {c : Nat} (ht : Tryd.prog.underlying t = some (.slice e)) (hc : Tryd.prog.cellsOf e = c) (hc0 : 0 < c) {α : Type} (El : List Value → α → Prop) (B : α → Nat → Prop) (hB : ∀ y n m, B y n → n ≤ m → B y m)
    (hel : ∀ fuel cs y, DataW.trod enc Tryd.prog w 0 spare held fuel e cs = some y → cs.length = c → ∃ x : α, El cs x ∧ B x (Rows.uptoBulk y.1)) {fuel : Nat} {cs : List Value} {x : DataW H × List MemPlace} (h : DataW.trod enc Tryd.prog w 0 spare held fuel t cs = some x) :
    ∃ (v : Value) (l : List α) (ao : Option Addr) (cap : Nat), cs = [v] ∧ v = .slice ao l.length cap ∧ l.length ≤ maxLen ∧ l.length ≤ Rows.uptoBulk x.1 ∧ (∀ y ∈ l, B y (Rows.uptoBulk x.1)) ∧
      ∀ (i : Nat) (y : α), l[i]? = some y → ∃ b off cs', ao = some ⟨b, off, none⟩ ∧ cs'.length = c ∧ (∀ j, j < c → w.cell? ⟨b, off + i * c + j, none⟩ = cs'[j]?) ∧ El cs' y := by
  rcases open_slice ht h with ⟨rfl, rfl⟩ | ⟨a, len, cap, m, n, D, Pl, rfl, hb, hl, hm, hmm, rfl, hx⟩
  · exact ⟨_, [], none, 0, rfl, rfl, Nat.zero_le _, by simp, by simp, fun i y hi => by simp at hi⟩
  · have hlm : len ≤ m := by rw [hmm]; split <;> omega
    have hbulk : ∀ i, i < len → Rows.uptoBulk (D i) ≤ Rows.uptoBulk (DataW.slice ((List.range len).map D) ((List.range (m - len)).map fun j => D (len + j))) := fun i hi => by
      have := blk_mem (d := D i) (l := (List.range len).map D) (List.mem_map.2 ⟨i, List.mem_range.2 hi, rfl⟩)
      simp only [Rows.uptoBulk]; omega
    have hlenb : len ≤ Rows.uptoBulk (DataW.slice ((List.range len).map D) ((List.range (m - len)).map fun j => D (len + j))) := by
      have := blk_len ((List.range len).map D)
      simp only [List.length_map, List.length_range] at this
      simp only [Rows.uptoBulk]; omega
    have hall : ∀ i : Fin len, ∃ y : α, (∃ cs', w.cells? 0 (a.add (i.1 * c)) c = some cs' ∧ El cs' y) ∧ B y (Rows.uptoBulk (D i.1)) := fun i => by
      obtain ⟨cs', h1, h2⟩ := hx i.1 (by have := i.2; omega)
      rw [hc] at h1
      obtain ⟨_, hlen, _⟩ := World.cells?_some h1
      obtain ⟨y, k1, k2⟩ := hel n cs' _ h2 hlen
      exact ⟨y, ⟨cs', h1, k1⟩, k2⟩
    obtain ⟨f, hf⟩ := Classical.axiomOfChoice hall
    refine ⟨_, List.ofFn f, some a, cap, rfl, by rw [List.length_ofFn], by rw [List.length_ofFn]; omega, by rw [List.length_ofFn]; exact hlenb, fun y hy => ?_, fun i y hi => ?_⟩
    · obtain ⟨i, rfl⟩ := (List.mem_ofFn).1 hy
      exact hB _ _ _ (hf i).2 (hbulk i.1 i.2)
    · have hil : i < len := by have := (List.getElem?_eq_some_iff.1 hi).1; rwa [List.length_ofFn] at this
      have hfy : f ⟨i, hil⟩ = y := by
        rw [List.getElem?_ofFn, dif_pos hil] at hi; exact Option.some.inj hi
      obtain ⟨⟨cs', h1, h2⟩, _⟩ := hf ⟨i, hil⟩
      rw [hfy] at h2
      obtain ⟨_, hlen, hcell⟩ := World.cells?_some h1
      obtain ⟨b, off, spot⟩ := a
      have hspot : spot = none := by
        obtain ⟨cs0, g1, _⟩ := hx 0 (by omega)
        rw [hc] at g1
        obtain ⟨_, glen, gcell⟩ := World.cells?_some g1
        have g2 := gcell 0 hc0
        have g3 : w.cell? (((⟨b, off, spot⟩ : Addr).add (0 * c)).add 0) = some (cs0[0]'(by omega)) := by rw [g2]; simp
        simpa [Addr.add] using World.cell?_spot g3
      subst hspot
      refine ⟨b, off, cs', rfl, hlen, fun j hj => ?_, h2⟩
      have := hcell j hj
      rw [add_add, add_plain] at this
      rw [show off + i * c + j = off + (i * c + j) by omega]; exact this

/-- a type's fields: their types and where they begin -/
def structOf (k : Option TypeDesc) : Option (Array (TypeId × Nat)) :=
  match k with
  | some (.struct fs) => some (fs.map fun f => (f.type, f.offset))
  | _ => none
theorem open_struct {t : TypeId} {ts : Array (TypeId × Nat)} (hu : structOf (Tryd.prog.underlying t) = some ts) {fuel : Nat} {cs : List Value} {x : DataW H × List MemPlace} (h : DataW.trod enc Tryd.prog w 0 spare held fuel t cs = some x) :
    ∃ (xs : List (DataW H × List MemPlace)) (n : Nat), x.1 = .agg (xs.map (·.1)) ∧ cs.length = Tryd.prog.cellsOf t ∧ xs.length = ts.size ∧ ∀ (i : Nat) (ty : TypeId) (o : Nat), ts[i]? = some (ty, o) → DataW.trod enc Tryd.prog w 0 spare held n ty ((cs.drop o).take (Tryd.prog.cellsOf ty)) = xs[i]? := by
  unfold structOf at hu
  split at hu
  · rename_i fs hk
    obtain ⟨xs, n, _, rfl, hl, hlen, hf⟩ := DataW.trod_struct hk h
    simp only [Option.some.injEq] at hu
    subst hu
    refine ⟨xs, n, rfl, hl, by simpa using hlen, fun i ty o hi => ?_⟩
    rw [Array.getElem?_map, Option.map_eq_some_iff] at hi
    obtain ⟨f, hf1, hf2⟩ := hi
    simp only [Prod.mk.injEq] at hf2
    have := hf i f hf1
    rw [hf2.1, hf2.2] at this
    exact this
  · cases hu
theorem blk_agg {H : Type} {xs : List (DataW H × List MemPlace)} {i : Nat} {y : DataW H × List MemPlace} (h : xs[i]? = some y) : Rows.uptoBulk y.1 ≤ Rows.uptoBulk (DataW.agg (xs.map (·.1))) := by
  have := blk_mem (d := y.1) (l := xs.map (·.1)) (List.mem_map.2 ⟨y, List.mem_of_getElem? h, rfl⟩)
  simp only [Rows.uptoBulk]; omega
theorem Tryd.uIns : structOf (Tryd.prog.underlying 91) = some #[(3, 0), (3, 1), (3, 2)] := by kernel_rfl
theorem Tryd.uFunc : structOf (Tryd.prog.underlying 76) = some #[(23, 0), (3, 1), (23, 2), (74, 3)] := by kernel_rfl
theorem Tryd.uImp : structOf (Tryd.prog.underlying 79) = some #[(9, 0), (23, 1), (3, 2)] := by kernel_rfl
theorem Tryd.uExp : structOf (Tryd.prog.underlying 81) = some #[(9, 0), (3, 1)] := by kernel_rfl
theorem Tryd.uUnit : structOf (Tryd.prog.underlying 28) = some #[(22, 0), (23, 1), (24, 2), (25, 3), (26, 4)] := by kernel_rfl
theorem Tryd.cInt : Tryd.prog.cellsOf 3 = 1 := by kernel_rfl
theorem Tryd.cStr : Tryd.prog.cellsOf 9 = 1 := by kernel_rfl
theorem Tryd.cInts : Tryd.prog.cellsOf 23 = 1 := by kernel_rfl
theorem Tryd.cCode : Tryd.prog.cellsOf 74 = 1 := by kernel_rfl
theorem Tryd.cIns : Tryd.prog.cellsOf 91 = 3 := by kernel_rfl
theorem Tryd.cFunc : Tryd.prog.cellsOf 76 = 4 := by kernel_rfl
theorem Tryd.cImp : Tryd.prog.cellsOf 79 = 3 := by kernel_rfl
theorem Tryd.cExp : Tryd.prog.cellsOf 81 = 2 := by kernel_rfl
theorem Tryd.cUnit : Tryd.prog.cellsOf 28 = 5 := by kernel_rfl
theorem Tryd.cShs : Tryd.prog.cellsOf 22 = 1 := by kernel_rfl
theorem Tryd.cFs : Tryd.prog.cellsOf 24 = 1 := by kernel_rfl
theorem Tryd.cIs : Tryd.prog.cellsOf 25 = 1 := by kernel_rfl
theorem Tryd.cEs : Tryd.prog.cellsOf 26 = 1 := by kernel_rfl
theorem fits_of {z : Int} (h : (Lit.int .i64 z).wf = true) : -9223372036854775808 ≤ z ∧ z ≤ 9223372036854775807 := by
  have := bounds_i64 h
  exact this
/-- a list of numbers -/
theorem read_ints {fuel : Nat} {cs : List Value} {x : DataW H × List MemPlace} (h : DataW.trod enc Tryd.prog w 0 spare held fuel 23 cs = some x) :
    ∃ v l, cs = [v] ∧ RInts w v l ∧ l.length ≤ Rows.uptoBulk x.1 ∧ ∀ z ∈ l, -9223372036854775808 ≤ z ∧ z ≤ 9223372036854775807 := by
  obtain ⟨v, l, ao, cap, rfl, hv, hm, hb, hq, hc⟩ := read_rows (enc := enc) (w := w) (spare := spare) (held := held) Tryd.underlying23 Tryd.cInt (by decide) (fun cs z => cs = [.int .i64 z]) (fun z _ => -9223372036854775808 ≤ z ∧ z ≤ 9223372036854775807) (fun _ _ _ h _ => h) (fun fuel cs y h _ => by
    obtain ⟨z, h1, _, h3⟩ := DataW.trod_int Tryd.underlying3 h
    exact ⟨z, h1, fits_of h3⟩) h
  refine ⟨v, l, rfl, ⟨ao, cap, hv, hm, fun i hi => ?_⟩, hb, hq⟩
  obtain ⟨b, off, cs', h1, _, h3, rfl⟩ := hc i l[i] (List.getElem?_eq_getElem hi)
  refine ⟨b, off, h1, ?_⟩
  have := h3 0 (by decide)
  rw [Nat.mul_one, Nat.add_zero] at this
  rw [this, List.getD_eq_getElem?_getD, List.getElem?_eq_getElem hi]; rfl
/-- instructions -/
theorem read_code {fuel : Nat} {cs : List Value} {x : DataW H × List MemPlace} (h : DataW.trod enc Tryd.prog w 0 spare held fuel 74 cs = some x) : ∃ v l, cs = [v] ∧ RCode w v l ∧ l.length ≤ Rows.uptoBulk x.1 := by
  obtain ⟨v, l, ao, cap, rfl, hv, hm, hb, _, hc⟩ := read_rows (enc := enc) (w := w) (spare := spare) (held := held) Tryd.underlying74 Tryd.cIns (by decide) (fun cs (i : PIns) => cs = [.int .i64 i.op, .int .i64 i.a, .int .i64 i.b]) (fun _ _ => True) (fun _ _ _ h _ => h) (fun fuel cs y h hl => by
    obtain ⟨xs, n, _, _, hxl, hf⟩ := open_struct Tryd.uIns h
    obtain ⟨c0, c1, c2, rfl⟩ := list3 hl
    obtain ⟨y0, y1, y2, rfl⟩ := list3 hxl
    have g0 := hf 0 3 0 rfl
    have g1 := hf 1 3 1 rfl
    have g2 := hf 2 3 2 rfl
    rw [Tryd.cInt] at g0 g1 g2
    obtain ⟨z0, k0, _, _⟩ := DataW.trod_int (x := y0) Tryd.underlying3 g0
    obtain ⟨z1, k1, _, _⟩ := DataW.trod_int (x := y1) Tryd.underlying3 g1
    obtain ⟨z2, k2, _, _⟩ := DataW.trod_int (x := y2) Tryd.underlying3 g2
    simp at k0 k1 k2
    exact ⟨⟨z0, z1, z2⟩, by rw [k0, k1, k2], trivial⟩) h
  refine ⟨v, l, rfl, ⟨ao, cap, hv, hm, fun i y hi => ?_⟩, hb⟩
  obtain ⟨b, off, cs', h1, _, h3, rfl⟩ := hc i y hi
  exact ⟨b, off, h1, h3 0 (by decide), h3 1 (by decide), h3 2 (by decide)⟩
/-- lists of numbers -/
theorem read_shapes {fuel : Nat} {cs : List Value} {x : DataW H × List MemPlace} (h : DataW.trod enc Tryd.prog w 0 spare held fuel 22 cs = some x) : ∃ v l, cs = [v] ∧ RShapes w v l ∧ l.length ≤ Rows.uptoBulk x.1 ∧ ∀ s ∈ l, s.length ≤ Rows.uptoBulk x.1 := by
  obtain ⟨v, l, ao, cap, rfl, hv, hm, hb, hq, hc⟩ := read_rows (enc := enc) (w := w) (spare := spare) (held := held) Tryd.underlying22 Tryd.cInts (by decide) (fun cs (s : List Int) => ∃ v, cs = [v] ∧ RInts w v s) (fun s n => s.length ≤ n) (fun _ _ _ h h' => Nat.le_trans h h') (fun fuel cs y h hl => by
    obtain ⟨v, l, h1, h2, h3, _⟩ := read_ints h
    exact ⟨l, ⟨v, h1, h2⟩, h3⟩) h
  refine ⟨v, l, rfl, ⟨ao, cap, hv, hm, fun i y hi => ?_⟩, hb, hq⟩
  obtain ⟨b, off, cs', h1, _, h3, vx, rfl, h4⟩ := hc i y hi
  refine ⟨b, off, vx, h1, ?_, h4⟩
  have := h3 0 (by decide)
  rw [Nat.mul_one, Nat.add_zero] at this
  exact this
/-- functions -/
theorem read_funcs {fuel : Nat} {cs : List Value} {x : DataW H × List MemPlace} (h : DataW.trod enc Tryd.prog w 0 spare held fuel 24 cs = some x) : ∃ v l, cs = [v] ∧ RFuncs w v l ∧ l.length ≤ Rows.uptoBulk x.1 ∧ ∀ f ∈ l, f.params.length ≤ Rows.uptoBulk x.1 ∧ f.locals.length ≤ Rows.uptoBulk x.1 ∧ f.code.length ≤ Rows.uptoBulk x.1 := by
  obtain ⟨v, l, ao, cap, rfl, hv, hm, hb, hq, hc⟩ := read_rows (enc := enc) (w := w) (spare := spare) (held := held) Tryd.underlying24 Tryd.cFunc (by decide) (fun cs (f : PFunc) => ∃ vp vl vc, cs = [vp, .int .i64 f.result, vl, vc] ∧ RInts w vp f.params ∧ RInts w vl f.locals ∧ RCode w vc f.code) (fun f n => f.params.length ≤ n ∧ f.locals.length ≤ n ∧ f.code.length ≤ n) (fun _ _ _ h h' => ⟨Nat.le_trans h.1 h', Nat.le_trans h.2.1 h', Nat.le_trans h.2.2 h'⟩) (fun fuel cs y h hl => by
    obtain ⟨xs, n, hy, _, hxl, hf⟩ := open_struct Tryd.uFunc h
    obtain ⟨c0, c1, c2, c3, rfl⟩ := list4 hl
    obtain ⟨y0, y1, y2, y3, rfl⟩ := list4 hxl
    have g0 := hf 0 23 0 rfl
    have g1 := hf 1 3 1 rfl
    have g2 := hf 2 23 2 rfl
    have g3 := hf 3 74 3 rfl
    rw [Tryd.cInts] at g0 g2
    rw [Tryd.cInt] at g1
    rw [Tryd.cCode] at g3
    obtain ⟨vp, ps, k0, k1, k2, _⟩ := read_ints (x := y0) g0
    obtain ⟨z1, k3, _, _⟩ := DataW.trod_int (x := y1) Tryd.underlying3 g1
    obtain ⟨vl, ls, k4, k5, k6, _⟩ := read_ints (x := y2) g2
    obtain ⟨vc, is, k7, k8, k9⟩ := read_code (x := y3) g3
    simp at k0 k3 k4 k7
    rw [hy]
    have b0 := blk_agg (xs := [y0, y1, y2, y3]) (i := 0) (y := y0) rfl
    have b2 := blk_agg (xs := [y0, y1, y2, y3]) (i := 2) (y := y2) rfl
    have b3 := blk_agg (xs := [y0, y1, y2, y3]) (i := 3) (y := y3) rfl
    exact ⟨⟨ps, z1, ls, is⟩, ⟨vp, vl, vc, by rw [k0, k3, k4, k7], k1, k5, k8⟩, Nat.le_trans k2 b0, Nat.le_trans k6 b2, Nat.le_trans k9 b3⟩) h
  refine ⟨v, l, rfl, ⟨ao, cap, hv, hm, fun i y hi => ?_⟩, hb, hq⟩
  obtain ⟨b, off, cs', h1, _, h3, vp, vl, vc, rfl, h4, h5, h6⟩ := hc i y hi
  exact ⟨b, off, vp, vl, vc, h1, h3 0 (by decide), h3 1 (by decide), h3 2 (by decide), h3 3 (by decide), h4, h5, h6⟩
theorem read_imports {fuel : Nat} {cs : List Value} {x : DataW H × List MemPlace} (h : DataW.trod enc Tryd.prog w 0 spare held fuel 25 cs = some x) : ∃ v l, cs = [v] ∧ RImports w v l ∧ l.length ≤ Rows.uptoBulk x.1 ∧ ∀ i ∈ l, i.params.length ≤ Rows.uptoBulk x.1 := by
  obtain ⟨v, l, ao, cap, rfl, hv, hm, hb, hq, hc⟩ := read_rows (enc := enc) (w := w) (spare := spare) (held := held) Tryd.underlying25 Tryd.cImp (by decide) (fun cs (i : PImp) => ∃ vs vp, cs = [vs, vp, .int .i64 i.result] ∧ RText vs i.name ∧ RInts w vp i.params) (fun i n => i.params.length ≤ n) (fun _ _ _ h h' => Nat.le_trans h h') (fun fuel cs y h hl => by
    obtain ⟨xs, n, hy, _, hxl, hf⟩ := open_struct Tryd.uImp h
    obtain ⟨c0, c1, c2, rfl⟩ := list3 hl
    obtain ⟨y0, y1, y2, rfl⟩ := list3 hxl
    have g0 := hf 0 9 0 rfl
    have g1 := hf 1 23 1 rfl
    have g2 := hf 2 3 2 rfl
    rw [Tryd.cStr] at g0
    rw [Tryd.cInts] at g1
    rw [Tryd.cInt] at g2
    obtain ⟨s, k0, _, k1⟩ := DataW.trod_string (x := y0) Tryd.underlying9 g0
    obtain ⟨vp, ps, k2, k3, k4, _⟩ := read_ints (x := y1) g1
    obtain ⟨z, k5, _, _⟩ := DataW.trod_int (x := y2) Tryd.underlying3 g2
    simp at k0 k2 k5
    rw [hy]
    have b1 := blk_agg (xs := [y0, y1, y2]) (i := 1) (y := y1) rfl
    exact ⟨⟨s.data.toList, ps, z⟩, ⟨.string s, vp, by rw [k0, k2, k5], ⟨s, rfl, rfl, k1⟩, k3⟩, Nat.le_trans k4 b1⟩) h
  refine ⟨v, l, rfl, ⟨ao, cap, hv, hm, fun i y hi => ?_⟩, hb, hq⟩
  obtain ⟨b, off, cs', h1, _, h3, vs, vp, rfl, h4, h5⟩ := hc i y hi
  exact ⟨b, off, vs, vp, h1, h3 0 (by decide), h3 1 (by decide), h3 2 (by decide), h4, h5⟩
theorem read_exports {fuel : Nat} {cs : List Value} {x : DataW H × List MemPlace} (h : DataW.trod enc Tryd.prog w 0 spare held fuel 26 cs = some x) : ∃ v l, cs = [v] ∧ RExports w v l ∧ l.length ≤ Rows.uptoBulk x.1 := by
  obtain ⟨v, l, ao, cap, rfl, hv, hm, hb, _, hc⟩ := read_rows (enc := enc) (w := w) (spare := spare) (held := held) Tryd.underlying26 Tryd.cExp (by decide) (fun cs (i : PExp) => ∃ vs, cs = [vs, .int .i64 i.func] ∧ RText vs i.name) (fun _ _ => True) (fun _ _ _ h _ => h) (fun fuel cs y h hl => by
    obtain ⟨xs, n, hy, _, hxl, hf⟩ := open_struct Tryd.uExp h
    obtain ⟨c0, c1, rfl⟩ := list2 hl
    obtain ⟨y0, y1, rfl⟩ := list2 hxl
    have g0 := hf 0 9 0 rfl
    have g1 := hf 1 3 1 rfl
    rw [Tryd.cStr] at g0
    rw [Tryd.cInt] at g1
    obtain ⟨s, k0, _, k1⟩ := DataW.trod_string (x := y0) Tryd.underlying9 g0
    obtain ⟨z, k5, _, _⟩ := DataW.trod_int (x := y1) Tryd.underlying3 g1
    simp at k0 k5
    exact ⟨⟨s.data.toList, z⟩, ⟨.string s, by rw [k0, k5], ⟨s, rfl, rfl, k1⟩⟩, trivial⟩) h
  refine ⟨v, l, rfl, ⟨ao, cap, hv, hm, fun i y hi => ?_⟩, hb⟩
  obtain ⟨b, off, cs', h1, _, h3, vs, rfl, h4⟩ := hc i y hi
  exact ⟨b, off, vs, h1, h3 0 (by decide), h3 1 (by decide), h4⟩
end
end Go.Proofs.YtkgncijcnlfhiaaDoor

