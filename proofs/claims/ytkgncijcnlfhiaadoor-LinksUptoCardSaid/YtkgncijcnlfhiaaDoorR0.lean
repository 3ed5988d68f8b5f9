import Derived.Test.YtkgncijcnlfhiaaDoorChecked
import Derived.WalkKit
import Derived.WalkSmall
import Derived.Deep.LoopGhost
import Derived.Deep.QuietTactic
import Derived.BigQuiet
import Derived.Deep.RegionHeld3
import Derived.Deep.RegionWith
import Derived.Deep.DrawnRows
namespace Go.Proofs.YtkgncijcnlfhiaaDoor
set_option linter.unusedVariables false
set_option linter.unusedSimpArgs false
structure PIns where
  op : Int
  a : Int
  b : Int
structure PFunc where
  params : List Int
  result : Int
  locals : List Int
  code : List PIns
structure PImp where
  name : List UInt8
  params : List Int
  result : Int
structure PExp where
  name : List UInt8
  func : Int
structure PUnit where
  shapes : List (List Int)
  consts : List Int
  funcs : List PFunc
  imports : List PImp
  exports : List PExp

def wB (v l m : Int) : Bool := decide (l ≤ v ∧ v ≤ m)
def inB (n k : Int) : Bool := wB k 0 n
def operandsN (op : Int) : Int :=
  if op = 16 ∨ op = 17 then 2
  else if op = 0 ∨ op = 1 ∨ op = 2 ∨ op = 3 ∨ op = 11 ∨ op = 12 ∨ op = 13 ∨ op = 15 ∨ op = 18 ∨ op = 19 then 1 else 0
def operandOk (v : Int) (named : Bool) : Bool := if named then wB v 0 65535 else decide (v = 0)
def insOk (i : PIns) : Bool :=
  wB i.op 0 20 && ((if i.op = 1 then wB i.a (-2147483648) 2147483647 else operandOk i.a (decide (1 ≤ operandsN i.op))) && operandOk i.b (decide (2 ≤ operandsN i.op)))
def codeOk (l : List PIns) : Bool := wB l.length 1 200 && l.all insOk
def sigOk (ps : List Int) (r n : Int) : Bool := wB ps.length 0 6 && (ps.all (inB n) && inB n r)
def funcOk (n : Int) (f : PFunc) : Bool := sigOk f.params f.result n && (wB f.locals.length 0 10 && (f.locals.all (inB n) && codeOk f.code))
def funcsOk (l : List PFunc) (n : Int) : Bool := wB l.length 0 30 && l.all (funcOk n)
def nameOk (s : List UInt8) : Bool := wB s.length 1 20
def impOk (n : Int) (i : PImp) : Bool := nameOk i.name && sigOk i.params i.result n
def importsOk (l : List PImp) (n : Int) : Bool := wB l.length 0 20 && l.all (impOk n)
def expOk (m : Int) (e : PExp) : Bool := nameOk e.name && wB e.func 0 (m - 1)
def exportsOk (l : List PExp) (m : Int) : Bool := wB l.length 0 20 && l.all (expOk m)
def shapeOk (n : Int) (f : List Int) : Bool := wB f.length 1 8 && f.all (inB n)
def shapesOk (l : List (List Int)) : Bool := wB l.length 0 20 && l.all (shapeOk l.length)
def constsOk (l : List Int) : Bool := wB l.length 0 50
def unitOk (u : PUnit) : Bool :=
  shapesOk u.shapes && (constsOk u.consts && (funcsOk u.funcs u.shapes.length && (importsOk u.imports u.shapes.length && exportsOk u.exports u.funcs.length)))

theorem all_take_succ {α : Type} {p : α → Bool} {l : List α} {k : Nat} {x : α} (h : l[k]? = some x) :
    (l.take (k + 1)).all p = ((l.take k).all p && p x) := by
  obtain ⟨hk, rfl⟩ := List.getElem?_eq_some_iff.1 h
  rw [List.take_succ_eq_append_getElem hk, List.all_append]; simp
theorem all_false_at {α : Type} {p : α → Bool} {l : List α} {k : Nat} {x : α} (h : l[k]? = some x) (hp : p x = false) : l.all p = false := by
  obtain ⟨hk, rfl⟩ := List.getElem?_eq_some_iff.1 h
  rw [Bool.eq_false_iff]; intro hc
  rw [List.all_eq_true] at hc
  have := hc l[k] (List.getElem_mem hk)
  rw [hp] at this; cases this
theorem all_end {α : Type} {p : α → Bool} {l : List α} {k : Nat} (h : (l.take k).all p = true) (hk : ¬ k < l.length) : l.all p = true := by
  rwa [List.take_of_length_le (by omega)] at h
end Go.Proofs.YtkgncijcnlfhiaaDoor

namespace Go.Proofs.YtkgncijcnlfhiaaDoor
set_option linter.unusedVariables false
set_option linter.unusedSimpArgs false
open Go.RowKit
attribute [local go_sem ↓] Go.wp_at_zero Go.wp_at_succ

theorem left_region {G : Prop} (h : wpAny Tryd.prog .any #[] (fun _ _ _ => G) 0 #[] ⟨#[], []⟩ default) : G := h.2
theorem hide {p : Prop} (h : p) : Hid p := h
/-- the refusal, as a value; as what was thrown -/
def refV (e a : Int) : Value := .agg #[.int .i64 e, .int .i64 0, .int .i64 a]
def thrown (e a : Int) : List PanicEntry := [{ v := .iface 83 (refV e a), recovered := false }]
/-- new blocks alone -/
abbrev Gr (w w' : World) : Prop := w.grownBy w' none

theorem Gr.refl (w : World) : Gr w w := World.grownBy.refl w none
theorem Gr.trans {a b c : World} (h : Gr a b) (k : Gr b c) : Gr a c :=
  ⟨k.os.trans h.os, k.tape.trans h.tape, k.output.trans h.output, Nat.le_trans h.size k.size,
    fun i hi _ => (k.block i (Nat.lt_of_lt_of_le hi h.size) (by simp)).trans (h.block i hi (by simp))⟩
theorem Gr.alloc {a b : World} (h : Gr a b) (o : Obj) : Gr a (b.alloc o) := h.trans (World.grownBy_alloc b o none)
theorem Gr.drew {a b : World} (h : Gr a b) : Gr a b.drew := ⟨h.os, h.tape, h.output, h.size, h.block⟩

theorem unless_yes (e a : Int) (w : World) :
    Calls Tryd.prog 76 #[.agg #[.int .i64 e, .int .i64 0, .int .i64 a], .bool true] w fun x w' =>
      x = .returned (.tuple #[]) ∧ Gr w w' := by
  have hnot : ∀ (x : Bool) (w : World), (Op.unary .not (.bool x)).run Tryd.prog w = .ok (.bool (!x)) w := fun _ _ => rfl
  go_enter Tryd.func76, Tryd.ntmps76
  go_wp2
  go_end0
  exact ⟨rfl, (Gr.refl _).alloc _⟩

theorem unless_no (e a : Int) (w : World) :
    Calls Tryd.prog 76 #[.agg #[.int .i64 e, .int .i64 0, .int .i64 a], .bool false] w fun x w' =>
      x = .panicked (thrown e a) ∧ Gr w w' := by
  have hnot : ∀ (x : Bool) (w : World), (Op.unary .not (.bool x)).run Tryd.prog w = .ok (.bool (!x)) w := fun _ _ => rfl
  go_enter Tryd.func76, Tryd.ntmps76
  go_wp2
  exact ⟨rfl, rfl, (Gr.refl _).alloc _⟩

theorem within_any (v l m : Int) (w : World) :
    Calls Tryd.prog 131 #[.int .i64 v, .int .i64 l, .int .i64 m] w fun x w' =>
      x = .returned (.bool (wB v l m)) ∧ w' = w := by
  by_cases h : l ≤ v
  · have hd : decide (l ≤ v) = true := by simpa using h
    go_enter Tryd.func131, Tryd.ntmps131
    go_wp2
    go_ret
    exact ⟨by simp [wB, h], rfl⟩
  · have hd : decide (l ≤ v) = false := by simpa using h
    go_enter Tryd.func131, Tryd.ntmps131
    go_wp2
    go_ret
    exact ⟨by simp [wB]; omega, rfl⟩

/-- how a look ends: it comes back, or throws -/
def ends (b : Bool) (e a : Int) : Ending := if b then .returned (.tuple #[]) else .panicked (thrown e a)
theorem ends_t (e a : Int) : ends true e a = .returned (.tuple #[]) := rfl
theorem ends_f (e a : Int) : ends false e a = .panicked (thrown e a) := rfl

/-- a list of numbers, read -/
def RInts (w : World) (v : Value) (l : List Int) : Prop :=
  ∃ ao cap, v = .slice ao l.length cap ∧ l.length ≤ maxLen ∧ ∀ i, i < l.length → ∃ b off, ao = some ⟨b, off, none⟩ ∧ w.cell? ⟨b, off + i, none⟩ = some (.int .i64 (l.getD i 0))

theorem RInts.gr {w w' : World} {v : Value} {l : List Int} (h : RInts w v l) (g : Gr w w') : RInts w' v l := by
  obtain ⟨ao, cap, hv, hm, hc⟩ := h
  refine ⟨ao, cap, hv, hm, fun i hi => ?_⟩
  obtain ⟨b, off, h1, h2⟩ := hc i hi
  exact ⟨b, off, h1, g.cell h2 (by simp)⟩

theorem kindsOk_succ {n : Int} {l : List Int} {k : Nat} (hk : k < l.length) :
    (l.take (k + 1)).all (inB n) = ((l.take k).all (inB n) && inB n (l.getD k 0)) := by
  rw [List.take_succ_eq_append_getElem hk, List.all_append]; simp [List.getD_eq_getElem?_getD, hk]

theorem all_false_of {l : List Int} {p : Int → Bool} {k : Nat} {x : Bool} (h : (l.take (k + 1)).all p = x) (hx : x = false) : Hid (l.all p = false) := by
  have e : l.all p = ((l.take (k + 1)).all p && (l.drop (k + 1)).all p) := by rw [← List.all_append, List.take_append_drop]
  exact hide (by rw [e, h, hx]; rfl)

set_option maxHeartbeats 1000000 in
theorem kinds_any (l : List Int) (v : Value) (n e a : Int) (w : World) (hl : RInts w v l) :
    Calls Tryd.prog 132 #[v, .int .i64 n, .agg #[.int .i64 e, .int .i64 0, .int .i64 a]] w fun x w' =>
      x = ends (l.all (inB n)) e a ∧ Gr w w' := by
  obtain ⟨ao, cap, rfl, hm, hc⟩ := hl
  unfold maxLen at hm
  go_enter Tryd.func132, Tryd.ntmps132
  go_wp2
  go_loopw [10] (fun i wr => ∃ k : Nat, k ≤ l.length ∧ i = .int .i64 k ∧ (l.take k).all (inB n) = true ∧ wr.cell? ⟨w.heap.size, 0, none⟩ = some (.int .i64 e) ∧ wr.cell? ⟨w.heap.size, 1, none⟩ = some (.int .i64 0) ∧ wr.cell? ⟨w.heap.size, 2, none⟩ = some (.int .i64 a) ∧ Gr w wr) (fun i _ => l.length - (intOf i).toNat)
  case atStart => exact ⟨0, Nat.zero_le _, rfl, by simp, by simp [go_sem], by simp [go_sem], by simp [go_sem], (Gr.refl _).alloc _⟩
  case round =>
    obtain ⟨k, hk, rfl, hall, he, hn, ha, hg⟩ := hrel
    by_cases hlt : k < l.length
    · obtain ⟨b, off, hao, hcell⟩ := hc k hlt
      subst hao
      have HS := hide (kindsOk_succ (n := n) hlt)
      have hcell' := hg.cell hcell (by simp)
      generalize l.getD k 0 = x at hcell' HS
      clear hcell hc
      cases hb : wB x 0 n
      · have HF : Hid (l.all (inB n) = false) := all_false_of (k := k) HS.out (by rw [hall]; simp [inB, hb])
        go_wp2
        go_region_with (first | (go_at_call 131; refine (within_any _ _ _ _).mono ?_; rintro e w' ⟨rfl, rfl⟩) | (go_at_call 76; refine (unless_no _ _ _).mono ?_; rintro e w' ⟨rfl, hg'⟩; refine left_region ?_))
        all_goals exact ⟨rfl, by rw [HF.out]; rfl, hg.drew.trans hg'⟩
      · have HT : Hid ((l.take (k + 1)).all (inB n) = true) := by rw [HS.out, hall]; simp [inB, hb, hide]
        go_wp2
        go_region_held3 (fun w' => w'.cell? ⟨w.heap.size, 0, none⟩ = some (.int .i64 e) ∧ w'.cell? ⟨w.heap.size, 1, none⟩ = some (.int .i64 0) ∧ w'.cell? ⟨w.heap.size, 2, none⟩ = some (.int .i64 a)) (first | go_keep | exact ⟨hg'.cell (by assumption) (by simp), hg'.cell (by assumption) (by simp), hg'.cell (by assumption) (by simp)⟩) (first | (go_at_call 131; refine (within_any _ _ _ _).mono ?_; rintro e w' ⟨rfl, rfl⟩) | (go_at_call 76; refine (unless_yes _ _ _).mono ?_; rintro e w' ⟨rfl, hg'⟩))
        all_goals go_wp2
        all_goals go_roundw
        case rel => exact ⟨k + 1, by omega, by go_num, HT.out, hg'.cell he (by simp), hg'.cell hn (by simp), hg'.cell ha (by simp), hg.drew.trans hg'⟩
        case measure => simp [intOf]; omega
    · go_wp2
      go_end0
      have e1 : l.take k = l := List.take_of_length_le (by omega)
      rw [e1] at hall
      exact ⟨by rw [hall]; rfl, hg⟩
end Go.Proofs.YtkgncijcnlfhiaaDoor

namespace Go.Proofs.YtkgncijcnlfhiaaDoor
set_option linter.unusedVariables false
set_option linter.unusedSimpArgs false
open Go.RowKit
attribute [local go_sem ↓] Go.wp_at_zero Go.wp_at_succ

theorem op_any (v : Int) (w : World) :
    Calls Tryd.prog 156 #[.int .i64 v] w fun x w' => x = .returned (.bool (wB v 0 20)) ∧ w' = w := by
  go_enter Tryd.func156, Tryd.ntmps156
  go_wp2_with (go_at_call 131; refine (within_any _ _ _ _).mono ?_; rintro e w' ⟨rfl, rfl⟩)
  go_ret
  exact ⟨rfl, rfl⟩

set_option maxHeartbeats 2000000 in
theorem operands_any (v : Int) (w : World) :
    Calls Tryd.prog 153 #[.int .i64 v] w fun x w' => x = .returned (.int .i64 (operandsN v)) ∧ w' = w := by
  go_enter Tryd.func153, Tryd.ntmps153
  go_wp2
  all_goals go_ret
  all_goals (refine ⟨?_, rfl⟩; simp_all [operandsN])

theorem cells_box (w : World) (e a : Int) : (w.alloc (.cells #[.int .i64 e, .int .i64 0, .int .i64 a] 83)).cell? ⟨w.heap.size, 0, none⟩ = some (.int .i64 e) ∧ (w.alloc (.cells #[.int .i64 e, .int .i64 0, .int .i64 a] 83)).cell? ⟨w.heap.size, 1, none⟩ = some (.int .i64 0) ∧ (w.alloc (.cells #[.int .i64 e, .int .i64 0, .int .i64 a] 83)).cell? ⟨w.heap.size, 2, none⟩ = some (.int .i64 a) := by
  refine ⟨?_, ?_, ?_⟩ <;> simp [go_sem]

theorem name_any (s : ByteArray) (e a : Int) (w : World) (hs : s.size ≤ maxLen) :
    Calls Tryd.prog 141 #[.string s, .agg #[.int .i64 e, .int .i64 0, .int .i64 a]] w fun x w' =>
      x = ends (nameOk s.data.toList) e a ∧ Gr w w' := by
  unfold maxLen at hs
  have HN : nameOk s.data.toList = wB s.size 1 20 := by unfold nameOk; rw [Array.length_toList]; rfl
  rw [HN]
  cases hb : wB s.size 1 20
  · go_enter Tryd.func141, Tryd.ntmps141
    go_wp2
    go_region_with (first | (go_at_call 131; refine (within_any _ _ _ _).mono ?_; rintro e w' ⟨rfl, rfl⟩) | (go_at_call 76; refine (unless_no _ _ _).mono ?_; rintro e w' ⟨rfl, hg'⟩; refine left_region ?_))
    all_goals exact ⟨rfl, rfl, ((Gr.refl _).alloc _).drew.trans hg'⟩
  · go_enter Tryd.func141, Tryd.ntmps141
    go_wp2
    go_region_with (first | (go_at_call 131; refine (within_any _ _ _ _).mono ?_; rintro e w' ⟨rfl, rfl⟩) | (go_at_call 76; refine (unless_yes _ _ _).mono ?_; rintro e w' ⟨rfl, hg'⟩))
    all_goals go_wp2
    all_goals go_end0
    all_goals exact ⟨rfl, ((Gr.refl _).alloc _).drew.trans hg'⟩

theorem consts_any (v : Value) (l : List Int) (e a : Int) (w : World) (hv : ∃ ao cap, v = .slice ao l.length cap) (hs : l.length ≤ maxLen) :
    Calls Tryd.prog 83 #[v, .agg #[.int .i64 e, .int .i64 0, .int .i64 a]] w fun x w' =>
      x = ends (constsOk l) e a ∧ Gr w w' := by
  obtain ⟨ao, cap, rfl⟩ := hv
  unfold maxLen at hs
  have HN : constsOk l = wB l.length 0 50 := rfl
  rw [HN]
  cases hb : wB l.length 0 50
  · go_enter Tryd.func83, Tryd.ntmps83
    go_wp2
    go_region_with (first | (go_at_call 131; refine (within_any _ _ _ _).mono ?_; rintro e w' ⟨rfl, rfl⟩) | (go_at_call 76; refine (unless_no _ _ _).mono ?_; rintro e w' ⟨rfl, hg'⟩; refine left_region ?_))
    all_goals exact ⟨rfl, rfl, ((Gr.refl _).alloc _).drew.trans hg'⟩
  · go_enter Tryd.func83, Tryd.ntmps83
    go_wp2
    go_region_with (first | (go_at_call 131; refine (within_any _ _ _ _).mono ?_; rintro e w' ⟨rfl, rfl⟩) | (go_at_call 76; refine (unless_yes _ _ _).mono ?_; rintro e w' ⟨rfl, hg'⟩))
    all_goals go_wp2
    all_goals go_end0
    all_goals exact ⟨rfl, ((Gr.refl _).alloc _).drew.trans hg'⟩

theorem operand_any (v : Int) (n : Bool) (e a : Int) (w : World) :
    Calls Tryd.prog 157 #[.int .i64 v, .bool n, .agg #[.int .i64 e, .int .i64 0, .int .i64 a]] w fun x w' =>
      x = ends (operandOk v n) e a ∧ Gr w w' := by
  cases n
  · by_cases hz : v = 0
    · subst hz
      go_enter Tryd.func157, Tryd.ntmps157
      go_wp2_with (first | (go_at_call 76; refine (unless_yes _ _ _).mono ?_; rintro e w' ⟨rfl, hg'⟩))
      go_end0
      exact ⟨rfl, ((Gr.refl _).alloc _).trans hg'⟩
    · have hz' : (v == 0) = false := by simpa using hz
      have HF : Hid (operandOk v false = false) := hide (by simp [operandOk, hz])
      go_enter Tryd.func157, Tryd.ntmps157
      go_wp2_with (first | (go_at_call 76; refine (unless_no _ _ _).mono ?_; rintro e w' ⟨rfl, hg'⟩))
      exact ⟨rfl, by rw [HF.out]; rfl, ((Gr.refl _).alloc _).trans hg'⟩
  · cases hb : wB v 0 65535
    · go_enter Tryd.func157, Tryd.ntmps157
      go_wp2
      go_region_with (first | (go_at_call 131; refine (within_any _ _ _ _).mono ?_; rintro e w' ⟨rfl, rfl⟩) | (go_at_call 76; refine (unless_no _ _ _).mono ?_; rintro e w' ⟨rfl, hg'⟩; refine left_region ?_))
      all_goals exact ⟨rfl, by simp [operandOk, hb]; rfl, ((Gr.refl _).alloc _).drew.trans hg'⟩
    · go_enter Tryd.func157, Tryd.ntmps157
      go_wp2
      go_region_with (first | (go_at_call 131; refine (within_any _ _ _ _).mono ?_; rintro e w' ⟨rfl, rfl⟩) | (go_at_call 76; refine (unless_yes _ _ _).mono ?_; rintro e w' ⟨rfl, hg'⟩))
      all_goals go_wp2
      all_goals go_end0
      all_goals exact ⟨by simp [operandOk, hb]; rfl, ((Gr.refl _).alloc _).drew.trans hg'⟩
end Go.Proofs.YtkgncijcnlfhiaaDoor

namespace Go.Proofs.YtkgncijcnlfhiaaDoor
set_option linter.unusedVariables false
set_option linter.unusedSimpArgs false
open Go.RowKit
attribute [local go_sem ↓] Go.wp_at_zero Go.wp_at_succ

theorem yes_of {f : FuncId} {args : Array Value} {w : World} {b : Bool} {e a : Int} (h : Calls Tryd.prog f args w fun x w' => x = ends b e a ∧ Gr w w') (hb : b = true) :
    Calls Tryd.prog f args w fun x w' => x = .returned (.tuple #[]) ∧ Gr w w' := by subst hb; exact h
theorem no_of {f : FuncId} {args : Array Value} {w : World} {b : Bool} {e a : Int} (h : Calls Tryd.prog f args w fun x w' => x = ends b e a ∧ Gr w w') (hb : b = false) :
    Calls Tryd.prog f args w fun x w' => x = .panicked (thrown e a) ∧ Gr w w' := by subst hb; exact h
theorem RInts.shape {w : World} {v : Value} {l : List Int} (h : RInts w v l) : ∃ ao cap, v = .slice ao l.length cap := by
  obtain ⟨ao, cap, hv, _⟩ := h; exact ⟨ao, cap, hv⟩

set_option maxHeartbeats 1000000 in
theorem signature_any (l : List Int) (v : Value) (r n e a : Int) (w : World) (hR : RInts w v l) :
    Calls Tryd.prog 137 #[v, .int .i64 r, .int .i64 n, .agg #[.int .i64 e, .int .i64 0, .int .i64 a]] w fun x w' =>
      x = ends (sigOk l r n) e a ∧ Gr w w' := by
  have hm := hR.choose_spec.choose_spec.2.1
  obtain ⟨ao, cap, rfl⟩ := hR.shape
  unfold maxLen at hm
  have HR := hide hR
  clear hR
  obtain ⟨he, hn, ha⟩ := cells_box w e a
  unfold sigOk
  cases hb : wB l.length 0 6
  · go_enter Tryd.func137, Tryd.ntmps137
    go_wp2
    go_region_with (first | (go_at_call 131; refine (within_any _ _ _ _).mono ?_; rintro e w' ⟨rfl, rfl⟩) | (go_at_call 76; refine (unless_no _ _ _).mono ?_; rintro e w' ⟨rfl, hg'⟩; refine left_region ?_))
    all_goals exact ⟨rfl, rfl, (by repeat (first | exact Gr.refl _ | assumption | refine Gr.drew ?_ | refine Gr.alloc ?_ _ | refine Gr.trans ?_ (by assumption)))⟩
  · cases hk : l.all (inB n)
    · have HK := hide hk
      clear hk
      go_enter Tryd.func137, Tryd.ntmps137
      go_wp2
      go_region_held3 (fun w' => w'.cell? ⟨w.heap.size, 0, none⟩ = some (.int .i64 e) ∧ w'.cell? ⟨w.heap.size, 1, none⟩ = some (.int .i64 0) ∧ w'.cell? ⟨w.heap.size, 2, none⟩ = some (.int .i64 a)) (first | go_keep | exact ⟨hg'.cell (by assumption) (by simp), hg'.cell (by assumption) (by simp), hg'.cell (by assumption) (by simp)⟩) (first | (go_at_call 131; refine (within_any _ _ _ _).mono ?_; rintro e w' ⟨rfl, rfl⟩) | (go_at_call 76; refine (unless_yes _ _ _).mono ?_; rintro e w' ⟨rfl, hg'⟩))
      have he1 := hg'.cell he (by simp)
      have hn1 := hg'.cell hn (by simp)
      have ha1 := hg'.cell ha (by simp)
      go_wp2_with (first | (go_at_call 132; refine (no_of (kinds_any l _ n e a _ (by exact HR.out.gr (by repeat (first | exact Gr.refl _ | assumption | refine Gr.drew ?_ | refine Gr.alloc ?_ _ | refine Gr.trans ?_ (by assumption))))) HK.out).mono ?_; rintro e w2 ⟨rfl, hg2⟩))
      exact ⟨rfl, rfl, (by repeat (first | exact Gr.refl _ | assumption | refine Gr.drew ?_ | refine Gr.alloc ?_ _ | refine Gr.trans ?_ (by assumption)))⟩
    · have HK := hide hk
      clear hk
      cases hr : wB r 0 n
      · go_enter Tryd.func137, Tryd.ntmps137
        go_wp2
        go_region_held3 (fun w' => w'.cell? ⟨w.heap.size, 0, none⟩ = some (.int .i64 e) ∧ w'.cell? ⟨w.heap.size, 1, none⟩ = some (.int .i64 0) ∧ w'.cell? ⟨w.heap.size, 2, none⟩ = some (.int .i64 a)) (first | go_keep | exact ⟨hg'.cell (by assumption) (by simp), hg'.cell (by assumption) (by simp), hg'.cell (by assumption) (by simp)⟩) (first | (go_at_call 131; refine (within_any _ _ _ _).mono ?_; rintro e w' ⟨rfl, rfl⟩) | (go_at_call 76; refine (unless_yes _ _ _).mono ?_; rintro e w' ⟨rfl, hg'⟩))
        have he1 := hg'.cell he (by simp)
        have hn1 := hg'.cell hn (by simp)
        have ha1 := hg'.cell ha (by simp)
        go_wp2_with (first | (go_at_call 132; refine (yes_of (kinds_any l _ n e a _ (by exact HR.out.gr (by repeat (first | exact Gr.refl _ | assumption | refine Gr.drew ?_ | refine Gr.alloc ?_ _ | refine Gr.trans ?_ (by assumption))))) HK.out).mono ?_; rintro e w2 ⟨rfl, hg2⟩))
        have he2 := hg2.cell he1 (by simp)
        have hn2 := hg2.cell hn1 (by simp)
        have ha2 := hg2.cell ha1 (by simp)
        go_region_with (first | (go_at_call 131; refine (within_any _ _ _ _).mono ?_; rintro e w' ⟨rfl, rfl⟩) | (go_at_call 76; refine (unless_no _ _ _).mono ?_; rintro e w' ⟨rfl, hg'⟩; refine left_region ?_))
        all_goals exact ⟨rfl, by simp [inB, hr]; rfl, (by repeat (first | exact Gr.refl _ | assumption | refine Gr.drew ?_ | refine Gr.alloc ?_ _ | refine Gr.trans ?_ (by assumption)))⟩
      · go_enter Tryd.func137, Tryd.ntmps137
        go_wp2
        go_region_held3 (fun w' => w'.cell? ⟨w.heap.size, 0, none⟩ = some (.int .i64 e) ∧ w'.cell? ⟨w.heap.size, 1, none⟩ = some (.int .i64 0) ∧ w'.cell? ⟨w.heap.size, 2, none⟩ = some (.int .i64 a)) (first | go_keep | exact ⟨hg'.cell (by assumption) (by simp), hg'.cell (by assumption) (by simp), hg'.cell (by assumption) (by simp)⟩) (first | (go_at_call 131; refine (within_any _ _ _ _).mono ?_; rintro e w' ⟨rfl, rfl⟩) | (go_at_call 76; refine (unless_yes _ _ _).mono ?_; rintro e w' ⟨rfl, hg'⟩))
        have he1 := hg'.cell he (by simp)
        have hn1 := hg'.cell hn (by simp)
        have ha1 := hg'.cell ha (by simp)
        go_wp2_with (first | (go_at_call 132; refine (yes_of (kinds_any l _ n e a _ (by exact HR.out.gr (by repeat (first | exact Gr.refl _ | assumption | refine Gr.drew ?_ | refine Gr.alloc ?_ _ | refine Gr.trans ?_ (by assumption))))) HK.out).mono ?_; rintro e w2 ⟨rfl, hg2⟩))
        have he2 := hg2.cell he1 (by simp)
        have hn2 := hg2.cell hn1 (by simp)
        have ha2 := hg2.cell ha1 (by simp)
        go_region_with (first | (go_at_call 131; refine (within_any _ _ _ _).mono ?_; rintro e w' ⟨rfl, rfl⟩) | (go_at_call 76; refine (unless_yes _ _ _).mono ?_; rintro e w' ⟨rfl, hg'⟩))
        all_goals go_wp2
        all_goals go_end0
        all_goals exact ⟨by simp [inB, hr]; rfl, (by repeat (first | exact Gr.refl _ | assumption | refine Gr.drew ?_ | refine Gr.alloc ?_ _ | refine Gr.trans ?_ (by assumption)))⟩
end Go.Proofs.YtkgncijcnlfhiaaDoor

namespace Go.Proofs.YtkgncijcnlfhiaaDoor
set_option linter.unusedVariables false
set_option linter.unusedSimpArgs false
open Go.RowKit
/-- lists of numbers, in a list -/
def RShapes (w : World) (v : Value) (l : List (List Int)) : Prop :=
  ∃ ao cap, v = .slice ao l.length cap ∧ l.length ≤ maxLen ∧ ∀ i x, l[i]? = some x → ∃ b off vx, ao = some ⟨b, off, none⟩ ∧ w.cell? ⟨b, off + i, none⟩ = some vx ∧ RInts w vx x
/-- instructions -/
def RCode (w : World) (v : Value) (l : List PIns) : Prop :=
  ∃ ao cap, v = .slice ao l.length cap ∧ l.length ≤ maxLen ∧ ∀ i x, l[i]? = some x → ∃ b off, ao = some ⟨b, off, none⟩ ∧
    w.cell? ⟨b, off + i * 3, none⟩ = some (.int .i64 x.op) ∧ w.cell? ⟨b, off + i * 3 + 1, none⟩ = some (.int .i64 x.a) ∧ w.cell? ⟨b, off + i * 3 + 2, none⟩ = some (.int .i64 x.b)
/-- a text -/
def RText (v : Value) (l : List UInt8) : Prop := ∃ s : ByteArray, v = .string s ∧ s.data.toList = l ∧ s.size ≤ maxLen
/-- functions -/
def RFuncs (w : World) (v : Value) (l : List PFunc) : Prop :=
  ∃ ao cap, v = .slice ao l.length cap ∧ l.length ≤ maxLen ∧ ∀ i x, l[i]? = some x → ∃ b off vp vl vc, ao = some ⟨b, off, none⟩ ∧
    w.cell? ⟨b, off + i * 4, none⟩ = some vp ∧ w.cell? ⟨b, off + i * 4 + 1, none⟩ = some (.int .i64 x.result) ∧ w.cell? ⟨b, off + i * 4 + 2, none⟩ = some vl ∧ w.cell? ⟨b, off + i * 4 + 3, none⟩ = some vc ∧
    RInts w vp x.params ∧ RInts w vl x.locals ∧ RCode w vc x.code
/-- imports -/
def RImports (w : World) (v : Value) (l : List PImp) : Prop :=
  ∃ ao cap, v = .slice ao l.length cap ∧ l.length ≤ maxLen ∧ ∀ i x, l[i]? = some x → ∃ b off vs vp, ao = some ⟨b, off, none⟩ ∧
    w.cell? ⟨b, off + i * 3, none⟩ = some vs ∧ w.cell? ⟨b, off + i * 3 + 1, none⟩ = some vp ∧ w.cell? ⟨b, off + i * 3 + 2, none⟩ = some (.int .i64 x.result) ∧
    RText vs x.name ∧ RInts w vp x.params
/-- exports -/
def RExports (w : World) (v : Value) (l : List PExp) : Prop :=
  ∃ ao cap, v = .slice ao l.length cap ∧ l.length ≤ maxLen ∧ ∀ i x, l[i]? = some x → ∃ b off vs, ao = some ⟨b, off, none⟩ ∧
    w.cell? ⟨b, off + i * 2, none⟩ = some vs ∧ w.cell? ⟨b, off + i * 2 + 1, none⟩ = some (.int .i64 x.func) ∧ RText vs x.name
/-- a unit -/
def RUnit (w : World) (v : Value) (u : PUnit) : Prop :=
  ∃ v1 v2 v3 v4 v5, v = .agg #[v1, v2, v3, v4, v5] ∧ RShapes w v1 u.shapes ∧ RInts w v2 u.consts ∧ RFuncs w v3 u.funcs ∧ RImports w v4 u.imports ∧ RExports w v5 u.exports

theorem RShapes.gr {w w' : World} {v : Value} {l : List (List Int)} (h : RShapes w v l) (g : Gr w w') : RShapes w' v l := by
  obtain ⟨ao, cap, hv, hm, hc⟩ := h
  refine ⟨ao, cap, hv, hm, fun i x hi => ?_⟩
  obtain ⟨b, off, vx, h1, h2, h3⟩ := hc i x hi
  exact ⟨b, off, vx, h1, g.cell h2 (by simp), h3.gr g⟩
theorem RCode.gr {w w' : World} {v : Value} {l : List PIns} (h : RCode w v l) (g : Gr w w') : RCode w' v l := by
  obtain ⟨ao, cap, hv, hm, hc⟩ := h
  refine ⟨ao, cap, hv, hm, fun i x hi => ?_⟩
  obtain ⟨b, off, h1, h2, h3, h4⟩ := hc i x hi
  exact ⟨b, off, h1, g.cell h2 (by simp), g.cell h3 (by simp), g.cell h4 (by simp)⟩
theorem RFuncs.gr {w w' : World} {v : Value} {l : List PFunc} (h : RFuncs w v l) (g : Gr w w') : RFuncs w' v l := by
  obtain ⟨ao, cap, hv, hm, hc⟩ := h
  refine ⟨ao, cap, hv, hm, fun i x hi => ?_⟩
  obtain ⟨b, off, vp, vl, vc, h1, h2, h3, h4, h5, h6, h7, h8⟩ := hc i x hi
  exact ⟨b, off, vp, vl, vc, h1, g.cell h2 (by simp), g.cell h3 (by simp), g.cell h4 (by simp), g.cell h5 (by simp), h6.gr g, h7.gr g, h8.gr g⟩
theorem RImports.gr {w w' : World} {v : Value} {l : List PImp} (h : RImports w v l) (g : Gr w w') : RImports w' v l := by
  obtain ⟨ao, cap, hv, hm, hc⟩ := h
  refine ⟨ao, cap, hv, hm, fun i x hi => ?_⟩
  obtain ⟨b, off, vs, vp, h1, h2, h3, h4, h5, h6⟩ := hc i x hi
  exact ⟨b, off, vs, vp, h1, g.cell h2 (by simp), g.cell h3 (by simp), g.cell h4 (by simp), h5, h6.gr g⟩
theorem RExports.gr {w w' : World} {v : Value} {l : List PExp} (h : RExports w v l) (g : Gr w w') : RExports w' v l := by
  obtain ⟨ao, cap, hv, hm, hc⟩ := h
  refine ⟨ao, cap, hv, hm, fun i x hi => ?_⟩
  obtain ⟨b, off, vs, h1, h2, h3, h4⟩ := hc i x hi
  exact ⟨b, off, vs, h1, g.cell h2 (by simp), g.cell h3 (by simp), h4⟩
theorem RUnit.gr {w w' : World} {v : Value} {u : PUnit} (h : RUnit w v u) (g : Gr w w') : RUnit w' v u := by
  obtain ⟨v1, v2, v3, v4, v5, h, h1, h2, h3, h4, h5⟩ := h
  exact ⟨v1, v2, v3, v4, v5, h, h1.gr g, h2.gr g, h3.gr g, h4.gr g, h5.gr g⟩
theorem RShapes.shape {w : World} {v : Value} {l : List (List Int)} (h : RShapes w v l) : ∃ ao cap, v = .slice ao l.length cap := by
  obtain ⟨ao, cap, hv, _⟩ := h; exact ⟨ao, cap, hv⟩
theorem RCode.shape {w : World} {v : Value} {l : List PIns} (h : RCode w v l) : ∃ ao cap, v = .slice ao l.length cap := by
  obtain ⟨ao, cap, hv, _⟩ := h; exact ⟨ao, cap, hv⟩
theorem RFuncs.shape {w : World} {v : Value} {l : List PFunc} (h : RFuncs w v l) : ∃ ao cap, v = .slice ao l.length cap := by
  obtain ⟨ao, cap, hv, _⟩ := h; exact ⟨ao, cap, hv⟩
theorem getElem?_lt {α : Type} {l : List α} {k : Nat} (h : k < l.length) : ∃ x, l[k]? = some x := ⟨l[k], List.getElem?_eq_getElem h⟩
end Go.Proofs.YtkgncijcnlfhiaaDoor

