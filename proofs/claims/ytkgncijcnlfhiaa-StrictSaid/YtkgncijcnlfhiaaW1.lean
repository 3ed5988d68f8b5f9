import Derived.Test.YtkgncijcnlfhiaaChecked
import Derived.Test.YtkgncijcnlfhiaaP0
import Derived.WalkKit
import Derived.WalkSmall
import Derived.Deep.LoopGhost
import Derived.Deep.QuietTactic
import Derived.BigQuiet
import Derived.Deep.RegionHeld3
import Derived.Deep.RegionWith
import Derived.Deep.DrawnRows
namespace Go.Proofs.Ytkgncijcnlfhiaa
set_option linter.unusedVariables false
set_option linter.unusedSimpArgs false
open Go.RowKit
attribute [local go_sem ↓] Go.wp_at_zero Go.wp_at_succ

theorem left_region {G : Prop} (h : wpAny Try.prog .any #[] (fun _ _ _ => G) 0 #[] ⟨#[], []⟩ default) : G := h.2
theorem hide {p : Prop} (h : p) : Hid p := h
/-- the refusal, as a value; as what was thrown -/
def refV (e a : Int) : Value := .agg #[.int .i64 e, .int .i64 0, .int .i64 a]
def thrown (e a : Int) : List PanicEntry := [{ v := .iface 45 (refV e a), recovered := false }]
/-- new blocks alone -/
abbrev Gr (w w' : World) : Prop := w.grownBy w' none

theorem Gr.refl (w : World) : Gr w w := World.grownBy.refl w none
theorem Gr.trans {a b c : World} (h : Gr a b) (k : Gr b c) : Gr a c :=
  ⟨k.os.trans h.os, k.tape.trans h.tape, k.output.trans h.output, Nat.le_trans h.size k.size,
    fun i hi _ => (k.block i (Nat.lt_of_lt_of_le hi h.size) (by simp)).trans (h.block i hi (by simp))⟩
theorem Gr.alloc {a b : World} (h : Gr a b) (o : Obj) : Gr a (b.alloc o) := h.trans (World.grownBy_alloc b o none)
theorem Gr.drew {a b : World} (h : Gr a b) : Gr a b.drew := ⟨h.os, h.tape, h.output, h.size, h.block⟩

theorem unless_yes (e a : Int) (w : World) :
    Calls Try.prog 36 #[.agg #[.int .i64 e, .int .i64 0, .int .i64 a], .bool true] w fun x w' =>
      x = .returned (.tuple #[]) ∧ Gr w w' := by
  have hnot : ∀ (x : Bool) (w : World), (Op.unary .not (.bool x)).run Try.prog w = .ok (.bool (!x)) w := fun _ _ => rfl
  go_enter Try.func36, Try.ntmps36
  go_wp2
  go_end0
  exact ⟨rfl, (Gr.refl _).alloc _⟩

theorem unless_no (e a : Int) (w : World) :
    Calls Try.prog 36 #[.agg #[.int .i64 e, .int .i64 0, .int .i64 a], .bool false] w fun x w' =>
      x = .panicked (thrown e a) ∧ Gr w w' := by
  have hnot : ∀ (x : Bool) (w : World), (Op.unary .not (.bool x)).run Try.prog w = .ok (.bool (!x)) w := fun _ _ => rfl
  go_enter Try.func36, Try.ntmps36
  go_wp2
  exact ⟨rfl, rfl, (Gr.refl _).alloc _⟩

theorem within_any (v l m : Int) (w : World) :
    Calls Try.prog 64 #[.int .i64 v, .int .i64 l, .int .i64 m] w fun x w' =>
      x = .returned (.bool (wB v l m)) ∧ w' = w := by
  by_cases h : l ≤ v
  · have hd : decide (l ≤ v) = true := by simpa using h
    go_enter Try.func64, Try.ntmps64
    go_wp2
    go_ret
    exact ⟨by simp [wB, h], rfl⟩
  · have hd : decide (l ≤ v) = false := by simpa using h
    go_enter Try.func64, Try.ntmps64
    go_wp2
    go_ret
    exact ⟨by simp [wB]; omega, rfl⟩

/-- how a look ends: it comes back, or throws -/
def ends (b : Bool) (e a : Int) : Ending := if b then .returned (.tuple #[]) else .panicked (thrown e a)
theorem ends_t (e a : Int) : ends true e a = .returned (.tuple #[]) := rfl
theorem ends_f (e a : Int) : ends false e a = .panicked (thrown e a) := rfl

theorem unless_any (b : Bool) (e a : Int) (w : World) :
    Calls Try.prog 36 #[.agg #[.int .i64 e, .int .i64 0, .int .i64 a], .bool b] w fun x w' =>
      x = ends b e a ∧ Gr w w' := by
  cases b
  · exact unless_no e a w
  · exact unless_yes e a w

/-- a list of numbers, read -/
def RInts (w : World) (v : Value) (l : List Int) : Prop :=
  ∃ ao cap, v = .slice ao l.length cap ∧ l.length ≤ maxLen ∧ ∀ i, i < l.length → ∃ b off, ao = some ⟨b, off, none⟩ ∧ w.cell? ⟨b, off + i, none⟩ = some (.int .i64 (l.getD i 0))

theorem RInts.gr {w w' : World} {v : Value} {l : List Int} (h : RInts w v l) (g : Gr w w') : RInts w' v l := by
  obtain ⟨ao, cap, hv, hm, hc⟩ := h
  refine ⟨ao, cap, hv, hm, fun i hi => ?_⟩
  obtain ⟨b, off, h1, h2⟩ := hc i hi
  exact ⟨b, off, h1, g.cell h2 (by simp)⟩

theorem kindsOk_succ {n : Int} {l : List Int} {k : Nat} (hk : k < l.length) :
    (l.take (k + 1)).all (inB n) = ((l.take k).all (inB n) && inB n (l.getD k 0)) := by
  rw [List.take_succ_eq_append_getElem hk, List.all_append]; simp [List.getD_eq_getElem?_getD, hk]

theorem all_false_of {l : List Int} {p : Int → Bool} {k : Nat} {x : Bool} (h : (l.take (k + 1)).all p = x) (hx : x = false) : Hid (l.all p = false) := by
  have e : l.all p = ((l.take (k + 1)).all p && (l.drop (k + 1)).all p) := by rw [← List.all_append, List.take_append_drop]
  exact hide (by rw [e, h, hx]; rfl)

set_option maxHeartbeats 1000000 in
theorem kinds_any (l : List Int) (v : Value) (n e a : Int) (w : World) (hl : RInts w v l) :
    Calls Try.prog 65 #[v, .int .i64 n, .agg #[.int .i64 e, .int .i64 0, .int .i64 a]] w fun x w' =>
      x = ends (l.all (inB n)) e a ∧ Gr w w' := by
  obtain ⟨ao, cap, rfl, hm, hc⟩ := hl
  unfold maxLen at hm
  go_enter Try.func65, Try.ntmps65
  go_wp2
  go_loopw [10] (fun i wr => ∃ k : Nat, k ≤ l.length ∧ i = .int .i64 k ∧ (l.take k).all (inB n) = true ∧ wr.cell? ⟨w.heap.size, 0, none⟩ = some (.int .i64 e) ∧ wr.cell? ⟨w.heap.size, 1, none⟩ = some (.int .i64 0) ∧ wr.cell? ⟨w.heap.size, 2, none⟩ = some (.int .i64 a) ∧ Gr w wr) (fun i _ => l.length - (intOf i).toNat)
  case atStart => exact ⟨0, Nat.zero_le _, rfl, by simp, by simp [go_sem], by simp [go_sem], by simp [go_sem], (Gr.refl _).alloc _⟩
  case round =>
    obtain ⟨k, hk, rfl, hall, he, hn, ha, hg⟩ := hrel
    by_cases hlt : k < l.length
    · obtain ⟨b, off, hao, hcell⟩ := hc k hlt
      subst hao
      have HS := hide (kindsOk_succ (n := n) hlt)
      have hcell' := hg.cell hcell (by simp)
      generalize l.getD k 0 = x at hcell' HS
      clear hcell hc
      cases hb : wB x 0 n
      · have HF : Hid (l.all (inB n) = false) := all_false_of (k := k) HS.out (by rw [hall]; simp [inB, hb])
        go_wp2
        go_region_with (first | (go_at_call 64; refine (within_any _ _ _ _).mono ?_; rintro e w' ⟨rfl, rfl⟩) | (go_at_call 36; refine (unless_no _ _ _).mono ?_; rintro e w' ⟨rfl, hg'⟩; refine left_region ?_))
        all_goals exact ⟨rfl, by rw [HF.out]; rfl, hg.drew.trans hg'⟩
      · have HT : Hid ((l.take (k + 1)).all (inB n) = true) := by rw [HS.out, hall]; simp [inB, hb, hide]
        go_wp2
        go_region_held3 (fun w' => w'.cell? ⟨w.heap.size, 0, none⟩ = some (.int .i64 e) ∧ w'.cell? ⟨w.heap.size, 1, none⟩ = some (.int .i64 0) ∧ w'.cell? ⟨w.heap.size, 2, none⟩ = some (.int .i64 a)) (first | go_keep | exact ⟨hg'.cell (by assumption) (by simp), hg'.cell (by assumption) (by simp), hg'.cell (by assumption) (by simp)⟩) (first | (go_at_call 64; refine (within_any _ _ _ _).mono ?_; rintro e w' ⟨rfl, rfl⟩) | (go_at_call 36; refine (unless_yes _ _ _).mono ?_; rintro e w' ⟨rfl, hg'⟩))
        all_goals go_wp2
        all_goals go_roundw
        case rel => exact ⟨k + 1, by omega, by go_num, HT.out, hg'.cell he (by simp), hg'.cell hn (by simp), hg'.cell ha (by simp), hg.drew.trans hg'⟩
        case measure => simp [intOf]; omega
    · go_wp2
      go_end0
      have e1 : l.take k = l := List.take_of_length_le (by omega)
      rw [e1] at hall
      exact ⟨by rw [hall]; rfl, hg⟩
end Go.Proofs.Ytkgncijcnlfhiaa
