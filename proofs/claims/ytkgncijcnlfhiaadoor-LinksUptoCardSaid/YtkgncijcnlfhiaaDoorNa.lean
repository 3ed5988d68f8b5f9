import Derived.Test.YtkgncijcnlfhiaaDoorR0
import Derived.Maps.OwnSet
import Derived.Laws.OwnMore
import Derived.Lib.AppendZerosOnto
import Derived.Maps.AppendAt
import Derived.Test.YtkgncijcnlfhiaaDoorW7
import Derived.Test.YtkgncijcnlfhiaaDoorK4
namespace Go.Proofs.YtkgncijcnlfhiaaDoor
set_option linter.unusedVariables false
set_option linter.unusedSimpArgs false
def swp (a : Nat → Int) (i j : Nat) : Nat → Int := fun k => if k = i then a j else if k = j then a i else a k
def Hp (a : Nat → Int) (n : Nat) : Prop := ∀ i, 0 < i → i < n → a ((i - 1) / 2) ≤ a i
/-- all but at place j, which may be too small -/
structure HpUp (a : Nat → Int) (n j : Nat) : Prop where
  rest : ∀ i, 0 < i → i < n → i ≠ j → a ((i - 1) / 2) ≤ a i
  over : ∀ i, 0 < i → i < n → (i - 1) / 2 = j → 0 < j → a ((j - 1) / 2) ≤ a i
/-- all but below place i, which may be too great -/
structure HpDn (a : Nat → Int) (n i : Nat) : Prop where
  rest : ∀ c, 0 < c → c < n → (c - 1) / 2 ≠ i → a ((c - 1) / 2) ≤ a c
  over : ∀ c, 0 < c → c < n → (c - 1) / 2 = i → 0 < i → a ((i - 1) / 2) ≤ a c
/-- the same numbers, each once -/
structure Same (a b : Nat → Int) (n : Nat) : Prop where
  mem : ∀ x, (∃ i, i < n ∧ a i = x) ↔ ∃ i, i < n ∧ b i = x
  inj : (∀ i j, i < n → j < n → a i = a j → i = j) → ∀ i j, i < n → j < n → b i = b j → i = j
theorem Same.refl (a : Nat → Int) (n : Nat) : Same a a n := ⟨fun _ => Iff.rfl, fun h => h⟩
theorem Same.trans {a b c : Nat → Int} {n : Nat} (h : Same a b n) (k : Same b c n) : Same a c n := ⟨fun x => (h.mem x).trans (k.mem x), fun hi => k.inj (h.inj hi)⟩
theorem HpUp.step {a : Nat → Int} {n j : Nat} (h : HpUp a n j) (hj : j < n) (h0 : 0 < j) (hl : a j < a ((j - 1) / 2)) : HpUp (swp a ((j - 1) / 2) j) n ((j - 1) / 2) := by
  generalize hp : (j - 1) / 2 = p at h hl ⊢
  have hpj : p < j := by omega
  refine ⟨fun i i0 i1 i2 => ?_, fun i i0 i1 i2 i3 => ?_⟩
  · unfold swp
    by_cases e1 : (i - 1) / 2 = p
    · rw [if_pos e1, if_neg i2]
      by_cases e2 : i = j
      · rw [if_pos e2]; omega
      · rw [if_neg e2]
        have := h.rest i i0 i1 e2
        rw [e1] at this; omega
    · rw [if_neg e1, if_neg i2]
      by_cases e2 : (i - 1) / 2 = j
      · rw [if_pos e2, if_neg (by omega)]
        have := h.over i i0 i1 e2 h0
        rw [hp] at this; exact this
      · rw [if_neg e2]
        by_cases e3 : i = j
        · subst e3; omega
        · rw [if_neg e3]; exact h.rest i i0 i1 e3
  · unfold swp
    have hpp : (p - 1) / 2 ≠ p := by omega
    have hppj : (p - 1) / 2 ≠ j := by omega
    rw [if_neg hpp, if_neg hppj]
    have h1 := h.rest p i3 (by omega) (by omega)
    rw [if_neg (show ¬ i = p by omega)]
    by_cases e2 : i = j
    · rw [if_pos e2]; exact h1
    · rw [if_neg e2]
      have := h.rest i i0 i1 e2
      rw [i2] at this; omega
theorem HpDn.step {a : Nat → Int} {n i c : Nat} (h : HpDn a n i) (hc0 : 0 < c) (hc : c < n) (hci : (c - 1) / 2 = i) (hl : a c < a i) (hm : ∀ d, 0 < d → d < n → (d - 1) / 2 = i → a c ≤ a d) : HpDn (swp a i c) n c := by
  have hic : i < c := by omega
  refine ⟨fun d d0 d1 d2 => ?_, fun d d0 d1 d2 d3 => ?_⟩
  · unfold swp
    by_cases e1 : (d - 1) / 2 = i
    · rw [if_pos e1, if_neg (show ¬ d = i by omega)]
      by_cases e2 : d = c
      · rw [if_pos e2]; omega
      · rw [if_neg e2]; exact hm d d0 d1 e1
    · rw [if_neg e1, if_neg d2]
      by_cases e2 : d = i
      · rw [if_pos e2]
        subst e2
        have := h.over c hc0 hc hci d0
        exact this
      · rw [if_neg e2]
        by_cases e3 : d = c
        · subst e3; exact absurd hci e1
        · rw [if_neg e3]; exact h.rest d d0 d1 e1
  · unfold swp
    rw [if_pos hci, if_neg (show ¬ d = i by omega), if_neg (show ¬ d = c by omega)]
    have := h.rest d d0 d1 (by omega)
    rw [d2] at this; exact this
/-- what is pushed stands at the end: all but it is a heap -/
theorem Hp.push {a : Nat → Int} {n : Nat} (h : Hp a n) (x : Int) : HpUp (fun k => if k = n then x else a k) (n + 1) n := by
  refine ⟨fun i i0 i1 i2 => ?_, fun i i0 i1 i2 i3 => by omega⟩
  rw [if_neg (show ¬ (i - 1) / 2 = n by omega), if_neg i2]
  exact h i i0 (by omega)
end Go.Proofs.YtkgncijcnlfhiaaDoor

namespace Go.Proofs.YtkgncijcnlfhiaaDoor
set_option linter.unusedVariables false
set_option linter.unusedSimpArgs false
structure Wait (N : Nat) (a : Nat → Int) (n : Nat) (st : Nat → Option (List Int)) (dn : Nat → Bool) : Prop where
  hp : Hp a n
  inj : ∀ i j, i < n → j < n → a i = a j → i = j
  mem : ∀ x, (∃ i, i < n ∧ a i = x) ↔ ∃ k : Nat, x = (k : Int) ∧ (st k).isSome = true ∧ dn k = false
  lt : ∀ k, (st k).isSome = true → k < N
  seen : ∀ k, dn k = true → (st k).isSome = true
theorem Wait.empty (N : Nat) (a : Nat → Int) : Wait N a 0 (fun _ => none) (fun _ => false) :=
  ⟨fun i _ h => by omega, fun i _ h => by omega, fun x => ⟨fun ⟨i, h, _⟩ => by omega, fun ⟨k, _, h, _⟩ => by simp at h⟩, fun k h => by simp at h, fun k h => by simp at h⟩
/-- one more waits -/
theorem Wait.push {N : Nat} {a b : Nat → Int} {n t : Nat} {st : Nat → Option (List Int)} {dn : Nat → Bool} {s : List Int} (h : Wait N a n st dn) (ht : t < N) (hst : st t = none) (hb : Hp b (n + 1)) (hs : Same (fun k => if k = n then (t : Int) else a k) b (n + 1)) :
    Wait N b (n + 1) (fun k => if k = t then some s else st k) dn := by
  have hdt : dn t = false := by
    cases hd : dn t with
    | false => rfl
    | true => have := h.seen t hd; rw [hst] at this; cases this
  have hnt : ∀ i, i < n → a i ≠ t := by
    intro i hi e
    obtain ⟨k, hk, h1, _⟩ := (h.mem (a i)).1 ⟨i, hi, rfl⟩
    have : k = t := by omega
    subst this; rw [hst] at h1; cases h1
  refine ⟨hb, hs.inj ?_, ?_, ?_, ?_⟩
  · intro i j hi hj e
    by_cases h1 : i = n
    · by_cases h2 : j = n
      · omega
      · rw [if_pos h1, if_neg h2] at e; exact absurd e.symm (hnt j (by omega))
    · by_cases h2 : j = n
      · rw [if_neg h1, if_pos h2] at e; exact absurd e (hnt i (by omega))
      · rw [if_neg h1, if_neg h2] at e; exact h.inj i j (by omega) (by omega) e
  · intro x
    rw [← hs.mem x]
    constructor
    · rintro ⟨i, hi, e⟩
      by_cases h1 : i = n
      · simp only [if_pos h1] at e; exact ⟨t, e.symm, by simp, hdt⟩
      · simp only [if_neg h1] at e
        obtain ⟨k, hk, h2, h3⟩ := (h.mem x).1 ⟨i, by omega, e⟩
        refine ⟨k, hk, ?_, h3⟩
        split
        · rfl
        · exact h2
    · rintro ⟨k, hk, h2, h3⟩
      by_cases hkt : k = t
      · subst hkt; exact ⟨n, by omega, by simp [hk]⟩
      · simp only [if_neg hkt] at h2
        obtain ⟨i, hi, e⟩ := (h.mem x).2 ⟨k, hk, h2, h3⟩
        exact ⟨i, by omega, by rw [if_neg (by omega), e]⟩
  · intro k hk
    by_cases hkt : k = t
    · omega
    · simp only [if_neg hkt] at hk; exact h.lt k hk
  · intro k hk
    by_cases hkt : k = t
    · simp [hkt]
    · simp only [if_neg hkt]; exact h.seen k hk
end Go.Proofs.YtkgncijcnlfhiaaDoor

namespace Go.Proofs.YtkgncijcnlfhiaaDoor
set_option linter.unusedVariables false
set_option linter.unusedSimpArgs false
open Go.RowKit Go.Maps
def valR (v : Value) : Option (DataW Value × List MemPlace) := some (.held v, [])
theorem Tryd.uMap : Tryd.prog.underlying 169 = some (.map 3 23) := by kernel_rfl
theorem Tryd.zMap (w : World) : (zeroValue 23).run Tryd.prog w = .ok (.slice none 0 0) w := by kernel_rfl
theorem Tryd.kInt : Tryd.prog.underlying 3 = some (.int .i64) := by kernel_rfl
theorem Tryd.keyed : Keyed Tryd.prog 3 := int_keyed Tryd.kInt
def keyL (k : Nat) : Lit := .int .i64 (k : Int)
theorem key_is (k : Nat) (hk : k < 1000000) : keyOf Tryd.prog 3 (.int .i64 (k : Int)) = some (keyL k) := keyOf_int_mk Tryd.kInt (WalkArith.wf_i64 (by omega))
theorem key_inj {k j : Nat} (h : keyL k = keyL j) : k = j := by
  unfold keyL at h
  injection h with _ h2
  omega
def nilV : Value := .slice none 0 0
structure MapIs (w : World) (b n : Nat) (m : Nat → Option Value) : Prop where
  is : ∃ D : DataW Value, w.ownsMap Tryd.prog 3 valR b n D ∧ ∀ k, k < 1000000 → Maps.has D (keyL k) = (m k).isSome ∧ D.atKey (keyL k) (.held nilV) = .held ((m k).getD nilV)
theorem MapIs.made (w : World) : MapIs (w.alloc (.map #[] 0)) w.heap.size 0 (fun _ => none) :=
  ⟨_, World.ownsMap_made w _ _ _, fun k _ => ⟨rfl, rfl⟩⟩
theorem MapIs.lt {w : World} {b n : Nat} {m : Nat → Option Value} (h : MapIs w b n m) : b < w.heap.size := by
  obtain ⟨D, h1, _⟩ := h.is; exact h1.lt
theorem MapIs.kept {w w' : World} {b n : Nat} {m : Nat → Option Value} (h : MapIs w b n m) (g : w'.heap[b]? = w.heap[b]?) : MapIs w' b n m := by
  obtain ⟨D, ⟨es, clock, hb, r⟩, h2⟩ := h.is
  exact ⟨D, ⟨es, clock, g.trans hb, r⟩, h2⟩
theorem MapIs.look {w : World} {b n : Nat} {m : Nat → Option Value} (h : MapIs w b n m) (k : Nat) (hk : k < 1000000) : (Instr.lookup 169 (.map (some b)) (.int .i64 (k : Int)) true).run Tryd.prog w = .ok (.tuple #[(m k).getD nilV, .bool (m k).isSome]) w := by
  obtain ⟨D, h1, h2⟩ := h.is
  obtain ⟨v, ps, hrun, hv⟩ := h1.look_ok Tryd.keyed Tryd.uMap (Tryd.zMap w) (zd := .held nilV) (zp := []) rfl (key_is k hk)
  rw [hrun, (h2 k hk).1]
  have := congrArg Prod.fst (Option.some.inj hv)
  simp only [(h2 k hk).2, DataW.held.injEq] at this
  rw [this]
theorem MapIs.look1 {w : World} {b n : Nat} {m : Nat → Option Value} (h : MapIs w b n m) (k : Nat) (hk : k < 1000000) : (Instr.lookup 169 (.map (some b)) (.int .i64 (k : Int)) false).run Tryd.prog w = .ok ((m k).getD nilV) w := by
  obtain ⟨D, h1, h2⟩ := h.is
  obtain ⟨v, ps, hrun, hv⟩ := h1.lookup Tryd.keyed Tryd.uMap (Tryd.zMap w) (zd := .held nilV) (zp := []) rfl (key_is k hk)
  rw [hrun]
  have := congrArg Prod.fst (Option.some.inj hv)
  simp only [(h2 k hk).2, DataW.held.injEq] at this
  rw [this]
theorem MapIs.store {w : World} {b n : Nat} {m : Nat → Option Value} (h : MapIs w b n m) (k : Nat) (hk : k < 1000000) (hn : n < 1000000) (v : Value) :
    ∃ w', (Instr.mapUpdate 169 (.map (some b)) (.int .i64 (k : Int)) v).run Tryd.prog w = .ok () w' ∧ MapIs w' b (n + 1) (fun j => if j = k then some v else m j) ∧ w.grownBy w' (some b) := by
  obtain ⟨D, h1, h2⟩ := h.is
  obtain ⟨w', hrun, hown, hturn⟩ := h1.store Tryd.keyed Tryd.uMap (by unfold maxLen; omega) (key_is k hk) (val := v) (d := .held v) (ps := []) rfl
  refine ⟨w', hrun, ⟨_, hown, fun j hj => ?_⟩, hturn.grown⟩
  by_cases e : j = k
  · subst e
    rw [has_put_same h1.isMap (by trivial), atKey_put_same h1.isMap (by trivial)]
    simp
  · have hne : keyL j ≠ keyL k := fun h => e (key_inj h)
    rw [has_put_other hne, atKey_put_other hne, if_neg e]
    exact h2 j hj
end Go.Proofs.YtkgncijcnlfhiaaDoor

namespace Go.Proofs.YtkgncijcnlfhiaaDoor
set_option linter.unusedVariables false
set_option linter.unusedSimpArgs false
open Go.RowKit
def fnL (l : List Int) (k : Nat) : Int := l.getD k 0
def ivL (l : List Int) : List Value := l.map fun x => Value.int .i64 x
theorem ivL_len (l : List Int) : (ivL l).length = l.length := by simp [ivL]
theorem ivL_at {l : List Int} {j : Nat} (h : j < l.length) : (ivL l)[j]? = some (.int .i64 (fnL l j)) := by
  unfold ivL fnL
  rw [List.getElem?_map, List.getD_eq_getElem?_getD, List.getElem?_eq_getElem h]; rfl
theorem ivL_set (l : List Int) (j : Nat) (x : Int) : (ivL l).set j (.int .i64 x) = ivL (l.set j x) := by
  unfold ivL; rw [List.map_set]
/-- the waiting instructions: v owns them, from B on -/
def HpRow (w : World) (B : Nat) (v : Value) (l : List Int) : Prop := w.ownsRow B 3 1 v l.length (ivL l)
theorem HpRow.form {w : World} {B : Nat} {v : Value} {l : List Int} (h : HpRow w B v l) : (∃ ao cap, v = .slice ao l.length cap) ∧ l.length ≤ maxLen := by
  obtain ⟨h1, h2⟩ := h
  rcases h2 with ⟨rfl, h3⟩ | ⟨g, cap, cur, rfl, _, _, h4, h5, _⟩
  · exact ⟨⟨none, 0, by rw [h3]⟩, by rw [h3]; decide⟩
  · exact ⟨⟨_, _, rfl⟩, by omega⟩
theorem HpRow.at {w : World} {B : Nat} {v : Value} {l : List Int} (h : HpRow w B v l) (hl : 0 < l.length) : ∃ g cap, v = .slice (some ⟨g, 0, none⟩) l.length cap ∧ B ≤ g ∧ g < w.heap.size ∧ (∀ j, j < l.length → w.cell? ⟨g, j, none⟩ = some (.int .i64 (fnL l j))) ∧ ∀ j, w.frozen? ⟨g, j, none⟩ = false := by
  have h0 := h
  obtain ⟨h1, h2⟩ := h
  rcases h2 with ⟨rfl, h3⟩ | ⟨g, cap, cur, rfl, hb, hh, h4, h5, _⟩
  · omega
  · refine ⟨g, cap, rfl, hb, (Array.getElem?_eq_some_iff.1 hh).1, fun j hj => ?_, fun j => h0.frozenAt j⟩
    rw [h0.cellAt j (by omega), ivL_at hj]
theorem HpRow.set {w : World} {B g cap : Nat} {l : List Int} (h : HpRow w B (.slice (some ⟨g, 0, none⟩) l.length cap) l) (j : Nat) (x : Int) : HpRow (w.setCell ⟨g, j, none⟩ (.int .i64 x)) B (.slice (some ⟨g, 0, none⟩) l.length cap) (l.set j x) := by
  have := (World.ownsRow.stored h j (.int .i64 x)).1
  rw [ivL_set] at this
  unfold HpRow
  rw [List.length_set]
  exact this
theorem HpRow.keep {w w' : World} {B : Nat} {v : Value} {l : List Int} (h : HpRow w B v l) (g : ∀ b, v.ownBlock = some b → w'.heap[b]? = w.heap[b]?) : HpRow w' B v l := by
  obtain ⟨h1, h2⟩ := h
  refine ⟨h1, ?_⟩
  rcases h2 with ⟨rfl, h3⟩ | ⟨k, cap, cur, rfl, hb, hh, r⟩
  · exact .inl ⟨rfl, h3⟩
  · exact .inr ⟨k, cap, cur, rfl, hb, (g k rfl).trans hh, r⟩
end Go.Proofs.YtkgncijcnlfhiaaDoor

namespace Go.Proofs.YtkgncijcnlfhiaaDoor
set_option linter.unusedVariables false
set_option linter.unusedSimpArgs false
open Go.RowKit
attribute [local go_sem ↓] Go.wp_at_zero Go.wp_at_succ
theorem eq_of_getD_ {l m : List Int} (hl : l.length = m.length) (h : ∀ j, j < l.length → l.getD j 0 = m.getD j 0) : l = m := by
  apply List.ext_getElem hl
  intro i h1 h2
  have := h i h1
  rw [List.getD_eq_getElem?_getD, List.getD_eq_getElem?_getD, List.getElem?_eq_getElem h1, List.getElem?_eq_getElem h2] at this
  exact this
theorem gr_drewN_f {w w' : World} (h : Gr w w') (n : Nat) : Gr w (w'.drewN n) := ⟨h.os, h.tape, h.output, h.size, h.block⟩
set_option maxRecDepth 100000 in
set_option maxHeartbeats 1000000 in
theorem equal_any (va vb : Value) (l m : List Int) (w : World) (ha : RInts w va l) (hb : RInts w vb m) :
    Calls Tryd.prog 101 #[va, vb] w fun x w' => x = .returned (.bool (decide (l = m))) ∧ Gr w w' := by
  have HA := hide ha
  have HBb := hide hb
  obtain ⟨a1, c1, rfl, hm, _⟩ := ha
  obtain ⟨a2, c2, rfl, hm2, _⟩ := hb
  unfold maxLen at hm hm2
  by_cases hlen : l.length = m.length
  · have hne : ((l.length : Int) != (m.length : Int)) = false := by simp [hlen]
    have hM : m.length = l.length := hlen.symm
    have HLen := hide hlen
    rw [hM] at hne ⊢
    clear hlen
    have HMM := hide hM
    clear hM
    go_enter Tryd.func101, Tryd.ntmps101
    go_wp2_with fail
    go_loopw [13] (fun i wr => ∃ k : Nat, i = .int .i64 k ∧ k ≤ l.length ∧ (∀ j, j < k → l.getD j 0 = m.getD j 0) ∧ Gr w wr) (fun i _ => l.length - (intOf i).toNat)
    case atStart => exact ⟨0, rfl, Nat.zero_le _, fun j h => by omega, Gr.refl _⟩
    case round =>
      obtain ⟨k, rfl, hk, hall, hg⟩ := hrel
      have HAll := hide hall
      clear hall
      by_cases hlt : k < l.length
      · obtain ⟨a1', c1', h1e, _, hc1⟩ := HA.out
        obtain ⟨a2', c2', h2e, _, hc2⟩ := HBb.out
        rw [HMM.out] at h2e hc2
        simp only [Value.slice.injEq, true_and] at h1e h2e
        obtain ⟨b1, o1, rfl, hx1⟩ := hc1 k hlt
        obtain ⟨b2, o2, rfl, hx2⟩ := hc2 k hlt
        obtain ⟨rfl, rfl⟩ := h1e
        obtain ⟨rfl, rfl⟩ := h2e
        have hy1 := hg.cell hx1 (by simp)
        have hy2 := hg.cell hx2 (by simp)
        have HX : ∀ x y, l.getD k 0 = x → m.getD k 0 = y → Hid (l.getD k 0 = x ∧ m.getD k 0 = y) := fun x y h1 h2 => hide ⟨h1, h2⟩
        obtain ⟨x, hx⟩ : ∃ x, l.getD k 0 = x := ⟨_, rfl⟩
        obtain ⟨y, hy⟩ : ∃ y, m.getD k 0 = y := ⟨_, rfl⟩
        have HXY := HX x y hx hy
        rw [hx] at hy1
        rw [hy] at hy2
        have HG := hide hg
        clear hc1 hc2 hx1 hx2 hg HA HBb HX hx hy
        by_cases hxy : x = y
        · have hb1 : (x != y) = false := by simp [hxy]
          have HA2 : Hid (∀ j, j < k + 1 → l.getD j 0 = m.getD j 0) := hide (fun j hj => by
            by_cases e : j = k
            · subst e; rw [HXY.out.1, HXY.out.2, hxy]
            · exact HAll.out j (by omega))
          clear hxy
          go_wp2_with fail
          go_quiet (fail)
          go_wp2_with fail
          exact ⟨⟨k + 1, by simp, hlt, HA2.out, gr_drewN_f HG.out _⟩, by simp [intOf]; omega⟩
        · have hb1 : (x != y) = true := by simp [hxy]
          have HD : Hid (decide (l = m) = false) := hide (by
            rw [decide_eq_false_iff_not]; intro e; subst e; exact hxy (HXY.out.1.symm.trans HXY.out.2))
          clear hxy
          go_wp2_with fail
          go_quiet (fail)
          go_wp2_with fail
          go_ret
          exact ⟨by rw [HD.out]; rfl, gr_drewN_f HG.out _⟩
      · have hkk : k = l.length := by omega
        subst hkk
        have HD : Hid (decide (l = m) = true) := hide (by rw [decide_eq_true_eq]; exact eq_of_getD_ HLen.out HAll.out)
        have HG := hide hg
        clear hg
        go_wp2_with fail
        go_ret
        exact ⟨by rw [HD.out]; rfl, HG.out⟩
  · have hne : ((l.length : Int) != (m.length : Int)) = true := by rw [bne_iff_ne]; omega
    have HD : Hid (decide (l = m) = false) := hide (by rw [decide_eq_false_iff_not]; intro e; subst e; exact hlen rfl)
    clear hlen
    go_enter Tryd.func101, Tryd.ntmps101
    go_wp2_with fail
    go_ret
    exact ⟨by rw [HD.out]; rfl, Gr.refl _⟩

end Go.Proofs.YtkgncijcnlfhiaaDoor

namespace Go.Proofs.YtkgncijcnlfhiaaDoor
set_option linter.unusedVariables false
set_option linter.unusedSimpArgs false
open Go.RowKit
attribute [local go_sem ↓] Go.wp_at_zero Go.wp_at_succ
def RUnits (w : World) (v : Value) (l : List PUnit) : Prop :=
  ∃ ao cap, v = .slice ao l.length cap ∧ l.length ≤ maxLen ∧ ∀ i u, l[i]? = some u → ∃ b off v1 v2 v3 v4 v5, ao = some ⟨b, off, none⟩ ∧
    w.cell? ⟨b, off + i * 5, none⟩ = some v1 ∧ w.cell? ⟨b, off + i * 5 + 1, none⟩ = some v2 ∧ w.cell? ⟨b, off + i * 5 + 2, none⟩ = some v3 ∧ w.cell? ⟨b, off + i * 5 + 3, none⟩ = some v4 ∧ w.cell? ⟨b, off + i * 5 + 4, none⟩ = some v5 ∧ RUnit w (.agg #[v1, v2, v3, v4, v5]) u
theorem RUnits.gr {w w' : World} {v : Value} {l : List PUnit} (h : RUnits w v l) (g : Gr w w') : RUnits w' v l := by
  obtain ⟨ao, cap, hv, hm, hc⟩ := h
  refine ⟨ao, cap, hv, hm, fun i x hi => ?_⟩
  obtain ⟨b, off, v1, v2, v3, v4, v5, h1, k1, k2, k3, k4, k5, hu⟩ := hc i x hi
  exact ⟨b, off, v1, v2, v3, v4, v5, h1, g.cell k1 (by simp), g.cell k2 (by simp), g.cell k3 (by simp), g.cell k4 (by simp), g.cell k5 (by simp), hu.gr g⟩
theorem RUnits.shape {w : World} {v : Value} {l : List PUnit} (h : RUnits w v l) : ∃ ao cap, v = .slice ao l.length cap := by
  obtain ⟨ao, cap, hv, _⟩ := h; exact ⟨ao, cap, hv⟩
/-- a unit's five values are slices -/
theorem RUnit.slices {w : World} {v1 v2 v3 v4 v5 : Value} {u : PUnit} (h : RUnit w (.agg #[v1, v2, v3, v4, v5]) u) : (∃ a c, v1 = .slice a u.shapes.length c) ∧ (∃ a c, v2 = .slice a u.consts.length c) ∧ (∃ a c, v3 = .slice a u.funcs.length c) ∧ (∃ a c, v4 = .slice a u.imports.length c) ∧ ∃ a c, v5 = .slice a u.exports.length c := by
  obtain ⟨x1, x2, x3, x4, x5, he, h1, h2, h3, h4, h5⟩ := h
  simp only [Value.agg.injEq, Array.mk.injEq, List.cons.injEq, and_true] at he
  obtain ⟨rfl, rfl, rfl, rfl, rfl⟩ := he
  exact ⟨h1.shape, h2.shape, h3.shape, h4.shape, h5.shape⟩
/-- what a round over the units comes to: p: it applies to the unit -/
def EachR (e : Int) (I : Nat → World → Prop) (B : World → Prop) (n : Nat) (o : Option Nat) (x : Ending) (w' : World) : Prop := match o with
  | none => x = .returned (.tuple #[]) ∧ I n w'
  | some k => x = .panicked (thrown e (k : Int)) ∧ B w'
/-- the first to which it applies, from k on -/
def firstI (p : Nat → PUnit → Bool) : Nat → List PUnit → Option Nat
  | _, [] => none
  | k, u :: l => if p k u = true then some k else firstI p (k + 1) l
theorem firstI_eq (p : PUnit → Bool) : ∀ (l : List PUnit) (k : Nat), firstI (fun _ => p) k l = firstU p k l
  | [], _ => rfl
  | u :: l, k => by rw [firstI, firstU, firstI_eq p l (k + 1)]
/-- one unit asked -/
def AskC (W : World) (f : FuncId) (first caps : Array Value) (e : Int) (l : List PUnit) (p : Nat → PUnit → Bool) (I : Nat → World → Prop) (B : World → Prop) : Prop :=
  ∀ (k : Nat) (u : PUnit) (V : World) (vu : Value), l[k]? = some u → I k V → RUnit W vu u →
    Calls Tryd.prog f (first ++ (#[vu, .agg #[.int .i64 e, .int .i64 0, .int .i64 (k : Int)]] ++ caps)) V fun x V' => (p k u = false ∧ x = .returned (.tuple #[]) ∧ I (k + 1) V') ∨ (p k u = true ∧ x = .panicked (thrown e (k : Int)) ∧ B V')

set_option maxRecDepth 100000 in
set_option maxHeartbeats 2000000 in
theorem each_any (f : FuncId) (first caps : Array Value) (hcf : ∀ (vu vr : Value) (w : World), (callFunc f (first ++ (#[vu, vr] ++ caps))).run Tryd.prog w = .ok (.enter f (first ++ (#[vu, vr] ++ caps))) w) (e : Int) (l : List PUnit) (vl : Value) (p : Nat → PUnit → Bool) (I : Nat → World → Prop) (B : World → Prop) (W w : World)
    (hR : RUnits W vl l) (hB : ∀ k V, I k V → Gr W V) (hI : ∀ k V V', I k V → Gr V V' → I k V') (h0 : I 0 w) (hA : AskC W f first caps e l p I B) (hlen : l.length ≤ 1000000) (hlw : ∃ a c, vl = .slice a l.length c) :
    Calls Tryd.prog 98 #[vl, .int .i64 e, .func (.func f) first caps] w (EachR e I B l.length (firstI p 0 l)) := by
  obtain ⟨al, cl, rfl⟩ := hlw
  have HR := hide hR
  have HI := hide hI
  have HBs := hide hB
  have HA := hide hA
  have H0 := hide h0
  have HCF := hide hcf
  clear hR hI h0 hA hcf hB
  go_enter Tryd.func98, Tryd.ntmps98
  go_wp2_with fail
  go_loopw [10] (fun i wr => ∃ k : Nat, i = .int .i64 (k : Int) ∧ k ≤ l.length ∧ firstI p 0 l = firstI p k (l.drop k) ∧ I k wr) (fun i _ => l.length - (intOf i).toNat)
  case atStart => exact ⟨0, rfl, Nat.zero_le _, rfl, H0.out⟩
  case round =>
    obtain ⟨k, rfl, hk, hf, hi⟩ := hrel
    have HF := hide hf
    have HIk := hide hi
    clear hf hi H0
    by_cases hlt : k < l.length
    · obtain ⟨u, hu⟩ := getElem?_lt hlt
      obtain ⟨ao, cap, he, _, hc⟩ := HR.out
      obtain ⟨b, off, v1, v2, v3, v4, v5, rfl, k1, k2, k3, k4, k5, hru⟩ := hc k u hu
      have hbs := HBs.out k wr HIk.out
      have k1 := hbs.cell k1 (by simp)
      have k2 := hbs.cell k2 (by simp)
      have k3 := hbs.cell k3 (by simp)
      have k4 := hbs.cell k4 (by simp)
      have k5 := hbs.cell k5 (by simp)
      simp only [Value.slice.injEq, true_and] at he
      obtain ⟨rfl, rfl⟩ := he
      obtain ⟨⟨a1, c1, rfl⟩, ⟨a2, c2, rfl⟩, ⟨a3, c3, rfl⟩, ⟨a4, c4, rfl⟩, ⟨a5, c5, rfl⟩⟩ := hru.slices
      have hki : (k : Int) < (l.length : Int) := by omega
      have hw : IntKind.i64.wrap ((k : Int) + 1) = (k : Int) + 1 := Go.IntWalk.i64_in _ (by omega)
      have hga := Gr.alloc (Gr.refl wr) (.cells #[.slice a1 u.shapes.length c1, .slice a2 u.consts.length c2, .slice a3 u.funcs.length c3, .slice a4 u.imports.length c4, .slice a5 u.exports.length c5] 28)
      have HCK := hide (HA.out k u _ _ hu (HI.out k wr _ HIk.out hga) hru)
      have HS : Hid (firstI p 0 l = if p k u = true then some k else firstI p (k + 1) (l.drop (k + 1))) := hide (by
        rw [HF.out, List.drop_eq_getElem_cons hlt]
        have : l[k] = u := by rw [List.getElem?_eq_getElem hlt] at hu; exact Option.some.inj hu
        rw [this, firstI])
      clear hc hru hu hga HF hbs
      go_wp2_with fail
      rw [HCF.out, Oper.upon_enter]
      refine HCK.out.mono ?_
      rintro x w2 (⟨hp, rfl, hi2⟩ | ⟨hp, rfl, hb2⟩)
      · have HI2 := hide hi2
        have HN : Hid (firstI p 0 l = firstI p (k + 1) (l.drop (k + 1))) := hide (by rw [HS.out, hp]; rfl)
        clear hp hi2 HS HCK
        go_wp2_with fail
        exact ⟨⟨k + 1, by simp, hlt, HN.out, HI2.out⟩, by simp [intOf]; omega⟩
      · refine ⟨rfl, ?_⟩
        rw [HS.out, if_pos hp]
        exact ⟨rfl, hb2⟩
    · have hkk : k = l.length := by omega
      subst hkk
      have HN : Hid (firstI p 0 l = none) := hide (by rw [HF.out, List.drop_length]; rfl)
      clear hlt hk HF
      go_wp2_with fail
      go_end0
      rw [HN.out]
      exact ⟨rfl, HIk.out⟩
end Go.Proofs.YtkgncijcnlfhiaaDoor

