import Derived.Test.YtkgncijcnlfhiaaDoorK4
import Derived.Test.YtkgncijcnlfhiaaDoorNk
namespace Go.Proofs.YtkgncijcnlfhiaaDoor
set_option linter.unusedVariables false
set_option linter.unusedSimpArgs false
open Go.RowKit
section
variable {P : Program} {ops : Array Oper} {Q : Exit → Act → World → Prop} {md : Region.Mode} {S : World → Prop}
def wpAnyZ (P : Program) (md : Region.Mode) (ops : Array Oper) (Q : Exit → Act → World → Prop) (S : World → Prop) (z : Nat) : Nat → Array Bool → Act → World → Prop
  | 0, listed, a, w => Region.ready md ops listed = [] ∧ Q .normal a w
  | fuel + 1, listed, a, w =>
    (Region.ready md ops listed = [] → Q .normal a w) ∧
    ∀ i ∈ Region.ready md ops listed, wpOp P ops Q i (fun a' w' => (i ≠ z → S w') ∧ wpAnyZ P md ops Q S z fuel (listed.setIfInBounds i true) a' w') a w
theorem wpAny_of_z {z : Nat} : ∀ (fuel : Nat) (listed : Array Bool) (a : Act) (w : World), wpAnyZ P md ops Q S z fuel listed a w → wpAny P md ops Q fuel listed a w
  | 0, _, _, _, h => h
  | fuel + 1, _, _, _, h => ⟨h.1, fun i hi => wpOp_mono (fun a' w' h' => wpAny_of_z fuel _ a' w' h'.2) (h.2 i hi)⟩
theorem wpAnyZ_first {z i : Nat} {oi oz : Oper} {v : Value} (hi : ops[i]? = some oi) (hz : ops[z]? = some oz) (hiz : i ≠ z) (hzi : ∃ e ∈ oz.after, Region.binds md e = true ∧ e.on = i) (hsel : ∀ (j : Nat) (o : Oper) cs b, ops[j]? = some o → o.op ≠ .select cs b)
    (hQ : ∀ c a w, Q (.panic c) (a.put oi.dst v) w → Q (.panic c) a w) :
    ∀ (fuel : Nat) (listed : Array Bool) (a : Act) (w : World),
      (∀ j oj, ops[j]? = some oj → j ≠ i → listed.getD j true = false → (∀ e ∈ oj.after, Region.binds md e = true → e.on ≠ i) → oi.apart ops oj = true) →
      i ∈ Region.ready md ops listed → YieldsIf P ops S oi v a → S w →
      wpAnyZ P md ops Q S z fuel (listed.setIfInBounds i true) (a.put oi.dst v) w → wpAnyZ P md ops Q S z (fuel + 1) listed a w := by
  intro fuel
  induction fuel with
  | zero =>
    intro listed a w _ hr hy hS H
    refine ⟨fun h => (by rw [h] at hr; cases hr), fun j hj => ?_⟩
    by_cases hji : j = i
    · subst hji; exact hy.wpOp hi hS ⟨fun _ => hS, H⟩
    · have := ready_mono hj hji
      rw [H.1] at this
      cases this
  | succ fuel ih =>
    intro listed a w hfree hr hy hS H
    refine ⟨fun h => (by rw [h] at hr; cases hr), fun j hj => ?_⟩
    by_cases hji : j = i
    · subst hji; exact hy.wpOp hi hS ⟨fun _ => hS, H⟩
    · have h1 := H.2 j (ready_mono hj hji)
      obtain ⟨hjun, oj, hoj, hall⟩ := mem_ready.1 hj
      have hnot : ∀ e ∈ oj.after, Region.binds md e = true → e.on ≠ i := fun e he hb heq => by
        have h1 := hall e he hb
        have h0 := (mem_ready.1 hr).1
        rw [heq] at h1
        rcases Nat.lt_or_ge i listed.size with h' | h'
        · simp [h'] at h0 h1; rw [h0] at h1; cases h1
        · simp [Array.getElem?_eq_none h'] at h1
      have hjz : j ≠ z := fun e => by
        subst e
        rw [hz] at hoj
        cases hoj
        obtain ⟨e, he, hb, heq⟩ := hzi
        exact hnot e he hb heq
      have h2 := wpOp_putIf hoj (hfree j oj hoj hji hjun hnot) (fun cs b => hsel i oi cs b hi) (fun cs b => hsel j oj cs b hoj) hQ hy h1
      have hfree' : ∀ k ok, ops[k]? = some ok → k ≠ i → (listed.setIfInBounds j true).getD k true = false →
          (∀ e ∈ ok.after, Region.binds md e = true → e.on ≠ i) → oi.apart ops ok = true := fun k ok hk hki hun hno => by
        refine hfree k ok hk hki ?_ hno
        by_cases hjk : j = k
        · subst hjk; exact hjun
        · rw [getD_set_ne true hjk] at hun; exact hun
      refine wpOp_mono (fun a' w' h3 => ⟨h3.2.1, ih (listed.setIfInBounds j true) a' w' hfree' (ready_mono hr (Ne.symm hji)) h3.1 (h3.2.1 hjz) ?_⟩) h2
      rw [Array.setIfInBounds_comm _ _ hji]
      exact h3.2.2
end
section
variable {P : Program} {l : List Oper} {md : Region.Mode} {Q : Exit → Act → World → Prop} {S : World → Prop}
/-- number z waits for number i -/
def zwaits (md : Region.Mode) (l : List Oper) (z i : Nat) : Bool := match l[z]? with
  | some oz => oz.after.toList.any fun e => Region.binds md e && decide (e.on = i)
  | none => false
theorem zwaits_spec {z i : Nat} (h : zwaits md l z i = true) : ∃ oz, l[z]? = some oz ∧ ∃ e ∈ oz.after, Region.binds md e = true ∧ e.on = i := by
  unfold zwaits at h
  cases hz : l[z]? with
  | none => rw [hz] at h; cases h
  | some oz =>
    rw [hz] at h
    simp only [List.any_eq_true, Bool.and_eq_true, decide_eq_true_eq] at h
    obtain ⟨e, he, h1, h2⟩ := h
    exact ⟨oz, rfl, e, by simpa using he, h1, h2⟩
theorem takeZ {z : Nat} {i : Nat} {oi : Oper} {v : Value} {fuel : Nat} {listed : Array Bool} {a : Act} {w : World} (hi : l[i]? = some oi) (hzw : zwaits md l z i = true) (hiz : i ≠ z)
    (hs : Region.noSelect l.toArray = true) (hf : Region.free md l.toArray listed i = true) (hr : (Region.ready md l.toArray listed).contains i = true)
    (hQ : ∀ c a w, Q (.panic c) (a.put oi.dst v) w → Q (.panic c) a w) (hw : Region.wanted oi (yielded l.toArray a.tmps) = true) (hy : ∀ w, S w → (execOp a.eval oi).run P w = .ok (.value v) w) (hS : S w)
    (h : wpAnyZ P md l.toArray Q S z fuel (listed.setIfInBounds i true) (a.put oi.dst v) w) : wpAnyZ P md l.toArray Q S z (fuel + 1) listed a w := by
  obtain ⟨oz, hz, hzi⟩ := zwaits_spec hzw
  exact wpAnyZ_first (by simpa using hi) (by simpa using hz) hiz hzi (Region.noSelect_spec hs) hQ fuel listed a w (Region.free_spec (by simpa using hi) hf) (by simpa using hr) (.inl ⟨hw, hy⟩) hS h
/-- one alone may come up -/
theorem aloneZ {z i : Nat} {o : Oper} {fuel : Nat} {listed : Array Bool} {a : Act} {w : World} (ho : l[i]? = some o) (hr : Region.ready md l.toArray listed = [i])
    (h : ∀ K' : Act → World → Prop, Shut (∀ a w, (i ≠ z → S w) → ((i ≠ z → S w) → wpAnyZ P md l.toArray Q S z fuel (listed.setIfInBounds i true) a w) → K' a w) → if Region.wanted o (yielded l.toArray a.tmps) = true then Oper.wp P o a w K' Q else K' (a.put o.dst undef) w) : wpAnyZ P md l.toArray Q S z (fuel + 1) listed a w := by
  refine ⟨fun h0 => absurd (hr ▸ h0) (by simp), hr ▸ fun j hj => ?_⟩
  obtain rfl : j = i := by simpa using hj
  exact wpOp_step (by simpa using ho) (fun K' hK => h K' (fun a w hS hW => hK a w ⟨hS, hW hS⟩))
theorem doneZ {z : Nat} {listed : Array Bool} {a : Act} {w : World} (hr : Region.ready md l.toArray listed = []) (h : Q .normal a w) : ∀ fuel, wpAnyZ P md l.toArray Q S z fuel listed a w
  | 0 => ⟨hr, h⟩
  | _ + 1 => ⟨fun _ => h, by rw [hr]; simp⟩
theorem wp_region_z (z : Nat) {id : Nat} {a : Act} {w : World} (hm : P.follows .mixedOrders = true) (hS : S w.drew)
    (h : S w.drew → wpAnyZ P .any l.toArray Q S z l.toArray.size (Array.replicate l.toArray.size false) a w.drew) : (Code.region id l.toArray true).wp P Q a w :=
  wp_region_any hm (wpAny_of_z _ _ _ _ (h hS))
end
end Go.Proofs.YtkgncijcnlfhiaaDoor

namespace Go.Proofs.YtkgncijcnlfhiaaDoor
set_option linter.unusedVariables false
set_option linter.unusedSimpArgs false
open Go.RowKit
inductive Rl where
  | bx | sh | co | fu | ex
  | sI (i : Nat) | fp (i : Nat) | fl (i : Nat) | fc (i : Nat)
structure LF where
  vp : Value
  vl : Value
  vc : Value
  f : PFunc
structure LX where
  s : ByteArray
  q : Int
def cF (e : LF) : List Value := [e.vp, .int .i64 e.f.result, e.vl, e.vc]
def cX (e : LX) : List Value := [.string e.s, .int .i64 e.q]
theorem cF_len (e : LF) : (cF e).length = 4 := rfl
theorem cX_len (e : LX) : (cX e).length = 2 := rfl
def LX.p (e : LX) : PExp := ⟨e.s.data.toList, e.q⟩
/-- a row of one's own, in a block of that role -/
def Ow (ρ : Nat → Rl) (r : Rl) (w : World) (B : Nat) (e : TypeId) (n : Nat) (v : Value) (len : Nat) (xs : List Value) : Prop := w.ownsRow B e n v len xs ∧ ∀ k, v.ownBlock = some k → ρ k = r
/-- only blocks of role r0 turn, and no role does -/
def Mv (B : Nat) (r0 : Rl) (w w' : World) (ρ ρ' : Nat → Rl) : Prop := w.heap.size ≤ w'.heap.size ∧ ∀ k, k < w.heap.size → B ≤ k → ρ' k = ρ k ∧ (ρ k ≠ r0 → w'.heap[k]? = w.heap[k]?)
theorem own_at_ {w w' : World} {B : Nat} {e : TypeId} {n len : Nat} {v : Value} {xs : List Value} (h : w.ownsRow B e n v len xs) (g : ∀ k, v.ownBlock = some k → w'.heap[k]? = w.heap[k]?) : w'.ownsRow B e n v len xs := by
  refine ⟨h.1, ?_⟩
  rcases h.2 with h | ⟨b, cap, cur, e1, e2, e3, r⟩
  · exact .inl h
  · exact .inr ⟨b, cap, cur, e1, e2, (g b (by rw [e1]; rfl)).trans e3, r⟩
theorem Ow.mv {ρ ρ' : Nat → Rl} {r r0 : Rl} {w w' : World} {B : Nat} {e : TypeId} {n len : Nat} {v : Value} {xs : List Value} (h : Ow ρ r w B e n v len xs) (m : Mv B r0 w w' ρ ρ') (hr : r ≠ r0) : Ow ρ' r w' B e n v len xs := by
  refine ⟨own_at_ h.1 fun k hk => ?_, fun k hk => ?_⟩
  · obtain ⟨h1, h2⟩ := h.1.lt k hk
    exact (m.2 k h2 h1).2 (by rw [h.2 k hk]; exact hr)
  · obtain ⟨h1, h2⟩ := h.1.lt k hk
    rw [(m.2 k h2 h1).1]; exact h.2 k hk
theorem Mv.gr {B : Nat} {r0 : Rl} {w w' : World} {ρ : Nat → Rl} (g : Gr w w') : Mv B r0 w w' ρ ρ := ⟨g.size, fun k hk _ => ⟨rfl, fun _ => g.block k hk (by simp)⟩⟩
structure JA (B ab : Nat) (w : World) (v1 v2 v3 v5 : Value) (es1 : List (Value × List Int)) (cs : List Int) (es3 : List LF) (es5 : List LX) (ρ : Nat → Rl) : Prop where
  box : w.heap[ab]? = some (.cells #[v1, v2, v3, .slice none 0 0, v5] 28 (0, 0))
  ab : ab < B
  bs : B ≤ w.heap.size
  o1 : Ow ρ .sh w B 23 1 v1 es1.length (es1.map (·.1))
  o1i : ∀ i e, es1[i]? = some e → Ow ρ (.sI i) w B 3 1 e.1 e.2.length (ivL e.2)
  o2 : Ow ρ .co w B 3 1 v2 cs.length (ivL cs)
  o3 : Ow ρ .fu w B 76 4 v3 es3.length (es3.flatMap cF)
  o3i : ∀ i e, es3[i]? = some e → Ow ρ (.fp i) w B 3 1 e.vp e.f.params.length (ivL e.f.params) ∧ Ow ρ (.fl i) w B 3 1 e.vl e.f.locals.length (ivL e.f.locals) ∧ Ow ρ (.fc i) w B 91 3 e.vc e.f.code.length (e.f.code.flatMap cC)
  o5 : Ow ρ .ex w B 81 2 v5 es5.length (es5.flatMap cX)
/-- new blocks alone, of whatever role -/
theorem JA.step {B ab : Nat} {w w' : World} {v1 v2 v3 v5 : Value} {es1 : List (Value × List Int)} {cs : List Int} {es3 : List LF} {es5 : List LX} {ρ ρ' : Nat → Rl} (h : JA B ab w v1 v2 v3 v5 es1 cs es3 es5 ρ) (g : Gr w w') (hρ : ∀ k, k < w.heap.size → ρ' k = ρ k) : JA B ab w' v1 v2 v3 v5 es1 cs es3 es5 ρ' := by
  have m : ∀ r0, Mv B r0 w w' ρ ρ' := fun r0 => ⟨g.size, fun k hk _ => ⟨hρ k hk, fun _ => g.block k hk (by simp)⟩⟩
  have hab : ab < w.heap.size := by have := h.ab; have := h.bs; omega
  exact ⟨(g.block ab hab (by simp)).trans h.box, h.ab, Nat.le_trans h.bs g.size, h.o1.mv (m .bx) nofun, fun i e he => (h.o1i i e he).mv (m .bx) nofun, h.o2.mv (m .bx) nofun, h.o3.mv (m .bx) nofun, fun i e he => ⟨(h.o3i i e he).1.mv (m .bx) nofun, (h.o3i i e he).2.1.mv (m .bx) nofun, (h.o3i i e he).2.2.mv (m .bx) nofun⟩, h.o5.mv (m .bx) nofun⟩
/-- the world behind an append to a list of role r0 and a store into the box -/
theorem mv_app {B ab o : Nat} {r0 : Rl} {w w2 w3 : World} {v v' : Value} {ρ ν : Nat → Rl} (g : Gr w w2) (g3 : w2.grownBy w3 v.ownBlock) (hv : ∀ k, v.ownBlock = some k → ρ k = r0) (hab : ab < B) : Mv B r0 w (w3.setCell ⟨ab, o, none⟩ v') ρ (fun k => if k < w.heap.size then ρ k else ν k) := by
  refine ⟨by have := g.size; have := g3.size; simp; omega, fun k hk hB => ⟨if_pos hk, fun hr => ?_⟩⟩
  rw [Below.heap_setCell _ _ _ _ (by show k ≠ ab; omega), g3.block k (Nat.lt_of_lt_of_le hk g.size) (fun e => hr (hv k e.symm)), g.block k hk (by simp)]
/-- the list itself -/
theorem ow_app {B ab o : Nat} {r0 : Rl} {w w2 w3 : World} {v v' : Value} {ρ ν : Nat → Rl} {e : TypeId} {n len : Nat} {xs : List Value} (g : Gr w w2) (ho : w3.ownsRow B e n v' len xs) (hl : v'.ownBlock = v.ownBlock ∨ v'.ownBlock = some w2.heap.size) (hv : ∀ k, v.ownBlock = some k → ρ k = r0 ∧ k < w.heap.size) (hν : ∀ k, w.heap.size ≤ k → v'.ownBlock = some k → ν k = r0) (hab : ab < B) : Ow (fun k => if k < w.heap.size then ρ k else ν k) r0 (w3.setCell ⟨ab, o, none⟩ v') B e n v' len xs := by
  refine ⟨own_at_ ho fun k hk => Below.heap_setCell _ _ _ _ (by show k ≠ ab; have := (ho.lt k hk).1; omega), fun k hk => ?_⟩
  rcases hl with e | e
  · rw [hk] at e
    obtain ⟨h1, h2⟩ := hv k e.symm
    show (if k < w.heap.size then ρ k else ν k) = r0
    rw [if_pos h2]; exact h1
  · rw [hk] at e
    obtain rfl := Option.some.inj e
    have : ¬ w2.heap.size < w.heap.size := by have := g.size; omega
    show (if w2.heap.size < w.heap.size then ρ w2.heap.size else ν w2.heap.size) = r0
    rw [if_neg this]; exact hν _ (by omega) hk
/-- a new list beside it -/
theorem ow_new {B ab o b : Nat} {r : Rl} {w w2 w3 : World} {v v' x : Value} {ρ ν : Nat → Rl} {e : TypeId} {n len : Nat} {xs : List Value} (g3 : w2.grownBy w3 v.ownBlock) (hx : w2.ownsRow b e n x len xs) (hb : w.heap.size ≤ b) (hBb : B ≤ b) (hv : ∀ k, v.ownBlock = some k → k < w.heap.size) (hν : ∀ k, x.ownBlock = some k → ν k = r) (hab : ab < B) : Ow (fun k => if k < w.heap.size then ρ k else ν k) r (w3.setCell ⟨ab, o, none⟩ v') B e n x len xs := by
  refine ⟨?_, fun k hk => ?_⟩
  · refine own_at_ (ownbase hx hBb) fun k hk => ?_
    obtain ⟨h1, h2⟩ := hx.lt k hk
    rw [Below.heap_setCell _ _ _ _ (by show k ≠ ab; omega), g3.block k h2 (fun e => by have := hv k e.symm; omega)]
  · have := (hx.lt k hk).1
    show (if k < w.heap.size then ρ k else ν k) = r
    rw [if_neg (by omega)]; exact hν k hk
theorem box_put {w2 w3 : World} {ab o : Nat} {ob : Option Nat} {cur : Array Value} {t : TypeId} {u : Value} (hb : w2.heap[ab]? = some (.cells cur t (0, 0))) (g3 : w2.grownBy w3 ob) (hne : ob ≠ some ab) : (w3.setCell ⟨ab, o, none⟩ u).heap[ab]? = some (.cells (cur.setIfInBounds o u) t (0, 0)) :=
  heap_setCell_same w3 ab o cur t u ((g3.block ab (Array.getElem?_eq_some_iff.1 hb).1 (fun e => hne e.symm)).trans hb)
section
variable {B ab : Nat} {w w2 w3 : World} {v1 v2 v3 v5 : Value} {es1 : List (Value × List Int)} {cs : List Int} {es3 : List LF} {es5 : List LX} {ρ : Nat → Rl}
theorem own_no {B ab : Nat} {w : World} {e : TypeId} {n len : Nat} {v : Value} {xs : List Value} (h : w.ownsRow B e n v len xs) (hab : ab < B) : v.ownBlock ≠ some ab := fun e => by have := (h.lt ab e).1; omega
/-- a shape more -/
theorem JA.put1 (h : JA B ab w v1 v2 v3 v5 es1 cs es3 es5 ρ) (g : Gr w w2) {vx : Value} {l : List Int} {b : Nat} (hx : w2.ownsRow b 3 1 vx l.length (ivL l)) (hb : w.heap.size ≤ b) {v' : Value} (ho : w3.ownsRow B 23 1 v' (es1.length + 1) (es1.map (·.1) ++ [vx])) (g3 : w2.grownBy w3 v1.ownBlock) (hl : v'.ownBlock = v1.ownBlock ∨ v'.ownBlock = some w2.heap.size) :
    ∃ ρ', JA B ab (w3.setCell ⟨ab, 0, none⟩ v') v' v2 v3 v5 (es1 ++ [(vx, l)]) cs es3 es5 ρ' ∧ Mv B .sh w (w3.setCell ⟨ab, 0, none⟩ v') ρ ρ' := by
  have hvl : ∀ k, v1.ownBlock = some k → k < w.heap.size := fun k hk => (h.o1.1.lt k hk).2
  have hab := h.ab
  have m : Mv B .sh w (w3.setCell ⟨ab, 0, none⟩ v') ρ (fun k => if k < w.heap.size then ρ k else if v'.ownBlock = some k then .sh else .sI es1.length) := mv_app g g3 h.o1.2 hab
  have hbx := (g.block ab (by have := h.bs; omega) (by simp)).trans h.box
  refine ⟨_, ⟨?_, hab, Nat.le_trans h.bs m.1, ?_, ?_, h.o2.mv m nofun, h.o3.mv m nofun, fun i e he => ⟨(h.o3i i e he).1.mv m nofun, (h.o3i i e he).2.1.mv m nofun, (h.o3i i e he).2.2.mv m nofun⟩, h.o5.mv m nofun⟩, m⟩
  · exact (box_put hbx g3 (own_no h.o1.1 hab)).trans (by simp)
  · have := ow_app (ab := ab) (o := 0) (ρ := ρ) (ν := fun k => if v'.ownBlock = some k then .sh else .sI es1.length) g ho hl (fun k hk => ⟨h.o1.2 k hk, hvl k hk⟩) (fun k _ hk => if_pos hk) hab
    simpa using this
  · intro i e he
    by_cases hi : i < es1.length
    · rw [List.getElem?_append_left hi] at he
      exact (h.o1i i e he).mv m nofun
    · rw [List.getElem?_append_right (by omega)] at he
      by_cases h0 : i - es1.length = 0
      · rw [h0] at he
        simp only [List.getElem?_cons_zero, Option.some.injEq] at he
        subst he
        have hi2 : i = es1.length := by omega
        subst hi2
        refine ow_new g3 hx hb (Nat.le_trans h.bs hb) hvl (fun k hk => ?_) hab
        refine if_neg fun e => ?_
        obtain ⟨q1, q2⟩ := hx.lt k hk
        rcases hl with e2 | e2
        · have := hvl k (e2.symm.trans e); omega
        · rw [e] at e2; have := Option.some.inj e2; omega
      · rw [List.getElem?_eq_none (by simp; omega)] at he; cases he
/-- consts more -/
theorem JA.put2 (h : JA B ab w v1 v2 v3 v5 es1 cs es3 es5 ρ) (g : Gr w w2) {l : List Int} {v' : Value} (ho : w3.ownsRow B 3 1 v' (cs.length + l.length) (ivL cs ++ ivL l)) (g3 : w2.grownBy w3 v2.ownBlock) (hl : v'.ownBlock = v2.ownBlock ∨ v'.ownBlock = some w2.heap.size) :
    ∃ ρ', JA B ab (w3.setCell ⟨ab, 1, none⟩ v') v1 v' v3 v5 es1 (cs ++ l) es3 es5 ρ' ∧ Mv B .co w (w3.setCell ⟨ab, 1, none⟩ v') ρ ρ' := by
  have hvl : ∀ k, v2.ownBlock = some k → k < w.heap.size := fun k hk => (h.o2.1.lt k hk).2
  have hab := h.ab
  have m : Mv B .co w (w3.setCell ⟨ab, 1, none⟩ v') ρ (fun k => if k < w.heap.size then ρ k else .co) := mv_app (ν := fun _ => .co) g g3 h.o2.2 hab
  have hbx := (g.block ab (by have := h.bs; omega) (by simp)).trans h.box
  refine ⟨_, ⟨?_, hab, Nat.le_trans h.bs m.1, h.o1.mv m nofun, fun i e he => (h.o1i i e he).mv m nofun, ?_, h.o3.mv m nofun, fun i e he => ⟨(h.o3i i e he).1.mv m nofun, (h.o3i i e he).2.1.mv m nofun, (h.o3i i e he).2.2.mv m nofun⟩, h.o5.mv m nofun⟩, m⟩
  · exact (box_put hbx g3 (own_no h.o2.1 hab)).trans (by simp)
  · have := ow_app (ab := ab) (o := 1) (ρ := ρ) (ν := fun _ => .co) g ho hl (fun k hk => ⟨h.o2.2 k hk, hvl k hk⟩) (fun k _ hk => rfl) hab
    simpa [ivL] using this
/-- a function more -/
theorem JA.put3 (h : JA B ab w v1 v2 v3 v5 es1 cs es3 es5 ρ) (g : Gr w w2) {e : LF} {b : Nat} (hp : w2.ownsRow b 3 1 e.vp e.f.params.length (ivL e.f.params)) (hlc : w2.ownsRow b 3 1 e.vl e.f.locals.length (ivL e.f.locals)) (hc : w2.ownsRow b 91 3 e.vc e.f.code.length (e.f.code.flatMap cC)) (a1 : Apt e.vp e.vl) (a2 : Apt e.vp e.vc) (a3 : Apt e.vl e.vc) (hb : w.heap.size ≤ b) {v' : Value} (ho : w3.ownsRow B 76 4 v' (es3.length + 1) (es3.flatMap cF ++ cF e)) (g3 : w2.grownBy w3 v3.ownBlock) (hl : v'.ownBlock = v3.ownBlock ∨ v'.ownBlock = some w2.heap.size) :
    ∃ ρ', JA B ab (w3.setCell ⟨ab, 2, none⟩ v') v1 v2 v' v5 es1 cs (es3 ++ [e]) es5 ρ' ∧ Mv B .fu w (w3.setCell ⟨ab, 2, none⟩ v') ρ ρ' := by
  have hvl : ∀ k, v3.ownBlock = some k → k < w.heap.size := fun k hk => (h.o3.1.lt k hk).2
  have hab := h.ab
  obtain ⟨ν, hν⟩ : ∃ ν : Nat → Rl, ν = fun k => if v'.ownBlock = some k then .fu else if e.vp.ownBlock = some k then .fp es3.length else if e.vl.ownBlock = some k then .fl es3.length else .fc es3.length := ⟨_, rfl⟩
  have m : Mv B .fu w (w3.setCell ⟨ab, 2, none⟩ v') ρ (fun k => if k < w.heap.size then ρ k else ν k) := mv_app g g3 h.o3.2 hab
  have hbx := (g.block ab (by have := h.bs; omega) (by simp)).trans h.box
  have hno : ∀ (x : Value) (t : TypeId) (n len : Nat) (xs : List Value), w2.ownsRow b t n x len xs → ∀ k, x.ownBlock = some k → ¬ v'.ownBlock = some k := fun x t n len xs hx k hk e => by
    obtain ⟨q1, q2⟩ := hx.lt k hk
    rcases hl with e2 | e2
    · have := hvl k (e2.symm.trans e); omega
    · rw [e] at e2; have := Option.some.inj e2; omega
  refine ⟨_, ⟨?_, hab, Nat.le_trans h.bs m.1, h.o1.mv m nofun, fun i e he => (h.o1i i e he).mv m nofun, h.o2.mv m nofun, ?_, ?_, h.o5.mv m nofun⟩, m⟩
  · exact (box_put hbx g3 (own_no h.o3.1 hab)).trans (by simp)
  · have := ow_app (ab := ab) (o := 2) (ρ := ρ) (ν := ν) g ho hl (fun k hk => ⟨h.o3.2 k hk, hvl k hk⟩) (fun k _ hk => by rw [hν]; exact if_pos hk) hab
    simpa using this
  · intro i x hx
    by_cases hi : i < es3.length
    · rw [List.getElem?_append_left hi] at hx
      exact ⟨(h.o3i i x hx).1.mv m nofun, (h.o3i i x hx).2.1.mv m nofun, (h.o3i i x hx).2.2.mv m nofun⟩
    · rw [List.getElem?_append_right (by omega)] at hx
      by_cases h0 : i - es3.length = 0
      · rw [h0] at hx
        simp only [List.getElem?_cons_zero, Option.some.injEq] at hx
        subst hx
        have hi2 : i = es3.length := by omega
        subst hi2
        have hBb := Nat.le_trans h.bs hb
        refine ⟨ow_new g3 hp hb hBb hvl (fun k hk => ?_) hab, ow_new g3 hlc hb hBb hvl (fun k hk => ?_) hab, ow_new g3 hc hb hBb hvl (fun k hk => ?_) hab⟩
        · rw [hν]; simp only [if_neg (hno _ _ _ _ _ hp k hk), if_pos hk]
        · rw [hν]; simp only [if_neg (hno _ _ _ _ _ hlc k hk), if_neg (a1.symm k hk), if_pos hk]
        · rw [hν]; simp only [if_neg (hno _ _ _ _ _ hc k hk), if_neg (a2.symm k hk), if_neg (a3.symm k hk)]
      · rw [List.getElem?_eq_none (by simp; omega)] at hx; cases hx
/-- an export more -/
theorem JA.put5 (h : JA B ab w v1 v2 v3 v5 es1 cs es3 es5 ρ) (g : Gr w w2) {e : LX} {v' : Value} (ho : w3.ownsRow B 81 2 v' (es5.length + 1) (es5.flatMap cX ++ cX e)) (g3 : w2.grownBy w3 v5.ownBlock) (hl : v'.ownBlock = v5.ownBlock ∨ v'.ownBlock = some w2.heap.size) :
    ∃ ρ', JA B ab (w3.setCell ⟨ab, 4, none⟩ v') v1 v2 v3 v' es1 cs es3 (es5 ++ [e]) ρ' ∧ Mv B .ex w (w3.setCell ⟨ab, 4, none⟩ v') ρ ρ' := by
  have hvl : ∀ k, v5.ownBlock = some k → k < w.heap.size := fun k hk => (h.o5.1.lt k hk).2
  have hab := h.ab
  have m : Mv B .ex w (w3.setCell ⟨ab, 4, none⟩ v') ρ (fun k => if k < w.heap.size then ρ k else .ex) := mv_app (ν := fun _ => .ex) g g3 h.o5.2 hab
  have hbx := (g.block ab (by have := h.bs; omega) (by simp)).trans h.box
  refine ⟨_, ⟨?_, hab, Nat.le_trans h.bs m.1, h.o1.mv m nofun, fun i e he => (h.o1i i e he).mv m nofun, h.o2.mv m nofun, h.o3.mv m nofun, fun i e he => ⟨(h.o3i i e he).1.mv m nofun, (h.o3i i e he).2.1.mv m nofun, (h.o3i i e he).2.2.mv m nofun⟩, ?_⟩, m⟩
  · exact (box_put hbx g3 (own_no h.o5.1 hab)).trans (by simp)
  · have := ow_app (ab := ab) (o := 4) (ρ := ρ) (ν := fun _ => .ex) g ho hl (fun k hk => ⟨h.o5.2 k hk, hvl k hk⟩) (fun k _ hk => rfl) hab
    simpa using this
end
end Go.Proofs.YtkgncijcnlfhiaaDoor

