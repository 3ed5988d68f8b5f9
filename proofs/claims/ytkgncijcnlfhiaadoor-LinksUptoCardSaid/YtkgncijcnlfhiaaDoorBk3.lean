import Derived.Test.YtkgncijcnlfhiaaDoorBk1
import Derived.Test.YtkgncijcnlfhiaaDoorH5
namespace Go.Proofs.YtkgncijcnlfhiaaDoor
set_option linter.unusedVariables false
set_option linter.unusedSimpArgs false
open Go.RowKit
inductive BR where
  | no | row (i : Nat) | dn | ls (k i : Nat) deriving DecidableEq
def bT : Nat → TypeId
  | 2 => 23
  | 3 => 3
  | 4 => 74
  | 5 => 3
  | 6 => 24
  | 7 => 22
  | 8 => 26
  | 9 => 25
  | _ => 3
def OwR (ρ : Nat → BR) (r : BR) (w : World) (B : Nat) (e : TypeId) (n : Nat) (v : Value) (len : Nat) (xs : List Value) : Prop := w.ownsRow B e n v len xs ∧ ∀ k, v.ownBlock = some k → ρ k = r
/-- but for db only blocks of a role in A turn; no role does -/
structure MvR (db : Nat) (A : BR → Prop) (w w' : World) (ρ ρ' : Nat → BR) : Prop where
  size : w.heap.size ≤ w'.heap.size
  old : ∀ k, k < w.heap.size → ρ' k = ρ k
  blk : ∀ k, k < w.heap.size → k ≠ db → ¬ A (ρ k) → w'.heap[k]? = w.heap[k]?
  new : ∀ k, w.heap.size ≤ k → ρ' k ≠ .no → k < w'.heap.size
  env : w'.os = w.os ∧ w'.tape = w.tape ∧ w'.output = w.output
theorem MvR.trans {db : Nat} {A : BR → Prop} {w w1 w2 : World} {ρ ρ1 ρ2 : Nat → BR} (h : MvR db A w w1 ρ ρ1) (k : MvR db A w1 w2 ρ1 ρ2) : MvR db A w w2 ρ ρ2 := by
  refine ⟨Nat.le_trans h.size k.size, fun i hi => ?_, fun i hi hd hA => ?_, fun i hi hn => ?_, k.env.1.trans h.env.1, k.env.2.1.trans h.env.2.1, k.env.2.2.trans h.env.2.2⟩
  · rw [k.old i (Nat.lt_of_lt_of_le hi h.size), h.old i hi]
  · rw [k.blk i (Nat.lt_of_lt_of_le hi h.size) hd (by rw [h.old i hi]; exact hA), h.blk i hi hd hA]
  · by_cases h1 : i < w1.heap.size
    · exact Nat.lt_of_lt_of_le h1 k.size
    · exact k.new i (by omega) hn
theorem MvR.mono {db : Nat} {A A' : BR → Prop} {w w1 : World} {ρ ρ1 : Nat → BR} (h : MvR db A w w1 ρ ρ1) (hA : ∀ r, A r → A' r) : MvR db A' w w1 ρ ρ1 :=
  ⟨h.size, h.old, fun i hi hd hn => h.blk i hi hd (fun e => hn (hA _ e)), h.new, h.env⟩
theorem OwR.mv {db : Nat} {A : BR → Prop} {ρ ρ' : Nat → BR} {r : BR} {w w' : World} {e : TypeId} {n len : Nat} {v : Value} {xs : List Value} (h : OwR ρ r w (db + 1) e n v len xs) (m : MvR db A w w' ρ ρ') (hr : ¬ A r) : OwR ρ' r w' (db + 1) e n v len xs := by
  refine ⟨ownsRow_same h.1 fun k hk => ?_, fun k hk => ?_⟩
  · obtain ⟨h1, h2⟩ := h.1.lt k hk
    exact m.blk k h2 (by omega) (by rw [h.2 k hk]; exact hr)
  · rw [m.old k (h.1.lt k hk).2]; exact h.2 k hk
structure BookS (db : Nat) (w : World) (vo : Value) (n : Int) (V : Nat → Value) (X : Nat → List Value) (ρ : Nat → BR) : Prop where
  box : w.heap[db]? = some (.cells #[vo, .int .i64 n, V 2, V 3, V 4, V 5, V 6, V 7, V 8, V 9, V 10] 39 (0, 0))
  row : ∀ i, 2 ≤ i → i ≤ 10 → OwR ρ (.row i) w (db + 1) (bT i) 1 (V i) (X i).length (X i)
  pl : ∀ b, ρ b ≠ .no → db < b ∧ b < w.heap.size
theorem BookS.lt {db : Nat} {w : World} {vo : Value} {n : Int} {V : Nat → Value} {X : Nat → List Value} {ρ : Nat → BR} (h : BookS db w vo n V X ρ) : db < w.heap.size := (Array.getElem?_eq_some_iff.1 h.box).1
theorem BookS.mv {db : Nat} {A : BR → Prop} {w w' : World} {vo : Value} {n : Int} {V : Nat → Value} {X : Nat → List Value} {ρ ρ' : Nat → BR} (h : BookS db w vo n V X ρ) (m : MvR db A w w' ρ ρ') (hA : ∀ i, ¬ A (.row i)) (hb : w'.heap[db]? = w.heap[db]?) : BookS db w' vo n V X ρ' := by
  refine ⟨hb.trans h.box, fun i h1 h2 => (h.row i h1 h2).mv m (hA i), fun b hb => ?_⟩
  by_cases hl : b < w.heap.size
  · rw [m.old b hl] at hb
    exact ⟨(h.pl b hb).1, Nat.lt_of_lt_of_le hl m.size⟩
  · exact ⟨by have := h.lt; omega, m.new b (by omega) hb⟩
/-- the roles behind an append -/
def grw (s : Nat) (v : Value) (r : BR) (ρ : Nat → BR) (k : Nat) : BR := if k < s then ρ k else if v.ownBlock = some k then r else .no
theorem mv_ap {db : Nat} {r : BR} {w w1 : World} {v v' : Value} {ρ : Nat → BR} {e : TypeId} {sz L : Nat} {xs : List Value} (hap : Ap (db + 1) e sz w v w1 v' L xs) (hr : ∀ k, v.ownBlock = some k → ρ k = r) : MvR db (· = r) w w1 ρ (grw w.heap.size v' r ρ) := by
  refine ⟨hap.frm.size, fun k hk => if_pos hk, fun k hk hd hA => hap.frm.block k hk (fun e => hA (hr k e.symm)), fun k hk hn => ?_, hap.frm.os, hap.frm.tape, hap.frm.output⟩
  unfold grw at hn
  rw [if_neg (by omega)] at hn
  by_cases e : v'.ownBlock = some k
  · exact (hap.own.lt k e).2
  · rw [if_neg e] at hn; exact absurd rfl hn
theorem OwR.app {db : Nat} {r : BR} {w w1 : World} {v v' : Value} {ρ : Nat → BR} {e : TypeId} {sz L : Nat} {xs ys : List Value} (h : OwR ρ r w (db + 1) e sz v L xs) (hap : Ap (db + 1) e sz w v w1 v' (L + 1) ys) : OwR (grw w.heap.size v' r ρ) r w1 (db + 1) e sz v' (L + 1) ys := by
  refine ⟨hap.own, fun k hk => ?_⟩
  unfold grw
  rcases hap.lies k hk with e | e
  · rw [if_pos (h.1.lt k e).2]; exact h.2 k e
  · rw [if_neg (by omega), if_pos hk]
def upb {α : Type} (V : Nat → α) (i : Nat) (v : α) (j : Nat) : α := if j = i then v else V j
theorem BookS.app {db : Nat} {w w1 : World} {vo : Value} {n : Int} {V : Nat → Value} {X : Nat → List Value} {ρ : Nat → BR} (h : BookS db w vo n V X ρ) {i : Nat} (h2 : 2 ≤ i) (h10 : i ≤ 10) {v' y : Value} (hap : Ap (db + 1) (bT i) 1 w (V i) w1 v' ((X i).length + 1) (X i ++ [y])) :
    BookS db (w1.setCell ⟨db, i, none⟩ v') vo n (upb V i v') (upb X i (X i ++ [y])) (grw w.heap.size v' (.row i) ρ) ∧ MvR db (· = .row i) w (w1.setCell ⟨db, i, none⟩ v') ρ (grw w.heap.size v' (.row i) ρ) := by
  have hdl := h.lt
  have m1 : MvR db (· = .row i) w w1 ρ (grw w.heap.size v' (.row i) ρ) := mv_ap hap (h.row i h2 h10).2
  have hne : ∀ k, ¬ k = db → (w1.setCell ⟨db, i, none⟩ v').heap[k]? = w1.heap[k]? := fun k hk => Below.heap_setCell _ _ _ _ hk
  have m : MvR db (· = .row i) w (w1.setCell ⟨db, i, none⟩ v') ρ (grw w.heap.size v' (.row i) ρ) :=
    ⟨by simpa using m1.size, m1.old, fun k hk hd hA => (hne k hd).trans (m1.blk k hk hd hA), fun k hk hn => by simpa using m1.new k hk hn, m1.env⟩
  refine ⟨⟨?_, fun j j2 j10 => ?_, fun b hb => ?_⟩, m⟩
  · have hb1 : w1.heap[db]? = w.heap[db]? := hap.frm.block db hdl (fun e => by have := ((h.row i h2 h10).1.lt db e.symm).1; omega)
    rw [heap_set (o := i) (v := v') (hb1.trans h.box)]
    have hc : i = 2 ∨ i = 3 ∨ i = 4 ∨ i = 5 ∨ i = 6 ∨ i = 7 ∨ i = 8 ∨ i = 9 ∨ i = 10 := by omega
    rcases hc with rfl | rfl | rfl | rfl | rfl | rfl | rfl | rfl | rfl <;> simp [upb]
  · by_cases e : j = i
    · subst e
      have := (h.row j j2 j10).app hap
      refine ⟨?_, ?_⟩
      · have k := ownsRow_same this.1 (w' := w1.setCell ⟨db, j, none⟩ v') fun q hq => hne q (by have := (this.1.lt q hq).1; omega)
        simpa [upb] using k
      · simpa [upb] using this.2
    · have := (h.row j j2 j10).mv m (fun x => e (by injection x))
      simpa [upb, e] using this
  · by_cases hl : b < w.heap.size
    · rw [m.old b hl] at hb
      exact ⟨(h.pl b hb).1, Nat.lt_of_lt_of_le hl m.size⟩
    · exact ⟨by omega, m.new b (by omega) hb⟩
/-- a number more -/
theorem BookS.count {db : Nat} {w : World} {vo : Value} {n m : Int} {V : Nat → Value} {X : Nat → List Value} {ρ : Nat → BR} (h : BookS db w vo n V X ρ) : BookS db (w.setCell ⟨db, 1, none⟩ (.int .i64 m)) vo m V X ρ ∧ MvR db (fun _ => False) w (w.setCell ⟨db, 1, none⟩ (.int .i64 m)) ρ ρ := by
  have hne : ∀ k, ¬ k = db → (w.setCell ⟨db, 1, none⟩ (.int .i64 m)).heap[k]? = w.heap[k]? := fun k hk => Below.heap_setCell _ _ _ _ hk
  have hm : MvR db (fun _ => False) w (w.setCell ⟨db, 1, none⟩ (.int .i64 m)) ρ ρ := ⟨by simp, fun _ _ => rfl, fun k _ hd _ => hne k hd, fun k hk hn => by have := (h.pl k hn).2; omega, rfl, rfl, rfl⟩
  refine ⟨⟨?_, fun i h1 h2 => (h.row i h1 h2).mv hm id, fun b hb => by simpa using h.pl b hb⟩, hm⟩
  rw [heap_set (o := 1) (v := .int .i64 m) h.box]; simp
/-- a cell of a row of one's own -/
theorem own_set {w : World} {B : Nat} {e : TypeId} {n len : Nat} {v : Value} {xs : List Value} (h : w.ownsRow B e n v len xs) {g : Nat} (hg : v.ownBlock = some g) (j : Nat) (hj : j < len * n) (y : Value) : (w.setCell ⟨g, j, none⟩ y).ownsRow B e n v len (xs.set j y) := by
  refine ⟨by rw [List.length_set]; exact h.1, ?_⟩
  rcases h.2 with ⟨rfl, _⟩ | ⟨g', cap, cur, rfl, h2, h3, h4, h5, h6, h7⟩
  · simp [Value.ownBlock] at hg
  · obtain rfl := Option.some.inj hg
    refine .inr ⟨g', cap, _, rfl, h2, heap_set h3, h4, h5, by simpa using h6, ?_⟩
    rw [← h7, Array.toList_setIfInBounds, List.take_set]
theorem OwR.set {db : Nat} {ρ : Nat → BR} {r : BR} {w : World} {e : TypeId} {n len : Nat} {v : Value} {xs : List Value} (h : OwR ρ r w (db + 1) e n v len xs) {g : Nat} (hg : v.ownBlock = some g) (j : Nat) (hj : j < len * n) (y : Value) (hp : ∀ b, ρ b ≠ .no → b < w.heap.size) : OwR ρ r (w.setCell ⟨g, j, none⟩ y) (db + 1) e n v len (xs.set j y) ∧ MvR db (· = r) w (w.setCell ⟨g, j, none⟩ y) ρ ρ :=
  ⟨⟨own_set h.1 hg j hj y, h.2⟩, by simp, fun _ _ => rfl, fun k _ _ hA => Below.heap_setCell _ _ _ _ (fun e => hA (by show ρ k = r; rw [e]; exact h.2 g hg)), fun k hk hn => by have := hp k hn; omega, rfl, rfl, rfl⟩
/-- a list that was pushed, of a role -/
def EntR (ρ : Nat → BR) (r : BR) (sz : Nat) (w : World) (v : Value) (L : Nat) (xs : List Value) : Prop := Ent sz w v L xs ∧ ∀ b, v.ownBlock = some b → ρ b = r ∧ b < w.heap.size
theorem EntR.of {ρ : Nat → BR} {r : BR} {w : World} {B : Nat} {e : TypeId} {sz : Nat} {v : Value} {L : Nat} {xs : List Value} (h : OwR ρ r w B e sz v L xs) : EntR ρ r sz w v L xs := ⟨.of_own h.1, fun b hb => ⟨h.2 b hb, (h.1.lt b hb).2⟩⟩
theorem EntR.mv {db : Nat} {A : BR → Prop} {ρ ρ' : Nat → BR} {r : BR} {w w' : World} {sz : Nat} {v : Value} {L : Nat} {xs : List Value} (h : EntR ρ r sz w v L xs) (m : MvR db A w w' ρ ρ') (hr : ¬ A r) (hd : ρ db ≠ r) : EntR ρ' r sz w' v L xs :=
  ⟨h.1.keep fun b hb => m.blk b (h.2 b hb).2 (fun e => hd (by rw [← e]; exact (h.2 b hb).1)) (by rw [(h.2 b hb).1]; exact hr), fun b hb => ⟨by rw [m.old b (h.2 b hb).2]; exact (h.2 b hb).1, Nat.lt_of_lt_of_le (h.2 b hb).2 m.size⟩⟩
theorem EntR.app {db : Nat} {ρ : Nat → BR} {r : BR} {w w' : World} {e : TypeId} {sz : Nat} {v v' x : Value} {L Le : Nat} {xs xe ys : List Value} (h : EntR ρ r sz w x Le xe) (hp : xe <+: xs) (hown : w.ownsRow (db + 1) e sz v L xs) (hap : Ap (db + 1) e sz w v w' v' (L + 1) (xs ++ ys)) (hk : v'.ownBlock = v.ownBlock ∨ w.grownBy w' none) : EntR (grw w.heap.size v' r ρ) r sz w' x Le xe :=
  ⟨h.1.app hp hown hap.own hap.frm hk, fun b hb => ⟨by unfold grw; rw [if_pos (h.2 b hb).2]; exact (h.2 b hb).1, Nat.lt_of_lt_of_le (h.2 b hb).2 hap.frm.size⟩⟩
/-- what was written in the book reads so -/
structure BookE (w : World) (ρ : Nat → BR) (X : Nat → List Value) : Prop where
  i : ∃ I : List (Value × Nat × Int), X 2 = I.map (·.1) ∧ X 3 = I.map (fun e => .int .i64 e.2.2) ∧ ∀ e ∈ I, RIntsP (fun b => ρ b = .dn) w e.1 (List.replicate e.2.1 e.2.2)
  c : ∃ I : List (Value × Nat × Int), X 4 = I.map (·.1) ∧ X 5 = I.map (fun e => .int .i64 e.2.2) ∧ ∀ e ∈ I, RCodeP (fun b => ρ b = .dn) w e.1 (List.replicate e.2.1 ⟨0, e.2.2, 0⟩)
  o : ∃ I : List ((Value × Value × Value × Value) × (Nat × Nat × Nat × Nat) × Int), X 6 = I.map (·.1.1) ∧ X 7 = I.map (·.1.2.1) ∧ X 8 = I.map (·.1.2.2.1) ∧ X 9 = I.map (·.1.2.2.2) ∧ X 10 = I.map (fun e => .int .i64 e.2.2) ∧
    ∀ e ∈ I, RFuncsP (fun b => ρ b = .dn) w e.1.1 (List.replicate e.2.1.1 ⟨[], e.2.2, [], []⟩) ∧ RShapesP (fun b => ρ b = .dn) w e.1.2.1 (List.replicate e.2.1.2.1 [e.2.2]) ∧ RExportsP (fun b => ρ b = .dn) w e.1.2.2.1 (List.replicate e.2.1.2.2.1 ⟨[], e.2.2⟩) ∧ RImportsP (fun b => ρ b = .dn) w e.1.2.2.2 (List.replicate e.2.1.2.2.2 ⟨[], [], e.2.2⟩)
theorem BookE.stay {w w' : World} {ρ ρ' : Nat → BR} {X : Nat → List Value} (h : BookE w ρ X) (g : Stay (fun b => ρ b = .dn) (fun b => ρ' b = .dn) w w') : BookE w' ρ' X := by
  obtain ⟨I, i1, i2, i3⟩ := h.i
  obtain ⟨C, c1, c2, c3⟩ := h.c
  obtain ⟨O, o1, o2, o3, o4, o5, o6⟩ := h.o
  exact ⟨⟨I, i1, i2, fun e he => (i3 e he).stay g⟩, ⟨C, c1, c2, fun e he => (c3 e he).stay g⟩, ⟨O, o1, o2, o3, o4, o5, fun e he => ⟨(o6 e he).1.stay g, (o6 e he).2.1.stay g, (o6 e he).2.2.1.stay g, (o6 e he).2.2.2.stay g⟩⟩⟩
theorem MvR.stay {db : Nat} {A : BR → Prop} {w w' : World} {ρ ρ' : Nat → BR} (m : MvR db A w w' ρ ρ') (hA : ¬ A .dn) (hd : ρ db ≠ .dn) : Stay (fun b => ρ b = .dn) (fun b => ρ' b = .dn) w w' :=
  fun b hb hl => ⟨m.blk b hl (fun e => hd (by rw [← e]; exact hb)) (by rw [hb]; exact hA), by show ρ' b = .dn; rw [m.old b hl]; exact hb⟩
/-- lists of a role are done -/
def fin (r : BR) (ρ : Nat → BR) (k : Nat) : BR := if ρ k = r then .dn else ρ k
theorem BookS.fin_ {db : Nat} {w : World} {vo : Value} {n : Int} {V : Nat → Value} {X : Nat → List Value} {ρ : Nat → BR} (h : BookS db w vo n V X ρ) {r : BR} (hr : ∀ i, r ≠ .row i) (hn : r ≠ .no) : BookS db w vo n V X (fin r ρ) := by
  refine ⟨h.box, fun i h1 h2 => ⟨(h.row i h1 h2).1, fun k hk => ?_⟩, fun b hb => ?_⟩
  · have := (h.row i h1 h2).2 k hk
    unfold fin
    rw [this, if_neg (fun e => hr i e.symm)]
  · refine h.pl b fun e => hb ?_
    unfold fin
    rw [e, if_neg (fun x => hn x.symm)]
/-- lists of the roles S were written in the book -/
structure MvD (db : Nat) (S : BR → Prop) (w w' : World) (ρ ρ' : Nat → BR) : Prop where
  size : w.heap.size ≤ w'.heap.size
  old : ∀ k, k < w.heap.size → (S (ρ k) → ρ' k = .dn) ∧ (¬ S (ρ k) → ρ' k = ρ k)
  blk : ∀ k, k < w.heap.size → k ≠ db → ¬ S (ρ k) → (∀ i, ρ k ≠ .row i) → w'.heap[k]? = w.heap[k]?
  env : w'.os = w.os ∧ w'.tape = w.tape ∧ w'.output = w.output
theorem MvD.trans {db : Nat} {S S' : BR → Prop} {w w1 w2 : World} {ρ ρ1 ρ2 : Nat → BR} (h : MvD db S w w1 ρ ρ1) (k : MvD db S' w1 w2 ρ1 ρ2) (hS : ¬ S' .dn) : MvD db (fun r => S r ∨ S' r) w w2 ρ ρ2 := by
  refine ⟨Nat.le_trans h.size k.size, fun i hi => ⟨fun hs => ?_, fun hs => ?_⟩, fun i hi hd hs hr => ?_, k.env.1.trans h.env.1, k.env.2.1.trans h.env.2.1, k.env.2.2.trans h.env.2.2⟩
  · have hi1 := Nat.lt_of_lt_of_le hi h.size
    by_cases h1 : S (ρ i)
    · have e := (h.old i hi).1 h1
      rw [(k.old i hi1).2 (by rw [e]; exact hS), e]
    · have e := (h.old i hi).2 h1
      exact (k.old i hi1).1 (by rw [e]; exact hs.resolve_left h1)
  · have hi1 := Nat.lt_of_lt_of_le hi h.size
    have e := (h.old i hi).2 (fun x => hs (.inl x))
    rw [(k.old i hi1).2 (by rw [e]; exact fun x => hs (.inr x)), e]
  · have hi1 := Nat.lt_of_lt_of_le hi h.size
    have e := (h.old i hi).2 (fun x => hs (.inl x))
    rw [k.blk i hi1 hd (by rw [e]; exact fun x => hs (.inr x)) (by rw [e]; exact hr), h.blk i hi hd (fun x => hs (.inl x)) hr]
theorem MvD.of {db : Nat} {r : BR} {A : BR → Prop} {w w' : World} {ρ ρ' : Nat → BR} (m : MvR db A w w' ρ ρ') (hA : ∀ x, A x → x = r ∨ ∃ i, x = .row i) : MvD db (· = r) w w' ρ (fin r ρ') :=
  ⟨m.size, fun k hk => ⟨fun e => by unfold fin; rw [m.old k hk]; exact if_pos e, fun e => by unfold fin; rw [m.old k hk]; exact if_neg e⟩, fun k hk hd hs hr => m.blk k hk hd (fun e => (hA _ e).elim hs (fun ⟨i, hi⟩ => hr i hi)), m.env⟩
theorem OwR.mvd {db : Nat} {S : BR → Prop} {ρ ρ' : Nat → BR} {r : BR} {w w' : World} {e : TypeId} {n len : Nat} {v : Value} {xs : List Value} (h : OwR ρ r w (db + 1) e n v len xs) (m : MvD db S w w' ρ ρ') (hr : ¬ S r) (hr2 : ∀ i, r ≠ .row i) : OwR ρ' r w' (db + 1) e n v len xs := by
  refine ⟨ownsRow_same h.1 fun k hk => ?_, fun k hk => ?_⟩
  · obtain ⟨h1, h2⟩ := h.1.lt k hk
    exact m.blk k h2 (by omega) (by rw [h.2 k hk]; exact hr) (by rw [h.2 k hk]; exact hr2)
  · rw [(m.old k (h.1.lt k hk).2).2 (by rw [h.2 k hk]; exact hr)]; exact h.2 k hk
end Go.Proofs.YtkgncijcnlfhiaaDoor

namespace Go.Proofs.YtkgncijcnlfhiaaDoor
set_option linter.unusedVariables false
set_option linter.unusedSimpArgs false
open Go.RowKit
def rp (L : Nat) (y : List Value) : List Value := (List.replicate L ()).flatMap (fun _ => y)
theorem rp_len (L : Nat) (y : List Value) : (rp L y).length = L * y.length := by
  unfold rp
  rw [flat_size (f := fun _ : Unit => y) (fun _ => rfl), List.length_replicate]
theorem rp_snoc (L : Nat) (y : List Value) : rp L y ++ y = rp (L + 1) y := by
  unfold rp
  rw [List.replicate_succ', List.flatMap_append]; simp
theorem rp_pre {L K : Nat} (h : K ≤ L) (y : List Value) : rp K y <+: rp L y := by
  obtain ⟨d, rfl⟩ : ∃ d, L = K + d := ⟨L - K, by omega⟩
  induction d with
  | zero => exact List.prefix_rfl
  | succ d ih => exact (ih (by omega)).trans ⟨y, rp_snoc (K + d) y⟩
theorem rp_at {L i c n : Nat} {y : List Value} (hy : y.length = n) (h : i < L) (hc : c < n) : (rp L y)[i * n + c]? = y[c]? :=
  flat_at (f := fun _ : Unit => y) (x := ()) (fun _ => hy) (by rw [List.getElem?_replicate, if_pos h]) hc
theorem rp_of {L n : Nat} {xs y : List Value} (hl : xs.length = L * n) (hy : y.length = n) (hn : 0 < n) (h : ∀ i c, i < L → c < n → xs[i * n + c]? = y[c]?) : xs = rp L y := by
  apply List.ext_getElem?
  intro j
  by_cases hj : j < L * n
  · have h1 : j / n < L := (Nat.div_lt_iff_lt_mul hn).2 hj
    have h2 : j % n < n := Nat.mod_lt _ hn
    have e : j = j / n * n + j % n := by rw [Nat.mul_comm]; exact (Nat.div_add_mod j n).symm
    rw [e, h _ _ h1 h2, rp_at hy h1 h2]
  · rw [List.getElem?_eq_none (by omega), List.getElem?_eq_none (by rw [rp_len, hy]; omega)]
theorem own_cellz {w : World} {B : Nat} {e : TypeId} {n len : Nat} {v : Value} {xs : List Value} (h : w.ownsRow B e n v len xs) (hj : 0 < len * n) : ∃ g cap, v = .slice (some ⟨g, 0, none⟩) len cap ∧ ∀ j, j < len * n → (∃ x, w.cell? ⟨g, j, none⟩ = some x) ∧ w.frozen? ⟨g, j, none⟩ = false := by
  have hl := h.1
  rcases h.2 with ⟨_, rfl⟩ | ⟨g, cap, cur, h1, h2, h3, h4, h5, h6, h7⟩
  · omega
  · refine ⟨g, cap, h1, fun j hj => ⟨?_, heap_frozen h3⟩⟩
    rw [heap_cell h3]
    have : j < cur.size := by rw [h6]; exact Nat.lt_of_lt_of_le hj (Nat.mul_le_mul_right _ h4)
    exact ⟨cur[j], Array.getElem?_eq_getElem this⟩
theorem EntR.ints {ρ : Nat → BR} {r : BR} {w : World} {v : Value} {L : Nat} {m : Int} (h : EntR ρ r 1 w v L (rp L [.int .i64 m])) : RIntsP (fun b => ρ b = r) w v (List.replicate L m) := by
  obtain ⟨⟨ao, c, rfl, hm, hl, hc⟩, hb⟩ := h
  refine ⟨ao, c, by simp, by simpa using hm, fun i y hi => ?_⟩
  have hil : i < L := by have := (List.getElem?_eq_some_iff.1 hi).1; simpa using this
  rw [List.getElem?_replicate, if_pos hil] at hi
  obtain rfl := Option.some.inj hi
  have := rp_at (L := L) (i := i) (c := 0) (n := 1) (y := [Value.int .i64 m]) rfl hil (by decide)
  rw [Nat.mul_one, Nat.add_zero] at this
  obtain ⟨b, rfl, h2⟩ := hc i _ this
  exact ⟨b, 0, rfl, (hb b rfl).1, by rw [Nat.zero_add]; exact h2⟩
theorem EntR.code {ρ : Nat → BR} {r : BR} {w : World} {v : Value} {L : Nat} {m : Int} (h : EntR ρ r 3 w v L (rp L [.int .i64 0, .int .i64 m, .int .i64 0])) : RCodeP (fun b => ρ b = r) w v (List.replicate L ⟨0, m, 0⟩) := by
  obtain ⟨⟨ao, c, rfl, hm, hl, hc⟩, hb⟩ := h
  refine ⟨ao, c, by simp, by simpa using hm, fun i y hi => ?_⟩
  have hil : i < L := by have := (List.getElem?_eq_some_iff.1 hi).1; simpa using this
  rw [List.getElem?_replicate, if_pos hil] at hi
  obtain rfl := Option.some.inj hi
  have e : ∀ c, c < 3 → (rp L [Value.int .i64 0, .int .i64 m, .int .i64 0])[i * 3 + c]? = [Value.int .i64 0, .int .i64 m, .int .i64 0][c]? := fun c hc => rp_at rfl hil hc
  obtain ⟨b, rfl, h0⟩ := hc (i * 3) _ (e 0 (by decide))
  obtain ⟨b1, e1, h1⟩ := hc (i * 3 + 1) _ (e 1 (by decide))
  obtain ⟨b2, e2, h2⟩ := hc (i * 3 + 2) _ (e 2 (by decide))
  simp only [Option.some.injEq, Addr.mk.injEq, and_true] at e1 e2
  subst e1; subst e2
  exact ⟨b, 0, rfl, (hb b rfl).1, by rw [Nat.zero_add]; exact h0, by rw [Nat.zero_add]; exact h1, by rw [Nat.zero_add]; exact h2⟩
theorem fin_stay {ρ : Nat → BR} {r : BR} {w : World} : Stay (fun b => ρ b = r) (fun b => fin r ρ b = .dn) w w := fun b hb _ => ⟨rfl, by show fin r ρ b = .dn; unfold fin; exact if_pos hb⟩
theorem fin_dn {ρ : Nat → BR} {r : BR} {w : World} : Stay (fun b => ρ b = .dn) (fun b => fin r ρ b = .dn) w w := fun b hb _ => ⟨rfl, by
  show fin r ρ b = .dn
  unfold fin
  by_cases h : ρ b = r
  · exact if_pos h
  · rw [if_neg h]; exact hb⟩
/-- a list was written in the book -/
def NumR (db : Nat) (r : BR) (vo : Value) (n : Nat) (X : Nat → List Value) (ρ : Nat → BR) (w : World) (x : Ending) (w' : World) : Prop :=
  x = .returned (.tuple #[]) ∧ ∃ V' X' ρ', BookS db w' vo ((n + 1 : Nat) : Int) V' X' ρ' ∧ BookE w' ρ' X' ∧ MvD db (· = r) w w' ρ ρ' ∧ ∀ i, (X' i).length ≤ (X i).length + 4
theorem BookS.db_no {db : Nat} {w : World} {vo : Value} {n : Int} {V : Nat → Value} {X : Nat → List Value} {ρ : Nat → BR} (h : BookS db w vo n V X ρ) : ρ db = .no := by
  by_cases e : ρ db = .no
  · exact e
  · have := (h.pl db e).1; omega
end Go.Proofs.YtkgncijcnlfhiaaDoor

