import Derived.Test.YtkgncijcnlfhiaaDoorBk5e
import Derived.Test.YtkgncijcnlfhiaaDoorBk6
import Derived.Test.YtkgncijcnlfhiaaDoorQ7
namespace Go.Proofs.YtkgncijcnlfhiaaDoor
set_option linter.unusedVariables false
set_option linter.unusedSimpArgs false
open Go.RowKit
def DkB (db n B0 : Nat) (w : World) : Prop := ∃ V X ρ, BookS db w (.slice none 0 0) (n : Int) V X ρ ∧ BookE w ρ X ∧ ∀ i, (X i).length ≤ B0
def BkD (db n B0 wb : Nat) (w : World) (x : Ending) (w' : World) : Prop := x = .returned (.tuple #[]) ∧ (∃ n' B', n' ≤ n + 1000 ∧ B' ≤ B0 + 1000 ∧ DkB db n' B' w') ∧ Below db w w' ∧ w'.heap[wb]? = w.heap[wb]?
theorem own_nil {ρ : Nat → BR} {r : BR} {w : World} {B : Nat} {T : TypeId} {sz : Nat} : OwR ρ r w B T sz (.slice none 0 0) 0 [] := ⟨World.ownsRow_nil _ _ _ _, fun k hk => by simp [Value.ownBlock] at hk⟩
theorem UnO.nils (db : Nat) (ρ : Nat → BR) (w : World) : UnO db (.slice none 0 0) (.slice none 0 0) (.slice none 0 0) (.slice none 0 0) (.slice none 0 0) [] 0 [] [] 0 ρ w :=
  ⟨fun r v T sz n hi => by cases hi <;> simp_all, own_nil, ⟨⟨[], own_nil⟩, Nat.zero_le _⟩, own_nil, own_nil, ⟨[], own_nil⟩⟩
theorem book_call {db n B0 wb : Nat} {w w1 : World} {V : Nat → Value} {X : Nat → List Value} {ρ ρ1 : Nat → BR} {v1 v2 v3 v4 v5 : Value} {es1 : List (Value × Nat)} {n2 : Nat} {es3 : List UF} {es4 : List UI} {n5 : Nat} (hS : BookS db w (.slice none 0 0) (n : Int) V X ρ) (hE : BookE w ρ X) (hX : ∀ i, (X i).length ≤ B0) (m1 : MvR db (fun _ => False) w w1 ρ ρ1) (hbx : w1.heap[db]? = w.heap[db]?) (hU : UnO db v1 v2 v3 v4 v5 es1 n2 es3 es4 n5 ρ1 w1)
    (l1 : es1.length ≤ 20) (l3 : es3.length ≤ 30) (l4 : es4.length ≤ 20) (l5 : n5 ≤ 20) (hn : n ≤ 100000) (hB : B0 ≤ 100000) (hwb : ρ1 wb = .no) (hwd : wb ≠ db) (hwl : wb < w1.heap.size) :
    Calls Tryd.prog 22 #[.pointer (some ⟨db, 1, none⟩), .agg #[v1, v2, v3, v4, v5]] w1 (BkD db n B0 wb w1) := by
  have hno := hS.db_no
  have hS1 := hS.mv m1 (fun _ => id) hbx
  refine (bunit_any db _ n V X ρ1 w1 v1 v2 v3 v4 v5 es1 n2 es3 es4 n5 B0 hS1 (hE.stay (m1.stay id (by rw [hno]; nofun))) hU hX (by omega) (by omega) (by omega)).mono ?_
  rintro x w' ⟨rfl, V', X', ρ', hS', hE', hM, hX'⟩
  refine ⟨rfl, ⟨n + (es1.length + 3 * es3.length + es4.length) + 2, B0 + 4 * (es1.length + 3 * es3.length + es4.length) + 12, by omega, by omega, V', X', ρ', hS', hE', hX'⟩, ⟨hM.env.1, hM.env.2.1, hM.env.2.2, hM.size, fun k hk => ?_⟩, (hM.old wb hwl hwd (.inl hwb)).2⟩
  have hkn : ρ1 k = .no := by
    by_cases e : ρ1 k = .no
    · exact e
    · have := (hS1.pl k e).1; omega
  have hdl := hS1.lt
  exact (hM.old k (by omega) (by omega) (.inl hkn)).2
/-- a unit that Decode gave -/
theorem book_of {db n B0 B : Nat} {w w1 w3 : World} {v : Value} {u : PUnit} (hd : DkB db n B0 w) (hg1 : Gr w w1) (hB : w.heap.size ≤ B) (hU : RUnitG B w1 v u) (hok : unitOk u = true) (hg3 : Gr w1 w3) (hlt : w1.heap.size < w3.heap.size) (hn : n ≤ 100000) (hB0 : B0 ≤ 100000) :
    Calls Tryd.prog 22 #[.pointer (some ⟨db, 1, none⟩), v] w3 (BkD db n B0 w1.heap.size w3) := by
  obtain ⟨V, X, ρ, hS, hE, hX⟩ := hd
  have hdl := hS.lt
  obtain ⟨l1, l2, l3, l4, l5, l6, l7, l8⟩ := lens_ok hok
  obtain ⟨v1, v2, v3, v4, v5, es1, es3, es4, r, rfl, n1, n3, n4, hr, hO⟩ := uno_of (db := db) hU hok (by omega)
  have hs1 := hg1.size
  have hs3 := hg3.size
  have hO1 := hO (fun k => if k < B then ρ k else r k) (fun k hk => if_neg (by omega))
  have hnew : ∀ k, (if k < B then ρ k else r k) ≠ .no → k < w1.heap.size := fun k hk => by
    by_cases e : k < B
    · rw [if_pos e] at hk
      have := (hS.pl k hk).2; omega
    · rw [if_neg e] at hk
      exact (hr k hk).2
  have m1 : MvR db (fun _ => False) w w3 ρ (fun k => if k < B then ρ k else r k) :=
    ⟨by omega, fun k hk => if_pos (by omega), fun k hk _ _ => (hg1.trans hg3).block k hk (by simp), fun k _ hn => by have := hnew k hn; omega, (hg1.trans hg3).os, (hg1.trans hg3).tape, (hg1.trans hg3).output⟩
  have m3 : MvR db (fun _ => False) w1 w3 (fun k => if k < B then ρ k else r k) (fun k => if k < B then ρ k else r k) :=
    ⟨hs3, fun _ _ => rfl, fun k hk _ _ => hg3.block k hk (by simp), fun k _ hn => by have := hnew k hn; omega, hg3.os, hg3.tape, hg3.output⟩
  refine book_call hS hE hX m1 ((hg1.trans hg3).block db hdl (by simp)) (hO1.mv m3) (by omega) (by omega) (by omega) (by omega) hn hB0 ?_ (by omega) hlt
  by_cases e : (if w1.heap.size < B then ρ w1.heap.size else r w1.heap.size) = .no
  · exact e
  · have := hnew _ e; omega
theorem book_nil {db n B0 : Nat} {w w1 w3 : World} (hd : DkB db n B0 w) (hg1 : Gr w w1) (hg3 : Gr w1 w3) (hlt : w1.heap.size < w3.heap.size) (hn : n ≤ 100000) (hB0 : B0 ≤ 100000) :
    Calls Tryd.prog 22 #[.pointer (some ⟨db, 1, none⟩), .agg #[.slice none 0 0, .slice none 0 0, .slice none 0 0, .slice none 0 0, .slice none 0 0]] w3 (BkD db n B0 w1.heap.size w3) := by
  obtain ⟨V, X, ρ, hS, hE, hX⟩ := hd
  have hdl := hS.lt
  have hs1 := hg1.size
  have hs3 := hg3.size
  have m1 : MvR db (fun _ => False) w w3 ρ ρ :=
    ⟨by omega, fun _ _ => rfl, fun k hk _ _ => (hg1.trans hg3).block k hk (by simp), fun k _ hn => by have := (hS.pl k hn).2; omega, (hg1.trans hg3).os, (hg1.trans hg3).tape, (hg1.trans hg3).output⟩
  refine book_call hS hE hX m1 ((hg1.trans hg3).block db hdl (by simp)) (UnO.nils db ρ w3) (by decide) (by decide) (by decide) (by decide) hn hB0 ?_ (by omega) hlt
  by_cases e : ρ w1.heap.size = .no
  · exact e
  · have := (hS.pl _ e).2; omega
end Go.Proofs.YtkgncijcnlfhiaaDoor

namespace Go.Proofs.YtkgncijcnlfhiaaDoor
set_option linter.unusedVariables false
set_option linter.unusedSimpArgs false
open Go.RowKit
def lnext (r : List UInt8) (bad : Bool) : Nat × List UInt8 × Bool :=
  match r with
  | [] => (0, [], true)
  | b :: r' => (b.toNat, r', bad)
def lnumF : Nat → Nat → Nat → List UInt8 → Bool → Nat × List UInt8 × Bool
  | 0, _, _, r, _ => (0, r, true)
  | k + 1, v, un, r, bad =>
    if (lnext r bad).1 < 128 then ((v + un * ((lnext r bad).1 % 128)) % 18446744073709551616, (lnext r bad).2)
    else lnumF k ((v + un * ((lnext r bad).1 % 128)) % 18446744073709551616) (un * 128 % 18446744073709551616) (lnext r bad).2.1 (lnext r bad).2.2
def lnum (r : List UInt8) (bad : Bool) : Nat × List UInt8 × Bool := lnumF 10 0 1 r bad
def lsmall (most : Nat) (r : List UInt8) (bad : Bool) : Int × List UInt8 × Bool :=
  if most < (lnum r bad).1 then (0, (lnum r bad).2.1, true) else (((lnum r bad).1 : Int), (lnum r bad).2)
def lsigned (r : List UInt8) (bad : Bool) : Int × List UInt8 × Bool := (unzig (lnum r bad).1, (lnum r bad).2)
/-- n things, one behind the other -/
def lmany {α : Type} (f : List UInt8 → Bool → α × List UInt8 × Bool) : Nat → List UInt8 → Bool → List α × List UInt8 × Bool
  | 0, r, bad => ([], r, bad)
  | k + 1, r, bad => ((f r bad).1 :: (lmany f k (f r bad).2.1 (f r bad).2.2).1, (lmany f k (f r bad).2.1 (f r bad).2.2).2)
def llist (r : List UInt8) (bad : Bool) : List Int × List UInt8 × Bool := lmany (lsmall 65535) (lsmall 20 r bad).1.toNat (lsmall 20 r bad).2.1 (lsmall 20 r bad).2.2
def ltext (r : List UInt8) (bad : Bool) : List UInt8 × List UInt8 × Bool :=
  if (lsmall 20 r bad).2.1.length < (lsmall 20 r bad).1.toNat then ([], (lsmall 20 r bad).2.1, true)
  else ((lsmall 20 r bad).2.1.take (lsmall 20 r bad).1.toNat, (lsmall 20 r bad).2.1.drop (lsmall 20 r bad).1.toNat, (lsmall 20 r bad).2.2)
/-- reads back what is written -/
def LFwd {α : Type} (f : List UInt8 → Bool → α × List UInt8 × Bool) (g : α → List UInt8) (Q : α → Prop) : Prop := ∀ y r bad, Q y → f (g y ++ r) bad = (y, r, bad)

theorem lnumF_fwd : ∀ (k v un m : Nat) (r : List UInt8) (bad : Bool), 0 < un → v + un * m < 18446744073709551616 → m < 128 ^ (k + 1) → lnumF (k + 1) v un (numF k m ++ r) bad = (v + un * m, r, bad)
  | 0, v, un, m, r, bad, h0, h1, h2 => by
    have hm : m < 128 := by simpa using h2
    have hb : (UInt8.ofNat m).toNat = m := by simp; omega
    simp only [numF, List.singleton_append, lnumF, lnext, hb, if_pos hm]
    rw [Nat.mod_eq_of_lt hm, Nat.mod_eq_of_lt h1]
  | k + 1, v, un, m, r, bad, h0, h1, h2 => by
    by_cases hm : m < 128
    · have hb : (UInt8.ofNat m).toNat = m := by simp; omega
      rw [numF, if_pos hm, List.singleton_append, lnumF]
      simp only [lnext, hb, if_pos hm]
      rw [Nat.mod_eq_of_lt hm, Nat.mod_eq_of_lt h1]
    · have hb : (UInt8.ofNat (m % 128 + 128)).toNat = m % 128 + 128 := by simp; omega
      rw [numF, if_neg hm, List.cons_append, lnumF]
      simp only [lnext, hb]
      rw [if_neg (by omega)]
      have e1 : (m % 128 + 128) % 128 = m % 128 := by omega
      have hle : un * 128 ≤ un * m := Nat.mul_le_mul_left _ (by omega)
      have e2 : un * m = un * (m % 128) + un * 128 * (m / 128) := by
        rw [Nat.mul_assoc, ← Nat.mul_add]; congr 1; omega
      have h3 : un * 128 * (m / 128) ≤ un * m := by omega
      rw [e1, Nat.mod_eq_of_lt (show v + un * (m % 128) < 18446744073709551616 by omega), Nat.mod_eq_of_lt (show un * 128 < 18446744073709551616 by omega)]
      rw [lnumF_fwd k (v + un * (m % 128)) (un * 128) (m / 128) r bad (by omega) (by omega) (by
        rw [Nat.pow_succ] at h2
        exact Nat.div_lt_of_lt_mul (by omega))]
      congr 1; omega
theorem lnum_fwd : LFwd lnum num (fun n => n < 18446744073709551616) := by
  intro n r bad hn
  have hn10 : num n = numF 9 n := by
    have : ∀ k m, m < 128 ^ (k + 1) → numF (k + 1) m = numF k m := by
      intro k
      induction k with
      | zero =>
        intro m hm
        have h1 : m < 128 := by simpa using hm
        simp [numF, h1]
      | succ k ih =>
        intro m hm
        show (if m < 128 then [UInt8.ofNat m] else UInt8.ofNat (m % 128 + 128) :: numF (k + 1) (m / 128)) = (if m < 128 then [UInt8.ofNat m] else UInt8.ofNat (m % 128 + 128) :: numF k (m / 128))
        rw [ih (m / 128) (by rw [Nat.pow_succ] at hm; exact Nat.div_lt_of_lt_mul (by omega))]
    exact this 9 n (Nat.lt_of_lt_of_le hn (by decide))
  unfold lnum
  rw [hn10, lnumF_fwd 9 0 1 n r bad (by decide) (by omega) (Nat.lt_of_lt_of_le hn (by decide))]
  simp
theorem lsmall_fwd (most : Nat) (hm : most < 18446744073709551616) : LFwd (lsmall most) encWhole (fun x => 0 ≤ x ∧ x ≤ most) := by
  intro x r bad hx
  unfold lsmall encWhole
  rw [lnum_fwd x.toNat r bad (by omega)]
  simp only
  rw [if_neg (by omega)]
  congr 1; omega
theorem lsigned_fwd : LFwd lsigned encSigned Fit := by
  intro x r bad hx
  unfold lsigned encSigned
  have hz : zig x < 18446744073709551616 := by unfold Fit at hx; unfold zig; split <;> omega
  rw [lnum_fwd (zig x) r bad hz]
  simp only [unzig_zig]
theorem lmany_fwd {α : Type} {f : List UInt8 → Bool → α × List UInt8 × Bool} {g : α → List UInt8} {Q : α → Prop} (hf : LFwd f g Q) : ∀ (ys : List α) (r : List UInt8) (bad : Bool), (∀ y ∈ ys, Q y) → lmany f ys.length (ys.flatMap g ++ r) bad = (ys, r, bad)
  | [], r, bad, _ => by simp [lmany]
  | y :: ys, r, bad, h => by
    rw [List.flatMap_cons, List.append_assoc, List.length_cons, lmany, hf y _ bad (h y (by simp))]
    simp only
    rw [lmany_fwd hf ys r bad (fun z hz => h z (by simp [hz]))]
theorem llist_fwd : LFwd llist encKinds (fun ys => ys.length ≤ 20 ∧ ∀ y ∈ ys, 0 ≤ y ∧ y ≤ 65535) := by
  intro ys r bad h
  have h1 := lsmall_fwd 20 (by decide) (ys.length : Int) (ys.flatMap encWhole ++ r) bad ⟨by omega, by have := h.1; omega⟩
  unfold llist encKinds encs
  rw [List.append_assoc]
  unfold encWhole at h1
  simp only [Int.toNat_natCast] at h1
  rw [show (fun x : Int => num x.toNat) = encWhole from rfl] at h1
  rw [h1]
  simp only [Int.toNat_natCast]
  exact lmany_fwd (lsmall_fwd 65535 (by decide)) ys r bad h.2
theorem ltext_fwd : LFwd ltext encText (fun s => s.length ≤ 20) := by
  intro s r bad h
  have h1 := lsmall_fwd 20 (by decide) (s.length : Int) (s ++ r) bad ⟨by omega, by omega⟩
  unfold encWhole at h1
  simp only [Int.toNat_natCast] at h1
  unfold ltext encText
  rw [List.append_assoc, h1]
  simp only [Int.toNat_natCast]
  rw [if_neg (by rw [List.length_append]; omega)]
  simp
theorem operandsN_le (n : Int) : operandsN n = 0 ∨ operandsN n = 1 ∨ operandsN n = 2 := by
  unfold operandsN; split
  · exact .inr (.inr rfl)
  · split
    · exact .inr (.inl rfl)
    · exact .inl rfl
def lopA (op : Nat) (r : List UInt8) (bad : Bool) : Int × List UInt8 × Bool := if op = 1 then lsigned r bad else if 0 < operandsN op then lsmall 65535 r bad else (0, r, bad)
def lopB (op : Nat) (r : List UInt8) (bad : Bool) : Int × List UInt8 × Bool := if 1 < operandsN op then lsmall 65535 r bad else (0, r, bad)
def lins (op : Nat) (r : List UInt8) (bad : Bool) : PIns × List UInt8 × Bool :=
  (⟨op, (lopA op r bad).1, (lopB op (lopA op r bad).2.1 (lopA op r bad).2.2).1⟩, (lopB op (lopA op r bad).2.1 (lopA op r bad).2.2).2)
def lcode : Nat → List UInt8 → Bool → List PIns × List UInt8 × Bool
  | 0, r, bad => ([], r, bad)
  | k + 1, r, bad =>
    if 20 < (lnext r bad).1 then ([], (lnext r bad).2.1, true)
    else ((lins (lnext r bad).1 (lnext r bad).2.1 (lnext r bad).2.2).1 :: (lcode k (lins (lnext r bad).1 (lnext r bad).2.1 (lnext r bad).2.2).2.1 (lins (lnext r bad).1 (lnext r bad).2.1 (lnext r bad).2.2).2.2).1,
      (lcode k (lins (lnext r bad).1 (lnext r bad).2.1 (lnext r bad).2.2).2.1 (lins (lnext r bad).1 (lnext r bad).2.1 (lnext r bad).2.2).2.2).2)
theorem lins_fwd (i : PIns) (h : insOk i = true) (r : List UInt8) (bad : Bool) : ∃ b t, encIns i ++ r = b :: (t ++ r) ∧ b.toNat ≤ 20 ∧ lins b.toNat (t ++ r) bad = (i, r, bad) := by
  obtain ⟨op, a, b⟩ := i
  unfold insOk wB operandOk wB at h
  simp only [Bool.and_eq_true, decide_eq_true_eq] at h
  obtain ⟨hop, hab⟩ := h
  obtain ⟨n, rfl⟩ : ∃ n : Nat, op = n := ⟨op.toNat, by omega⟩
  have hb : (UInt8.ofNat n).toNat = n := by simp; omega
  refine ⟨UInt8.ofNat n, (if (n : Int) = 1 then num (zig a) else (if 1 ≤ operandsN n then num a.toNat else []) ++ (if 2 ≤ operandsN n then num b.toNat else [])), by simp [encIns], by rw [hb]; omega, ?_⟩
  rw [hb]
  unfold lins lopA lopB
  by_cases h1 : n = 1
  · subst h1
    have ho : operandsN ((1 : Nat) : Int) = 1 := by decide
    simp only [ho] at hab ⊢
    have ha := lsigned_fwd a r bad (by unfold Fit; simp at hab; omega)
    unfold encSigned at ha
    simp only [Int.natCast_one, if_true, ha]
    simp at hab ⊢
    omega
  · have h1' : ¬ ((n : Int) = 1) := by omega
    simp only [if_neg h1, if_neg h1'] at hab ⊢
    obtain ⟨ha, hb2⟩ := hab
    have ho := operandsN_le n
    have f1 := fun (x : Int) (r : List UInt8) (hx : 0 ≤ x ∧ x ≤ 65535) => lsmall_fwd 65535 (by decide) x r bad hx
    unfold encWhole at f1
    rcases ho with ho | ho | ho <;> rw [ho] at ha hb2 ⊢ <;> simp at ha hb2 ⊢
    · omega
    · rw [f1 a r (by omega)]; simp; omega
    · rw [f1 a _ (by omega)]
      simp only
      rw [f1 b r (by omega)]
      simp
theorem lcode_fwd : ∀ (ys : List PIns) (r : List UInt8) (bad : Bool), ys.all insOk = true → lcode ys.length (ys.flatMap encIns ++ r) bad = (ys, r, bad)
  | [], r, bad, _ => by simp [lcode]
  | y :: ys, r, bad, h => by
    simp only [List.all_cons, Bool.and_eq_true] at h
    rw [List.flatMap_cons, List.append_assoc, List.length_cons]
    obtain ⟨b, t, h1, h2, h3⟩ := lins_fwd y h.1 (ys.flatMap encIns ++ r) bad
    have hl : lnext (b :: (t ++ (ys.flatMap encIns ++ r))) bad = (b.toNat, t ++ (ys.flatMap encIns ++ r), bad) := rfl
    rw [h1, lcode, hl, if_neg (by simp only; omega)]
    simp only
    rw [h3]
    simp only
    rw [lcode_fwd ys r bad h.2]
def lfunc (r : List UInt8) (bad : Bool) : PFunc × List UInt8 × Bool :=
  let p := llist r bad
  let l := llist p.2.1 p.2.2
  let v := lsmall 65535 l.2.1 l.2.2
  let n := lsmall 200 v.2.1 v.2.2
  let c := lcode n.1.toNat n.2.1 n.2.2
  (⟨p.1, v.1, l.1, c.1⟩, c.2)
def limp (r : List UInt8) (bad : Bool) : PImp × List UInt8 × Bool :=
  let t := ltext r bad
  let p := llist t.2.1 t.2.2
  let v := lsmall 65535 p.2.1 p.2.2
  (⟨t.1, p.1, v.1⟩, v.2)
def lexp (r : List UInt8) (bad : Bool) : PExp × List UInt8 × Bool :=
  let t := ltext r bad
  let v := lsmall 65535 t.2.1 t.2.2
  (⟨t.1, v.1⟩, v.2)
/-- things, until it goes bad -/
def lfills {α : Type} (f : List UInt8 → Bool → α × List UInt8 × Bool) : Nat → List UInt8 → Bool → List α × List UInt8 × Bool
  | 0, r, bad => ([], r, bad)
  | k + 1, r, bad => if bad then ([], r, true) else ((f r false).1 :: (lfills f k (f r false).2.1 (f r false).2.2).1, (lfills f k (f r false).2.1 (f r false).2.2).2)
def lfill {α : Type} (f : List UInt8 → Bool → α × List UInt8 × Bool) (r : List UInt8) (bad : Bool) : List α × List UInt8 × Bool := lfills f (lsmall 50 r bad).1.toNat (lsmall 50 r bad).2.1 (lsmall 50 r bad).2.2
theorem lfills_fwd {α : Type} {f : List UInt8 → Bool → α × List UInt8 × Bool} {g : α → List UInt8} {Q : α → Prop} (hf : LFwd f g Q) : ∀ (ys : List α) (r : List UInt8), (∀ y ∈ ys, Q y) → lfills f ys.length (ys.flatMap g ++ r) false = (ys, r, false)
  | [], r, _ => by simp [lfills]
  | y :: ys, r, h => by
    rw [List.flatMap_cons, List.append_assoc, List.length_cons, lfills, if_neg (by decide), hf y _ false (h y (by simp))]
    simp only
    rw [lfills_fwd hf ys r (fun z hz => h z (by simp [hz]))]
theorem lfill_fwd {α : Type} {f : List UInt8 → Bool → α × List UInt8 × Bool} {g : α → List UInt8} {Q : α → Prop} (hf : LFwd f g Q) (ys : List α) (r : List UInt8) (hl : ys.length ≤ 50) (h : ∀ y ∈ ys, Q y) : lfill f (encs g ys ++ r) false = (ys, r, false) := by
  have h1 := lsmall_fwd 50 (by decide) (ys.length : Int) (ys.flatMap g ++ r) false ⟨by omega, by omega⟩
  unfold encWhole at h1
  simp only [Int.toNat_natCast] at h1
  unfold lfill encs
  rw [List.append_assoc, h1]
  simp only [Int.toNat_natCast]
  exact lfills_fwd hf ys r h
theorem num_whole (x : Int) : num x.toNat = encWhole x := rfl
theorem lfunc_fwd : LFwd lfunc encFunc (fun f => (f.params.length ≤ 20 ∧ ∀ y ∈ f.params, 0 ≤ y ∧ y ≤ 65535) ∧ (f.locals.length ≤ 20 ∧ ∀ y ∈ f.locals, 0 ≤ y ∧ y ≤ 65535) ∧ (0 ≤ f.result ∧ f.result ≤ 65535) ∧ f.code.length ≤ 200 ∧ f.code.all insOk = true) := by
  intro f r bad ⟨hp, hl, hr, hc, hi⟩
  unfold lfunc encFunc
  have h4 := lsmall_fwd 200 (by decide) (f.code.length : Int) (f.code.flatMap encIns ++ r) bad ⟨by omega, by omega⟩
  unfold encWhole at h4
  simp only [Int.toNat_natCast] at h4
  rw [num_whole]
  simp only [List.append_assoc]
  rw [llist_fwd f.params _ bad hp]
  simp only
  rw [llist_fwd f.locals _ bad hl]
  simp only
  rw [lsmall_fwd 65535 (by decide) f.result _ bad hr]
  simp only
  unfold encs
  rw [List.append_assoc, h4]
  simp only [Int.toNat_natCast]
  rw [lcode_fwd f.code r bad hi]
theorem limp_fwd : LFwd limp encImp (fun i => i.name.length ≤ 20 ∧ (i.params.length ≤ 20 ∧ ∀ y ∈ i.params, 0 ≤ y ∧ y ≤ 65535) ∧ 0 ≤ i.result ∧ i.result ≤ 65535) := by
  intro i r bad ⟨hn, hp, hr⟩
  unfold limp encImp
  rw [num_whole]
  simp only [List.append_assoc]
  rw [ltext_fwd i.name _ bad hn]
  simp only
  rw [llist_fwd i.params _ bad hp]
  simp only
  rw [lsmall_fwd 65535 (by decide) i.result _ bad hr]
theorem lexp_fwd : LFwd lexp encExp (fun e => e.name.length ≤ 20 ∧ 0 ≤ e.func ∧ e.func ≤ 65535) := by
  intro e r bad ⟨hn, hr⟩
  unfold lexp encExp
  rw [num_whole]
  simp only [List.append_assoc]
  rw [ltext_fwd e.name _ bad hn]
  simp only
  rw [lsmall_fwd 65535 (by decide) e.func _ bad hr]
end Go.Proofs.YtkgncijcnlfhiaaDoor

