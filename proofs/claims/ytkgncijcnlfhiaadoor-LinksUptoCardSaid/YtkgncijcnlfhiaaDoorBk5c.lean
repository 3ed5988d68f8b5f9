import Derived.Test.YtkgncijcnlfhiaaDoorBk4b
namespace Go.Proofs.YtkgncijcnlfhiaaDoor
set_option linter.unusedVariables false
set_option linter.unusedSimpArgs false
open Go.RowKit
structure UF where
  vp : Value
  res : Int
  vl : Value
  vc : Value
  np : Nat
  nl : Nat
  nc : Nat
structure UI where
  s : ByteArray
  vp : Value
  res : Int
  np : Nat
def bF (e : UF) : List Value := [e.vp, .int .i64 e.res, e.vl, e.vc]
def bI (e : UI) : List Value := [.string e.s, e.vp, .int .i64 e.res]
def yF (m : Int) : List Value := [.slice none 0 0, .int .i64 m, .slice none 0 0, .slice none 0 0]
def yI (m : Int) : List Value := [.string ⟨#[]⟩, .slice none 0 0, .int .i64 m]
def yE (m : Int) : List Value := [.string ⟨#[]⟩, .int .i64 m]
/-- the lists within -/
inductive Inn (es1 : List (Value × Nat)) (es3 : List UF) (es4 : List UI) : BR → Value → TypeId → Nat → Nat → Prop
  | sh (j : Nat) (e : Value × Nat) (h : es1[j]? = some e) : Inn es1 es3 es4 (.ls 5 j) e.1 3 1 e.2
  | fp (j : Nat) (e : UF) (h : es3[j]? = some e) : Inn es1 es3 es4 (.ls 6 j) e.vp 3 1 e.np
  | fl (j : Nat) (e : UF) (h : es3[j]? = some e) : Inn es1 es3 es4 (.ls 7 j) e.vl 3 1 e.nl
  | fc (j : Nat) (e : UF) (h : es3[j]? = some e) : Inn es1 es3 es4 (.ls 8 j) e.vc 91 3 e.nc
  | ip (j : Nat) (e : UI) (h : es4[j]? = some e) : Inn es1 es3 es4 (.ls 9 j) e.vp 3 1 e.np
theorem Inn.ge {es1 : List (Value × Nat)} {es3 : List UF} {es4 : List UI} {r : BR} {v : Value} {T : TypeId} {sz n : Nat} (h : Inn es1 es3 es4 r v T sz n) : ∃ k j, r = .ls k j ∧ 5 ≤ k := by
  cases h <;> exact ⟨_, _, rfl, by decide⟩
structure UnP (db ub : Nat) (m : Int) (v1 v2 v3 v4 v5 : Value) (es1 : List (Value × Nat)) (es3 : List UF) (es4 : List UI) (n5 : Nat) (live : BR → Prop) (a b c d : Nat) (ρ : Nat → BR) (w : World) : Prop where
  box : w.heap[ub]? = some (.cells #[v1, v2, v3, v4, v5] 28 (0, 0))
  ubn : ρ ub = .no ∧ ub ≠ db
  inn : ∀ r v T sz n, Inn es1 es3 es4 r v T sz n → live r → (∃ xs, OwR ρ r w (db + 1) T sz v n xs) ∧ n ≤ 100000
  o1 : ∃ xs, OwR ρ (.ls 0 0) w (db + 1) 23 1 v1 es1.length xs ∧ (∀ j, j < a → ∃ vx, xs[j]? = some vx ∧ RIntsP (fun b => ρ b = .dn) w vx [m]) ∧ ∀ j e, a ≤ j → es1[j]? = some e → xs[j]? = some e.1
  o3 : ∃ xs, OwR ρ (.ls 2 0) w (db + 1) 76 4 v3 es3.length xs ∧ (∀ j q, j < b → q < 4 → xs[j * 4 + q]? = (yF m)[q]?) ∧ ∀ j e q, b ≤ j → es3[j]? = some e → q < 4 → xs[j * 4 + q]? = (bF e)[q]?
  o4 : ∃ xs, OwR ρ (.ls 3 0) w (db + 1) 79 3 v4 es4.length xs ∧ (∀ j q, j < c → q < 3 → xs[j * 3 + q]? = (yI m)[q]?) ∧ ∀ j e q, c ≤ j → es4[j]? = some e → q < 3 → xs[j * 3 + q]? = (bI e)[q]?
  o5 : ∃ xs, OwR ρ (.ls 4 0) w (db + 1) 81 2 v5 n5 xs ∧ ∀ j q, j < d → q < 2 → xs[j * 2 + q]? = (yE m)[q]?
theorem MvD.stay {db : Nat} {S : BR → Prop} {w w' : World} {ρ ρ' : Nat → BR} (m : MvD db S w w' ρ ρ') (hS : ¬ S .dn) (hd : ρ db ≠ .dn) : Stay (fun b => ρ b = .dn) (fun b => ρ' b = .dn) w w' :=
  fun b hb hl => ⟨m.blk b hl (fun e => hd (by rw [← e]; exact hb)) (by rw [hb]; exact hS) (by rw [hb]; exact fun _ => nofun), by show ρ' b = .dn; rw [(m.old b hl).2 (by rw [hb]; exact hS)]; exact hb⟩
/-- blocks that are no list's, and those that are done, stay -/
structure MvU (db : Nat) (w w' : World) (ρ ρ' : Nat → BR) : Prop where
  size : w.heap.size ≤ w'.heap.size
  old : ∀ k, k < w.heap.size → k ≠ db → (ρ k = .no ∨ ρ k = .dn) → ρ' k = ρ k ∧ w'.heap[k]? = w.heap[k]?
  env : w'.os = w.os ∧ w'.tape = w.tape ∧ w'.output = w.output
theorem MvU.trans {db : Nat} {w w1 w2 : World} {ρ ρ1 ρ2 : Nat → BR} (h : MvU db w w1 ρ ρ1) (k : MvU db w1 w2 ρ1 ρ2) : MvU db w w2 ρ ρ2 := by
  refine ⟨Nat.le_trans h.size k.size, fun i hi hd hr => ?_, k.env.1.trans h.env.1, k.env.2.1.trans h.env.2.1, k.env.2.2.trans h.env.2.2⟩
  obtain ⟨e1, e2⟩ := h.old i hi hd hr
  obtain ⟨e3, e4⟩ := k.old i (Nat.lt_of_lt_of_le hi h.size) hd (by rw [e1]; exact hr)
  exact ⟨e3.trans e1, e4.trans e2⟩
theorem MvU.refl (db : Nat) (w : World) (ρ : Nat → BR) : MvU db w w ρ ρ := ⟨Nat.le_refl _, fun _ _ _ _ => ⟨rfl, rfl⟩, rfl, rfl, rfl⟩
theorem MvD.u {db : Nat} {S : BR → Prop} {w w' : World} {ρ ρ' : Nat → BR} (m : MvD db S w w' ρ ρ') (hS : ∀ r, S r → ∃ k i, r = .ls k i) : MvU db w w' ρ ρ' := by
  refine ⟨m.size, fun k hk hd hr => ?_, m.env⟩
  have hn : ¬ S (ρ k) := fun h => by
    obtain ⟨a, b, e⟩ := hS _ h
    rcases hr with h | h <;> rw [h] at e <;> cases e
  exact ⟨(m.old k hk).2 hn, m.blk k hk hd hn (fun i e => by rcases hr with h | h <;> rw [h] at e <;> cases e)⟩
theorem MvR.u {db : Nat} {A : BR → Prop} {w w' : World} {ρ ρ' : Nat → BR} (m : MvR db A w w' ρ ρ') (hA : ¬ A .no ∧ ¬ A .dn) : MvU db w w' ρ ρ' := by
  refine ⟨m.size, fun k hk hd hr => ⟨m.old k hk, m.blk k hk hd ?_⟩, m.env⟩
  rcases hr with h | h <;> rw [h]
  · exact hA.1
  · exact hA.2
section
variable {db ub : Nat} {m : Int} {v1 v2 v3 v4 v5 : Value} {es1 : List (Value × Nat)} {es3 : List UF} {es4 : List UI} {n5 : Nat} {live : BR → Prop} {a b c d : Nat} {ρ ρ' : Nat → BR} {w w' : World}
theorem UnP.mvd (h : UnP db ub m v1 v2 v3 v4 v5 es1 es3 es4 n5 live a b c d ρ w) {k0 j0 : Nat} (mv : MvD db (· = .ls k0 j0) w w' ρ ρ') (hk : 5 ≤ k0 ∨ k0 = 1) (hd : ρ db = .no) : UnP db ub m v1 v2 v3 v4 v5 es1 es3 es4 n5 (fun r => live r ∧ r ≠ .ls k0 j0) a b c d ρ' w' := by
  have hul : ub < w.heap.size := (Array.getElem?_eq_some_iff.1 h.box).1
  have st := mv.stay nofun (by rw [hd]; nofun)
  have hne : ∀ q, q ≠ 1 → q < 5 → ¬ (BR.ls q 0 = .ls k0 j0) := fun q h1 h5 e => by
    injection e with e1 e2
    rcases hk with h | h <;> omega
  obtain ⟨x1, p1, p2, p3⟩ := h.o1
  obtain ⟨x3, s1, s2, s3⟩ := h.o3
  obtain ⟨x4, t1, t2, t3⟩ := h.o4
  obtain ⟨x5, q1, q2⟩ := h.o5
  refine ⟨?_, ?_, fun r v T sz n hi hl => ?_, ⟨x1, p1.mvd mv (hne 0 (by decide) (by decide)) (fun _ => nofun), fun j hj => ?_, p3⟩, ⟨x3, s1.mvd mv (hne 2 (by decide) (by decide)) (fun _ => nofun), s2, s3⟩, ⟨x4, t1.mvd mv (hne 3 (by decide) (by decide)) (fun _ => nofun), t2, t3⟩, ⟨x5, q1.mvd mv (hne 4 (by decide) (by decide)) (fun _ => nofun), q2⟩⟩
  · exact (mv.blk ub hul h.ubn.2 (by rw [h.ubn.1]; nofun) (by rw [h.ubn.1]; exact fun _ => nofun)).trans h.box
  · exact ⟨((mv.old ub hul).2 (by rw [h.ubn.1]; nofun)).trans h.ubn.1, h.ubn.2⟩
  · obtain ⟨⟨xs, ho⟩, hn⟩ := h.inn r v T sz n hi hl.1
    obtain ⟨k, j, e, _⟩ := hi.ge
    exact ⟨⟨xs, ho.mvd mv hl.2 (fun i => by rw [e]; nofun)⟩, hn⟩
  · obtain ⟨vx, e1, e2⟩ := p2 j hj
    exact ⟨vx, e1, e2.stay st⟩
/-- what a store into an outer list leaves of the rest -/
theorem UnP.rest {A : BR → Prop} (h : UnP db ub m v1 v2 v3 v4 v5 es1 es3 es4 n5 live a b c d ρ w) (mv : MvR db A w w' ρ ρ') (hA : ∀ r, A r → ∃ q, r = .ls q 0 ∧ q < 5) (hd : ρ db = .no) :
    w'.heap[ub]? = some (.cells #[v1, v2, v3, v4, v5] 28 (0, 0)) ∧ (ρ' ub = .no ∧ ub ≠ db) ∧ (∀ r v T sz n, Inn es1 es3 es4 r v T sz n → live r → (∃ xs, OwR ρ' r w' (db + 1) T sz v n xs) ∧ n ≤ 100000) ∧ Stay (fun b => ρ b = .dn) (fun b => ρ' b = .dn) w w' := by
  have hul : ub < w.heap.size := (Array.getElem?_eq_some_iff.1 h.box).1
  have hno : ∀ r, (r = .no ∨ r = .dn ∨ ∃ k j, r = .ls k j ∧ 5 ≤ k) → ¬ A r := fun r hr ha => by
    obtain ⟨q, e, hq⟩ := hA r ha
    rcases hr with rfl | rfl | ⟨k, j, rfl, hk⟩
    · cases e
    · cases e
    · injection e with e1 e2; omega
  refine ⟨(mv.blk ub hul h.ubn.2 (by rw [h.ubn.1]; exact hno _ (.inl rfl))).trans h.box, ⟨(mv.old ub hul).trans h.ubn.1, h.ubn.2⟩, fun r v T sz n hi hl => ?_, mv.stay (hno _ (.inr (.inl rfl))) (by rw [hd]; nofun)⟩
  obtain ⟨⟨xs, ho⟩, hn⟩ := h.inn r v T sz n hi hl
  exact ⟨⟨xs, ho.mv mv (hno _ (.inr (.inr hi.ge)))⟩, hn⟩
end
/-- a new block that is done at once -/
def new1 (s : Nat) (ρ : Nat → BR) (k : Nat) : BR := if k < s then ρ k else if k = s then .dn else .no
theorem mv_new {db : Nat} {w : World} {ρ : Nat → BR} (M : Array Value) (T : TypeId) : MvR db (fun _ => False) w (w.alloc (.cells M T)) ρ (new1 w.heap.size ρ) :=
  ⟨by simp, fun k hk => if_pos hk, fun k hk _ _ => heap_alloc_old w _ hk, fun k hk hn => by
    unfold new1 at hn
    rw [if_neg (by omega)] at hn
    by_cases e : k = w.heap.size
    · rw [e]; simp
    · rw [if_neg e] at hn; exact absurd rfl hn, rfl, rfl, rfl⟩
theorem ints_new (w : World) (ρ : Nat → BR) (m : Int) : RIntsP (fun b => new1 w.heap.size ρ b = .dn) (w.alloc (.cells #[.int .i64 m] 3)) (.slice (some ⟨w.heap.size, 0, none⟩) 1 1) [m] := by
  refine ⟨some ⟨w.heap.size, 0, none⟩, 1, rfl, by show 1 ≤ maxLen; decide, fun i y hi => ⟨w.heap.size, 0, rfl, ?_, ?_⟩⟩
  · show new1 w.heap.size ρ w.heap.size = .dn
    unfold new1
    rw [if_neg (by omega), if_pos rfl]
  · have hi0 : i = 0 := by have := (List.getElem?_eq_some_iff.1 hi).1; simp at this; exact this
    subst hi0
    obtain rfl := Option.some.inj hi
    have := heap_cell (j := 0 + 0) (heap_alloc_new w (.cells #[.int .i64 m] 3))
    exact this
end Go.Proofs.YtkgncijcnlfhiaaDoor

namespace Go.Proofs.YtkgncijcnlfhiaaDoor
set_option linter.unusedVariables false
set_option linter.unusedSimpArgs false
open Go.RowKit
def puts : World → Nat → Nat → List Value → World
  | w, _, _, [] => w
  | w, g, o, y :: ys => puts (w.setCell ⟨g, o, none⟩ y) g (o + 1) ys
def setL : List Value → Nat → List Value → List Value
  | xs, _, [] => xs
  | xs, o, y :: ys => setL (xs.set o y) (o + 1) ys
theorem setL_out : ∀ (ys xs : List Value) (o p : Nat), (p < o ∨ o + ys.length ≤ p) → (setL xs o ys)[p]? = xs[p]?
  | [], _, _, _, _ => rfl
  | y :: ys, xs, o, p, h => by
    rw [setL, setL_out ys _ _ _ (by simp at h; omega), List.getElem?_set, if_neg (by simp at h; omega)]
theorem setL_in : ∀ (ys xs : List Value) (o q : Nat), q < ys.length → o + ys.length ≤ xs.length → (setL xs o ys)[o + q]? = ys[q]?
  | [], _, _, q, h, _ => by simp at h
  | y :: ys, xs, o, 0, _, hl => by
    simp at hl
    rw [setL, setL_out ys _ _ _ (by omega), Nat.add_zero, List.getElem?_set, if_pos rfl, if_pos (by omega)]; rfl
  | y :: ys, xs, o, q + 1, h, hl => by
    simp at h hl
    rw [setL, show o + (q + 1) = o + 1 + q by omega, setL_in ys _ _ q h (by rw [List.length_set]; omega)]; rfl
theorem puts_own {db : Nat} {ρ : Nat → BR} {r : BR} {e : TypeId} {n len : Nat} {v : Value} {g : Nat} (hg : v.ownBlock = some g) : ∀ (ys : List Value) (w : World) (o : Nat) (xs : List Value), OwR ρ r w (db + 1) e n v len xs → o + ys.length ≤ len * n → (∀ b, ρ b ≠ .no → b < w.heap.size) → OwR ρ r (puts w g o ys) (db + 1) e n v len (setL xs o ys) ∧ MvR db (· = r) w (puts w g o ys) ρ ρ
  | [], w, o, xs, h, _, hp => ⟨h, Nat.le_refl _, fun _ _ => rfl, fun _ _ _ _ => rfl, fun k hk hn => by have := hp k hn; omega, rfl, rfl, rfl⟩
  | y :: ys, w, o, xs, h, hl, hp => by
    simp at hl
    obtain ⟨h1, h2⟩ := h.set hg o (by omega) y hp
    obtain ⟨h3, h4⟩ := puts_own hg ys (w.setCell ⟨g, o, none⟩ y) (o + 1) _ h1 (by omega) (fun b hb => by simpa using hp b hb)
    exact ⟨h3, h2.trans h4⟩
theorem OwR.puts {db : Nat} {ρ : Nat → BR} {r : BR} {e : TypeId} {n len : Nat} {v : Value} {g : Nat} {w : World} {xs : List Value} (h : OwR ρ r w (db + 1) e n v len xs) (hg : v.ownBlock = some g) {j : Nat} (hj : j < len) {ys : List Value} (hy : ys.length = n) (hp : ∀ b, ρ b ≠ .no → b < w.heap.size) :
    OwR ρ r (puts w g (j * n) ys) (db + 1) e n v len (setL xs (j * n) ys) ∧ MvR db (· = r) w (puts w g (j * n) ys) ρ ρ ∧ (∀ q, q < n → (setL xs (j * n) ys)[j * n + q]? = ys[q]?) ∧ ∀ i q, i ≠ j → q < n → (setL xs (j * n) ys)[i * n + q]? = xs[i * n + q]? := by
  have hl : j * n + ys.length ≤ len * n := by
    have : (j + 1) * n ≤ len * n := Nat.mul_le_mul_right _ hj
    rw [Nat.add_mul] at this; omega
  obtain ⟨h1, h2⟩ := puts_own hg ys w (j * n) xs h hl hp
  refine ⟨h1, h2, fun q hq => setL_in ys xs _ q (by omega) (by rw [h.1.1]; exact hl), fun i q hi hq => setL_out ys xs _ _ ?_⟩
  rcases Nat.lt_or_gt_of_ne hi with h | h
  · left
    have : (i + 1) * n ≤ j * n := Nat.mul_le_mul_right _ h
    rw [Nat.add_mul] at this; omega
  · right
    have : (j + 1) * n ≤ i * n := Nat.mul_le_mul_right _ h
    rw [Nat.add_mul] at this; omega
section
variable {db ub : Nat} {m : Int} {v1 v2 v3 v4 v5 : Value} {es1 : List (Value × Nat)} {es3 : List UF} {es4 : List UI} {n5 : Nat} {live : BR → Prop} {a b c d : Nat} {ρ : Nat → BR} {w : World}
theorem UnP.put1 (h : UnP db ub m v1 v2 v3 v4 v5 es1 es3 es4 n5 live a b c d ρ w) {g : Nat} (hg : v1.ownBlock = some g) (ha : a < es1.length) (hp : ∀ b, ρ b ≠ .no → b < w.heap.size) (hd : ρ db = .no) :
    UnP db ub m v1 v2 v3 v4 v5 es1 es3 es4 n5 live (a + 1) b c d (new1 w.heap.size ρ) ((w.alloc (.cells #[.int .i64 m] 3)).setCell ⟨g, a, none⟩ (.slice (some ⟨w.heap.size, 0, none⟩) 1 1)) ∧ MvR db (· = .ls 0 0) w ((w.alloc (.cells #[.int .i64 m] 3)).setCell ⟨g, a, none⟩ (.slice (some ⟨w.heap.size, 0, none⟩) 1 1)) ρ (new1 w.heap.size ρ) := by
  have m1 : MvR db (fun _ => False) w (w.alloc (.cells #[.int .i64 m] 3)) ρ (new1 w.heap.size ρ) := mv_new _ _
  have hp1 : ∀ b, new1 w.heap.size ρ b ≠ .no → b < (w.alloc (.cells #[.int .i64 m] 3)).heap.size := fun b hb => by
    by_cases hl : b < w.heap.size
    · exact Nat.lt_of_lt_of_le hl m1.size
    · exact m1.new b (by omega) hb
  obtain ⟨xs, p1, p2, p3⟩ := h.o1
  obtain ⟨k1, m2⟩ := (p1.mv m1 id).set hg a (by omega) (.slice (some ⟨w.heap.size, 0, none⟩) 1 1) hp1
  have hdl : db < w.heap.size := Nat.lt_of_lt_of_le (Nat.lt_of_succ_le (p1.1.lt g hg).1) (Nat.le_of_lt (p1.1.lt g hg).2)
  have hd1 : new1 w.heap.size ρ db = .no := (m1.old db hdl).trans hd
  have mv := (m1.mono (A' := (· = .ls 0 0)) (fun _ h => h.elim)).trans m2
  obtain ⟨r1, r2, r3, r4⟩ := h.rest mv (fun r hr => ⟨0, hr, by decide⟩) hd
  have st2 := m2.stay nofun (by rw [hd1]; nofun)
  obtain ⟨x3, s1, s2, s3⟩ := h.o3
  obtain ⟨x4, t1, t2, t3⟩ := h.o4
  obtain ⟨x5, q1, q2⟩ := h.o5
  refine ⟨⟨r1, r2, r3, ⟨_, k1, fun j hj => ?_, fun j e hj he => ?_⟩, ⟨x3, s1.mv mv nofun, s2, s3⟩, ⟨x4, t1.mv mv nofun, t2, t3⟩, ⟨x5, q1.mv mv nofun, q2⟩⟩, mv⟩
  · by_cases e : j = a
    · subst e
      exact ⟨_, by rw [List.getElem?_set, if_pos rfl, if_pos (by rw [p1.1.1]; omega)], (ints_new w ρ m).stay st2⟩
    · obtain ⟨vx, e1, e2⟩ := p2 j (by omega)
      exact ⟨vx, by rw [List.getElem?_set, if_neg (fun x => e x.symm)]; exact e1, e2.stay r4⟩
  · rw [List.getElem?_set, if_neg (by omega)]; exact p3 j e (by omega) he
theorem UnP.put3 (h : UnP db ub m v1 v2 v3 v4 v5 es1 es3 es4 n5 live a b c d ρ w) {g : Nat} (hg : v3.ownBlock = some g) (hb : b < es3.length) (hp : ∀ b, ρ b ≠ .no → b < w.heap.size) (hd : ρ db = .no) :
    UnP db ub m v1 v2 v3 v4 v5 es1 es3 es4 n5 live a (b + 1) c d ρ (puts w g (b * 4) (yF m)) ∧ MvR db (· = .ls 2 0) w (puts w g (b * 4) (yF m)) ρ ρ := by
  obtain ⟨x1, p1, p2, p3⟩ := h.o1
  obtain ⟨x3, s1, s2, s3⟩ := h.o3
  obtain ⟨x4, t1, t2, t3⟩ := h.o4
  obtain ⟨x5, q1, q2⟩ := h.o5
  obtain ⟨k1, mv, k2, k3⟩ := s1.puts hg hb (ys := yF m) rfl hp
  obtain ⟨r1, r2, r3, r4⟩ := h.rest mv (fun r hr => ⟨2, hr, by decide⟩) hd
  refine ⟨⟨r1, r2, r3, ⟨x1, p1.mv mv nofun, fun j hj => ?_, p3⟩, ⟨_, k1, fun j q hj hq => ?_, fun j e q hj he hq => ?_⟩, ⟨x4, t1.mv mv nofun, t2, t3⟩, ⟨x5, q1.mv mv nofun, q2⟩⟩, mv⟩
  · obtain ⟨vx, e1, e2⟩ := p2 j hj
    exact ⟨vx, e1, e2.stay r4⟩
  · by_cases e : j = b
    · subst e; exact k2 q hq
    · rw [k3 j q e hq]; exact s2 j q (by omega) hq
  · rw [k3 j q (by omega) hq]; exact s3 j e q (by omega) he hq
theorem UnP.put4 (h : UnP db ub m v1 v2 v3 v4 v5 es1 es3 es4 n5 live a b c d ρ w) {g : Nat} (hg : v4.ownBlock = some g) (hb : c < es4.length) (hp : ∀ b, ρ b ≠ .no → b < w.heap.size) (hd : ρ db = .no) :
    UnP db ub m v1 v2 v3 v4 v5 es1 es3 es4 n5 live a b (c + 1) d ρ (puts w g (c * 3) (yI m)) ∧ MvR db (· = .ls 3 0) w (puts w g (c * 3) (yI m)) ρ ρ := by
  obtain ⟨x1, p1, p2, p3⟩ := h.o1
  obtain ⟨x3, s1, s2, s3⟩ := h.o3
  obtain ⟨x4, t1, t2, t3⟩ := h.o4
  obtain ⟨x5, q1, q2⟩ := h.o5
  obtain ⟨k1, mv, k2, k3⟩ := t1.puts hg hb (ys := yI m) rfl hp
  obtain ⟨r1, r2, r3, r4⟩ := h.rest mv (fun r hr => ⟨3, hr, by decide⟩) hd
  refine ⟨⟨r1, r2, r3, ⟨x1, p1.mv mv nofun, fun j hj => ?_, p3⟩, ⟨x3, s1.mv mv nofun, s2, s3⟩, ⟨_, k1, fun j q hj hq => ?_, fun j e q hj he hq => ?_⟩, ⟨x5, q1.mv mv nofun, q2⟩⟩, mv⟩
  · obtain ⟨vx, e1, e2⟩ := p2 j hj
    exact ⟨vx, e1, e2.stay r4⟩
  · by_cases e : j = c
    · subst e; exact k2 q hq
    · rw [k3 j q e hq]; exact t2 j q (by omega) hq
  · rw [k3 j q (by omega) hq]; exact t3 j e q (by omega) he hq
theorem UnP.put5 (h : UnP db ub m v1 v2 v3 v4 v5 es1 es3 es4 n5 live a b c d ρ w) {g : Nat} (hg : v5.ownBlock = some g) (hb : d < n5) (hp : ∀ b, ρ b ≠ .no → b < w.heap.size) (hd : ρ db = .no) :
    UnP db ub m v1 v2 v3 v4 v5 es1 es3 es4 n5 live a b c (d + 1) ρ (puts w g (d * 2) (yE m)) ∧ MvR db (· = .ls 4 0) w (puts w g (d * 2) (yE m)) ρ ρ := by
  obtain ⟨x1, p1, p2, p3⟩ := h.o1
  obtain ⟨x3, s1, s2, s3⟩ := h.o3
  obtain ⟨x4, t1, t2, t3⟩ := h.o4
  obtain ⟨x5, q1, q2⟩ := h.o5
  obtain ⟨k1, mv, k2, k3⟩ := q1.puts hg hb (ys := yE m) rfl hp
  obtain ⟨r1, r2, r3, r4⟩ := h.rest mv (fun r hr => ⟨4, hr, by decide⟩) hd
  refine ⟨⟨r1, r2, r3, ⟨x1, p1.mv mv nofun, fun j hj => ?_, p3⟩, ⟨x3, s1.mv mv nofun, s2, s3⟩, ⟨x4, t1.mv mv nofun, t2, t3⟩, ⟨_, k1, fun j q hj hq => ?_⟩⟩, mv⟩
  · obtain ⟨vx, e1, e2⟩ := p2 j hj
    exact ⟨vx, e1, e2.stay r4⟩
  · by_cases e : j = d
    · subst e; exact k2 q hq
    · rw [k3 j q e hq]; exact q2 j q (by omega) hq
end
end Go.Proofs.YtkgncijcnlfhiaaDoor

namespace Go.Proofs.YtkgncijcnlfhiaaDoor
set_option linter.unusedVariables false
set_option linter.unusedSimpArgs false
open Go.RowKit
abbrev OE := (Value × Value × Value × Value) × (Nat × Nat × Nat × Nat)
structure Ch (db : Nat) (m : Int) (ρ : Nat → BR) (w : World) (v1 v3 v4 v5 : Value) (L1 L3 L4 L5 : Nat) (xs1 : List Value) (es : List OE) : Prop where
  o1 : OwR ρ (.ls 0 0) w (db + 1) 23 1 v1 L1 xs1
  x1 : ∀ vx ∈ xs1, RIntsP (fun b => ρ b = .dn) w vx [m]
  o3 : OwR ρ (.ls 2 0) w (db + 1) 76 4 v3 L3 (rp L3 (yF m))
  o4 : OwR ρ (.ls 3 0) w (db + 1) 79 3 v4 L4 (rp L4 (yI m))
  o5 : OwR ρ (.ls 4 0) w (db + 1) 81 2 v5 L5 (rp L5 (yE m))
  es : ∀ e ∈ es, (EntR ρ (.ls 2 0) 4 w e.1.1 e.2.1 (rp e.2.1 (yF m)) ∧ e.2.1 ≤ L3) ∧ (∃ xe, EntR ρ (.ls 0 0) 1 w e.1.2.1 e.2.2.1 xe ∧ xe <+: xs1) ∧ (EntR ρ (.ls 4 0) 2 w e.1.2.2.1 e.2.2.2.1 (rp e.2.2.2.1 (yE m)) ∧ e.2.2.2.1 ≤ L5) ∧ (EntR ρ (.ls 3 0) 3 w e.1.2.2.2 e.2.2.2.2 (rp e.2.2.2.2 (yI m)) ∧ e.2.2.2.2 ≤ L4)
section
variable {db ub : Nat} {m : Int} {v1 v2 v3 v4 v5 : Value} {L1 L3 L4 L5 : Nat} {xs1 : List Value} {es : List OE} {ρ ρ' : Nat → BR} {w w' : World}
theorem UnP.ch {es1 : List (Value × Nat)} {es3 : List UF} {es4 : List UI} {n5 : Nat} {live : BR → Prop} (h : UnP db ub m v1 v2 v3 v4 v5 es1 es3 es4 n5 live es1.length es3.length es4.length n5 ρ w) : ∃ xs1, Ch db m ρ w v1 v3 v4 v5 es1.length es3.length es4.length n5 xs1 [] := by
  obtain ⟨x1, p1, p2, _⟩ := h.o1
  obtain ⟨x3, s1, s2, _⟩ := h.o3
  obtain ⟨x4, t1, t2, _⟩ := h.o4
  obtain ⟨x5, q1, q2⟩ := h.o5
  refine ⟨x1, p1, fun vx hvx => ?_, ?_, ?_, ?_, fun e he => by simp at he⟩
  · obtain ⟨j, hj⟩ := List.mem_iff_getElem?.1 hvx
    have hjl : j < es1.length := by have := (List.getElem?_eq_some_iff.1 hj).1; have e := p1.1.1; omega
    obtain ⟨vy, e1, e2⟩ := p2 j hjl
    rw [hj] at e1
    obtain rfl := Option.some.inj e1
    exact e2
  · rw [← rp_of s1.1.1 rfl (by decide) s2]; exact s1
  · rw [← rp_of t1.1.1 rfl (by decide) t2]; exact t1
  · rw [← rp_of q1.1.1 rfl (by decide) q2]; exact q1
theorem Ch.push (h : Ch db m ρ w v1 v3 v4 v5 L1 L3 L4 L5 xs1 es) : Ch db m ρ w v1 v3 v4 v5 L1 L3 L4 L5 xs1 (es ++ [((v3, v1, v5, v4), (L3, L1, L5, L4))]) := by
  refine ⟨h.o1, h.x1, h.o3, h.o4, h.o5, fun e he => ?_⟩
  rcases List.mem_append.1 he with he | he
  · exact h.es e he
  · rw [List.mem_singleton.1 he]
    exact ⟨⟨.of h.o3, Nat.le_refl _⟩, ⟨xs1, .of h.o1, List.prefix_rfl⟩, ⟨.of h.o5, Nat.le_refl _⟩, ⟨.of h.o4, Nat.le_refl _⟩⟩
theorem Ch.mv {A : BR → Prop} (h : Ch db m ρ w v1 v3 v4 v5 L1 L3 L4 L5 xs1 es) (mv : MvR db A w w' ρ ρ') (hA : ∀ r, A r → ∃ i, r = .row i) (hd : ρ db = .no) : Ch db m ρ' w' v1 v3 v4 v5 L1 L3 L4 L5 xs1 es := by
  have hl : ∀ q j, ¬ A (.ls q j) := fun q j h => by obtain ⟨i, e⟩ := hA _ h; cases e
  have hn : ∀ q j, ρ db ≠ .ls q j := fun q j => by rw [hd]; nofun
  have st := mv.stay (fun h => by obtain ⟨i, e⟩ := hA _ h; cases e) (by rw [hd]; nofun)
  refine ⟨h.o1.mv mv (hl _ _), fun vx hv => (h.x1 vx hv).stay st, h.o3.mv mv (hl _ _), h.o4.mv mv (hl _ _), h.o5.mv mv (hl _ _), fun e he => ?_⟩
  obtain ⟨⟨a1, a2⟩, ⟨xe, b1, b2⟩, ⟨c1, c2⟩, ⟨d1, d2⟩⟩ := h.es e he
  exact ⟨⟨a1.mv mv (hl _ _) (hn _ _), a2⟩, ⟨xe, b1.mv mv (hl _ _) (hn _ _), b2⟩, ⟨c1.mv mv (hl _ _) (hn _ _), c2⟩, ⟨d1.mv mv (hl _ _) (hn _ _), d2⟩⟩
theorem Ch.app1 (h : Ch db m ρ w v1 v3 v4 v5 L1 L3 L4 L5 xs1 es) {vx v' : Value} (hx : RIntsP (fun b => ρ b = .dn) w vx [m]) (hap : Ap (db + 1) 23 1 w v1 w' v' (L1 + 1) (xs1 ++ [vx])) (hk : v'.ownBlock = v1.ownBlock ∨ w.grownBy w' none) (hd : ρ db = .no) : Ch db m (grw w.heap.size v' (.ls 0 0) ρ) w' v' v3 v4 v5 (L1 + 1) L3 L4 L5 (xs1 ++ [vx]) es := by
  have mv : MvR db (· = .ls 0 0) w w' ρ (grw w.heap.size v' (.ls 0 0) ρ) := mv_ap hap h.o1.2
  have hn : ∀ q j, ρ db ≠ .ls q j := fun q j => by rw [hd]; nofun
  have st := mv.stay nofun (by rw [hd]; nofun)
  refine ⟨h.o1.app hap, fun x hv => ?_, h.o3.mv mv nofun, h.o4.mv mv nofun, h.o5.mv mv nofun, fun e he => ?_⟩
  · rcases List.mem_append.1 hv with hv | hv
    · exact (h.x1 x hv).stay st
    · rw [List.mem_singleton.1 hv]; exact hx.stay st
  · obtain ⟨⟨a1, a2⟩, ⟨xe, b1, b2⟩, ⟨c1, c2⟩, ⟨d1, d2⟩⟩ := h.es e he
    exact ⟨⟨a1.mv mv nofun (hn _ _), a2⟩, ⟨xe, b1.app b2 h.o1.1 hap hk, b2.trans (List.prefix_append _ _)⟩, ⟨c1.mv mv nofun (hn _ _), c2⟩, ⟨d1.mv mv nofun (hn _ _), d2⟩⟩
theorem Ch.app3 (h : Ch db m ρ w v1 v3 v4 v5 L1 L3 L4 L5 xs1 es) {v' : Value} (hap : Ap (db + 1) 76 4 w v3 w' v' (L3 + 1) (rp L3 (yF m) ++ yF m)) (hk : v'.ownBlock = v3.ownBlock ∨ w.grownBy w' none) (hd : ρ db = .no) : Ch db m (grw w.heap.size v' (.ls 2 0) ρ) w' v1 v' v4 v5 L1 (L3 + 1) L4 L5 xs1 es := by
  have mv : MvR db (· = .ls 2 0) w w' ρ (grw w.heap.size v' (.ls 2 0) ρ) := mv_ap hap h.o3.2
  have hn : ∀ q j, ρ db ≠ .ls q j := fun q j => by rw [hd]; nofun
  have st := mv.stay nofun (by rw [hd]; nofun)
  refine ⟨h.o1.mv mv nofun, fun x hv => (h.x1 x hv).stay st, by have := h.o3.app hap; rw [rp_snoc] at this; exact this, h.o4.mv mv nofun, h.o5.mv mv nofun, fun e he => ?_⟩
  obtain ⟨⟨a1, a2⟩, ⟨xe, b1, b2⟩, ⟨c1, c2⟩, ⟨d1, d2⟩⟩ := h.es e he
  exact ⟨⟨a1.app (rp_pre a2 _) h.o3.1 hap hk, by omega⟩, ⟨xe, b1.mv mv nofun (hn _ _), b2⟩, ⟨c1.mv mv nofun (hn _ _), c2⟩, ⟨d1.mv mv nofun (hn _ _), d2⟩⟩
theorem Ch.app4 (h : Ch db m ρ w v1 v3 v4 v5 L1 L3 L4 L5 xs1 es) {v' : Value} (hap : Ap (db + 1) 79 3 w v4 w' v' (L4 + 1) (rp L4 (yI m) ++ yI m)) (hk : v'.ownBlock = v4.ownBlock ∨ w.grownBy w' none) (hd : ρ db = .no) : Ch db m (grw w.heap.size v' (.ls 3 0) ρ) w' v1 v3 v' v5 L1 L3 (L4 + 1) L5 xs1 es := by
  have mv : MvR db (· = .ls 3 0) w w' ρ (grw w.heap.size v' (.ls 3 0) ρ) := mv_ap hap h.o4.2
  have hn : ∀ q j, ρ db ≠ .ls q j := fun q j => by rw [hd]; nofun
  have st := mv.stay nofun (by rw [hd]; nofun)
  refine ⟨h.o1.mv mv nofun, fun x hv => (h.x1 x hv).stay st, h.o3.mv mv nofun, by have := h.o4.app hap; rw [rp_snoc] at this; exact this, h.o5.mv mv nofun, fun e he => ?_⟩
  obtain ⟨⟨a1, a2⟩, ⟨xe, b1, b2⟩, ⟨c1, c2⟩, ⟨d1, d2⟩⟩ := h.es e he
  exact ⟨⟨a1.mv mv nofun (hn _ _), a2⟩, ⟨xe, b1.mv mv nofun (hn _ _), b2⟩, ⟨c1.mv mv nofun (hn _ _), c2⟩, ⟨d1.app (rp_pre d2 _) h.o4.1 hap hk, by omega⟩⟩
theorem Ch.app5 (h : Ch db m ρ w v1 v3 v4 v5 L1 L3 L4 L5 xs1 es) {v' : Value} (hap : Ap (db + 1) 81 2 w v5 w' v' (L5 + 1) (rp L5 (yE m) ++ yE m)) (hk : v'.ownBlock = v5.ownBlock ∨ w.grownBy w' none) (hd : ρ db = .no) : Ch db m (grw w.heap.size v' (.ls 4 0) ρ) w' v1 v3 v4 v' L1 L3 L4 (L5 + 1) xs1 es := by
  have mv : MvR db (· = .ls 4 0) w w' ρ (grw w.heap.size v' (.ls 4 0) ρ) := mv_ap hap h.o5.2
  have hn : ∀ q j, ρ db ≠ .ls q j := fun q j => by rw [hd]; nofun
  have st := mv.stay nofun (by rw [hd]; nofun)
  refine ⟨h.o1.mv mv nofun, fun x hv => (h.x1 x hv).stay st, h.o3.mv mv nofun, h.o4.mv mv nofun, by have := h.o5.app hap; rw [rp_snoc] at this; exact this, fun e he => ?_⟩
  obtain ⟨⟨a1, a2⟩, ⟨xe, b1, b2⟩, ⟨c1, c2⟩, ⟨d1, d2⟩⟩ := h.es e he
  exact ⟨⟨a1.mv mv nofun (hn _ _), a2⟩, ⟨xe, b1.mv mv nofun (hn _ _), b2⟩, ⟨c1.app (rp_pre c2 _) h.o5.1 hap hk, by omega⟩, ⟨d1.mv mv nofun (hn _ _), d2⟩⟩
end
/-- all lists are done -/
def finL (ρ : Nat → BR) (k : Nat) : BR := match ρ k with
  | .ls _ _ => .dn
  | r => r
theorem finL_ls {ρ : Nat → BR} {k q j : Nat} (h : ρ k = .ls q j) : finL ρ k = .dn := by unfold finL; rw [h]
theorem finL_dn {ρ : Nat → BR} {k : Nat} (h : ρ k = .dn) : finL ρ k = .dn := by unfold finL; rw [h]
theorem finL_no {ρ : Nat → BR} {k : Nat} (h : ρ k = .no) : finL ρ k = .no := by unfold finL; rw [h]
theorem finL_stay {ρ : Nat → BR} {w : World} : Stay (fun b => ρ b = .dn) (fun b => finL ρ b = .dn) w w := fun _ hb _ => ⟨rfl, finL_dn hb⟩
theorem BookS.finL_ {db : Nat} {w : World} {vo : Value} {n : Int} {V : Nat → Value} {X : Nat → List Value} {ρ : Nat → BR} (h : BookS db w vo n V X ρ) : BookS db w vo n V X (finL ρ) := by
  refine ⟨h.box, fun i h1 h2 => ⟨(h.row i h1 h2).1, fun k hk => ?_⟩, fun b hb => ?_⟩
  · have := (h.row i h1 h2).2 k hk
    unfold finL; rw [this]
  · exact h.pl b fun e => hb (finL_no e)
theorem MvU.finL_ (db : Nat) (w : World) (ρ : Nat → BR) : MvU db w w ρ (finL ρ) := ⟨Nat.le_refl _, fun k _ _ hr => ⟨by rcases hr with h | h; exact (finL_no h).trans h.symm; exact (finL_dn h).trans h.symm, rfl⟩, rfl, rfl, rfl⟩
/-- an element's cells, one by one -/
theorem EntR.cells {ρ : Nat → BR} {r : BR} {sz : Nat} {w : World} {v : Value} {L : Nat} {y : List Value} (h : EntR ρ r sz w v L (rp L y)) (hy : y.length = sz) (h0 : 0 < sz) : ∃ ao c, v = .slice ao L c ∧ L ≤ maxLen ∧ ∀ i, i < L → ∃ b, ao = some ⟨b, 0, none⟩ ∧ ρ b = r ∧ ∀ q, q < sz → w.cell? ⟨b, 0 + (i * sz + q), none⟩ = y[q]? := by
  obtain ⟨⟨ao, c, rfl, hm, hl, hc⟩, hb⟩ := h
  refine ⟨ao, c, rfl, hm, fun i hi => ?_⟩
  have hat : ∀ q, q < sz → (rp L y)[i * sz + q]? = y[q]? := fun q hq => rp_at hy hi hq
  have hsome : ∀ q (hq : q < sz), y[q]? = some (y[q]'(by omega)) := fun q hq => List.getElem?_eq_getElem (by omega)
  obtain ⟨b, rfl, _⟩ := hc (i * sz + 0) _ ((hat 0 h0).trans (hsome 0 h0))
  refine ⟨b, rfl, (hb b rfl).1, fun q hq => ?_⟩
  obtain ⟨b', e, h2⟩ := hc (i * sz + q) _ ((hat q hq).trans (hsome q hq))
  simp only [Option.some.injEq, Addr.mk.injEq, and_true] at e
  subst e
  rw [Nat.zero_add, h2, hsome q hq]
theorem nil_ints (P : Nat → Prop) (w : World) : RIntsP P w (.slice none 0 0) [] := ⟨none, 0, rfl, Nat.zero_le _, fun i y h => by simp at h⟩
theorem nil_code (P : Nat → Prop) (w : World) : RCodeP P w (.slice none 0 0) [] := ⟨none, 0, rfl, Nat.zero_le _, fun i y h => by simp at h⟩
theorem nil_text : RText (.string ⟨#[]⟩) [] := ⟨⟨#[]⟩, rfl, rfl, Nat.zero_le _⟩
theorem rep_at {α : Type} {L i : Nat} {x y : α} (h : (List.replicate L x)[i]? = some y) : i < L ∧ y = x := by
  have hl : i < L := by have := (List.getElem?_eq_some_iff.1 h).1; simpa using this
  rw [List.getElem?_replicate, if_pos hl] at h
  exact ⟨hl, (Option.some.inj h).symm⟩
theorem EntR.funcs {ρ : Nat → BR} {q0 j0 : Nat} {w : World} {v : Value} {L : Nat} {m : Int} (h : EntR ρ (.ls q0 j0) 4 w v L (rp L (yF m))) : RFuncsP (fun b => finL ρ b = .dn) w v (List.replicate L ⟨[], m, [], []⟩) := by
  obtain ⟨ao, c, rfl, hm, hc⟩ := h.cells rfl (by decide)
  refine ⟨ao, c, by simp, by simpa using hm, fun i x hi => ?_⟩
  obtain ⟨hl, rfl⟩ := rep_at hi
  obtain ⟨b, e, hb, hq⟩ := hc i hl
  exact ⟨b, 0, _, _, _, e, finL_ls hb, hq 0 (by decide), hq 1 (by decide), hq 2 (by decide), hq 3 (by decide), nil_ints _ _, nil_ints _ _, nil_code _ _⟩
theorem EntR.imps {ρ : Nat → BR} {q0 j0 : Nat} {w : World} {v : Value} {L : Nat} {m : Int} (h : EntR ρ (.ls q0 j0) 3 w v L (rp L (yI m))) : RImportsP (fun b => finL ρ b = .dn) w v (List.replicate L ⟨[], [], m⟩) := by
  obtain ⟨ao, c, rfl, hm, hc⟩ := h.cells rfl (by decide)
  refine ⟨ao, c, by simp, by simpa using hm, fun i x hi => ?_⟩
  obtain ⟨hl, rfl⟩ := rep_at hi
  obtain ⟨b, e, hb, hq⟩ := hc i hl
  exact ⟨b, 0, _, _, e, finL_ls hb, hq 0 (by decide), hq 1 (by decide), hq 2 (by decide), nil_text, nil_ints _ _⟩
theorem EntR.exps {ρ : Nat → BR} {q0 j0 : Nat} {w : World} {v : Value} {L : Nat} {m : Int} (h : EntR ρ (.ls q0 j0) 2 w v L (rp L (yE m))) : RExportsP (fun b => finL ρ b = .dn) w v (List.replicate L ⟨[], m⟩) := by
  obtain ⟨ao, c, rfl, hm, hc⟩ := h.cells rfl (by decide)
  refine ⟨ao, c, by simp, by simpa using hm, fun i x hi => ?_⟩
  obtain ⟨hl, rfl⟩ := rep_at hi
  obtain ⟨b, e, hb, hq⟩ := hc i hl
  exact ⟨b, 0, _, e, finL_ls hb, hq 0 (by decide), hq 1 (by decide), nil_text⟩
theorem EntR.shapes {ρ : Nat → BR} {q0 j0 : Nat} {w : World} {v : Value} {L : Nat} {m : Int} {xs : List Value} (h : EntR ρ (.ls q0 j0) 1 w v L xs) (hx : ∀ vx ∈ xs, RIntsP (fun b => ρ b = .dn) w vx [m]) : RShapesP (fun b => finL ρ b = .dn) w v (List.replicate L [m]) := by
  obtain ⟨⟨ao, c, rfl, hm, hl, hc⟩, hb⟩ := h
  refine ⟨ao, c, by simp, by simpa using hm, fun i x hi => ?_⟩
  obtain ⟨hil, rfl⟩ := rep_at hi
  have hxl : i < xs.length := by omega
  obtain ⟨b, rfl, h2⟩ := hc i xs[i] (List.getElem?_eq_getElem hxl)
  exact ⟨b, 0, _, rfl, finL_ls (hb b rfl).1, by rw [Nat.zero_add]; exact h2, (hx _ (List.getElem_mem hxl)).stay finL_stay⟩
theorem Ch.book {db : Nat} {m : Int} {v1 v3 v4 v5 : Value} {L1 L3 L4 L5 : Nat} {xs1 : List Value} {es : List OE} {ρ : Nat → BR} {w : World} {X X' : Nat → List Value} (h : Ch db m ρ w v1 v3 v4 v5 L1 L3 L4 L5 xs1 es) (hE : BookE w ρ X) (h6 : X' 6 = X 6 ++ es.map (·.1.1)) (h7 : X' 7 = X 7 ++ es.map (·.1.2.1)) (h8 : X' 8 = X 8 ++ es.map (·.1.2.2.1)) (h9 : X' 9 = X 9 ++ es.map (·.1.2.2.2)) (h10 : X' 10 = X 10 ++ es.map (fun _ => .int .i64 m)) (hX : ∀ q, q < 6 → X' q = X q) : BookE w (finL ρ) X' := by
  have hE2 := hE.stay finL_stay
  obtain ⟨O, o1, o2, o3, o4, o5, o6⟩ := hE2.o
  refine ⟨by rw [hX 2 (by decide), hX 3 (by decide)]; exact hE2.i, by rw [hX 4 (by decide), hX 5 (by decide)]; exact hE2.c, ⟨O ++ es.map (fun e => (e.1, e.2, m)), ?_, ?_, ?_, ?_, ?_, fun e he => ?_⟩⟩
  · rw [h6, o1]; simp
  · rw [h7, o2]; simp
  · rw [h8, o3]; simp
  · rw [h9, o4]; simp
  · rw [h10, o5]; simp
  · rcases List.mem_append.1 he with he | he
    · exact o6 e he
    · obtain ⟨e0, he0, rfl⟩ := List.mem_map.1 he
      obtain ⟨⟨a1, a2⟩, ⟨xe, b1, b2⟩, ⟨c1, c2⟩, ⟨d1, d2⟩⟩ := h.es e0 he0
      exact ⟨a1.funcs, b1.shapes (fun vx hv => h.x1 vx (b2.subset hv)), c1.exps, d1.imps⟩
end Go.Proofs.YtkgncijcnlfhiaaDoor

