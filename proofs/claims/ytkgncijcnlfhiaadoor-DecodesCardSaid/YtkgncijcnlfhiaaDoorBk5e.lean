import Derived.Test.YtkgncijcnlfhiaaDoorBka
import Derived.Test.YtkgncijcnlfhiaaDoorQ7
namespace Go.Proofs.YtkgncijcnlfhiaaDoor
set_option linter.unusedVariables false
set_option linter.unusedSimpArgs false
open Go.RowKit
def strOf : Option Value → ByteArray
  | some (.string s) => s
  | _ => ⟨#[]⟩
theorem pos4 {p n : Nat} (h : p < n * 4) : p / 4 < n ∧ p = p / 4 * 4 + p % 4 ∧ p % 4 < 4 := by omega
theorem pos3 {p n : Nat} (h : p < n * 3) : p / 3 < n ∧ p = p / 3 * 3 + p % 3 ∧ p % 3 < 3 := by omega
set_option maxHeartbeats 1000000 in
theorem uno_of {db B : Nat} {w : World} {v : Value} {u : PUnit} (h : RUnitG B w v u) (hok : unitOk u = true) (hdb : db + 1 ≤ B) : ∃ v1 v2 v3 v4 v5 es1 es3 es4, ∃ r : Nat → BR, v = .agg #[v1, v2, v3, v4, v5] ∧ es1.length = u.shapes.length ∧ es3.length = u.funcs.length ∧ es4.length = u.imports.length ∧ (∀ k, r k ≠ .no → B ≤ k ∧ k < w.heap.size) ∧ ∀ ρ : Nat → BR, (∀ k, B ≤ k → ρ k = r k) → UnO db v1 v2 v3 v4 v5 es1 u.consts.length es3 es4 u.exports.length ρ w := by
  obtain ⟨l1, l2, l3, l4, l5, l6, l7, l8⟩ := lens_ok hok
  obtain ⟨v1, v2, v3, v4, v5, a1, b1, a2, b2, a3, b3, a4, b4, a5, b5, hv, hb, h1, h2, h3, h4, h5⟩ := h
  obtain ⟨g1, r1, d1, i1⟩ := at_shapes h1
  obtain ⟨g2, r2⟩ := at_ints h2
  obtain ⟨g3, r3, d3, i3⟩ := at_funcs h3
  obtain ⟨g4, r4, d4, i4⟩ := at_imps h4
  obtain ⟨g5, r5⟩ := at_exps h5
  clear h1 h2 h3 h4 h5
  have q1 := r1.lo; have q1' := r1.hi
  have q2 := r2.lo; have q2' := r2.hi
  have q3 := r3.lo; have q3' := r3.hi
  have q4 := r4.lo; have q4' := r4.hi
  have q5 := r5.lo; have q5' := r5.hi
  obtain ⟨es1, he1⟩ : ∃ es1 : List (Value × Nat), es1 = rg u.shapes.length (fun i => ((w.cell? ⟨g1, i, none⟩).getD (.slice none 0 0), (u.shapes[i]?.getD []).length)) := ⟨_, rfl⟩
  obtain ⟨es3, he3⟩ : ∃ es3 : List UF, es3 = rg u.funcs.length (fun i => ⟨(w.cell? ⟨g3, i * 4, none⟩).getD (.slice none 0 0), (u.funcs[i]?.getD ⟨[], 0, [], []⟩).result, (w.cell? ⟨g3, i * 4 + 2, none⟩).getD (.slice none 0 0), (w.cell? ⟨g3, i * 4 + 3, none⟩).getD (.slice none 0 0), (u.funcs[i]?.getD ⟨[], 0, [], []⟩).params.length, (u.funcs[i]?.getD ⟨[], 0, [], []⟩).locals.length, (u.funcs[i]?.getD ⟨[], 0, [], []⟩).code.length⟩) := ⟨_, rfl⟩
  obtain ⟨es4, he4⟩ : ∃ es4 : List UI, es4 = rg u.imports.length (fun i => ⟨strOf (w.cell? ⟨g4, i * 3, none⟩), (w.cell? ⟨g4, i * 3 + 1, none⟩).getD (.slice none 0 0), (u.imports[i]?.getD ⟨[], [], 0⟩).result, (u.imports[i]?.getD ⟨[], [], 0⟩).params.length⟩) := ⟨_, rfl⟩
  have n1 : es1.length = u.shapes.length := by rw [he1, rg_len]
  have n3 : es3.length = u.funcs.length := by rw [he3, rg_len]
  have n4 : es4.length = u.imports.length := by rw [he4, rg_len]
  refine ⟨v1, v2, v3, v4, v5, es1, es3, es4, uRole w b1 g1 u.shapes.length b2 g2 b3 g3 u.funcs.length b4 g4 u.imports.length g5, hv, n1, n3, n4, fun k hk => ?_, fun ρ hρ => ?_⟩
  · rcases role_some hk with rfl | ⟨p, hp, hr⟩ | rfl | rfl | ⟨p, hp, hr⟩ | rfl | ⟨p, hp, hr⟩ | rfl
    · exact ⟨by omega, r1.blk.lt⟩
    · obtain ⟨gx, e1, _, e3, _, e5, _⟩ := (i1 p _ (List.getElem?_eq_getElem (by omega))).rch
      rw [hr] at e1
      obtain rfl := Option.some.inj e1
      exact ⟨by omega, e5.lt⟩
    · exact ⟨by omega, r2.blk.lt⟩
    · exact ⟨by omega, r3.blk.lt⟩
    · obtain ⟨p1, p2, p3⟩ := pos4 hp
      obtain ⟨f0, f1, f2, f3⟩ := i3 (p / 4) _ (List.getElem?_eq_getElem p1)
      have hc : p % 4 = 0 ∨ p % 4 = 1 ∨ p % 4 = 2 ∨ p % 4 = 3 := by omega
      rcases hc with e | e | e | e
      · obtain ⟨gx, e1, _, e3, _, e5, _⟩ := f0.rch
        rw [show p / 4 * 4 = p by omega, hr] at e1
        obtain rfl := Option.some.inj e1
        exact ⟨by omega, e5.lt⟩
      · have := rch_int f1
        rw [show p / 4 * 4 + 1 = p by omega, hr] at this
        cases this
      · obtain ⟨gx, e1, _, e3, _, e5, _⟩ := f2.rch
        rw [show p / 4 * 4 + 2 = p by omega, hr] at e1
        obtain rfl := Option.some.inj e1
        exact ⟨by omega, e5.lt⟩
      · obtain ⟨gx, e1, _, e3, _, e5, _⟩ := f3.rch
        rw [show p / 4 * 4 + 3 = p by omega, hr] at e1
        obtain rfl := Option.some.inj e1
        exact ⟨by omega, e5.lt⟩
    · exact ⟨by omega, r4.blk.lt⟩
    · obtain ⟨p1, p2, p3⟩ := pos3 hp
      obtain ⟨⟨s, f0⟩, f1, f2⟩ := i4 (p / 3) _ (List.getElem?_eq_getElem p1)
      have hc : p % 3 = 0 ∨ p % 3 = 1 ∨ p % 3 = 2 := by omega
      rcases hc with e | e | e
      · have := rch_str f0
        rw [show p / 3 * 3 = p by omega, hr] at this
        cases this
      · obtain ⟨gx, e1, _, e3, _, e5, _⟩ := f1.rch
        rw [show p / 3 * 3 + 1 = p by omega, hr] at e1
        obtain rfl := Option.some.inj e1
        exact ⟨by omega, e5.lt⟩
      · have := rch_int f2
        rw [show p / 3 * 3 + 2 = p by omega, hr] at this
        cases this
    · exact ⟨by omega, r5.blk.lt⟩
  · have hown : ∀ (gx : Nat) (T : TypeId) (len sz : Nat) (rr : BR), Blk w gx T (len * sz) → len ≤ maxLen → B ≤ gx → uRole w b1 g1 u.shapes.length b2 g2 b3 g3 u.funcs.length b4 g4 u.imports.length g5 gx = rr → ∃ xs, OwR ρ rr w (db + 1) T sz (.slice (some ⟨gx, 0, none⟩) len len) len xs ∧ ∀ j, xs[j]? = w.cell? ⟨gx, j, none⟩ := by
      intro gx T len sz rr hb hm hB hr
      obtain ⟨xs, o1, o2⟩ := own_blk (base := db + 1) hb hm (by omega)
      refine ⟨xs, ⟨o1, fun k hk => ?_⟩, o2⟩
      obtain rfl := Option.some.inj hk
      exact (hρ _ hB).trans hr
    refine ⟨fun rr vv T sz n hi => ?_, ?_, ?_, ?_, ?_, ?_⟩
    · cases hi with
      | sh j e hj =>
        rw [he1] at hj
        obtain ⟨hjl, rfl⟩ := rg_at hj
        have hx := List.getElem?_eq_getElem hjl
        obtain ⟨gx, e1, e2, e3, e4, e5, e6⟩ := (i1 j _ hx).rch
        have hl := l2 _ (List.getElem_mem hjl)
        simp only [e2, hx, Option.getD_some]
        obtain ⟨xs, o1, _⟩ := hown gx _ _ _ _ e5 e6 (by omega) (role_5 (by omega) (by omega) (by omega) e1 d1)
        exact ⟨⟨xs, o1⟩, by omega⟩
      | fp j e hj =>
        rw [he3] at hj
        obtain ⟨hjl, rfl⟩ := rg_at hj
        have hx := List.getElem?_eq_getElem hjl
        obtain ⟨gx, e1, e2, e3, e4, e5, e6⟩ := (i3 j _ hx).1.rch
        have hl := l5 _ (List.getElem_mem hjl)
        simp only [e2, hx, Option.getD_some]
        have hr := role_f (w := w) (b1 := b1) (g1 := g1) (n1 := u.shapes.length) (b2 := b2) (g2 := g2) (b3 := b3) (g3 := g3) (n3 := u.funcs.length) (b4 := b4) (g4 := g4) (n4 := u.imports.length) (g5 := g5) (k := gx) (p := j * 4) (by omega) (by omega) (by omega) (by omega) (by omega) e1 d3
        rw [if_pos (by omega), show j * 4 / 4 = j by omega] at hr
        obtain ⟨xs, o1, _⟩ := hown gx _ _ _ _ e5 e6 (by omega) hr
        exact ⟨⟨xs, o1⟩, by omega⟩
      | fl j e hj =>
        rw [he3] at hj
        obtain ⟨hjl, rfl⟩ := rg_at hj
        have hx := List.getElem?_eq_getElem hjl
        obtain ⟨gx, e1, e2, e3, e4, e5, e6⟩ := (i3 j _ hx).2.2.1.rch
        have hl := l5 _ (List.getElem_mem hjl)
        simp only [e2, hx, Option.getD_some]
        have hr := role_f (w := w) (b1 := b1) (g1 := g1) (n1 := u.shapes.length) (b2 := b2) (g2 := g2) (b3 := b3) (g3 := g3) (n3 := u.funcs.length) (b4 := b4) (g4 := g4) (n4 := u.imports.length) (g5 := g5) (k := gx) (p := j * 4 + 2) (by omega) (by omega) (by omega) (by omega) (by omega) e1 d3
        rw [if_neg (by omega), if_pos (by omega), show (j * 4 + 2) / 4 = j by omega] at hr
        obtain ⟨xs, o1, _⟩ := hown gx _ _ _ _ e5 e6 (by omega) hr
        exact ⟨⟨xs, o1⟩, by omega⟩
      | fc j e hj =>
        rw [he3] at hj
        obtain ⟨hjl, rfl⟩ := rg_at hj
        have hx := List.getElem?_eq_getElem hjl
        obtain ⟨gx, e1, e2, e3, e4, e5, e6⟩ := (i3 j _ hx).2.2.2.rch
        have hl := l5 _ (List.getElem_mem hjl)
        simp only [e2, hx, Option.getD_some]
        have hr := role_f (w := w) (b1 := b1) (g1 := g1) (n1 := u.shapes.length) (b2 := b2) (g2 := g2) (b3 := b3) (g3 := g3) (n3 := u.funcs.length) (b4 := b4) (g4 := g4) (n4 := u.imports.length) (g5 := g5) (k := gx) (p := j * 4 + 3) (by omega) (by omega) (by omega) (by omega) (by omega) e1 d3
        rw [if_neg (by omega), if_neg (by omega), show (j * 4 + 3) / 4 = j by omega] at hr
        obtain ⟨xs, o1, _⟩ := hown gx _ _ _ _ e5 e6 (by omega) hr
        exact ⟨⟨xs, o1⟩, by omega⟩
      | ip j e hj =>
        rw [he4] at hj
        obtain ⟨hjl, rfl⟩ := rg_at hj
        have hx := List.getElem?_eq_getElem hjl
        obtain ⟨gx, e1, e2, e3, e4, e5, e6⟩ := (i4 j _ hx).2.1.rch
        have hl := l7 _ (List.getElem_mem hjl)
        simp only [e2, hx, Option.getD_some]
        have hr := role_9 (w := w) (b1 := b1) (g1 := g1) (n1 := u.shapes.length) (b2 := b2) (g2 := g2) (b3 := b3) (g3 := g3) (n3 := u.funcs.length) (b4 := b4) (g4 := g4) (n4 := u.imports.length) (g5 := g5) (k := gx) (p := j * 3 + 1) (by omega) (by omega) (by omega) (by omega) (by omega) (by omega) e1 d4
        rw [show (j * 3 + 1) / 3 = j by omega] at hr
        obtain ⟨xs, o1, _⟩ := hown gx _ _ _ _ e5 e6 (by omega) hr
        exact ⟨⟨xs, o1⟩, by omega⟩
    · obtain ⟨xs, o1, o2⟩ := hown g1 _ _ _ (.ls 0 0) r1.blk r1.len (by omega) (by unfold uRole; rw [if_pos q1', if_pos rfl])
      rw [← r1.v] at o1
      have e : xs = es1.map (·.1) := by
        apply List.ext_getElem?
        intro j
        by_cases hj : j < u.shapes.length
        · obtain ⟨gx, _, e2, _⟩ := (i1 j _ (List.getElem?_eq_getElem hj)).rch
          rw [o2, List.getElem?_map, he1, rg_get _ hj, e2]; rfl
        · rw [List.getElem?_eq_none (by have := o1.1.1; omega), List.getElem?_eq_none (by rw [List.length_map, n1]; omega)]
      rw [n1, ← e]; exact o1
    · obtain ⟨xs, o1, _⟩ := hown g2 _ _ _ (.ls 1 0) r2.blk r2.len (by omega) (by unfold uRole; rw [if_neg (by omega), if_pos q2', if_pos rfl])
      rw [← r2.v] at o1
      exact ⟨⟨xs, o1⟩, by omega⟩
    · obtain ⟨xs, o1, o2⟩ := hown g3 _ _ _ (.ls 2 0) r3.blk r3.len (by omega) (by unfold uRole; rw [if_neg (by omega), if_neg (by omega), if_pos q3', if_pos rfl])
      rw [← r3.v] at o1
      have e : xs = es3.flatMap bF := by
        refine flat_eq (n := 4) (fun _ => rfl) (by decide) (by rw [n3]; exact o1.1.1) fun i x c hx hc => ?_
        rw [he3] at hx
        obtain ⟨hil, rfl⟩ := rg_at hx
        have hu := List.getElem?_eq_getElem hil
        obtain ⟨f0, f1, f2, f3⟩ := i3 i _ hu
        obtain ⟨_, _, c0, _⟩ := f0.rch
        obtain ⟨_, _, c2, _⟩ := f2.rch
        obtain ⟨_, _, c3, _⟩ := f3.rch
        rw [o2]
        have hcc : c = 0 ∨ c = 1 ∨ c = 2 ∨ c = 3 := by omega
        rcases hcc with rfl | rfl | rfl | rfl
        · simp only [bF, c0, Nat.add_zero]; rfl
        · simp only [bF, f1, hu]; rfl
        · simp only [bF, c2]; rfl
        · simp only [bF, c3]; rfl
      rw [n3, ← e]; exact o1
    · obtain ⟨xs, o1, o2⟩ := hown g4 _ _ _ (.ls 3 0) r4.blk r4.len (by omega) (by unfold uRole; rw [if_neg (by omega), if_neg (by omega), if_neg (by omega), if_pos q4', if_pos rfl])
      rw [← r4.v] at o1
      have e : xs = es4.flatMap bI := by
        refine flat_eq (n := 3) (fun _ => rfl) (by decide) (by rw [n4]; exact o1.1.1) fun i x c hx hc => ?_
        rw [he4] at hx
        obtain ⟨hil, rfl⟩ := rg_at hx
        have hu := List.getElem?_eq_getElem hil
        obtain ⟨⟨s, f0⟩, f1, f2⟩ := i4 i _ hu
        obtain ⟨_, _, c1, _⟩ := f1.rch
        rw [o2]
        have hcc : c = 0 ∨ c = 1 ∨ c = 2 := by omega
        rcases hcc with rfl | rfl | rfl
        · simp only [bI, f0, Nat.add_zero]; rfl
        · simp only [bI, c1]; rfl
        · simp only [bI, f2, hu]; rfl
      rw [n4, ← e]; exact o1
    · obtain ⟨xs, o1, _⟩ := hown g5 _ _ _ (.ls 4 0) r5.blk r5.len (by omega) (by unfold uRole; rw [if_neg (by omega), if_neg (by omega), if_neg (by omega), if_neg (by omega), if_pos rfl])
      rw [← r5.v] at o1
      exact ⟨xs, o1⟩
end Go.Proofs.YtkgncijcnlfhiaaDoor

namespace Go.Proofs.YtkgncijcnlfhiaaDoor
set_option linter.unusedVariables false
set_option linter.unusedSimpArgs false
open Go.RowKit
structure B5 (db : Nat) (vo : Value) (nK : Int) (W : World) (ρ0 : Nat → BR) (X0 : Nat → List Value) (m : Int) (v1 v3 v4 v5 : Value) (L1 L3 L4 L5 : Nat) (xs1 : List Value) (es : List OE) (V : Nat → Value) (X : Nat → List Value) (ρ : Nat → BR) (w : World) : Prop where
  s : BookS db w vo nK V X ρ
  e : BookE w ρ X0
  c : Ch db m ρ w v1 v3 v4 v5 L1 L3 L4 L5 xs1 es
  u : MvU db W w ρ0 ρ
section
variable {db : Nat} {vo : Value} {nK : Int} {W : World} {ρ0 : Nat → BR} {X0 : Nat → List Value} {m : Int} {v1 v3 v4 v5 : Value} {L1 L3 L4 L5 : Nat} {xs1 : List Value} {es : List OE} {V : Nat → Value} {X : Nat → List Value} {ρ : Nat → BR} {w w' : World}
theorem B5.row (h : B5 db vo nK W ρ0 X0 m v1 v3 v4 v5 L1 L3 L4 L5 xs1 es V X ρ w) {i : Nat} (h2 : 2 ≤ i) (h10 : i ≤ 10) {v' y : Value} (hap : Ap (db + 1) (bT i) 1 w (V i) w' v' ((X i).length + 1) (X i ++ [y])) : B5 db vo nK W ρ0 X0 m v1 v3 v4 v5 L1 L3 L4 L5 xs1 es (upb V i v') (upb X i (X i ++ [y])) (grw w.heap.size v' (.row i) ρ) (w'.setCell ⟨db, i, none⟩ v') := by
  obtain ⟨hs, mv⟩ := h.s.app h2 h10 hap
  have hd := h.s.db_no
  exact ⟨hs, h.e.stay (mv.stay nofun (by rw [hd]; nofun)), h.c.mv mv (fun r hr => ⟨i, hr⟩) hd, h.u.trans (mv.u ⟨nofun, nofun⟩)⟩
theorem B5.new (h : B5 db vo nK W ρ0 X0 m v1 v3 v4 v5 L1 L3 L4 L5 xs1 es V X ρ w) (M : Array Value) (T : TypeId) : B5 db vo nK W ρ0 X0 m v1 v3 v4 v5 L1 L3 L4 L5 xs1 es V X (new1 w.heap.size ρ) (w.alloc (.cells M T)) := by
  have mv : MvR db (fun _ => False) w (w.alloc (.cells M T)) ρ (new1 w.heap.size ρ) := mv_new M T
  have hd := h.s.db_no
  exact ⟨h.s.mv mv (fun _ => id) (heap_alloc_old w _ h.s.lt), h.e.stay (mv.stay id (by rw [hd]; nofun)), h.c.mv mv (fun _ h => h.elim) hd, h.u.trans (mv.u ⟨id, id⟩)⟩
theorem own_ndb {db : Nat} {w : World} {e : TypeId} {n len : Nat} {v : Value} {xs : List Value} (h : w.ownsRow (db + 1) e n v len xs) : ¬ v.ownBlock = some db := fun e => by have := (h.lt db e).1; omega
theorem B5.ap {q0 : Nat} {r : BR} {v v' : Value} {e : TypeId} {sz L : Nat} {xs : List Value} (h : B5 db vo nK W ρ0 X0 m v1 v3 v4 v5 L1 L3 L4 L5 xs1 es V X ρ w) (hr : r = .ls q0 0) (ho : ∀ k, v.ownBlock = some k → ρ k = r) (hnd : ¬ v.ownBlock = some db) (hap : Ap (db + 1) e sz w v w' v' L xs) : BookS db w' vo nK V X (grw w.heap.size v' r ρ) ∧ BookE w' (grw w.heap.size v' r ρ) X0 ∧ MvU db W w' ρ0 (grw w.heap.size v' r ρ) := by
  have mv : MvR db (· = r) w w' ρ (grw w.heap.size v' r ρ) := mv_ap hap ho
  have hd := h.s.db_no
  subst hr
  exact ⟨h.s.mv mv (fun i e => by cases e) (hap.frm.block db h.s.lt (fun e => hnd e.symm)), h.e.stay (mv.stay nofun (by rw [hd]; nofun)), h.u.trans (mv.u ⟨nofun, nofun⟩)⟩
theorem B5.app1 (h : B5 db vo nK W ρ0 X0 m v1 v3 v4 v5 L1 L3 L4 L5 xs1 es V X ρ w) {vx v' : Value} (hx : RIntsP (fun b => ρ b = .dn) w vx [m]) (hap : Ap (db + 1) 23 1 w v1 w' v' (L1 + 1) (xs1 ++ [vx])) (hk : v'.ownBlock = v1.ownBlock ∨ w.grownBy w' none) : B5 db vo nK W ρ0 X0 m v' v3 v4 v5 (L1 + 1) L3 L4 L5 (xs1 ++ [vx]) es V X (grw w.heap.size v' (.ls 0 0) ρ) w' := by
  obtain ⟨a, b, c⟩ := h.ap rfl h.c.o1.2 (own_ndb h.c.o1.1) hap
  exact ⟨a, b, h.c.app1 hx hap hk h.s.db_no, c⟩
theorem B5.app3 (h : B5 db vo nK W ρ0 X0 m v1 v3 v4 v5 L1 L3 L4 L5 xs1 es V X ρ w) {v' : Value} (hap : Ap (db + 1) 76 4 w v3 w' v' (L3 + 1) (rp L3 (yF m) ++ yF m)) (hk : v'.ownBlock = v3.ownBlock ∨ w.grownBy w' none) : B5 db vo nK W ρ0 X0 m v1 v' v4 v5 L1 (L3 + 1) L4 L5 xs1 es V X (grw w.heap.size v' (.ls 2 0) ρ) w' := by
  obtain ⟨a, b, c⟩ := h.ap rfl h.c.o3.2 (own_ndb h.c.o3.1) hap
  exact ⟨a, b, h.c.app3 hap hk h.s.db_no, c⟩
theorem B5.app4 (h : B5 db vo nK W ρ0 X0 m v1 v3 v4 v5 L1 L3 L4 L5 xs1 es V X ρ w) {v' : Value} (hap : Ap (db + 1) 79 3 w v4 w' v' (L4 + 1) (rp L4 (yI m) ++ yI m)) (hk : v'.ownBlock = v4.ownBlock ∨ w.grownBy w' none) : B5 db vo nK W ρ0 X0 m v1 v3 v' v5 L1 L3 (L4 + 1) L5 xs1 es V X (grw w.heap.size v' (.ls 3 0) ρ) w' := by
  obtain ⟨a, b, c⟩ := h.ap rfl h.c.o4.2 (own_ndb h.c.o4.1) hap
  exact ⟨a, b, h.c.app4 hap hk h.s.db_no, c⟩
theorem B5.app5 (h : B5 db vo nK W ρ0 X0 m v1 v3 v4 v5 L1 L3 L4 L5 xs1 es V X ρ w) {v' : Value} (hap : Ap (db + 1) 81 2 w v5 w' v' (L5 + 1) (rp L5 (yE m) ++ yE m)) (hk : v'.ownBlock = v5.ownBlock ∨ w.grownBy w' none) : B5 db vo nK W ρ0 X0 m v1 v3 v4 v' L1 L3 L4 (L5 + 1) xs1 es V X (grw w.heap.size v' (.ls 4 0) ρ) w' := by
  obtain ⟨a, b, c⟩ := h.ap rfl h.c.o5.2 (own_ndb h.c.o5.1) hap
  exact ⟨a, b, h.c.app5 hap hk h.s.db_no, c⟩
theorem B5.push (h : B5 db vo nK W ρ0 X0 m v1 v3 v4 v5 L1 L3 L4 L5 xs1 es V X ρ w) : B5 db vo nK W ρ0 X0 m v1 v3 v4 v5 L1 L3 L4 L5 xs1 (es ++ [((v3, v1, v5, v4), (L3, L1, L5, L4))]) V X ρ w := ⟨h.s, h.e, h.c.push, h.u⟩
end
/-- the rows of the book, against those before the last loop -/
def XEq (X0 X : Nat → List Value) (m : Int) (es : List OE) : Prop := X 6 = X0 6 ++ es.map (·.1.1) ∧ X 7 = X0 7 ++ es.map (·.1.2.1) ∧ X 8 = X0 8 ++ es.map (·.1.2.2.1) ∧ X 9 = X0 9 ++ es.map (·.1.2.2.2) ∧ X 10 = X0 10 ++ es.map (fun _ => .int .i64 m) ∧ ∀ q, (q < 6 ∨ 10 < q) → X q = X0 q
theorem XEq.len {X0 X : Nat → List Value} {m : Int} {es : List OE} (h : XEq X0 X m es) {B : Nat} (hB : ∀ i, (X0 i).length ≤ B) (i : Nat) : (X i).length ≤ B + es.length := by
  obtain ⟨h6, h7, h8, h9, h10, h0⟩ := h
  have hb := hB i
  by_cases hl : i < 6 ∨ 10 < i
  · rw [h0 i hl]; omega
  · have hc : i = 6 ∨ i = 7 ∨ i = 8 ∨ i = 9 ∨ i = 10 := by omega
    rcases hc with rfl | rfl | rfl | rfl | rfl
    · rw [h6]; simp; omega
    · rw [h7]; simp; omega
    · rw [h8]; simp; omega
    · rw [h9]; simp; omega
    · rw [h10]; simp; omega
/-- a round more -/
theorem XEq.round {X0 X Xa Xb Xc Xd Xe : Nat → List Value} {m : Int} {es : List OE} {v1 v3 v4 v5 : Value} {L1 L3 L4 L5 : Nat} (h : XEq X0 X m es) (a1 : Xa 7 = X 7 ++ [v1]) (a2 : ∀ q, q ≠ 7 → Xa q = X q) (b1 : Xb 6 = Xa 6 ++ [v3]) (b2 : ∀ q, q ≠ 6 → Xb q = Xa q) (c1 : Xc 9 = Xb 9 ++ [v4]) (c2 : ∀ q, q ≠ 9 → Xc q = Xb q) (d1 : Xd 8 = Xc 8 ++ [v5]) (d2 : ∀ q, q ≠ 8 → Xd q = Xc q) (e1 : Xe 10 = Xd 10 ++ [.int .i64 m]) (e2 : ∀ q, q ≠ 10 → Xe q = Xd q) : XEq X0 Xe m (es ++ [((v3, v1, v5, v4), (L3, L1, L5, L4))]) := by
  obtain ⟨h6, h7, h8, h9, h10, h0⟩ := h
  refine ⟨?_, ?_, ?_, ?_, ?_, fun q hq => ?_⟩
  · rw [e2 6 (by decide), d2 6 (by decide), c2 6 (by decide), b1, a2 6 (by decide), h6]; simp
  · rw [e2 7 (by decide), d2 7 (by decide), c2 7 (by decide), b2 7 (by decide), a1, h7]; simp
  · rw [e2 8 (by decide), d1, c2 8 (by decide), b2 8 (by decide), a2 8 (by decide), h8]; simp
  · rw [e2 9 (by decide), d2 9 (by decide), c1, b2 9 (by decide), a2 9 (by decide), h9]; simp
  · rw [e1, d2 10 (by decide), c2 10 (by decide), b2 10 (by decide), a2 10 (by decide), h10]; simp
  · rw [e2 q (by omega), d2 q (by omega), c2 q (by omega), b2 q (by omega), a2 q (by omega)]; exact h0 q hq
/-- a block that is no list's -/
theorem mv_box {db : Nat} {w : World} {ρ : Nat → BR} (M : Array Value) (T : TypeId) (hp : ∀ b, ρ b ≠ .no → b < w.heap.size) : MvR db (fun _ => False) w (w.alloc (.cells M T)) ρ ρ :=
  ⟨by simp, fun _ _ => rfl, fun k hk _ _ => heap_alloc_old w _ hk, fun k hk hn => by have := hp k hn; omega, rfl, rfl, rfl⟩
/-- a unit was written in the book -/
def BunR (db : Nat) (vo : Value) (n B0 K : Nat) (ρ : Nat → BR) (w : World) (x : Ending) (w' : World) : Prop :=
  x = .returned (.tuple #[]) ∧ ∃ V' X' ρ', BookS db w' vo ((n + K + 2 : Nat) : Int) V' X' ρ' ∧ BookE w' ρ' X' ∧ MvU db w w' ρ ρ' ∧ ∀ i, (X' i).length ≤ B0 + 4 * K + 12
end Go.Proofs.YtkgncijcnlfhiaaDoor

