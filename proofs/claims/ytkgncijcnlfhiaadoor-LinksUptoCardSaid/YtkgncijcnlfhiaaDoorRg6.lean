import Derived.Test.YtkgncijcnlfhiaaDoorBk3
import Derived.Test.YtkgncijcnlfhiaaDoorNq
import Derived.Test.YtkgncijcnlfhiaaDoorKd
import Derived.Test.YtkgncijcnlfhiaaDoorNl
namespace Go.Proofs.YtkgncijcnlfhiaaDoor
set_option linter.unusedVariables false
set_option linter.unusedSimpArgs false
open Go.RowKit
structure LkW (w0 W0 : World) (ub : Nat) (v1 : Value) (w : World) (ρ : Nat → BR) (v2 v3 v5 : Value) (cs : List Int) (fs : List LF) (xs : List LX) : Prop where
  box : w.heap[ub]? = some (.cells #[v1, v2, v3, .slice none 0 0, v5] 28 (0, 0))
  o2 : OwR ρ (.ls 1 0) w (ub + 1) 3 1 v2 cs.length (ivL cs)
  o3 : OwR ρ (.ls 2 0) w (ub + 1) 76 4 v3 fs.length (fs.flatMap cF)
  o5 : OwR ρ (.ls 4 0) w (ub + 1) 81 2 v5 xs.length (xs.flatMap cX)
  fc : ∀ e ∈ fs, RInts w0 e.vp e.f.params ∧ RInts w0 e.vl e.f.locals ∧ RCodeP (fun b => ρ b = .dn) w e.vc e.f.code
  pl : ∀ b, ρ b ≠ .no → ub < b ∧ b < w.heap.size
  low : ∀ b, b < ub → w.heap[b]? = W0.heap[b]?
  ubl : W0.heap.size ≤ ub
  env : w.os = W0.os ∧ w.tape = W0.tape ∧ w.output = W0.output
section
variable {w0 W0 : World} {ub : Nat} {v1 : Value} {w w' : World} {ρ ρ' : Nat → BR} {v2 v3 v5 : Value} {cs : List Int} {fs : List LF} {xs : List LX}
theorem LkW.lt (h : LkW w0 W0 ub v1 w ρ v2 v3 v5 cs fs xs) : ub < w.heap.size := (Array.getElem?_eq_some_iff.1 h.box).1
theorem LkW.gr (h : LkW w0 W0 ub v1 w ρ v2 v3 v5 cs fs xs) : Gr W0 w := ⟨h.env.1, h.env.2.1, h.env.2.2, by have := h.lt; have := h.ubl; omega, fun b hb _ => h.low b (by have := h.ubl; omega)⟩
theorem LkW.no (h : LkW w0 W0 ub v1 w ρ v2 v3 v5 cs fs xs) {b : Nat} (hb : b ≤ ub) : ρ b = .no := by
  by_cases e : ρ b = .no
  · exact e
  · have := (h.pl b e).1; omega
theorem LkW.mv {A : BR → Prop} (h : LkW w0 W0 ub v1 w ρ v2 v3 v5 cs fs xs) (m : MvR ub A w w' ρ ρ') (hA : ¬ A (.ls 1 0) ∧ ¬ A (.ls 2 0) ∧ ¬ A (.ls 4 0) ∧ ¬ A .dn ∧ ¬ A .no) (hb : w'.heap[ub]? = w.heap[ub]?) : LkW w0 W0 ub v1 w' ρ' v2 v3 v5 cs fs xs := by
  have hul := h.lt
  have st := m.stay hA.2.2.2.1 (by rw [h.no (Nat.le_refl _)]; nofun)
  refine ⟨hb.trans h.box, h.o2.mv m hA.1, h.o3.mv m hA.2.1, h.o5.mv m hA.2.2.1, fun e he => ⟨(h.fc e he).1, (h.fc e he).2.1, (h.fc e he).2.2.stay st⟩, fun b hb => ?_, fun b hb => ?_, h.ubl, m.env.1.trans h.env.1, m.env.2.1.trans h.env.2.1, m.env.2.2.trans h.env.2.2⟩
  · by_cases hl : b < w.heap.size
    · rw [m.old b hl] at hb
      exact ⟨(h.pl b hb).1, Nat.lt_of_lt_of_le hl m.size⟩
    · exact ⟨by omega, m.new b (by omega) hb⟩
  · exact (m.blk b (by omega) (by omega) (by rw [h.no (Nat.le_of_lt hb)]; exact hA.2.2.2.2)).trans (h.low b hb)
theorem LkW.mvg (h : LkW w0 W0 ub v1 w ρ v2 v3 v5 cs fs xs) (g : Gr w w') : MvR ub (fun _ => False) w w' ρ ρ :=
  ⟨g.size, fun _ _ => rfl, fun k hk _ _ => g.block k hk (by simp), fun k _ hn => Nat.lt_of_lt_of_le (h.pl k hn).2 g.size, g.os, g.tape, g.output⟩
theorem LkW.grow (h : LkW w0 W0 ub v1 w ρ v2 v3 v5 cs fs xs) (g : Gr w w') : LkW w0 W0 ub v1 w' ρ v2 v3 v5 cs fs xs :=
  h.mv (h.mvg g) ⟨id, id, id, id, id⟩ (g.block ub h.lt (by simp))
theorem ow_ap {db : Nat} {r : BR} {w1 : World} {v v' : Value} {e : TypeId} {sz L L' : Nat} {xs ys : List Value} (h : OwR ρ r w (db + 1) e sz v L xs) (hap : Ap (db + 1) e sz w v w1 v' L' ys) : OwR (grw w.heap.size v' r ρ) r w1 (db + 1) e sz v' L' ys := by
  refine ⟨hap.own, fun k hk => ?_⟩
  unfold grw
  rcases hap.lies k hk with e | e
  · rw [if_pos (h.1.lt k e).2]; exact h.2 k e
  · rw [if_neg (by omega), if_pos hk]
theorem MvR.setdb {db : Nat} {A : BR → Prop} {w1 : World} {o : Nat} {x : Value} (h : MvR db A w w1 ρ ρ') : MvR db A w (w1.setCell ⟨db, o, none⟩ x) ρ ρ' :=
  ⟨by simpa using h.size, h.old, fun k hk hd hA => (Below.heap_setCell _ _ _ _ hd).trans (h.blk k hk hd hA), fun k hk hn => by simpa using h.new k hk hn, h.env⟩
theorem OwR.setdb {db : Nat} {r : BR} {o : Nat} {x : Value} {v : Value} {e : TypeId} {sz L : Nat} {xs : List Value} (h : OwR ρ r w (db + 1) e sz v L xs) : OwR ρ r (w.setCell ⟨db, o, none⟩ x) (db + 1) e sz v L xs :=
  ⟨ownsRow_same h.1 fun k hk => Below.heap_setCell _ _ _ _ (by have := (h.1.lt k hk).1; show k ≠ db; omega), h.2⟩
/-- what an append to one of its lists, and a store into its box, leave of the rest -/
theorem LkW.rest {r : BR} {w1 : World} {v v' : Value} {e : TypeId} {sz L : Nat} {ys : List Value} {o : Nat} (h : LkW w0 W0 ub v1 w ρ v2 v3 v5 cs fs xs) (hap : Ap (ub + 1) e sz w v w1 v' L ys) (hr : ∀ k, v.ownBlock = some k → ρ k = r) (hnd : r ≠ .dn) (hnn : r ≠ .no) :
    MvR ub (· = r) w (w1.setCell ⟨ub, o, none⟩ v') ρ (grw w.heap.size v' r ρ) ∧ (∀ e ∈ fs, RInts w0 e.vp e.f.params ∧ RInts w0 e.vl e.f.locals ∧ RCodeP (fun b => grw w.heap.size v' r ρ b = .dn) (w1.setCell ⟨ub, o, none⟩ v') e.vc e.f.code) ∧ (∀ b, grw w.heap.size v' r ρ b ≠ .no → ub < b ∧ b < (w1.setCell ⟨ub, o, none⟩ v').heap.size) ∧ (∀ b, b < ub → (w1.setCell ⟨ub, o, none⟩ v').heap[b]? = W0.heap[b]?) := by
  have hul := h.lt
  have m : MvR ub (· = r) w (w1.setCell ⟨ub, o, none⟩ v') ρ (grw w.heap.size v' r ρ) := (mv_ap hap hr).setdb
  have st := m.stay (fun e => hnd e.symm) (by rw [h.no (Nat.le_refl _)]; nofun)
  refine ⟨m, fun e he => ⟨(h.fc e he).1, (h.fc e he).2.1, (h.fc e he).2.2.stay st⟩, fun b hb => ?_, fun b hb => ?_⟩
  · by_cases hl : b < w.heap.size
    · rw [m.old b hl] at hb
      exact ⟨(h.pl b hb).1, Nat.lt_of_lt_of_le hl m.size⟩
    · exact ⟨by omega, m.new b (by omega) hb⟩
  · exact (m.blk b (by omega) (by omega) (by rw [h.no (Nat.le_of_lt hb)]; exact fun e => hnn e.symm)).trans (h.low b hb)
theorem box_up {w1 : World} {v v' : Value} {e : TypeId} {sz L : Nat} {ys : List Value} {o : Nat} {cur : Array Value} (hb : w.heap[ub]? = some (.cells cur 28 (0, 0))) (hap : Ap (ub + 1) e sz w v w1 v' L ys) (hnd : ¬ v.ownBlock = some ub) : (w1.setCell ⟨ub, o, none⟩ v').heap[ub]? = some (.cells (cur.setIfInBounds o v') 28 (0, 0)) :=
  heap_set ((hap.frm.block ub (Array.getElem?_eq_some_iff.1 hb).1 (fun e => hnd e.symm)).trans hb)
theorem own_nub {e : TypeId} {n len : Nat} {v : Value} {ys : List Value} (h : w.ownsRow (ub + 1) e n v len ys) : ¬ v.ownBlock = some ub := fun e => by have := (h.lt ub e).1; omega
theorem LkW.app2 {w1 : World} {v' : Value} {l : List Int} (h : LkW w0 W0 ub v1 w ρ v2 v3 v5 cs fs xs) (hap : Ap (ub + 1) 3 1 w v2 w1 v' (cs.length + l.length) (ivL cs ++ ivL l)) : LkW w0 W0 ub v1 (w1.setCell ⟨ub, 1, none⟩ v') (grw w.heap.size v' (.ls 1 0) ρ) v' v3 v5 (cs ++ l) fs xs := by
  obtain ⟨m, h1, h2, h3⟩ := h.rest (o := 1) hap h.o2.2 nofun nofun
  refine ⟨(box_up h.box hap (own_nub h.o2.1)).trans (by simp), ?_, h.o3.mv m nofun, h.o5.mv m nofun, h1, h2, h3, h.ubl, m.env.1.trans h.env.1, m.env.2.1.trans h.env.2.1, m.env.2.2.trans h.env.2.2⟩
  have := (ow_ap h.o2 hap).setdb (o := 1) (x := v')
  rw [List.length_append, show ivL (cs ++ l) = ivL cs ++ ivL l by simp [ivL]]
  exact this
theorem LkW.app3 {w1 : World} {v' : Value} {e : LF} (h : LkW w0 W0 ub v1 w ρ v2 v3 v5 cs fs xs) (hap : Ap (ub + 1) 76 4 w v3 w1 v' (fs.length + 1) (fs.flatMap cF ++ cF e)) (he : RInts w0 e.vp e.f.params ∧ RInts w0 e.vl e.f.locals ∧ RCodeP (fun b => ρ b = .dn) w e.vc e.f.code) : LkW w0 W0 ub v1 (w1.setCell ⟨ub, 2, none⟩ v') (grw w.heap.size v' (.ls 2 0) ρ) v2 v' v5 cs (fs ++ [e]) xs := by
  obtain ⟨m, h1, h2, h3⟩ := h.rest (o := 2) hap h.o3.2 nofun nofun
  have st := m.stay nofun (by rw [h.no (Nat.le_refl _)]; nofun)
  refine ⟨(box_up h.box hap (own_nub h.o3.1)).trans (by simp), h.o2.mv m nofun, ?_, h.o5.mv m nofun, fun x hx => ?_, h2, h3, h.ubl, m.env.1.trans h.env.1, m.env.2.1.trans h.env.2.1, m.env.2.2.trans h.env.2.2⟩
  · have := (ow_ap h.o3 hap).setdb (o := 2) (x := v')
    rw [List.length_append, List.flatMap_append]
    simpa using this
  · rcases List.mem_append.1 hx with hx | hx
    · exact h1 x hx
    · rw [List.mem_singleton.1 hx]; exact ⟨he.1, he.2.1, he.2.2.stay st⟩
theorem LkW.app5 {w1 : World} {v' : Value} {e : LX} (h : LkW w0 W0 ub v1 w ρ v2 v3 v5 cs fs xs) (hap : Ap (ub + 1) 81 2 w v5 w1 v' (xs.length + 1) (xs.flatMap cX ++ cX e)) : LkW w0 W0 ub v1 (w1.setCell ⟨ub, 4, none⟩ v') (grw w.heap.size v' (.ls 4 0) ρ) v2 v3 v' cs fs (xs ++ [e]) := by
  obtain ⟨m, h1, h2, h3⟩ := h.rest (o := 4) hap h.o5.2 nofun nofun
  refine ⟨(box_up h.box hap (own_nub h.o5.1)).trans (by simp), h.o2.mv m nofun, h.o3.mv m nofun, ?_, h1, h2, h3, h.ubl, m.env.1.trans h.env.1, m.env.2.1.trans h.env.2.1, m.env.2.2.trans h.env.2.2⟩
  have := (ow_ap h.o5 hap).setdb (o := 4) (x := v')
  rw [List.length_append, List.flatMap_append]
  simpa using this
/-- the code that was built is done -/
theorem LkW.fin_ (h : LkW w0 W0 ub v1 w ρ v2 v3 v5 cs fs xs) : LkW w0 W0 ub v1 w (fin (.ls 8 0) ρ) v2 v3 v5 cs fs xs := by
  have hk : ∀ (r : BR) (e : TypeId) (n len : Nat) (v : Value) (ys : List Value), r ≠ .ls 8 0 → OwR ρ r w (ub + 1) e n v len ys → OwR (fin (.ls 8 0) ρ) r w (ub + 1) e n v len ys := fun r e n len v ys hr ho => ⟨ho.1, fun k hk => by unfold fin; rw [ho.2 k hk, if_neg hr]⟩
  refine ⟨h.box, hk _ _ _ _ _ _ nofun h.o2, hk _ _ _ _ _ _ nofun h.o3, hk _ _ _ _ _ _ nofun h.o5, fun e he => ⟨(h.fc e he).1, (h.fc e he).2.1, (h.fc e he).2.2.stay fin_dn⟩, fun b hb => h.pl b fun e => hb ?_, h.low, h.ubl, h.env⟩
  unfold fin
  rw [e, if_neg nofun]
end
end Go.Proofs.YtkgncijcnlfhiaaDoor

namespace Go.Proofs.YtkgncijcnlfhiaaDoor
set_option linter.unusedVariables false
set_option linter.unusedSimpArgs false
open Go.RowKit
theorem LkW.start (w0 W0 : World) (v1 : Value) : LkW w0 W0 W0.heap.size v1 (W0.alloc (.cells #[v1, .slice none 0 0, .slice none 0 0, .slice none 0 0, .slice none 0 0] 28)) (fun _ => .no) (.slice none 0 0) (.slice none 0 0) (.slice none 0 0) [] [] [] :=
  ⟨heap_alloc_new W0 _, ⟨World.ownsRow_nil _ _ _ _, fun k hk => by simp [Value.ownBlock] at hk⟩, ⟨World.ownsRow_nil _ _ _ _, fun k hk => by simp [Value.ownBlock] at hk⟩, ⟨World.ownsRow_nil _ _ _ _, fun k hk => by simp [Value.ownBlock] at hk⟩, fun e he => by simp at he, fun b hb => absurd rfl hb, fun b hb => heap_alloc_old W0 _ hb, Nat.le_refl _, rfl, rfl, rfl⟩
theorem RInts.at_low {w0 w2 : World} {v : Value} {l : List Int} (h : RInts w0 v l) (g : ∀ b, b < w0.heap.size → w2.heap[b]? = w0.heap[b]?) : RInts w2 v l := by
  obtain ⟨ao, cap, hv, hm, hc⟩ := h
  refine ⟨ao, cap, hv, hm, fun i hi => ?_⟩
  obtain ⟨b, off, h1, h2⟩ := hc i hi
  exact ⟨b, off, h1, (World.cell?_of_block (a := ⟨b, off + i, none⟩) (g b (World.block_lt_of_cell? w0 _ h2))).trans h2⟩
theorem RShapes.at_low {w0 w2 : World} {v : Value} {l : List (List Int)} (h : RShapes w0 v l) (g : ∀ b, b < w0.heap.size → w2.heap[b]? = w0.heap[b]?) : RShapes w2 v l := by
  obtain ⟨ao, cap, hv, hm, hc⟩ := h
  refine ⟨ao, cap, hv, hm, fun i x hi => ?_⟩
  obtain ⟨b, off, vx, h1, h2, h3⟩ := hc i x hi
  exact ⟨b, off, vx, h1, (World.cell?_of_block (a := ⟨b, off + i, none⟩) (g b (World.block_lt_of_cell? w0 _ h2))).trans h2, h3.at_low g⟩
theorem LkW.unit {w0 W0 : World} {ub : Nat} {v1 : Value} {w w2 : World} {ρ : Nat → BR} {v2 v3 v5 : Value} {cs : List Int} {fs : List LF} {xs : List LX} {sh : List (List Int)} (h : LkW w0 W0 ub v1 w ρ v2 v3 v5 cs fs xs) (low : ∀ b, b < w0.heap.size → w2.heap[b]? = w0.heap[b]?) (h2 : ∀ b, ub < b → b < w.heap.size → w2.heap[b]? = w.heap[b]?) (hs : RShapes w0 v1 sh) (hx : ∀ e ∈ xs, e.s.size ≤ maxLen) : RUnit w2 (.agg #[v1, v2, v3, .slice none 0 0, v5]) ⟨sh, cs, fs.map (·.f), [], xs.map (·.p)⟩ := by
  have own2 : ∀ (e : TypeId) (n len : Nat) (v : Value) (ys : List Value), w.ownsRow (ub + 1) e n v len ys → w2.ownsRow (ub + 1) e n v len ys := fun e n len v ys ho => ownsRow_same ho fun k hk => h2 k (by have := (ho.lt k hk).1; omega) (ho.lt k hk).2
  refine ⟨v1, v2, v3, .slice none 0 0, v5, rfl, hs.at_low low, rints_of (own2 _ _ _ _ _ h.o2.1), ?_, ⟨none, 0, rfl, Nat.zero_le _, fun i x hi => by simp at hi⟩, ?_⟩
  · have ho := own2 _ _ _ _ _ h.o3.1
    obtain ⟨ao, cap, hv, hm, hc⟩ := row_of cF_len ho (by decide)
    refine ⟨ao, cap, by simpa using hv, by simpa using hm, fun i x hi => ?_⟩
    simp only [List.getElem?_map, Option.map_eq_some_iff] at hi
    obtain ⟨e, he, rfl⟩ := hi
    obtain ⟨b, e1, _, _, e2⟩ := hc i e he
    obtain ⟨f1, f2, f3⟩ := h.fc e (List.mem_of_getElem? he)
    have f3' : RCodeP (fun b => ρ b = .dn) w2 e.vc e.f.code := f3.stay (fun b hb hl => ⟨h2 b (h.pl b (by rw [hb]; nofun)).1 hl, hb⟩)
    refine ⟨b, 0, e.vp, e.vl, e.vc, e1, e2 0 (by decide), e2 1 (by decide), e2 2 (by decide), e2 3 (by decide), f1.at_low low, f2.at_low low, ?_⟩
    obtain ⟨ca, cc, g1, g2, g3⟩ := f3'
    refine ⟨ca, cc, g1, g2, fun j y hj => ?_⟩
    obtain ⟨bb, oo, k1, _, k3⟩ := g3 j y hj
    exact ⟨bb, oo, k1, k3⟩
  · have ho := own2 _ _ _ _ _ h.o5.1
    obtain ⟨ao, cap, hv, hm, hc⟩ := row_of cX_len ho (by decide)
    refine ⟨ao, cap, by simpa using hv, by simpa using hm, fun i x hi => ?_⟩
    simp only [List.getElem?_map, Option.map_eq_some_iff] at hi
    obtain ⟨e, he, rfl⟩ := hi
    obtain ⟨b, e1, _, _, e2⟩ := hc i e he
    exact ⟨b, 0, .string e.s, e1, e2 0 (by decide), e2 1 (by decide), e.s, rfl, rfl, hx e (List.mem_of_getElem? he)⟩
/-- what is joined so far, and what is left -/
def JnR (l : List PUnit) (k : Nat) (cs : List Int) (fs : List PFunc) (xs : List PExp) : Prop := joinF (tgtN l) 0 0 l = (cs ++ (joinF (tgtN l) (aheadC l k) (aheadF l k) (l.drop k)).1, fs ++ (joinF (tgtN l) (aheadC l k) (aheadF l k) (l.drop k)).2.1, xs ++ (joinF (tgtN l) (aheadC l k) (aheadF l k) (l.drop k)).2.2)
theorem JnR.start (l : List PUnit) : JnR l 0 [] [] [] := rfl
theorem JnR.step {l : List PUnit} {k : Nat} {u : PUnit} {cs : List Int} {fs : List PFunc} {xs : List PExp} (h : JnR l k cs fs xs) (hu : l[k]? = some u) : JnR l (k + 1) (cs ++ u.consts) (fs ++ u.funcs.map (movedF (tgtN l) u (aheadC l k) (aheadF l k))) (xs ++ u.exports.map (movedE (aheadF l k))) := by
  unfold JnR at h ⊢
  obtain ⟨hk, rfl⟩ := List.getElem?_eq_some_iff.1 hu
  rw [h, List.drop_eq_getElem_cons hk, joinF, aheadC_succ hu, aheadF_succ hu]
  simp only [List.append_assoc]
theorem JnR.last {l : List PUnit} {cs : List Int} {fs : List PFunc} {xs : List PExp} (h : JnR l l.length cs fs xs) : joinF (tgtN l) 0 0 l = (cs, fs, xs) := by
  unfold JnR at h
  rw [h, List.drop_length, joinF]
  simp
end Go.Proofs.YtkgncijcnlfhiaaDoor

namespace Go.Proofs.YtkgncijcnlfhiaaDoor
set_option linter.unusedVariables false
set_option linter.unusedSimpArgs false
open Go.RowKit
theorem RUnit.funcAll {w : World} {v1 v2 v4 v5 : Value} {a3 : Option Addr} {c3 : Nat} {u : PUnit} (h : RUnit w (.agg #[v1, v2, .slice a3 u.funcs.length c3, v4, v5]) u) {i : Nat} {g : PFunc} (hg : u.funcs[i]? = some g) : ∃ fb fo pa pc la lc ka kc, a3 = some ⟨fb, fo, none⟩ ∧ w.cell? ⟨fb, fo + i * 4, none⟩ = some (.slice pa g.params.length pc) ∧ w.cell? ⟨fb, fo + i * 4 + 1, none⟩ = some (.int .i64 g.result) ∧ w.cell? ⟨fb, fo + i * 4 + 2, none⟩ = some (.slice la g.locals.length lc) ∧ w.cell? ⟨fb, fo + i * 4 + 3, none⟩ = some (.slice ka g.code.length kc) ∧ RInts w (.slice pa g.params.length pc) g.params ∧ RInts w (.slice la g.locals.length lc) g.locals ∧ RCode w (.slice ka g.code.length kc) g.code := by
  obtain ⟨y1, y2, y3, y4, y5, hv, k1, k2, k3, k4, k5⟩ := h
  simp only [Value.agg.injEq, Array.mk.injEq, List.cons.injEq, and_true] at hv
  obtain ⟨rfl, rfl, rfl, rfl, rfl⟩ := hv
  obtain ⟨ao, cp, hv, hm, hx⟩ := k3
  simp only [Value.slice.injEq, true_and] at hv
  obtain ⟨rfl, rfl⟩ := hv
  obtain ⟨fb, fo, vp, vl, vc, q1, q2, q3, q4, q5, q6, q7, q8⟩ := hx i g hg
  obtain ⟨pa, pc, rfl⟩ := q6.shape
  obtain ⟨la, lc, rfl⟩ := q7.shape
  obtain ⟨ka, kc, rfl⟩ := q8.shape
  exact ⟨fb, fo, pa, pc, la, lc, ka, kc, q1, q2, q3, q4, q5, q6, q7, q8⟩
theorem RUnit.expAll {w : World} {v1 v2 v3 v4 : Value} {a5 : Option Addr} {c5 : Nat} {u : PUnit} (h : RUnit w (.agg #[v1, v2, v3, v4, .slice a5 u.exports.length c5]) u) {i : Nat} {e : PExp} (he : u.exports[i]? = some e) : ∃ xb xo s, a5 = some ⟨xb, xo, none⟩ ∧ w.cell? ⟨xb, xo + i * 2, none⟩ = some (.string s) ∧ s.data.toList = e.name ∧ s.size ≤ maxLen ∧ w.cell? ⟨xb, xo + i * 2 + 1, none⟩ = some (.int .i64 e.func) := by
  obtain ⟨y1, y2, y3, y4, y5, hv, k1, k2, k3, k4, k5⟩ := h
  simp only [Value.agg.injEq, Array.mk.injEq, List.cons.injEq, and_true] at hv
  obtain ⟨rfl, rfl, rfl, rfl, rfl⟩ := hv
  obtain ⟨ao, cp, hv, hm, hx⟩ := k5
  simp only [Value.slice.injEq, true_and] at hv
  obtain ⟨rfl, rfl⟩ := hv
  obtain ⟨xb, xo, vs, q1, q2, q3, s, rfl, q5, q6⟩ := hx i e he
  exact ⟨xb, xo, s, q1, q2, q5, q6, q3⟩
theorem exp_fine {u : PUnit} (hok : unitOk u = true) {e : PExp} (he : e ∈ u.exports) : 0 ≤ e.func ∧ e.func ≤ 30 := by
  have hl := (lens_ok hok).2.2.2.1
  obtain ⟨_, _, _, _, h5⟩ := unit_parts hok
  simp only [exportsOk, Bool.and_eq_true, List.all_eq_true] at h5
  have hx := h5.2 e he
  simp only [expOk, wB, Bool.and_eq_true, decide_eq_true_eq] at hx
  omega
theorem RCode.at_ {w : World} {ka : Option Addr} {kc : Nat} {l : List PIns} (h : RCode w (.slice ka l.length kc) l) {j : Nat} {x : PIns} (hx : l[j]? = some x) : ∃ b o, ka = some ⟨b, o, none⟩ ∧ w.cell? ⟨b, o + j * 3, none⟩ = some (.int .i64 x.op) ∧ w.cell? ⟨b, o + j * 3 + 1, none⟩ = some (.int .i64 x.a) ∧ w.cell? ⟨b, o + j * 3 + 2, none⟩ = some (.int .i64 x.b) := by
  obtain ⟨ao, cap, hv, hm, hc⟩ := h
  simp only [Value.slice.injEq, true_and] at hv
  obtain ⟨rfl, rfl⟩ := hv
  exact hc j x hx
theorem ins_fine {u : PUnit} (hok : unitOk u = true) {g : PFunc} (hg : g ∈ u.funcs) {x : PIns} (hx : x ∈ g.code) : 0 ≤ x.a ∧ x.a ≤ 65535 ∨ (x.op ≠ 0 ∧ x.op ≠ 13) := by
  obtain ⟨_, _, h3, _, _⟩ := unit_parts hok
  simp only [funcsOk, Bool.and_eq_true, List.all_eq_true] at h3
  have hf := h3.2 g hg
  simp only [funcOk, codeOk, Bool.and_eq_true, List.all_eq_true] at hf
  have hi := hf.2.2.2.2 x hx
  by_cases h0 : x.op = 0
  · left
    simp [insOk, operandsN, operandOk, wB, h0] at hi
    omega
  · by_cases h13 : x.op = 13
    · left
      simp [insOk, operandsN, operandOk, wB, h13] at hi
      omega
    · exact .inr ⟨h0, h13⟩
theorem hits_all {l : List PUnit} (hC : Clear l 5) {k : Nat} {u : PUnit} (hu : l[k]? = some u) : ∀ i ∈ u.imports, ∃ v g, Hit l i v g := fun i hi => hit_of (hC.ok (by decide)) (fun h0 => hC 3 (by decide) k ⟨u, hu, i, hi, h0⟩)
/-- a block that is no list's may turn -/
theorem LkW.free {w0 W0 : World} {ub : Nat} {v1 : Value} {w w' : World} {ρ : Nat → BR} {v2 v3 v5 : Value} {cs : List Int} {fs : List LF} {xs : List LX} (h : LkW w0 W0 ub v1 w ρ v2 v3 v5 cs fs xs) {fbk : Nat} (hu : ub < fbk) (hn : ρ fbk = .no) (hs : w.heap.size ≤ w'.heap.size) (hb : ∀ b, b ≠ fbk → w'.heap[b]? = w.heap[b]?) (he : w'.os = w.os ∧ w'.tape = w.tape ∧ w'.output = w.output) : LkW w0 W0 ub v1 w' ρ v2 v3 v5 cs fs xs := by
  have hk : ∀ (r : BR) (e : TypeId) (n len : Nat) (v : Value) (ys : List Value), r ≠ .no → OwR ρ r w (ub + 1) e n v len ys → OwR ρ r w' (ub + 1) e n v len ys := fun r e n len v ys hr ho => ⟨ownsRow_same ho.1 fun k hk => hb k (fun e => hr (by rw [← ho.2 k hk, e]; exact hn)), ho.2⟩
  refine ⟨(hb ub (by omega)).trans h.box, hk _ _ _ _ _ _ nofun h.o2, hk _ _ _ _ _ _ nofun h.o3, hk _ _ _ _ _ _ nofun h.o5, fun e hm => ⟨(h.fc e hm).1, (h.fc e hm).2.1, (h.fc e hm).2.2.stay (fun b hd _ => ⟨hb b (fun e => by rw [e] at hd; rw [hn] at hd; cases hd), hd⟩)⟩, fun b hb' => ⟨(h.pl b hb').1, Nat.lt_of_lt_of_le (h.pl b hb').2 hs⟩, fun b hb' => (hb b (by omega)).trans (h.low b hb'), h.ubl, he.1.trans h.env.1, he.2.1.trans h.env.2.1, he.2.2.trans h.env.2.2⟩
theorem OwR.free {db : Nat} {ρ : Nat → BR} {r : BR} {w w' : World} {e : TypeId} {n len : Nat} {v : Value} {ys : List Value} (h : OwR ρ r w (db + 1) e n v len ys) {fbk : Nat} (hr : r ≠ .no) (hn : ρ fbk = .no) (hb : ∀ b, b ≠ fbk → w'.heap[b]? = w.heap[b]?) : OwR ρ r w' (db + 1) e n v len ys :=
  ⟨ownsRow_same h.1 fun k hk => hb k (fun e => hr (by rw [← h.2 k hk, e]; exact hn)), h.2⟩
/-- the code that was built, read -/
theorem code_dn {ub : Nat} {ρ : Nat → BR} {w : World} {vc : Value} {l : List PIns} (h : OwR ρ (.ls 8 0) w (ub + 1) 91 3 vc l.length (l.flatMap cC)) : RCodeP (fun b => fin (.ls 8 0) ρ b = .dn) w vc l := by
  obtain ⟨ao, cap, hv, hm, hc⟩ := row_of cC_len h.1 (by decide)
  refine ⟨ao, cap, hv, hm, fun i x hi => ?_⟩
  obtain ⟨b, e1, _, e3, e2⟩ := hc i x hi
  exact ⟨b, 0, e1, by show fin (.ls 8 0) ρ b = .dn; unfold fin; exact if_pos (h.2 b e3), e2 0 (by decide), e2 1 (by decide), e2 2 (by decide)⟩
end Go.Proofs.YtkgncijcnlfhiaaDoor

namespace Go.Proofs.YtkgncijcnlfhiaaDoor
set_option linter.unusedVariables false
set_option linter.unusedSimpArgs false
open Go.RowKit
section
variable {P : Program} {ops : Array Oper} {Q : Exit → Act → World → Prop} {md : Region.Mode} {S : World → Prop}
inductive Waits (md : Region.Mode) (ops : Array Oper) (listed : Array Bool) (i : Nat) : Nat → Prop
  | one {z : Nat} {oz : Oper} (hz : ops[z]? = some oz) (hi : ∃ e ∈ oz.after, Region.binds md e = true ∧ e.on = i) (hl : listed.getD i true = false) : Waits md ops listed i z
  | more {z d : Nat} {oz : Oper} (hz : ops[z]? = some oz) (hi : ∃ e ∈ oz.after, Region.binds md e = true ∧ e.on = d) (hl : listed.getD d true = false) (h : Waits md ops listed i d) : Waits md ops listed i z
theorem not_ready {listed : Array Bool} {z d : Nat} {oz : Oper} (hz : ops[z]? = some oz) (hi : ∃ e ∈ oz.after, Region.binds md e = true ∧ e.on = d) (hl : listed.getD d true = false) : ¬ z ∈ Region.ready md ops listed := fun hr => by
  obtain ⟨_, o, ho, hall⟩ := mem_ready.1 hr
  rw [hz] at ho
  cases ho
  obtain ⟨e, he, hb, rfl⟩ := hi
  have h1 := hall e he hb
  rcases Nat.lt_or_ge e.on listed.size with h' | h'
  · simp [h'] at hl h1; rw [hl] at h1; cases h1
  · simp [Array.getElem?_eq_none h'] at h1
theorem Waits.not_ready {listed : Array Bool} {i z : Nat} (h : Waits md ops listed i z) : ¬ z ∈ Region.ready md ops listed := by
  cases h with
  | one hz hi hl => exact Go.Proofs.YtkgncijcnlfhiaaDoor.not_ready hz hi hl
  | more hz hi hl _ => exact Go.Proofs.YtkgncijcnlfhiaaDoor.not_ready hz hi hl
theorem Waits.list {listed : Array Bool} {i z j : Nat} (hj : j ∈ Region.ready md ops listed) (hji : j ≠ i) (h : Waits md ops listed i z) : Waits md ops (listed.setIfInBounds j true) i z := by
  induction h with
  | one hz hi hl => exact .one hz hi (by rw [getD_set_ne true hji]; exact hl)
  | @more z d oz hz hi hl h ih =>
    have hjd : j ≠ d := fun e => h.not_ready (e ▸ hj)
    exact .more hz hi (by rw [getD_set_ne true hjd]; exact hl) ih
end
section
variable {P : Program} {l : List Oper} {md : Region.Mode} {Q : Exit → Act → World → Prop} {S : World → Prop}
/-- number z waits for number i, by a way of at most so many -/
def ywaits (md : Region.Mode) (l : List Oper) (listed : Array Bool) (i : Nat) : Nat → Nat → Bool
  | 0, _ => false
  | n + 1, z => match l[z]? with
    | some oz => oz.after.toList.any fun e => Region.binds md e && (!listed.getD e.on true && (Nat.beq e.on i || ywaits md l listed i n e.on))
    | none => false
theorem ywaits_spec {listed : Array Bool} {i : Nat} : ∀ {n z : Nat}, ywaits md l listed i n z = true → Waits md l.toArray listed i z
  | 0, z, h => by cases h
  | n + 1, z, h => by
    unfold ywaits at h
    cases hz : l[z]? with
    | none => rw [hz] at h; cases h
    | some oz =>
      rw [hz] at h
      simp only [List.any_eq_true, Bool.and_eq_true, Bool.or_eq_true, Bool.not_eq_true', Nat.beq_eq] at h
      obtain ⟨e, he, h1, h2, h3⟩ := h
      have he' : e ∈ oz.after := by simpa using he
      rcases h3 with h3 | h3
      · exact .one (by simpa using hz) ⟨e, he', h1, h3⟩ (h3 ▸ h2)
      · exact .more (by simpa using hz) ⟨e, he', h1, rfl⟩ h2 (ywaits_spec h3)
end
end Go.Proofs.YtkgncijcnlfhiaaDoor

namespace Go.Proofs.YtkgncijcnlfhiaaDoor
set_option linter.unusedVariables false
set_option linter.unusedSimpArgs false
open Go.RowKit
section
variable {P : Program} {ops : Array Oper} {Q : Exit → Act → World → Prop} {md : Region.Mode} {S : World → Prop}
def wpAnyS (P : Program) (md : Region.Mode) (ops : Array Oper) (Q : Exit → Act → World → Prop) (S : World → Prop) (zs : List Nat) : Nat → Array Bool → Act → World → Prop
  | 0, listed, a, w => Region.ready md ops listed = [] ∧ Q .normal a w
  | fuel + 1, listed, a, w =>
    (Region.ready md ops listed = [] → Q .normal a w) ∧
    ∀ i ∈ Region.ready md ops listed, wpOp P ops Q i (fun a' w' => (zs.contains i = false → S w') ∧ wpAnyS P md ops Q S zs fuel (listed.setIfInBounds i true) a' w') a w
theorem wpAny_of_s {zs : List Nat} : ∀ (fuel : Nat) (listed : Array Bool) (a : Act) (w : World), wpAnyS P md ops Q S zs fuel listed a w → wpAny P md ops Q fuel listed a w
  | 0, _, _, _, h => h
  | fuel + 1, _, _, _, h => ⟨h.1, fun i hi => wpOp_mono (fun a' w' h' => wpAny_of_s fuel _ a' w' h'.2) (h.2 i hi)⟩
theorem wpAnyS_first {zs : List Nat} {i : Nat} {oi : Oper} {v : Value} (hi : ops[i]? = some oi) (hsel : ∀ (j : Nat) (o : Oper) cs b, ops[j]? = some o → o.op ≠ .select cs b)
    (hQ : ∀ c a w, Q (.panic c) (a.put oi.dst v) w → Q (.panic c) a w) :
    ∀ (fuel : Nat) (listed : Array Bool) (a : Act) (w : World), (∀ z, zs.contains z = true → Waits md ops listed i z) →
      (∀ j oj, ops[j]? = some oj → j ≠ i → listed.getD j true = false → (∀ e ∈ oj.after, Region.binds md e = true → e.on ≠ i) → oi.apart ops oj = true) →
      i ∈ Region.ready md ops listed → YieldsIf P ops S oi v a → S w →
      wpAnyS P md ops Q S zs fuel (listed.setIfInBounds i true) (a.put oi.dst v) w → wpAnyS P md ops Q S zs (fuel + 1) listed a w := by
  intro fuel
  induction fuel with
  | zero =>
    intro listed a w hw _ hr hy hS H
    refine ⟨fun h => (by rw [h] at hr; cases hr), fun j hj => ?_⟩
    by_cases hji : j = i
    · subst hji; exact hy.wpOp hi hS ⟨fun _ => hS, H⟩
    · have := ready_mono hj hji
      rw [H.1] at this
      cases this
  | succ fuel ih =>
    intro listed a w hw hfree hr hy hS H
    refine ⟨fun h => (by rw [h] at hr; cases hr), fun j hj => ?_⟩
    by_cases hji : j = i
    · subst hji; exact hy.wpOp hi hS ⟨fun _ => hS, H⟩
    · have h1 := H.2 j (ready_mono hj hji)
      obtain ⟨hjun, oj, hoj, hall⟩ := mem_ready.1 hj
      have hnot : ∀ e ∈ oj.after, Region.binds md e = true → e.on ≠ i := fun e he hb heq => by
        have h1 := hall e he hb
        have h0 := (mem_ready.1 hr).1
        rw [heq] at h1
        rcases Nat.lt_or_ge i listed.size with h' | h'
        · simp [h'] at h0 h1; rw [h0] at h1; cases h1
        · simp [Array.getElem?_eq_none h'] at h1
      have hjz : zs.contains j = false := by
        cases e : zs.contains j with
        | false => rfl
        | true => exact absurd hj (hw j e).not_ready
      have h2 := wpOp_putIf hoj (hfree j oj hoj hji hjun hnot) (fun cs b => hsel i oi cs b hi) (fun cs b => hsel j oj cs b hoj) hQ hy h1
      have hfree' : ∀ k ok, ops[k]? = some ok → k ≠ i → (listed.setIfInBounds j true).getD k true = false →
          (∀ e ∈ ok.after, Region.binds md e = true → e.on ≠ i) → oi.apart ops ok = true := fun k ok hk hki hun hno => by
        refine hfree k ok hk hki ?_ hno
        by_cases hjk : j = k
        · subst hjk; exact hjun
        · rw [getD_set_ne true hjk] at hun; exact hun
      refine wpOp_mono (fun a' w' h3 => ⟨h3.2.1, ih (listed.setIfInBounds j true) a' w' (fun z hz => (hw z hz).list hj hji) hfree' (ready_mono hr (Ne.symm hji)) h3.1 (h3.2.1 hjz) ?_⟩) h2
      rw [Array.setIfInBounds_comm _ _ hji]
      exact h3.2.2
end
section
variable {P : Program} {l : List Oper} {md : Region.Mode} {Q : Exit → Act → World → Prop} {S : World → Prop}
theorem takeS {zs : List Nat} {i : Nat} {oi : Oper} {v : Value} {fuel : Nat} {listed : Array Bool} {a : Act} {w : World} (hi : l[i]? = some oi) (hzw : (zs.all fun z => ywaits md l listed i 20 z) = true)
    (hs : Region.noSelect l.toArray = true) (hf : Region.free md l.toArray listed i = true) (hr : (Region.ready md l.toArray listed).contains i = true)
    (hQ : ∀ c a w, Q (.panic c) (a.put oi.dst v) w → Q (.panic c) a w) (hw : Region.wanted oi (yielded l.toArray a.tmps) = true) (hy : ∀ w, S w → (execOp a.eval oi).run P w = .ok (.value v) w) (hS : S w)
    (h : wpAnyS P md l.toArray Q S zs fuel (listed.setIfInBounds i true) (a.put oi.dst v) w) : wpAnyS P md l.toArray Q S zs (fuel + 1) listed a w :=
  wpAnyS_first (by simpa using hi) (Region.noSelect_spec hs) hQ fuel listed a w (fun z hz => ywaits_spec (List.all_eq_true.1 hzw z (by simpa using hz))) (Region.free_spec (by simpa using hi) hf) (by simpa using hr) (.inl ⟨hw, hy⟩) hS h
theorem aloneS {zs : List Nat} {i : Nat} {o : Oper} {fuel : Nat} {listed : Array Bool} {a : Act} {w : World} (ho : l[i]? = some o) (hr : Region.ready md l.toArray listed = [i])
    (h : ∀ K' : Act → World → Prop, Shut (∀ a w, (zs.contains i = false → S w) → wpAnyS P md l.toArray Q S zs fuel (listed.setIfInBounds i true) a w → K' a w) → if Region.wanted o (yielded l.toArray a.tmps) = true then Oper.wp P o a w K' Q else K' (a.put o.dst undef) w) : wpAnyS P md l.toArray Q S zs (fuel + 1) listed a w := by
  refine ⟨fun h0 => absurd (hr ▸ h0) (by simp), hr ▸ fun j hj => ?_⟩
  obtain rfl : j = i := by simpa using hj
  exact wpOp_step (by simpa using ho) (fun K' hK => h K' (fun a w hS hW => hK a w ⟨hS, hW⟩))
theorem doneS {zs : List Nat} {listed : Array Bool} {a : Act} {w : World} (hr : Region.ready md l.toArray listed = []) (h : Q .normal a w) : ∀ fuel, wpAnyS P md l.toArray Q S zs fuel listed a w
  | 0 => ⟨hr, h⟩
  | _ + 1 => ⟨fun _ => h, by rw [hr]; simp⟩
theorem wp_region_s (zs : List Nat) {id : Nat} {a : Act} {w : World} (hm : P.follows .mixedOrders = true) (hS : S w.drew)
    (h : S w.drew → wpAnyS P .any l.toArray Q S zs l.toArray.size (Array.replicate l.toArray.size false) a w.drew) : (Code.region id l.toArray true).wp P Q a w :=
  wp_region_any hm (wpAny_of_s _ _ _ _ (h hS))
end
end Go.Proofs.YtkgncijcnlfhiaaDoor

