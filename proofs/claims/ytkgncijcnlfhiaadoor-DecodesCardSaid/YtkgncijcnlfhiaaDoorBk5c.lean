import Derived.Test.YtkgncijcnlfhiaaDoorBk5b
namespace Go.Proofs.YtkgncijcnlfhiaaDoor
set_option linter.unusedVariables false
set_option linter.unusedSimpArgs false
open Go.RowKit
abbrev OE := (Value × Value × Value × Value) × (Nat × Nat × Nat × Nat)
structure Ch (db : Nat) (m : Int) (ρ : Nat → BR) (w : World) (v1 v3 v4 v5 : Value) (L1 L3 L4 L5 : Nat) (xs1 : List Value) (es : List OE) : Prop where
  o1 : OwR ρ (.ls 0 0) w (db + 1) 23 1 v1 L1 xs1
  x1 : ∀ vx ∈ xs1, RIntsP (fun b => ρ b = .dn) w vx [m]
  o3 : OwR ρ (.ls 2 0) w (db + 1) 76 4 v3 L3 (rp L3 (yF m))
  o4 : OwR ρ (.ls 3 0) w (db + 1) 79 3 v4 L4 (rp L4 (yI m))
  o5 : OwR ρ (.ls 4 0) w (db + 1) 81 2 v5 L5 (rp L5 (yE m))
  es : ∀ e ∈ es, (EntR ρ (.ls 2 0) 4 w e.1.1 e.2.1 (rp e.2.1 (yF m)) ∧ e.2.1 ≤ L3) ∧ (∃ xe, EntR ρ (.ls 0 0) 1 w e.1.2.1 e.2.2.1 xe ∧ xe <+: xs1) ∧ (EntR ρ (.ls 4 0) 2 w e.1.2.2.1 e.2.2.2.1 (rp e.2.2.2.1 (yE m)) ∧ e.2.2.2.1 ≤ L5) ∧ (EntR ρ (.ls 3 0) 3 w e.1.2.2.2 e.2.2.2.2 (rp e.2.2.2.2 (yI m)) ∧ e.2.2.2.2 ≤ L4)
section
variable {db ub : Nat} {m : Int} {v1 v2 v3 v4 v5 : Value} {L1 L3 L4 L5 : Nat} {xs1 : List Value} {es : List OE} {ρ ρ' : Nat → BR} {w w' : World}
theorem UnP.ch {es1 : List (Value × Nat)} {es3 : List UF} {es4 : List UI} {n5 : Nat} {live : BR → Prop} (h : UnP db ub m v1 v2 v3 v4 v5 es1 es3 es4 n5 live es1.length es3.length es4.length n5 ρ w) : ∃ xs1, Ch db m ρ w v1 v3 v4 v5 es1.length es3.length es4.length n5 xs1 [] := by
  obtain ⟨x1, p1, p2, _⟩ := h.o1
  obtain ⟨x3, s1, s2, _⟩ := h.o3
  obtain ⟨x4, t1, t2, _⟩ := h.o4
  obtain ⟨x5, q1, q2⟩ := h.o5
  refine ⟨x1, p1, fun vx hvx => ?_, ?_, ?_, ?_, fun e he => by simp at he⟩
  · obtain ⟨j, hj⟩ := List.mem_iff_getElem?.1 hvx
    have hjl : j < es1.length := by have := (List.getElem?_eq_some_iff.1 hj).1; have e := p1.1.1; omega
    obtain ⟨vy, e1, e2⟩ := p2 j hjl
    rw [hj] at e1
    obtain rfl := Option.some.inj e1
    exact e2
  · rw [← rp_of s1.1.1 rfl (by decide) s2]; exact s1
  · rw [← rp_of t1.1.1 rfl (by decide) t2]; exact t1
  · rw [← rp_of q1.1.1 rfl (by decide) q2]; exact q1
theorem Ch.push (h : Ch db m ρ w v1 v3 v4 v5 L1 L3 L4 L5 xs1 es) : Ch db m ρ w v1 v3 v4 v5 L1 L3 L4 L5 xs1 (es ++ [((v3, v1, v5, v4), (L3, L1, L5, L4))]) := by
  refine ⟨h.o1, h.x1, h.o3, h.o4, h.o5, fun e he => ?_⟩
  rcases List.mem_append.1 he with he | he
  · exact h.es e he
  · rw [List.mem_singleton.1 he]
    exact ⟨⟨.of h.o3, Nat.le_refl _⟩, ⟨xs1, .of h.o1, List.prefix_rfl⟩, ⟨.of h.o5, Nat.le_refl _⟩, ⟨.of h.o4, Nat.le_refl _⟩⟩
theorem Ch.mv {A : BR → Prop} (h : Ch db m ρ w v1 v3 v4 v5 L1 L3 L4 L5 xs1 es) (mv : MvR db A w w' ρ ρ') (hA : ∀ r, A r → ∃ i, r = .row i) (hd : ρ db = .no) : Ch db m ρ' w' v1 v3 v4 v5 L1 L3 L4 L5 xs1 es := by
  have hl : ∀ q j, ¬ A (.ls q j) := fun q j h => by obtain ⟨i, e⟩ := hA _ h; cases e
  have hn : ∀ q j, ρ db ≠ .ls q j := fun q j => by rw [hd]; nofun
  have st := mv.stay (fun h => by obtain ⟨i, e⟩ := hA _ h; cases e) (by rw [hd]; nofun)
  refine ⟨h.o1.mv mv (hl _ _), fun vx hv => (h.x1 vx hv).stay st, h.o3.mv mv (hl _ _), h.o4.mv mv (hl _ _), h.o5.mv mv (hl _ _), fun e he => ?_⟩
  obtain ⟨⟨a1, a2⟩, ⟨xe, b1, b2⟩, ⟨c1, c2⟩, ⟨d1, d2⟩⟩ := h.es e he
  exact ⟨⟨a1.mv mv (hl _ _) (hn _ _), a2⟩, ⟨xe, b1.mv mv (hl _ _) (hn _ _), b2⟩, ⟨c1.mv mv (hl _ _) (hn _ _), c2⟩, ⟨d1.mv mv (hl _ _) (hn _ _), d2⟩⟩
theorem Ch.app1 (h : Ch db m ρ w v1 v3 v4 v5 L1 L3 L4 L5 xs1 es) {vx v' : Value} (hx : RIntsP (fun b => ρ b = .dn) w vx [m]) (hap : Ap (db + 1) 23 1 w v1 w' v' (L1 + 1) (xs1 ++ [vx])) (hk : v'.ownBlock = v1.ownBlock ∨ w.grownBy w' none) (hd : ρ db = .no) : Ch db m (grw w.heap.size v' (.ls 0 0) ρ) w' v' v3 v4 v5 (L1 + 1) L3 L4 L5 (xs1 ++ [vx]) es := by
  have mv : MvR db (· = .ls 0 0) w w' ρ (grw w.heap.size v' (.ls 0 0) ρ) := mv_ap hap h.o1.2
  have hn : ∀ q j, ρ db ≠ .ls q j := fun q j => by rw [hd]; nofun
  have st := mv.stay nofun (by rw [hd]; nofun)
  refine ⟨h.o1.app hap, fun x hv => ?_, h.o3.mv mv nofun, h.o4.mv mv nofun, h.o5.mv mv nofun, fun e he => ?_⟩
  · rcases List.mem_append.1 hv with hv | hv
    · exact (h.x1 x hv).stay st
    · rw [List.mem_singleton.1 hv]; exact hx.stay st
  · obtain ⟨⟨a1, a2⟩, ⟨xe, b1, b2⟩, ⟨c1, c2⟩, ⟨d1, d2⟩⟩ := h.es e he
    exact ⟨⟨a1.mv mv nofun (hn _ _), a2⟩, ⟨xe, b1.app b2 h.o1.1 hap hk, b2.trans (List.prefix_append _ _)⟩, ⟨c1.mv mv nofun (hn _ _), c2⟩, ⟨d1.mv mv nofun (hn _ _), d2⟩⟩
theorem Ch.app3 (h : Ch db m ρ w v1 v3 v4 v5 L1 L3 L4 L5 xs1 es) {v' : Value} (hap : Ap (db + 1) 76 4 w v3 w' v' (L3 + 1) (rp L3 (yF m) ++ yF m)) (hk : v'.ownBlock = v3.ownBlock ∨ w.grownBy w' none) (hd : ρ db = .no) : Ch db m (grw w.heap.size v' (.ls 2 0) ρ) w' v1 v' v4 v5 L1 (L3 + 1) L4 L5 xs1 es := by
  have mv : MvR db (· = .ls 2 0) w w' ρ (grw w.heap.size v' (.ls 2 0) ρ) := mv_ap hap h.o3.2
  have hn : ∀ q j, ρ db ≠ .ls q j := fun q j => by rw [hd]; nofun
  have st := mv.stay nofun (by rw [hd]; nofun)
  refine ⟨h.o1.mv mv nofun, fun x hv => (h.x1 x hv).stay st, by have := h.o3.app hap; rw [rp_snoc] at this; exact this, h.o4.mv mv nofun, h.o5.mv mv nofun, fun e he => ?_⟩
  obtain ⟨⟨a1, a2⟩, ⟨xe, b1, b2⟩, ⟨c1, c2⟩, ⟨d1, d2⟩⟩ := h.es e he
  exact ⟨⟨a1.app (rp_pre a2 _) h.o3.1 hap hk, by omega⟩, ⟨xe, b1.mv mv nofun (hn _ _), b2⟩, ⟨c1.mv mv nofun (hn _ _), c2⟩, ⟨d1.mv mv nofun (hn _ _), d2⟩⟩
theorem Ch.app4 (h : Ch db m ρ w v1 v3 v4 v5 L1 L3 L4 L5 xs1 es) {v' : Value} (hap : Ap (db + 1) 79 3 w v4 w' v' (L4 + 1) (rp L4 (yI m) ++ yI m)) (hk : v'.ownBlock = v4.ownBlock ∨ w.grownBy w' none) (hd : ρ db = .no) : Ch db m (grw w.heap.size v' (.ls 3 0) ρ) w' v1 v3 v' v5 L1 L3 (L4 + 1) L5 xs1 es := by
  have mv : MvR db (· = .ls 3 0) w w' ρ (grw w.heap.size v' (.ls 3 0) ρ) := mv_ap hap h.o4.2
  have hn : ∀ q j, ρ db ≠ .ls q j := fun q j => by rw [hd]; nofun
  have st := mv.stay nofun (by rw [hd]; nofun)
  refine ⟨h.o1.mv mv nofun, fun x hv => (h.x1 x hv).stay st, h.o3.mv mv nofun, by have := h.o4.app hap; rw [rp_snoc] at this; exact this, h.o5.mv mv nofun, fun e he => ?_⟩
  obtain ⟨⟨a1, a2⟩, ⟨xe, b1, b2⟩, ⟨c1, c2⟩, ⟨d1, d2⟩⟩ := h.es e he
  exact ⟨⟨a1.mv mv nofun (hn _ _), a2⟩, ⟨xe, b1.mv mv nofun (hn _ _), b2⟩, ⟨c1.mv mv nofun (hn _ _), c2⟩, ⟨d1.app (rp_pre d2 _) h.o4.1 hap hk, by omega⟩⟩
theorem Ch.app5 (h : Ch db m ρ w v1 v3 v4 v5 L1 L3 L4 L5 xs1 es) {v' : Value} (hap : Ap (db + 1) 81 2 w v5 w' v' (L5 + 1) (rp L5 (yE m) ++ yE m)) (hk : v'.ownBlock = v5.ownBlock ∨ w.grownBy w' none) (hd : ρ db = .no) : Ch db m (grw w.heap.size v' (.ls 4 0) ρ) w' v1 v3 v4 v' L1 L3 L4 (L5 + 1) xs1 es := by
  have mv : MvR db (· = .ls 4 0) w w' ρ (grw w.heap.size v' (.ls 4 0) ρ) := mv_ap hap h.o5.2
  have hn : ∀ q j, ρ db ≠ .ls q j := fun q j => by rw [hd]; nofun
  have st := mv.stay nofun (by rw [hd]; nofun)
  refine ⟨h.o1.mv mv nofun, fun x hv => (h.x1 x hv).stay st, h.o3.mv mv nofun, h.o4.mv mv nofun, by have := h.o5.app hap; rw [rp_snoc] at this; exact this, fun e he => ?_⟩
  obtain ⟨⟨a1, a2⟩, ⟨xe, b1, b2⟩, ⟨c1, c2⟩, ⟨d1, d2⟩⟩ := h.es e he
  exact ⟨⟨a1.mv mv nofun (hn _ _), a2⟩, ⟨xe, b1.mv mv nofun (hn _ _), b2⟩, ⟨c1.app (rp_pre c2 _) h.o5.1 hap hk, by omega⟩, ⟨d1.mv mv nofun (hn _ _), d2⟩⟩
end
/-- all lists are done -/
def finL (ρ : Nat → BR) (k : Nat) : BR := match ρ k with
  | .ls _ _ => .dn
  | r => r
theorem finL_ls {ρ : Nat → BR} {k q j : Nat} (h : ρ k = .ls q j) : finL ρ k = .dn := by unfold finL; rw [h]
theorem finL_dn {ρ : Nat → BR} {k : Nat} (h : ρ k = .dn) : finL ρ k = .dn := by unfold finL; rw [h]
theorem finL_no {ρ : Nat → BR} {k : Nat} (h : ρ k = .no) : finL ρ k = .no := by unfold finL; rw [h]
theorem finL_stay {ρ : Nat → BR} {w : World} : Stay (fun b => ρ b = .dn) (fun b => finL ρ b = .dn) w w := fun _ hb _ => ⟨rfl, finL_dn hb⟩
theorem BookS.finL_ {db : Nat} {w : World} {vo : Value} {n : Int} {V : Nat → Value} {X : Nat → List Value} {ρ : Nat → BR} (h : BookS db w vo n V X ρ) : BookS db w vo n V X (finL ρ) := by
  refine ⟨h.box, fun i h1 h2 => ⟨(h.row i h1 h2).1, fun k hk => ?_⟩, fun b hb => ?_⟩
  · have := (h.row i h1 h2).2 k hk
    unfold finL; rw [this]
  · exact h.pl b fun e => hb (finL_no e)
theorem MvU.finL_ (db : Nat) (w : World) (ρ : Nat → BR) : MvU db w w ρ (finL ρ) := ⟨Nat.le_refl _, fun k _ _ hr => ⟨by rcases hr with h | h; exact (finL_no h).trans h.symm; exact (finL_dn h).trans h.symm, rfl⟩, rfl, rfl, rfl⟩
/-- an element's cells, one by one -/
theorem EntR.cells {ρ : Nat → BR} {r : BR} {sz : Nat} {w : World} {v : Value} {L : Nat} {y : List Value} (h : EntR ρ r sz w v L (rp L y)) (hy : y.length = sz) (h0 : 0 < sz) : ∃ ao c, v = .slice ao L c ∧ L ≤ maxLen ∧ ∀ i, i < L → ∃ b, ao = some ⟨b, 0, none⟩ ∧ ρ b = r ∧ ∀ q, q < sz → w.cell? ⟨b, 0 + (i * sz + q), none⟩ = y[q]? := by
  obtain ⟨⟨ao, c, rfl, hm, hl, hc⟩, hb⟩ := h
  refine ⟨ao, c, rfl, hm, fun i hi => ?_⟩
  have hat : ∀ q, q < sz → (rp L y)[i * sz + q]? = y[q]? := fun q hq => rp_at hy hi hq
  have hsome : ∀ q (hq : q < sz), y[q]? = some (y[q]'(by omega)) := fun q hq => List.getElem?_eq_getElem (by omega)
  obtain ⟨b, rfl, _⟩ := hc (i * sz + 0) _ ((hat 0 h0).trans (hsome 0 h0))
  refine ⟨b, rfl, (hb b rfl).1, fun q hq => ?_⟩
  obtain ⟨b', e, h2⟩ := hc (i * sz + q) _ ((hat q hq).trans (hsome q hq))
  simp only [Option.some.injEq, Addr.mk.injEq, and_true] at e
  subst e
  rw [Nat.zero_add, h2, hsome q hq]
theorem nil_ints (P : Nat → Prop) (w : World) : RIntsP P w (.slice none 0 0) [] := ⟨none, 0, rfl, Nat.zero_le _, fun i y h => by simp at h⟩
theorem nil_code (P : Nat → Prop) (w : World) : RCodeP P w (.slice none 0 0) [] := ⟨none, 0, rfl, Nat.zero_le _, fun i y h => by simp at h⟩
theorem nil_text : RText (.string ⟨#[]⟩) [] := ⟨⟨#[]⟩, rfl, rfl, Nat.zero_le _⟩
theorem rep_at {α : Type} {L i : Nat} {x y : α} (h : (List.replicate L x)[i]? = some y) : i < L ∧ y = x := by
  have hl : i < L := by have := (List.getElem?_eq_some_iff.1 h).1; simpa using this
  rw [List.getElem?_replicate, if_pos hl] at h
  exact ⟨hl, (Option.some.inj h).symm⟩
theorem EntR.funcs {ρ : Nat → BR} {q0 j0 : Nat} {w : World} {v : Value} {L : Nat} {m : Int} (h : EntR ρ (.ls q0 j0) 4 w v L (rp L (yF m))) : RFuncsP (fun b => finL ρ b = .dn) w v (List.replicate L ⟨[], m, [], []⟩) := by
  obtain ⟨ao, c, rfl, hm, hc⟩ := h.cells rfl (by decide)
  refine ⟨ao, c, by simp, by simpa using hm, fun i x hi => ?_⟩
  obtain ⟨hl, rfl⟩ := rep_at hi
  obtain ⟨b, e, hb, hq⟩ := hc i hl
  exact ⟨b, 0, _, _, _, e, finL_ls hb, hq 0 (by decide), hq 1 (by decide), hq 2 (by decide), hq 3 (by decide), nil_ints _ _, nil_ints _ _, nil_code _ _⟩
theorem EntR.imps {ρ : Nat → BR} {q0 j0 : Nat} {w : World} {v : Value} {L : Nat} {m : Int} (h : EntR ρ (.ls q0 j0) 3 w v L (rp L (yI m))) : RImportsP (fun b => finL ρ b = .dn) w v (List.replicate L ⟨[], [], m⟩) := by
  obtain ⟨ao, c, rfl, hm, hc⟩ := h.cells rfl (by decide)
  refine ⟨ao, c, by simp, by simpa using hm, fun i x hi => ?_⟩
  obtain ⟨hl, rfl⟩ := rep_at hi
  obtain ⟨b, e, hb, hq⟩ := hc i hl
  exact ⟨b, 0, _, _, e, finL_ls hb, hq 0 (by decide), hq 1 (by decide), hq 2 (by decide), nil_text, nil_ints _ _⟩
theorem EntR.exps {ρ : Nat → BR} {q0 j0 : Nat} {w : World} {v : Value} {L : Nat} {m : Int} (h : EntR ρ (.ls q0 j0) 2 w v L (rp L (yE m))) : RExportsP (fun b => finL ρ b = .dn) w v (List.replicate L ⟨[], m⟩) := by
  obtain ⟨ao, c, rfl, hm, hc⟩ := h.cells rfl (by decide)
  refine ⟨ao, c, by simp, by simpa using hm, fun i x hi => ?_⟩
  obtain ⟨hl, rfl⟩ := rep_at hi
  obtain ⟨b, e, hb, hq⟩ := hc i hl
  exact ⟨b, 0, _, e, finL_ls hb, hq 0 (by decide), hq 1 (by decide), nil_text⟩
theorem EntR.shapes {ρ : Nat → BR} {q0 j0 : Nat} {w : World} {v : Value} {L : Nat} {m : Int} {xs : List Value} (h : EntR ρ (.ls q0 j0) 1 w v L xs) (hx : ∀ vx ∈ xs, RIntsP (fun b => ρ b = .dn) w vx [m]) : RShapesP (fun b => finL ρ b = .dn) w v (List.replicate L [m]) := by
  obtain ⟨⟨ao, c, rfl, hm, hl, hc⟩, hb⟩ := h
  refine ⟨ao, c, by simp, by simpa using hm, fun i x hi => ?_⟩
  obtain ⟨hil, rfl⟩ := rep_at hi
  have hxl : i < xs.length := by omega
  obtain ⟨b, rfl, h2⟩ := hc i xs[i] (List.getElem?_eq_getElem hxl)
  exact ⟨b, 0, _, rfl, finL_ls (hb b rfl).1, by rw [Nat.zero_add]; exact h2, (hx _ (List.getElem_mem hxl)).stay finL_stay⟩
theorem Ch.book {db : Nat} {m : Int} {v1 v3 v4 v5 : Value} {L1 L3 L4 L5 : Nat} {xs1 : List Value} {es : List OE} {ρ : Nat → BR} {w : World} {X X' : Nat → List Value} (h : Ch db m ρ w v1 v3 v4 v5 L1 L3 L4 L5 xs1 es) (hE : BookE w ρ X) (h6 : X' 6 = X 6 ++ es.map (·.1.1)) (h7 : X' 7 = X 7 ++ es.map (·.1.2.1)) (h8 : X' 8 = X 8 ++ es.map (·.1.2.2.1)) (h9 : X' 9 = X 9 ++ es.map (·.1.2.2.2)) (h10 : X' 10 = X 10 ++ es.map (fun _ => .int .i64 m)) (hX : ∀ q, q < 6 → X' q = X q) : BookE w (finL ρ) X' := by
  have hE2 := hE.stay finL_stay
  obtain ⟨O, o1, o2, o3, o4, o5, o6⟩ := hE2.o
  refine ⟨by rw [hX 2 (by decide), hX 3 (by decide)]; exact hE2.i, by rw [hX 4 (by decide), hX 5 (by decide)]; exact hE2.c, ⟨O ++ es.map (fun e => (e.1, e.2, m)), ?_, ?_, ?_, ?_, ?_, fun e he => ?_⟩⟩
  · rw [h6, o1]; simp
  · rw [h7, o2]; simp
  · rw [h8, o3]; simp
  · rw [h9, o4]; simp
  · rw [h10, o5]; simp
  · rcases List.mem_append.1 he with he | he
    · exact o6 e he
    · obtain ⟨e0, he0, rfl⟩ := List.mem_map.1 he
      obtain ⟨⟨a1, a2⟩, ⟨xe, b1, b2⟩, ⟨c1, c2⟩, ⟨d1, d2⟩⟩ := h.es e0 he0
      exact ⟨a1.funcs, b1.shapes (fun vx hv => h.x1 vx (b2.subset hv)), c1.exps, d1.imps⟩
end Go.Proofs.YtkgncijcnlfhiaaDoor

