import Derived.Test.YtkgncijcnlfhiaaM7
import Derived.Deep.RegionLaw
namespace Go.Proofs.Ytkgncijcnlfhiaa
set_option linter.unusedVariables false
set_option linter.unusedSimpArgs false
open Go.RowKit
theorem next_m (mb : Nat) (n : Int) (hn : 0 < n) (hn2 : n ≤ 9223372036854775807) (w : World) (h : ∃ r, MkR w mb r) :
    Calls Try.prog 17 #[.pointer (some ⟨mb, 0, none⟩), .int .i64 n] w fun x w' => ∃ q : Nat, x = .returned (.int .i64 (q : Int)) ∧ (q : Int) < n ∧ (∃ r, MkR w' mb r) ∧ Gc mb w w' := by
  obtain ⟨r, hr⟩ := h
  refine (next_any mb r n hn hn2 w hr).mono ?_
  rintro x w' ⟨rfl, hm, hg⟩
  have hq := mpick_lt (r := r) (n := n) hn
  exact ⟨(mpick r n).toNat, by rw [show ((mpick r n).toNat : Int) = mpick r n by omega], by omega, ⟨_, hm⟩, hg⟩
theorem raw_m (mb : Nat) (w : World) (h : ∃ r, MkR w mb r) :
    Calls Try.prog 19 #[.pointer (some ⟨mb, 0, none⟩)] w fun x w' => ∃ q : Int, x = .returned (.int .i64 q) ∧ fitsI q ∧ (∃ r, MkR w' mb r) ∧ Gc mb w w' := by
  obtain ⟨r, hr⟩ := h
  refine (raw_any mb r w hr).mono ?_
  rintro x w' ⟨rfl, hm, hg⟩
  exact ⟨_, rfl, hr.fits, ⟨_, hm⟩, hg⟩
theorem kinds_m (mb : Nat) (least most shapes : Nat) (hlm : least ≤ most) (hmo : most ≤ 100) (hsh : shapes ≤ 100) (w : World) (h : ∃ r, MkR w mb r) :
    Calls Try.prog 18 #[.pointer (some ⟨mb, 0, none⟩), .int .i64 least, .int .i64 most, .int .i64 shapes] w fun x w' =>
      ∃ (v : Value) (l : List Int), x = .returned v ∧ w'.ownsRow w.heap.size 3 1 v l.length (l.flatMap fI) ∧ (least ≤ l.length ∧ l.length ≤ most ∧ l.all (inB shapes) = true) ∧ (∃ r', MkR w' mb r') ∧ Gc mb w w' := by
  obtain ⟨r, hr⟩ := h
  exact kinds_made mb r least most shapes hlm hmo hsh w hr
theorem ins_m (mb : Nat) (w : World) (h : ∃ r, MkR w mb r) : Calls Try.prog 20 #[.pointer (some ⟨mb, 0, none⟩)] w (MadeIns mb w) := by
  obtain ⟨r, hr⟩ := h
  exact ins_any mb r w hr
theorem name_m (mb : Nat) (w : World) (h : ∃ r, MkR w mb r) :
    Calls Try.prog 21 #[.pointer (some ⟨mb, 0, none⟩)] w fun x w' => ∃ s : ByteArray, x = .returned (.string s) ∧ (1 ≤ s.size ∧ s.size ≤ 4) ∧ (∃ r', MkR w' mb r') ∧ Gc mb w w' := by
  obtain ⟨r, hr⟩ := h
  exact mname_any mb r w hr
theorem Stay.refl {P : Nat → Prop} {w : World} : Stay P P w w := fun _ hb _ => ⟨rfl, hb⟩
theorem step_append_vals {ops : Array Oper} {o : Oper} {a : Act} {K : Act → World → Prop} {Q : Exit → Act → World → Prop} {E : Prop} (w : World) (hgd : o.guard = none) (s x : Operand) (t e : TypeId) (n bytes : Nat) (zero : Value) (inf : (Try.prog.info? e).map (fun i => (i.zero, i.size, i.bytes)) = some (some zero, n, bytes)) (ht : Try.prog.underlying t = some (.slice e)) (hzs : zero.cells.size = n) (hn : 0 < n) (hby : bytes ≤ 1000)
    (ho : o.op = .call { callee := .builtin .append, args := #[s, x], argTypes := #[t, t] })
    (base : Nat) (v : Value) (len : Nat) (xs : List Value) (hs : a.eval s = v) (hown : w.ownsRow base e n v len xs) (ys : Array Value) (hys : ys.size = n) (h1 : ∀ u ∈ ys.toList, u.oneCell' = true)
    (H : Nat) (hx : a.eval x = .slice (some ⟨H, 0, none⟩) 1 1) (hH : w.heap.size = H) (hlen : len ≤ 1000000) (hbase : base ≤ w.heap.size)
    (h : ∀ ao cap w', Ap base e n w v w' (.slice ao (len + 1) cap) (len + 1) (xs ++ ys.toList) → K (a.put o.dst (.slice ao (len + 1) cap)) w') :
    if Region.wanted o (yielded ops a.tmps) = true then Oper.wp Try.prog o a (w.alloc (.cells ys e)) K Q else E := by
  subst hH
  obtain ⟨i0, hi, hz0, hz1, hz2⟩ := info_parts inf
  refine step_append_lies (w.alloc (.cells ys e)) hgd s x t ho base e i0 zero n bytes ht hi hz0 hz1 hz2 hzs hn v len xs hs (hown.alloc _) ⟨w.heap.size, 0, none⟩ 1 1 ys.toList hx (by rw [Array.length_toList, hys, Nat.one_mul]) (cells_new _ _ _) h1 (by decide) (by unfold maxLen; omega) (Nat.le_trans (Nat.mul_le_mul (Nat.add_le_add_right hlen 1) hby) (by decide)) (by simp; omega) _ rfl ?_
  intro g cap w' k1 k2 k3 _
  refine h (some ⟨g, 0, none⟩) cap w' ⟨k1, (World.grownBy_alloc w _ _).trans k2, fun k hk => ?_⟩
  simp only [Value.ownBlock, Option.some.injEq] at hk
  subst hk
  rcases k3 with e | e
  · exact .inl e
  · right; simp at e; omega
theorem step_calls {ops : Array Oper} {o : Oper} {a : Act} {K : Act → World → Prop} {Q : Exit → Act → World → Prop} {E : Prop} {w : World} (hgd : o.guard = none) (f : FuncId) (args : Array Operand) (ats : Array TypeId)
    (ho : o.op = .call { callee := .value (.func f), args := args, argTypes := ats }) (vals : Array Value) (hv : args.map a.eval = vals) (hcf : (callFunc f vals).run Try.prog w = .ok (.enter f vals) w) (h : Calls Try.prog f vals w (fun x w' => ∃ v, x = .returned v ∧ K (a.put o.dst v) w')) :
    if Region.wanted o (yielded ops a.tmps) = true then Oper.wp Try.prog o a w K Q else E := by
  have hw : Region.wanted o (yielded ops a.tmps) = true := by simp [Region.wanted, hgd]
  rw [if_pos hw]
  unfold Oper.wp
  have he : (execOp a.eval o).run Try.prog w = .ok (.enter f vals) w := by
    subst hv
    simp [execOp, ho, resolve, invoke, Act.eval, go_sem]
    exact hcf
  rw [he, Oper.upon_enter]
  refine h.mono ?_
  rintro x w' ⟨v, rfl, hk⟩
  exact hk
theorem Try.callNext (vals : Array Value) (w : World) : (callFunc 17 vals).run Try.prog w = .ok (.enter 17 vals) w := by kernel_rfl
theorem put5_stay {P : Nat → Prop} {w : World} {g : Nat} {y0 y1 y2 y3 y4 : Value} (h : ∀ b, P b → ¬ b = g) : Stay P P w (put5 w g y0 y1 y2 y3 y4) := by
  intro b hb _
  refine ⟨?_, hb⟩
  unfold put5
  rw [Below.heap_setCell _ _ _ _ (h b hb), Below.heap_setCell _ _ _ _ (h b hb), Below.heap_setCell _ _ _ _ (h b hb), Below.heap_setCell _ _ _ _ (h b hb), Below.heap_setCell _ _ _ _ (h b hb)]
theorem put5_gc {w w1 : World} {mb b : Nat} {y0 y1 y2 y3 y4 : Value} (h : Gc mb w w1) (hb : w.heap.size ≤ b) : Gc mb w (put5 w1 b y0 y1 y2 y3 y4) := gc_new (gc_new (gc_new (gc_new (gc_new h hb) hb) hb) hb) hb
theorem text_of (s : ByteArray) (h : s.size ≤ 4) : RText (.string s) s.data.toList := ⟨s, rfl, rfl, by unfold maxLen; omega⟩
theorem Try.infoSlice : (Try.prog.info? 22).map (fun i => (i.zero, i.size, i.bytes)) = some (some (.slice none 0 0), 1, 24) := by kernel_rfl
theorem Try.infoIns : (Try.prog.info? 54).map (fun i => (i.zero, i.size, i.bytes)) = some (some (.agg #[.int .i64 0, .int .i64 0, .int .i64 0]), 3, 24) := by kernel_rfl
theorem Try.infoFunc : (Try.prog.info? 52).map (fun i => (i.zero, i.size, i.bytes)) = some (some (.agg #[.slice none 0 0, .int .i64 0, .slice none 0 0, .slice none 0 0]), 4, 80) := by kernel_rfl
theorem Try.infoImp : (Try.prog.info? 56).map (fun i => (i.zero, i.size, i.bytes)) = some (some (.agg #[.string ⟨#[]⟩, .slice none 0 0, .int .i64 0]), 3, 48) := by kernel_rfl
theorem Try.infoExp : (Try.prog.info? 58).map (fun i => (i.zero, i.size, i.bytes)) = some (some (.agg #[.string ⟨#[]⟩, .int .i64 0]), 2, 24) := by kernel_rfl
theorem own_ne {w : World} {B g : Nat} {e : TypeId} {n len : Nat} {v : Value} {xs : List Value} (h : w.ownsRow B e n v len xs) (hg : g < B) : ¬ v.ownBlock = some g := fun e => by have := own_ge h g e; omega
theorem bt_any {B : Nat} {v : Value} : ∀ b, Bt B v b → Bt B nilS b := fun b hb => ⟨hb.1, by simp [nilS, Value.ownBlock]⟩
theorem bt_nil {B : Nat} : ∀ b, B ≤ b → Bt B nilS b := fun b hb => ⟨hb, by simp [nilS, Value.ownBlock]⟩
theorem stay_nil {B : Nat} {v : Value} {w : World} : Stay (Bt B v) (Bt B nilS) w w := fun b hb _ => ⟨rfl, bt_any b hb⟩
theorem own_snoc {w : World} {B : Nat} {e : TypeId} {n : Nat} {v : Value} {α : Type} {f : α → List Value} {es : List α} {x : α} {ys : Array Value} (h : w.ownsRow B e n v (es.length + 1) (es.flatMap f ++ ys.toList)) (hx : f x = ys.toList) : w.ownsRow B e n v (es ++ [x]).length ((es ++ [x]).flatMap f) := by
  rw [List.length_append, List.flatMap_append, List.flatMap_cons, List.flatMap_nil, List.append_nil, hx]; exact h
theorem snoc_all {α : Type} {Q : α → Prop} {es : List α} {x : α} (h : ∀ e ∈ es, Q e) (hx : Q x) : ∀ e ∈ es ++ [x], Q e := by
  intro e he
  rcases List.mem_append.1 he with h1 | h1
  · exact h e h1
  · rw [List.mem_singleton.1 h1]; exact hx
def FOk (N : Nat) (f : PFunc) : Prop := (f.params.length ≤ 4 ∧ f.params.all (inB N) = true) ∧ inB N f.result = true ∧ (f.locals.length ≤ 4 ∧ f.locals.all (inB N) = true) ∧ (1 ≤ f.code.length ∧ f.code.length ≤ 12) ∧ f.code.all insOk = true
def IOk (N : Nat) (i : PImp) : Prop := (1 ≤ i.name.length ∧ i.name.length ≤ 4) ∧ (i.params.length ≤ 4 ∧ i.params.all (inB N) = true) ∧ inB N i.result = true
def UnitMade (mb : Nat) (w : World) (x : Ending) (w' : World) : Prop := ∃ (v : Value) (u : PUnit) (N : Nat), x = .returned v ∧ RUnitF w.heap.size w' v u ∧ Small N u ∧ u.shapes.length = N ∧ Gc mb w w'
def EOk (m : Nat) (e : PExp) : Prop := (1 ≤ e.name.length ∧ e.name.length ≤ 4) ∧ wB e.func 0 ((m : Int) - 1) = true
/-- a function that was made -/
def FAt (P : Nat → Prop) (w : World) (e : BF) : Prop := RIntsP P w e.vp e.f.params ∧ RIntsP P w e.vl e.f.locals ∧ RCodeP P w e.vc e.f.code
theorem FAt.stay {P P' : Nat → Prop} {w w' : World} {e : BF} (h : FAt P w e) (g : Stay P P' w w') : FAt P' w' e := ⟨h.1.stay g, h.2.1.stay g, h.2.2.stay g⟩
def Low (H mb fb : Nat) (w w' : World) : Prop := ∀ b, b < H → ¬ b = mb → ¬ b = fb → w'.heap[b]? = w.heap[b]?
theorem Low.gc {H mb fb : Nat} {w w' w2 : World} (h : Low H mb fb w w') (g : Gc mb w' w2) (hs : H ≤ w'.heap.size) : Low H mb fb w w2 := fun b hb h1 h2 => (g.block b (by omega) (by intro e; simp only [Option.some.injEq] at e; exact h1 e)).trans (h b hb h1 h2)
theorem Low.grown {H mb fb : Nat} {w w' w2 : World} {o : Option Nat} (h : Low H mb fb w w') (g : w'.grownBy w2 o) (hs : H ≤ w'.heap.size) (ho : ∀ k, o = some k → H ≤ k) : Low H mb fb w w2 := fun b hb h1 h2 => (g.block b (by omega) (fun e => by have := ho b e.symm; omega)).trans (h b hb h1 h2)
theorem Low.set {H mb fb o : Nat} {u : Value} {w w' : World} (h : Low H mb fb w w') : Low H mb fb w (w'.setCell ⟨fb, o, none⟩ u) := fun b hb h1 h2 => (Below.heap_setCell _ _ _ _ h2).trans (h b hb h1 h2)
theorem Box4.gr {w w' : World} {b : Nat} {x0 x1 x2 x3 : Value} (h : Box4 w b x0 x1 x2 x3) (g : Gr w w') : Box4 w' b x0 x1 x2 x3 := h.gc (cb := b + 1) g.toGc (by omega)
theorem Box4.grown {w w' : World} {b : Nat} {o : Option Nat} {x0 x1 x2 x3 : Value} (h : Box4 w b x0 x1 x2 x3) (g : w.grownBy w' o) (hb : ¬ o = some b) : Box4 w' b x0 x1 x2 x3 := by
  have hl : b < w.heap.size := World.block_lt_of_cell? w _ h.1
  have hb' := g.block b hl (fun e => hb e.symm)
  have hc : ∀ q, w'.cell? ⟨b, q, none⟩ = w.cell? ⟨b, q, none⟩ := fun q => World.cell?_of_block (a := ⟨b, q, none⟩) hb'
  have hf : ∀ q, w'.frozen? ⟨b, q, none⟩ = w.frozen? ⟨b, q, none⟩ := fun q => World.frozen?_of_block (a := ⟨b, q, none⟩) hb'
  obtain ⟨h0, h1, h2, h3, z0, z1, z2, z3⟩ := h
  exact ⟨(hc 0).trans h0, (hc 1).trans h1, (hc 2).trans h2, (hc 3).trans h3, (hf 0).trans z0, (hf 1).trans z1, (hf 2).trans z2, (hf 3).trans z3⟩
theorem UB.other {w wr : World} {mb g o : Nat} {v1 v2 v3 v4 v5 u : Value} (h : UB w mb wr v1 v2 v3 v4 v5) (hg : w.heap.size + 2 ≤ g) : UB w mb (wr.setCell ⟨g, o, none⟩ u) v1 v2 v3 v4 v5 := by
  obtain ⟨h1, h2, ⟨r, hr⟩, h4, h5, h6⟩ := h
  exact ⟨h1.other (by omega), h2.other (by omega), ⟨r, hr.set (by omega)⟩, gc_new h4 (by omega), by simpa using h5, h6⟩
end Go.Proofs.Ytkgncijcnlfhiaa
