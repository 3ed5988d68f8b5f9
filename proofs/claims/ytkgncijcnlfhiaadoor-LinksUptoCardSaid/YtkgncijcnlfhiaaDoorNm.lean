import Derived.Test.YtkgncijcnlfhiaaDoorNl
namespace Go.Proofs.YtkgncijcnlfhiaaDoor
set_option linter.unusedVariables false
set_option linter.unusedSimpArgs false
open Go.RowKit
attribute [local go_sem ↓] Go.wp_at_zero Go.wp_at_succ
/-- below B, and but for the box, nothing turns -/
structure Lo (B ab : Nat) (V w : World) : Prop where
  os : w.os = V.os
  tape : w.tape = V.tape
  output : w.output = V.output
  size : V.heap.size ≤ w.heap.size
  blk : ∀ k, k < B → ¬ k = ab → w.heap[k]? = V.heap[k]?
theorem Lo.gr {B ab : Nat} {V w w' : World} (h : Lo B ab V w) (g : Gr w w') (hB : B ≤ V.heap.size) : Lo B ab V w' :=
  ⟨g.os.trans h.os, g.tape.trans h.tape, g.output.trans h.output, Nat.le_trans h.size g.size, fun k hk hn => (g.block k (by have := h.size; omega) (by simp)).trans (h.blk k hk hn)⟩
theorem Lo.put {B ab o : Nat} {V w w2 w3 : World} {v u : Value} (h : Lo B ab V w) (g : Gr w w2) (g3 : w2.grownBy w3 v.ownBlock) (hB : B ≤ V.heap.size) (hv : ∀ k, v.ownBlock = some k → B ≤ k) : Lo B ab V (w3.setCell ⟨ab, o, none⟩ u) := by
  have h2 := h.gr g hB
  refine ⟨g3.os.trans h2.os, g3.tape.trans h2.tape, g3.output.trans h2.output, by have := h2.size; have := g3.size; simp; omega, fun k hk hn => ?_⟩
  rw [Below.heap_setCell _ _ _ _ (by show k ≠ ab; exact hn), g3.block k (by have := h2.size; omega) (fun e => by have := hv k e.symm; omega)]
  exact h2.blk k hk hn
theorem Lo.to {B ab : Nat} {W V w : World} (h : Lo B ab V w) (g : Gr W V) (h1 : W.heap.size ≤ ab) (h2 : ab < B) : Gr W w :=
  ⟨h.os.trans g.os, h.tape.trans g.tape, h.output.trans g.output, Nat.le_trans g.size h.size, fun i hi hne => (h.blk i (by omega) (by omega)).trans (g.block i hi hne)⟩
def Bx (B : Nat) (ρ : Nat → Rl) (w : World) (b : Nat) (cells : Array Value) (t : TypeId) : Prop := ρ b = .bx ∧ B ≤ b ∧ w.heap[b]? = some (.cells cells t (0, 0))
theorem Bx.mv {B : Nat} {ρ ρ' : Nat → Rl} {r0 : Rl} {w w' : World} {b : Nat} {cells : Array Value} {t : TypeId} (h : Bx B ρ w b cells t) (m : Mv B r0 w w' ρ ρ') (hr : Rl.bx ≠ r0) : Bx B ρ' w' b cells t := by
  obtain ⟨h1, h2, h3⟩ := h
  obtain ⟨m1, m2⟩ := m.2 b (Array.getElem?_eq_some_iff.1 h3).1 h2
  exact ⟨m1.trans h1, h2, (m2 (by rw [h1]; exact hr)).trans h3⟩
theorem rrow_new (w : World) (M : Array Value) (t : TypeId) (n : Nat) : RRow (w.alloc (.cells M t)) (.slice (some ⟨w.heap.size, 0, none⟩) n n) n M.toList := by
  refine ⟨_, _, rfl, fun j u hj => ⟨w.heap.size, 0, rfl, ?_⟩⟩
  rw [hcell_ (heap_alloc_new w (.cells M t)), Nat.zero_add, ← Array.getElem?_toList]
  exact hj
theorem Tryd.infS : (Tryd.prog.info? 23).map (fun i => (i.zero, i.size, i.bytes)) = some (some (.slice none 0 0), 1, 24) := by kernel_rfl
theorem Tryd.infU : (Tryd.prog.info? 76).map (fun i => (i.zero, i.size, i.bytes)) = some (some (.agg #[.slice none 0 0, .int .i64 0, .slice none 0 0, .slice none 0 0]), 4, 80) := by kernel_rfl
theorem Tryd.infX : (Tryd.prog.info? 81).map (fun i => (i.zero, i.size, i.bytes)) = some (some (.agg #[.string ⟨#[]⟩, .int .i64 0]), 2, 24) := by kernel_rfl
theorem Tryd.uS : Tryd.prog.underlying 22 = some (.slice 23) := by kernel_rfl
theorem Tryd.uU : Tryd.prog.underlying 24 = some (.slice 76) := by kernel_rfl
theorem Tryd.uX : Tryd.prog.underlying 26 = some (.slice 81) := by kernel_rfl
theorem Tryd.callFun (vals : Array Value) (w : World) : (callFunc 145 vals).run Tryd.prog w = .ok (.enter 145 vals) w := by kernel_rfl
theorem Tryd.callExpo (vals : Array Value) (w : World) : (callFunc 146 vals).run Tryd.prog w = .ok (.enter 146 vals) w := by kernel_rfl
theorem JA.cells {B ab : Nat} {w : World} {v1 v2 v3 v5 : Value} {es1 : List (Value × List Int)} {cs : List Int} {es3 : List LF} {es5 : List LX} {ρ : Nat → Rl} (h : JA B ab w v1 v2 v3 v5 es1 cs es3 es5 ρ) : (w.cell? ⟨ab, 0, none⟩ = some v1 ∧ w.cell? ⟨ab, 1, none⟩ = some v2 ∧ w.cell? ⟨ab, 2, none⟩ = some v3 ∧ w.cell? ⟨ab, 3, none⟩ = some (.slice none 0 0) ∧ w.cell? ⟨ab, 4, none⟩ = some v5) ∧ ∀ o, w.frozen? ⟨ab, o, none⟩ = false := by
  have e := h.box
  exact ⟨⟨by rw [hcell_ e]; rfl, by rw [hcell_ e]; rfl, by rw [hcell_ e]; rfl, by rw [hcell_ e]; rfl, by rw [hcell_ e]; rfl⟩, fun o => hfrozen_ e⟩
theorem JA.empty (w : World) (B ab : Nat) (h : w.heap[ab]? = some (.cells #[.slice none 0 0, .slice none 0 0, .slice none 0 0, .slice none 0 0, .slice none 0 0] 28 (0, 0))) (h1 : ab < B) (h2 : B ≤ w.heap.size) : JA B ab w (.slice none 0 0) (.slice none 0 0) (.slice none 0 0) (.slice none 0 0) [] [] [] [] (fun _ => .bx) :=
  ⟨h, h1, h2, ⟨World.ownsRow_nil w _ _ _, nofun⟩, nofun, ⟨World.ownsRow_nil w _ _ _, nofun⟩, ⟨World.ownsRow_nil w _ _ _, nofun⟩, nofun, ⟨World.ownsRow_nil w _ _ _, nofun⟩⟩
theorem JA.keep {B ab rb : Nat} {w w' : World} {v1 v2 v3 v5 : Value} {es1 : List (Value × List Int)} {cs : List Int} {es3 : List LF} {es5 : List LX} {ρ : Nat → Rl} (h : JA B ab w v1 v2 v3 v5 es1 cs es3 es5 ρ) (hs : w.heap.size ≤ w'.heap.size) (g : ∀ k, ¬ k = rb → w'.heap[k]? = w.heap[k]?) (h1 : rb < B) (h2 : ¬ rb = ab) : JA B ab w' v1 v2 v3 v5 es1 cs es3 es5 ρ := by
  have m : Mv B .bx w w' ρ ρ := ⟨hs, fun k hk hB => ⟨rfl, fun _ => g k (by omega)⟩⟩
  exact ⟨(g ab (fun e => h2 e.symm)).trans h.box, h.ab, Nat.le_trans h.bs hs, h.o1.mv m nofun, fun i e he => (h.o1i i e he).mv m nofun, h.o2.mv m nofun, h.o3.mv m nofun, fun i e he => ⟨(h.o3i i e he).1.mv m nofun, (h.o3i i e he).2.1.mv m nofun, (h.o3i i e he).2.2.mv m nofun⟩, h.o5.mv m nofun⟩
def put5j (w : World) (b : Nat) (y0 y1 y2 y3 y4 : Value) : World := ((((w.setCell ⟨b, 0, none⟩ y0).setCell ⟨b, 1, none⟩ y1).setCell ⟨b, 2, none⟩ y2).setCell ⟨b, 3, none⟩ y3).setCell ⟨b, 4, none⟩ y4
theorem put5j_eq (w : World) (b : Nat) (y0 y1 y2 y3 y4 : Value) : ((((w.setCell ⟨b, 0, none⟩ y0).setCell ⟨b, 1, none⟩ y1).setCell ⟨b, 2, none⟩ y2).setCell ⟨b, 3, none⟩ y3).setCell ⟨b, 4, none⟩ y4 = put5j w b y0 y1 y2 y3 y4 := rfl
theorem put5j_other {w : World} {b k : Nat} {y0 y1 y2 y3 y4 : Value} (h : ¬ k = b) : (put5j w b y0 y1 y2 y3 y4).heap[k]? = w.heap[k]? := by
  unfold put5j
  rw [Below.heap_setCell _ _ _ _ h, Below.heap_setCell _ _ _ _ h, Below.heap_setCell _ _ _ _ h, Below.heap_setCell _ _ _ _ h, Below.heap_setCell _ _ _ _ h]
theorem put5j_same {w : World} {b : Nat} {y0 y1 y2 y3 y4 z0 z1 z2 z3 z4 : Value} {t : TypeId} (h : w.heap[b]? = some (.cells #[z0, z1, z2, z3, z4] t (0, 0))) : (put5j w b y0 y1 y2 y3 y4).heap[b]? = some (.cells #[y0, y1, y2, y3, y4] t (0, 0)) := by
  unfold put5j
  have h0 := heap_setCell_same w b 0 _ t y0 h
  have h1 := heap_setCell_same _ b 1 _ t y1 h0
  have h2 := heap_setCell_same _ b 2 _ t y2 h1
  have h3 := heap_setCell_same _ b 3 _ t y3 h2
  have h4 := heap_setCell_same _ b 4 _ t y4 h3
  exact h4.trans (by simp)
def JoinR (W : World) (l : List PUnit) (h0 : PUnit) (N : List UInt8 → Option (PFunc × Int)) (x : Ending) (w' : World) : Prop := ∃ v1 v2 v3 v5 es1 cs es3 es5 ρ B ab, x = .returned (.agg #[v1, v2, v3, .slice none 0 0, v5]) ∧ W.heap.size ≤ ab ∧ JA B ab w' v1 v2 v3 v5 es1 cs es3 es5 ρ ∧ es1.map (·.2) = h0.shapes ∧ (cs, es3.map (·.f), es5.map (·.p)) = joinF (numN N) 0 0 l ∧ Gr W w'
theorem exp_name {u : PUnit} {e : PExp} (h : unitOk u = true) (he : e ∈ u.exports) : e.name.length ≤ 20 := by
  unfold unitOk exportsOk at h
  simp only [Bool.and_eq_true] at h
  obtain ⟨-, -, -, -, -, h8⟩ := h
  have := List.all_eq_true.1 h8 e he
  unfold expOk nameOk at this
  simp only [wB, Bool.and_eq_true, decide_eq_true_eq] at this
  omega
theorem mvI_eq {N : List UInt8 → Option (PFunc × Int)} {u : PUnit} {c f : Nat} {i : PIns} (h : insOk i = true) : mvI N u c f i = movedP (numN N) u c f i := by
  obtain ⟨op, a, b⟩ := i
  unfold mvI movedP
  by_cases h0 : op = 0
  · subst h0
    have ha : 0 ≤ a := by
      simp only [insOk, operandOk, operandsN, wB] at h
      simp at h; omega
    obtain ⟨k, rfl⟩ : ∃ k : Nat, a = (k : Int) := ⟨a.toNat, by omega⟩
    simp
  · by_cases h13 : op = 13
    · subst h13
      have ha : 0 ≤ a := by
        simp only [insOk, operandOk, operandsN, wB] at h
        simp at h; omega
      obtain ⟨k, rfl⟩ : ∃ k : Nat, a = (k : Int) := ⟨a.toNat, by omega⟩
      simp only [fnNum, h0, if_false, if_true, Int.toNat_natCast]
      congr 1
      by_cases hk : k < u.funcs.length
      · rw [if_pos hk, if_pos (by omega)]
      · rw [if_neg hk, if_neg (by omega), show ((k : Int) - (u.funcs.length : Int)).toNat = k - u.funcs.length by omega]
        rfl
    · simp [h0, h13]
theorem mvF_eq {N : List UInt8 → Option (PFunc × Int)} {u : PUnit} {c f : Nat} {g : PFunc} (h : g.code.all insOk = true) : mvF N u c f g = movedF (numN N) u c f g := by
  unfold mvF movedF
  congr 1
  apply List.map_congr_left
  intro i hi
  exact mvI_eq (List.all_eq_true.1 h i hi)

set_option maxRecDepth 100000 in
set_option maxHeartbeats 8000000 in
theorem joined_any (W0 W : World) (l : List PUnit) (h0 : PUnit) (vl : Value) (mb nn : Nat) (N : List UInt8 → Option (PFunc × Int)) (hl0 : l[0]? = some h0) (hR : RUnits W0 vl l) (hW : Gr W0 W) (hM : MapT W0 W mb nn N) (hl6 : l.length ≤ 6) (hok : ∀ u ∈ l, unitOk u = true) :
    Calls Tryd.prog 106 #[vl, .map (some mb)] W (JoinR W l h0 N) := by
  obtain ⟨aol, capl, rfl, hm, hc⟩ := hR
  have HC := hide hc
  have HW := hide hW
  have HM := hide hM
  have HOK := hide hok
  obtain ⟨b0, off0, x1, x2, x3, x4, x5, rfl, q1, q2, q3, q4, q5, hru⟩ := hc 0 h0 hl0
  obtain ⟨sa, _, _, _, _, sc, _, _, _, _, he, rs, _⟩ := hru.parts
  simp only [Value.agg.injEq, Array.mk.injEq, List.cons.injEq, and_true] at he
  obtain ⟨rfl, -, -, -, -⟩ := he
  have q1 := hW.cell q1 (by simp)
  simp only [Nat.zero_mul, Nat.add_zero] at q1
  have hl : 0 < l.length := (List.getElem?_eq_some_iff.1 hl0).1
  have hli : (0 : Int) < (l.length : Int) := by omega
  obtain ⟨sao, scap, he, hsm, hsc⟩ := rs
  simp only [Value.slice.injEq, true_and] at he
  obtain ⟨rfl, rfl⟩ := he
  unfold maxLen at hsm hm
  have HSC := hide hsc
  have hfit0 := unit_fits (hok h0 (List.mem_of_getElem? hl0))
  have hs20 := hfit0.2.2.2.2.1
  have HS8 := hide hfit0.2.2.2.2.2.2.2
  have hb1 := heap_alloc_new (W.alloc (.cells #[.slice none 0 0, .slice none 0 0, .slice none 0 0, .slice none 0 0, .slice none 0 0] 28)) (.cells #[.slice none 0 0, .slice none 0 0, .slice none 0 0, .slice none 0 0, .slice none 0 0] 28)
  have s1 : (W.alloc (.cells #[.slice none 0 0, .slice none 0 0, .slice none 0 0, .slice none 0 0, .slice none 0 0] 28)).heap.size = W.heap.size + 1 := by simp
  have s2 : ((W.alloc (.cells #[.slice none 0 0, .slice none 0 0, .slice none 0 0, .slice none 0 0, .slice none 0 0] 28)).alloc (.cells #[.slice none 0 0, .slice none 0 0, .slice none 0 0, .slice none 0 0, .slice none 0 0] 28)).heap.size = W.heap.size + 2 := by simp
  rw [s1] at hb1
  have HRB : Hid (((W.alloc (.cells #[.slice none 0 0, .slice none 0 0, .slice none 0 0, .slice none 0 0, .slice none 0 0] 28)).alloc (.cells #[.slice none 0 0, .slice none 0 0, .slice none 0 0, .slice none 0 0, .slice none 0 0] 28)).heap[W.heap.size]? = some (.cells #[.slice none 0 0, .slice none 0 0, .slice none 0 0, .slice none 0 0, .slice none 0 0] 28 (0, 0))) := hide ((((Gr.refl _).alloc _ : Gr (W.alloc (.cells #[.slice none 0 0, .slice none 0 0, .slice none 0 0, .slice none 0 0, .slice none 0 0] 28)) ((W.alloc (.cells #[.slice none 0 0, .slice none 0 0, .slice none 0 0, .slice none 0 0, .slice none 0 0] 28)).alloc (.cells #[.slice none 0 0, .slice none 0 0, .slice none 0 0, .slice none 0 0, .slice none 0 0] 28))).block W.heap.size (by rw [s1]; omega) (by simp)).trans (heap_alloc_new W _))
  have HJ0 := hide (JA.empty ((W.alloc (.cells #[.slice none 0 0, .slice none 0 0, .slice none 0 0, .slice none 0 0, .slice none 0 0] 28)).alloc (.cells #[.slice none 0 0, .slice none 0 0, .slice none 0 0, .slice none 0 0, .slice none 0 0] 28)) (W.heap.size + 2) (W.heap.size + 1) hb1 (by omega) (by rw [s2]; omega))
  have HG2 : Hid (Gr W ((W.alloc (.cells #[.slice none 0 0, .slice none 0 0, .slice none 0 0, .slice none 0 0, .slice none 0 0] 28)).alloc (.cells #[.slice none 0 0, .slice none 0 0, .slice none 0 0, .slice none 0 0, .slice none 0 0] 28))) := hide (((Gr.refl W).alloc _).alloc _)
  have HS2 := hide s2
  have q1 := HG2.out.cell q1 (by simp)
  clear hc hW hM hok hru hsc hfit0 hb1 s1 s2 q2 q3 q4 q5 hl0
  go_enter Tryd.func106, Tryd.ntmps106
  go_wp2_with fail
  generalize ((W.alloc (.cells #[.slice none 0 0, .slice none 0 0, .slice none 0 0, .slice none 0 0, .slice none 0 0] 28)).alloc (.cells #[.slice none 0 0, .slice none 0 0, .slice none 0 0, .slice none 0 0, .slice none 0 0] 28)) = V2 at HRB HJ0 HG2 HS2 q1 ⊢
  generalize hab : W.heap.size + 1 = ab at HJ0 ⊢
  generalize hB : W.heap.size + 2 = B at HJ0 HS2
  have HAB := hide (And.intro hab hB)
  have hB2 : B ≤ V2.heap.size := by have := HS2.out; omega
  have haB : ab < B := by omega
  have hWab : W.heap.size ≤ ab := by omega
  clear hab hB q1
  go_loopw [20] (fun i wr => ∃ (k : Nat) (v1 : Value) (es1 : List (Value × List Int)) (ρ : Nat → Rl), i = .int .i64 (k : Int) ∧ k ≤ h0.shapes.length ∧ JA B ab wr v1 (.slice none 0 0) (.slice none 0 0) (.slice none 0 0) es1 [] [] [] ρ ∧ es1.map (·.2) = h0.shapes.take k ∧ Lo B ab V2 wr) (fun i _ => h0.shapes.length - (intOf i).toNat)
  case atStart => exact ⟨0, _, _, _, rfl, Nat.zero_le _, HJ0.out, rfl, ⟨rfl, rfl, rfl, Nat.le_refl _, fun _ _ _ => rfl⟩⟩
  case round =>
    obtain ⟨k, v1, es1, ρ, rfl, hk, hJ, he1, hLo⟩ := hrel
    have HGW := hide (hLo.to HG2.out hWab haB)
    have HJ := hide hJ
    have HE1 := hide he1
    have HLo := hide hLo
    obtain ⟨ao1, cp1, rfl⟩ := own_shape_ hJ.o1.1
    clear hJ he1 hLo HJ0
    by_cases hlt : k < h0.shapes.length
    · obtain ⟨x, hx⟩ := getElem?_lt hlt
      obtain ⟨sb, soff, vx, rfl, y1, ry⟩ := HSC.out k x hx
      obtain ⟨ax, cx, rfl⟩ := ry.shape
      have gW0 := HW.out.trans HGW.out
      have y1 := gW0.cell y1 (by simp)
      have hx8 := HS8.out x (List.mem_of_getElem? hx)
      have HCP := hide (copied_ints _ x wr.drew (ry.gr gW0.drew) (by omega))
      have hki : (k : Int) < (h0.shapes.length : Int) := by omega
      have hw : IntKind.i64.wrap ((k : Int) + 1) = (k : Int) + 1 := Go.IntWalk.i64_in _ (by omega)
      have HXE : Hid (h0.shapes.take (k + 1) = h0.shapes.take k ++ [x]) := hide (by
        obtain ⟨hk', rfl⟩ := List.getElem?_eq_some_iff.1 hx
        exact List.take_succ_eq_append_getElem hk')
      have hel : es1.length ≤ 20 := by have := congrArg List.length HE1.out; simp at this; omega
      clear ry hx gW0
      go_upto_region 5 with fail
      refine wp_region_z 7 (S := (fun w' => w'.cell? ⟨ab, 0, none⟩ = some (.slice ao1 es1.length cp1))) (by kernel_rfl) (HJ.out.cells.1.1) (fun hHeld => ?_)
      refine takeZ (i := 0) (v := ?av0) rfl (by kernel_rfl) (by decide) (by kernel_rfl) (by kernel_rfl) (by kernel_rfl) (by intro c a w h; exact h) (by rfl) ?ahy0 hHeld ?arest0
      case ahy0 => (intro w hSw; (try dsimp only at hSw); go_simp <;> with_reducible rfl)
      simp only [Act.put, List.setIfInBounds_toArray, List.set_cons_zero, List.set_cons_succ]
      refine takeZ (i := 1) (v := ?av1) rfl (by kernel_rfl) (by decide) (by kernel_rfl) (by kernel_rfl) (by kernel_rfl) (by intro c a w h; exact h) (by rfl) ?ahy1 hHeld ?arest1
      case ahy1 => (intro w hSw; (try dsimp only at hSw); go_simp <;> with_reducible rfl)
      simp only [Act.put, List.setIfInBounds_toArray, List.set_cons_zero, List.set_cons_succ]
      refine takeZ (i := 2) (v := ?av2) rfl (by kernel_rfl) (by decide) (by kernel_rfl) (by kernel_rfl) (by kernel_rfl) (by intro c a w h; exact h) (by rfl) ?ahy2 hHeld ?arest2
      case ahy2 => (intro w hSw; (try dsimp only at hSw); go_simp <;> with_reducible rfl)
      simp only [Act.put, List.setIfInBounds_toArray, List.set_cons_zero, List.set_cons_succ]
      refine aloneZ (i := 3) rfl (by kernel_rfl) (fun K hK => ?_)
      refine step_calls_w rfl 144 _ _ rfl #[.slice ax x.length cx] (by simp [Act.eval]) (Tryd.callCpI _ _) (HCP.out.mono ?_)
      rintro z w2 ⟨v, rfl, hox, hg2⟩
      obtain ⟨axx, cxx, rfl⟩ := own_shape_ hox
      have HG2x := hide hg2
      have HOX := hide hox
      clear hg2 hox HCP
      refine .inl ⟨_, rfl, ?_⟩
      refine hK.out _ _ (fun _ => HG2x.out.cell HJ.out.cells.1.1 (by simp)) (fun hHeld => ?_)
      replace hHeld := hHeld (by decide)
      clear hK
      try simp only [Act.put, List.setIfInBounds_toArray, List.set_cons_zero, List.set_cons_succ]
      refine aloneZ (i := 4) rfl (by kernel_rfl) (fun K hK => ?_)
      refine want_yes (by rfl) ?_
      have HK := hide hK
      clear hK
      go_simp
      refine HK.out _ _ (fun _ => (HG2x.out.alloc _).cell HJ.out.cells.1.1 (by simp)) (fun hHeld => ?_)
      replace hHeld := hHeld (by decide)
      clear HK
      try simp only [Act.put, List.setIfInBounds_toArray, List.set_cons_zero, List.set_cons_succ]
      obtain ⟨v5, w5, hr5, ho5, hg5, hl5⟩ := app_rows (ty := 22) 22 23 _ Tryd.infS Tryd.uS rfl (by decide) (by decide) (own_gr (World.ownsRow.drew HJ.out.o1.1) (HG2x.out.alloc (.cells #[.slice axx x.length cxx] 23))) (rrow_new w2 #[.slice axx x.length cxx] 23 1) rfl (by intro u hu; simp at hu; subst hu; rfl) (by omega) (by have := HJ.out.bs; have := HG2x.out.size; simp at this ⊢; omega)
      obtain ⟨ao5, cp5, rfl⟩ := own_shape_ ho5
      have hne5 : some ab ≠ (Value.slice ao1 es1.length cp1).ownBlock := fun e => own_no HJ.out.o1.1 haB e.symm
      have hc5 := hg5.cell (a := ⟨ab, 0, none⟩) ((HG2x.out.alloc (.cells #[.slice axx x.length cxx] 23)).cell HJ.out.cells.1.1 (by simp)) hne5
      have hz5 : w5.frozen? ⟨ab, 0, none⟩ = false := hfrozen_ ((hg5.block ab (by have := HJ.out.bs; have := HG2x.out.size; simp at this ⊢; omega) hne5).trans (((HG2x.out.alloc (.cells #[.slice axx x.length cxx] 23)).block ab (by have := HJ.out.bs; show ab < wr.heap.size; omega) (by simp)).trans HJ.out.box))
      refine aloneZ (i := 5) rfl (by kernel_rfl) (fun K hK => ?_)
      refine want_yes (by rfl) (Lib.wp_append_run _ _ _ _ _ rfl (.slice ao1 es1.length cp1) (.slice (some ⟨w2.heap.size, 0, none⟩) 1 1) (by simp [Act.eval]) (by simp [Act.eval]) _ _ hr5 ?_)
      refine hK.out _ _ (fun _ => hc5) (fun hHeld => ?_)
      replace hHeld := hHeld (by decide)
      clear hK
      try simp only [Act.put, List.setIfInBounds_toArray, List.set_cons_zero, List.set_cons_succ]
      refine takeZ (i := 6) (v := ?bv6) rfl (by kernel_rfl) (by decide) (by kernel_rfl) (by kernel_rfl) (by kernel_rfl) (by intro c a w h; exact h) (by rfl) ?bhy6 hHeld ?brest6
      case bhy6 => (intro w hSw; (try dsimp only at hSw); go_simp <;> with_reducible rfl)
      simp only [Act.put, List.setIfInBounds_toArray, List.set_cons_zero, List.set_cons_succ]
      refine aloneZ (i := 7) rfl (by kernel_rfl) (fun K hK => ?_)
      refine want_yes (by rfl) ?_
      have HK := hide hK
      clear hK
      go_simp
      refine HK.out _ _ (fun h => absurd rfl h) (fun _ => ?_)
      clear HK
      try simp only [Act.put, List.setIfInBounds_toArray, List.set_cons_zero, List.set_cons_succ]
      refine doneZ (by kernel_rfl) ?_ _
      obtain ⟨ρ', hJ', _⟩ := (HJ.out.step (ρ' := ρ) (Gr.drew (Gr.refl wr)) (fun _ _ => rfl)).put1 (HG2x.out.alloc (.cells #[.slice axx x.length cxx] 23)) (World.ownsRow.alloc HOX.out _) (Nat.le_refl _) ho5 hg5 hl5
      have HJ' := hide hJ'
      have HLo' := hide ((HLo.out.gr (Gr.drew (Gr.refl wr)) hB2).put (o := 0) (u := .slice ao5 (es1.length + 1) cp5) (HG2x.out.alloc (.cells #[.slice axx x.length cxx] 23)) hg5 hB2 (fun k hk => (HJ.out.o1.1.lt k hk).1))
      clear hJ' hr5 ho5 hg5 hl5 hc5 hz5
      go_wp2_with fail
      refine ⟨⟨k + 1, _, _, _, by simp, hlt, HJ'.out, ?_, HLo'.out⟩, by simp [intOf]; omega⟩
      rw [List.map_append, HE1.out, HXE.out]; rfl
    · have hkk : k = h0.shapes.length := by omega
      subst hkk
      have HE1' : Hid (es1.map (·.2) = h0.shapes) := hide (by rw [HE1.out, List.take_length])
      clear hlt hk HE1 HS8 HSC
      go_wp2_with fail
      go_loopw [34] (fun i wr => ∃ (k : Nat) (v2 v3 v5 : Value) (cs : List Int) (es3 : List LF) (es5 : List LX) (ρ : Nat → Rl), i = .int .i64 (k : Int) ∧ k ≤ l.length ∧ JA B ab wr (.slice ao1 es1.length cp1) v2 v3 v5 es1 cs es3 es5 ρ ∧ joinF (numN N) 0 0 l = (cs ++ (joinF (numN N) cs.length es3.length (l.drop k)).1, es3.map (·.f) ++ (joinF (numN N) cs.length es3.length (l.drop k)).2.1, es5.map (·.p) ++ (joinF (numN N) cs.length es3.length (l.drop k)).2.2) ∧ cs.length ≤ 50 * k ∧ es3.length ≤ 30 * k ∧ es5.length ≤ 20 * k ∧ Lo B ab V2 wr) (fun i _ => l.length - (intOf i).toNat)
      case atStart => exact ⟨0, _, _, _, [], [], [], ρ, rfl, Nat.zero_le _, HJ.out, rfl, by simp, by simp, by simp, HLo.out⟩
      case round =>
        obtain ⟨k, v2, v3, v5, cs, es3, es5, ρ, rfl, hk, hJ, hjn, hb2, hb3, hb5, hLo⟩ := hrel
        obtain ⟨wU, hwU⟩ : ∃ x, x = wr := ⟨wr, rfl⟩
        subst hwU
        have HGU := hide (hLo.to HG2.out hWab haB)
        have HJU := hide hJ
        have HJN := hide hjn
        have HLU := hide hLo
        obtain ⟨ao2, cp2, rfl⟩ := own_shape_ hJ.o2.1
        obtain ⟨ao3, cp3, rfl⟩ := own_shape_ hJ.o3.1
        obtain ⟨ao5, cp5, rfl⟩ := own_shape_ hJ.o5.1
        clear hJ hjn hLo HJ HLo HGW
        by_cases hlt : k < l.length
        · obtain ⟨u, hu⟩ := getElem?_lt hlt
          obtain ⟨b', off', y1, y2, y3, y4, y5, he, k1, k2, k3, k4, k5, hru⟩ := HC.out k u hu
          simp only [Option.some.injEq, Addr.mk.injEq, and_true] at he
          obtain ⟨rfl, rfl⟩ := he
          obtain ⟨a1, a2, a3, a4, a5, c1, c2, c3, c4, c5, he, r1, r2, r3, r4, r5⟩ := hru.parts
          simp only [Value.agg.injEq, Array.mk.injEq, List.cons.injEq, and_true] at he
          obtain ⟨rfl, rfl, rfl, rfl, rfl⟩ := he
          have gU := HW.out.trans HGU.out
          have k1 := gU.cell k1 (by simp)
          have k2 := gU.cell k2 (by simp)
          have k3 := gU.cell k3 (by simp)
          have k4 := gU.cell k4 (by simp)
          have k5 := gU.cell k5 (by simp)
          have huk := HOK.out u (List.mem_of_getElem? hu)
          have hfit := unit_fits huk
          obtain ⟨hf1, hf2, hf3, hf4, hf5, hfe, hff, -⟩ := hfit
          have HFE := hide hfe
          have HFF := hide hff
          have HUK := hide huk
          have hki : (k : Int) < (l.length : Int) := by omega
          have hw : IntKind.i64.wrap ((k : Int) + 1) = (k : Int) + 1 := Go.IntWalk.i64_in _ (by omega)
          have HDR : Hid (l.drop k = u :: l.drop (k + 1)) := hide (by
            rw [List.drop_eq_getElem_cons hlt]
            have : l[k] = u := by rw [List.getElem?_eq_getElem hlt] at hu; exact Option.some.inj hu
            rw [this])
          have gA := (Gr.refl wU).alloc (.cells #[.slice a1 u.shapes.length c1, .slice a2 u.consts.length c2, .slice a3 u.funcs.length c3, .slice a4 u.imports.length c4, .slice a5 u.exports.length c5] 28)
          have gA2 : Gr (wU.alloc (.cells #[.slice a1 u.shapes.length c1, .slice a2 u.consts.length c2, .slice a3 u.funcs.length c3, .slice a4 u.imports.length c4, .slice a5 u.exports.length c5] 28)) ((wU.alloc (.cells #[.slice a1 u.shapes.length c1, .slice a2 u.consts.length c2, .slice a3 u.funcs.length c3, .slice a4 u.imports.length c4, .slice a5 u.exports.length c5] 28)).alloc (.cells #[.slice a1 u.shapes.length c1, .slice a2 u.consts.length c2, .slice a3 u.funcs.length c3, .slice a4 u.imports.length c4, .slice a5 u.exports.length c5, .map (some mb), .int .i64 (cs.length : Int), .int .i64 (es3.length : Int)] 213)) := (Gr.refl _).alloc _
          have gm : Gr wU ((wU.alloc (.cells #[.slice a1 u.shapes.length c1, .slice a2 u.consts.length c2, .slice a3 u.funcs.length c3, .slice a4 u.imports.length c4, .slice a5 u.exports.length c5] 28)).alloc (.cells #[.slice a1 u.shapes.length c1, .slice a2 u.consts.length c2, .slice a3 u.funcs.length c3, .slice a4 u.imports.length c4, .slice a5 u.exports.length c5, .map (some mb), .int .i64 (cs.length : Int), .int .i64 (es3.length : Int)] 213)) := gA.trans gA2
          have hbA := heap_alloc_new wU (.cells #[.slice a1 u.shapes.length c1, .slice a2 u.consts.length c2, .slice a3 u.funcs.length c3, .slice a4 u.imports.length c4, .slice a5 u.exports.length c5] 28)
          have hbM := heap_alloc_new (wU.alloc (.cells #[.slice a1 u.shapes.length c1, .slice a2 u.consts.length c2, .slice a3 u.funcs.length c3, .slice a4 u.imports.length c4, .slice a5 u.exports.length c5] 28)) (.cells #[.slice a1 u.shapes.length c1, .slice a2 u.consts.length c2, .slice a3 u.funcs.length c3, .slice a4 u.imports.length c4, .slice a5 u.exports.length c5, .map (some mb), .int .i64 (cs.length : Int), .int .i64 (es3.length : Int)] 213)
          have sA : (wU.alloc (.cells #[.slice a1 u.shapes.length c1, .slice a2 u.consts.length c2, .slice a3 u.funcs.length c3, .slice a4 u.imports.length c4, .slice a5 u.exports.length c5] 28)).heap.size = wU.heap.size + 1 := by simp
          have sM : ((wU.alloc (.cells #[.slice a1 u.shapes.length c1, .slice a2 u.consts.length c2, .slice a3 u.funcs.length c3, .slice a4 u.imports.length c4, .slice a5 u.exports.length c5] 28)).alloc (.cells #[.slice a1 u.shapes.length c1, .slice a2 u.consts.length c2, .slice a3 u.funcs.length c3, .slice a4 u.imports.length c4, .slice a5 u.exports.length c5, .map (some mb), .int .i64 (cs.length : Int), .int .i64 (es3.length : Int)] 213)).heap.size = wU.heap.size + 2 := by simp
          rw [sA] at hbM
          have hbA2 := (gA2.block wU.heap.size (by rw [sA]; omega) (by simp)).trans hbA
          have hJm := HJU.out.step (ρ' := fun q => if q < wU.heap.size then ρ q else .bx) gm (fun q hq => if_pos hq)
          have hBU : B ≤ wU.heap.size := HJU.out.bs
          have hxA : Bx B (fun q => if q < wU.heap.size then ρ q else .bx) ((wU.alloc (.cells #[.slice a1 u.shapes.length c1, .slice a2 u.consts.length c2, .slice a3 u.funcs.length c3, .slice a4 u.imports.length c4, .slice a5 u.exports.length c5] 28)).alloc (.cells #[.slice a1 u.shapes.length c1, .slice a2 u.consts.length c2, .slice a3 u.funcs.length c3, .slice a4 u.imports.length c4, .slice a5 u.exports.length c5, .map (some mb), .int .i64 (cs.length : Int), .int .i64 (es3.length : Int)] 213)) wU.heap.size #[.slice a1 u.shapes.length c1, .slice a2 u.consts.length c2, .slice a3 u.funcs.length c3, .slice a4 u.imports.length c4, .slice a5 u.exports.length c5] 28 := ⟨if_neg (by omega), hBU, hbA2⟩
          have hxM : Bx B (fun q => if q < wU.heap.size then ρ q else .bx) ((wU.alloc (.cells #[.slice a1 u.shapes.length c1, .slice a2 u.consts.length c2, .slice a3 u.funcs.length c3, .slice a4 u.imports.length c4, .slice a5 u.exports.length c5] 28)).alloc (.cells #[.slice a1 u.shapes.length c1, .slice a2 u.consts.length c2, .slice a3 u.funcs.length c3, .slice a4 u.imports.length c4, .slice a5 u.exports.length c5, .map (some mb), .int .i64 (cs.length : Int), .int .i64 (es3.length : Int)] 213)) (wU.heap.size + 1) #[.slice a1 u.shapes.length c1, .slice a2 u.consts.length c2, .slice a3 u.funcs.length c3, .slice a4 u.imports.length c4, .slice a5 u.exports.length c5, .map (some mb), .int .i64 (cs.length : Int), .int .i64 (es3.length : Int)] 213 := ⟨if_neg (by omega), by omega, hbM⟩
          obtain ⟨v2', w5, hr5, ho5, hg5, hl5⟩ := app_rows (ty := 23) 23 3 _ Tryd.infI Tryd.uI rfl (by decide) (by decide) hJm.o2.1 (r2.gr (gU.trans gm)).row (by rw [ivL_len]; omega) (ivL_one u.consts) (by omega) hJm.bs
          obtain ⟨ao2', cp2', rfl⟩ := own_shape_ ho5
          have hne5 : some ab ≠ (Value.slice ao2 cs.length cp2).ownBlock := fun e => own_no hJm.o2.1 haB e.symm
          have hc5 := hg5.cell (a := ⟨ab, 1, none⟩) hJm.cells.1.2.1 hne5
          have hz5 : w5.frozen? ⟨ab, 1, none⟩ = false := hfrozen_ ((hg5.block ab (by have := hJm.bs; omega) hne5).trans hJm.box)
          obtain ⟨ρ2, hJ2, hm2⟩ := hJm.put2 (Gr.refl _) ho5 hg5 hl5
          have hLo2 := (HLU.out.gr gm hB2).put (o := 1) (u := .slice ao2' (cs.length + u.consts.length) cp2') (Gr.refl _) hg5 hB2 (fun q hq => (hJm.o2.1.lt q hq).1)
          have hxA2 := hxA.mv hm2 nofun
          have hxM2 := hxM.mv hm2 nofun
          have cA1 := gA.cell HJU.out.cells.1.2.1 (by simp)
          have cA2 := gA.cell HJU.out.cells.1.2.2.1 (by simp)
          have cM1 := gm.cell HJU.out.cells.1.2.1 (by simp)
          have cM2 : ((wU.alloc (.cells #[.slice a1 u.shapes.length c1, .slice a2 u.consts.length c2, .slice a3 u.funcs.length c3, .slice a4 u.imports.length c4, .slice a5 u.exports.length c5] 28)).alloc (.cells #[.slice a1 u.shapes.length c1, .slice a2 u.consts.length c2, .slice a3 u.funcs.length c3, .slice a4 u.imports.length c4, .slice a5 u.exports.length c5, .map (some mb), .int .i64 (cs.length : Int), .int .i64 (es3.length : Int)] 213)).cell? ⟨wU.heap.size, 1, none⟩ = some (.slice a2 u.consts.length c2) := by rw [hcell_ hbA2]; rfl
          have c62 : (w5.setCell ⟨ab, 1, none⟩ (.slice ao2' (cs.length + u.consts.length) cp2')).cell? ⟨wU.heap.size, 2, none⟩ = some (.slice a3 u.funcs.length c3) := by rw [hcell_ hxA2.2.2]; rfl
          have HR5 := hide hr5
          have HJ2 := hide hJ2
          have HLo2 := hide hLo2
          have HXA2 := hide hxA2
          have HXM2 := hide hxM2
          have H3 := hide r3
          have H4 := hide r4
          have H5 := hide r5
          clear r1 r2 r3 r4 r5 hru hu hfe hff huk gU gA gA2 gm hbA hbM sA sM hbA2 hJm hxA hxM hr5 ho5 hg5 hl5 hJ2 hm2 hLo2 hxA2 hxM2 hne5
          go_wp2_with (at_builtin; refine Lib.wpList_append_run _ rfl _ _ _ _ rfl _ _ rfl rfl _ _ HR5.out ?_)
          generalize w5.setCell ⟨ab, 1, none⟩ (.slice ao2' (cs.length + u.consts.length) cp2') = w6 at HJ2 HLo2 HXA2 HXM2 c62 ⊢
          generalize hube : wU.heap.size + 1 = mvb at HXM2 ⊢
          generalize hubb : wU.heap.size = ub at HXA2 c62 hBU hube ⊢
          clear c62 hc5 hz5 cA1 cA2 cM1 cM2 k1 k2 k3 k4 k5 HR5
          go_loopw [56] (fun i wr => ∃ (j : Nat) (v3 : Value) (es3' : List LF) (ρ3 : Nat → Rl), i = .int .i64 (j : Int) ∧ j ≤ u.funcs.length ∧ JA B ab wr (.slice ao1 es1.length cp1) (.slice ao2' (cs.length + u.consts.length) cp2') v3 (.slice ao5 es5.length cp5) es1 (cs ++ u.consts) es3' es5 ρ3 ∧ es3'.map (·.f) = es3.map (·.f) ++ (u.funcs.take j).map (mvF N u cs.length es3.length) ∧ Bx B ρ3 wr ub #[.slice a1 u.shapes.length c1, .slice a2 u.consts.length c2, .slice a3 u.funcs.length c3, .slice a4 u.imports.length c4, .slice a5 u.exports.length c5] 28 ∧ Bx B ρ3 wr mvb #[.slice a1 u.shapes.length c1, .slice a2 u.consts.length c2, .slice a3 u.funcs.length c3, .slice a4 u.imports.length c4, .slice a5 u.exports.length c5, .map (some mb), .int .i64 (cs.length : Int), .int .i64 (es3.length : Int)] 213 ∧ Lo B ab V2 wr) (fun i _ => u.funcs.length - (intOf i).toNat)
          case atStart => exact ⟨0, _, es3, ρ2, rfl, Nat.zero_le _, HJ2.out, by simp, HXA2.out, HXM2.out, HLo2.out⟩
          case round =>
            obtain ⟨j, v3, es3', ρ3, rfl, hj, hJ3, he3, hxa, hxm, hLo3⟩ := hrel
            have HG3 := hide (hLo3.to HG2.out hWab haB)
            have HJ3 := hide hJ3
            have HE3 := hide he3
            have HXA := hide hxa
            have HXM := hide hxm
            have HL3 := hide hLo3
            obtain ⟨ao3, cp3, rfl⟩ := own_shape_ hJ3.o3.1
            have HEL : Hid (es3'.length = es3.length + j) := hide (by have := congrArg List.length he3; simp at this; omega)
            have hel2 : es3'.length ≤ 1000 := by have := HEL.out; omega
            clear hJ3 he3 hxa hxm hLo3 HJ2 HLo2 HXA2 HXM2
            by_cases hjl : j < u.funcs.length
            · obtain ⟨g, hg⟩ := getElem?_lt hjl
              obtain ⟨fao, fcap, he, _, hfc⟩ := H3.out
              simp only [Value.slice.injEq, true_and] at he
              obtain ⟨rfl, rfl⟩ := he
              obtain ⟨fb, foff, vp, vl, vc, rfl, f0, f1, f2, f3, rp, rl, rc⟩ := hfc j g hg
              obtain ⟨ap, cp, rfl⟩ := rp.shape
              obtain ⟨al, cl, rfl⟩ := rl.shape
              obtain ⟨ac, cc, rfl⟩ := rc.shape
              have g0 := HW.out.trans HG3.out
              have f0 := g0.cell f0 (by simp)
              have f1 := g0.cell f1 (by simp)
              have f2 := g0.cell f2 (by simp)
              have f3 := g0.cell f3 (by simp)
              obtain ⟨z1, z2, z3, z4⟩ := HFF.out g (List.mem_of_getElem? hg)
              have gF : Gr wr (wr.alloc (.cells #[.slice ap g.params.length cp, .int .i64 g.result, .slice al g.locals.length cl, .slice ac g.code.length cc] 76)) := (Gr.refl wr).alloc _
              have hbF := heap_alloc_new wr (.cells #[.slice ap g.params.length cp, .int .i64 g.result, .slice al g.locals.length cl, .slice ac g.code.length cc] 76)
              have hji : (j : Int) < (u.funcs.length : Int) := by omega
              have hwj : IntKind.i64.wrap ((j : Int) + 1) = (j : Int) + 1 := Go.IntWalk.i64_in _ (by omega)
              have HTK : Hid (u.funcs.take (j + 1) = u.funcs.take j ++ [g]) := hide (by
                obtain ⟨hk', rfl⟩ := List.getElem?_eq_some_iff.1 hg
                exact List.take_succ_eq_append_getElem hk')
              have HFN := hide (mfunc_any W0 u mb cs.length es3.length N a1 a2 (some ⟨fb, foff, none⟩) a4 a5 c1 c2 c3 c4 c5 g ap al ac cp cl cc (wr.alloc (.cells #[.slice ap g.params.length cp, .int .i64 g.result, .slice al g.locals.length cl, .slice ac g.code.length cc] 76)).drew ⟨(g0.trans gF).drew, ⟨nn, HM.out.gr (HG3.out.trans gF).drew⟩, H3.out, H4.out, HUK.out⟩ (by omega) (by omega) (rp.gr (g0.trans gF).drew) (rl.gr (g0.trans gF).drew) (rc.gr (g0.trans gF).drew) (by omega) (by omega) (by omega) z4)
              obtain ⟨g', hg'⟩ : ∃ g', mvF N u cs.length es3.length g = g' := ⟨_, rfl⟩
              rw [hg'] at HFN
              have HGG := hide hg'
              clear hg'
              have KS : Hid (∀ w', Gr (wr.alloc (.cells #[.slice ap g.params.length cp, .int .i64 g.result, .slice al g.locals.length cl, .slice ac g.code.length cc] 76)) w' → w'.cell? ⟨ab, 2, none⟩ = some (.slice ao3 es3'.length cp3) ∧ w'.cell? ⟨mvb, 0, none⟩ = some (.slice a1 u.shapes.length c1) ∧ w'.cell? ⟨mvb, 1, none⟩ = some (.slice a2 u.consts.length c2) ∧ w'.cell? ⟨mvb, 2, none⟩ = some (.slice (some ⟨fb, foff, none⟩) u.funcs.length c3) ∧ w'.cell? ⟨mvb, 3, none⟩ = some (.slice a4 u.imports.length c4) ∧ w'.cell? ⟨mvb, 4, none⟩ = some (.slice a5 u.exports.length c5) ∧ w'.cell? ⟨mvb, 5, none⟩ = some (.map (some mb)) ∧ w'.cell? ⟨mvb, 6, none⟩ = some (.int .i64 (cs.length : Int)) ∧ w'.cell? ⟨mvb, 7, none⟩ = some (.int .i64 (es3.length : Int)) ∧ w'.cell? ⟨wr.heap.size, 0, none⟩ = some (.slice ap g.params.length cp) ∧ w'.cell? ⟨wr.heap.size, 1, none⟩ = some (.int .i64 g.result) ∧ w'.cell? ⟨wr.heap.size, 2, none⟩ = some (.slice al g.locals.length cl) ∧ w'.cell? ⟨wr.heap.size, 3, none⟩ = some (.slice ac g.code.length cc)) := hide (fun w' g => by
                have d0 := ((gF.trans g).block mvb (Array.getElem?_eq_some_iff.1 HXM.out.2.2).1 (by simp)).trans HXM.out.2.2
                have d1 : w'.heap[wr.heap.size]? = _ := (g.block wr.heap.size (by simp) (by simp)).trans hbF
                refine ⟨(gF.trans g).cell HJ3.out.cells.1.2.2.1 (by simp), ?_, ?_, ?_, ?_, ?_, ?_, ?_, ?_, ?_, ?_, ?_, ?_⟩
                · rw [hcell_ d0]; rfl
                · rw [hcell_ d0]; rfl
                · rw [hcell_ d0]; rfl
                · rw [hcell_ d0]; rfl
                · rw [hcell_ d0]; rfl
                · rw [hcell_ d0]; rfl
                · rw [hcell_ d0]; rfl
                · rw [hcell_ d0]; rfl
                · rw [hcell_ d1]; rfl
                · rw [hcell_ d1]; rfl
                · rw [hcell_ d1]; rfl
                · rw [hcell_ d1]; rfl)
              have HGF := hide gF
              clear rp rl rc hg hfc g0 gF hbF
              go_upto_region 15 with fail
              refine wp_region_z 8 (S := (fun w' => w'.cell? ⟨ab, 2, none⟩ = some (.slice ao3 es3'.length cp3) ∧ w'.cell? ⟨mvb, 0, none⟩ = some (.slice a1 u.shapes.length c1) ∧ w'.cell? ⟨mvb, 1, none⟩ = some (.slice a2 u.consts.length c2) ∧ w'.cell? ⟨mvb, 2, none⟩ = some (.slice (some ⟨fb, foff, none⟩) u.funcs.length c3) ∧ w'.cell? ⟨mvb, 3, none⟩ = some (.slice a4 u.imports.length c4) ∧ w'.cell? ⟨mvb, 4, none⟩ = some (.slice a5 u.exports.length c5) ∧ w'.cell? ⟨mvb, 5, none⟩ = some (.map (some mb)) ∧ w'.cell? ⟨mvb, 6, none⟩ = some (.int .i64 (cs.length : Int)) ∧ w'.cell? ⟨mvb, 7, none⟩ = some (.int .i64 (es3.length : Int)) ∧ w'.cell? ⟨wr.heap.size, 0, none⟩ = some (.slice ap g.params.length cp) ∧ w'.cell? ⟨wr.heap.size, 1, none⟩ = some (.int .i64 g.result) ∧ w'.cell? ⟨wr.heap.size, 2, none⟩ = some (.slice al g.locals.length cl) ∧ w'.cell? ⟨wr.heap.size, 3, none⟩ = some (.slice ac g.code.length cc))) (by kernel_rfl) (KS.out _ (Gr.drew (Gr.refl _))) (fun hHeld => ?_)
              refine takeZ (i := 0) (v := ?fv0) rfl (by kernel_rfl) (by decide) (by kernel_rfl) (by kernel_rfl) (by kernel_rfl) (by intro c a w h; exact h) (by rfl) ?fhy0 hHeld ?frest0
              case fhy0 => (intro w hSw; (try dsimp only at hSw); go_simp <;> with_reducible rfl)
              simp only [Act.put, List.setIfInBounds_toArray, List.set_cons_zero, List.set_cons_succ]
              refine takeZ (i := 1) (v := ?fv1) rfl (by kernel_rfl) (by decide) (by kernel_rfl) (by kernel_rfl) (by kernel_rfl) (by intro c a w h; exact h) (by rfl) ?fhy1 hHeld ?frest1
              case fhy1 => (intro w hSw; (try dsimp only at hSw); go_simp <;> with_reducible rfl)
              simp only [Act.put, List.setIfInBounds_toArray, List.set_cons_zero, List.set_cons_succ]
              refine takeZ (i := 2) (v := ?fv2) rfl (by kernel_rfl) (by decide) (by kernel_rfl) (by kernel_rfl) (by kernel_rfl) (by intro c a w h; exact h) (by rfl) ?fhy2 hHeld ?frest2
              case fhy2 => (intro w hSw; (try dsimp only at hSw); go_simp <;> with_reducible rfl)
              simp only [Act.put, List.setIfInBounds_toArray, List.set_cons_zero, List.set_cons_succ]
              refine takeZ (i := 3) (v := ?fv3) rfl (by kernel_rfl) (by decide) (by kernel_rfl) (by kernel_rfl) (by kernel_rfl) (by intro c a w h; exact h) (by rfl) ?fhy3 hHeld ?frest3
              case fhy3 => (intro w hSw; (try dsimp only at hSw); go_simp <;> with_reducible rfl)
              simp only [Act.put, List.setIfInBounds_toArray, List.set_cons_zero, List.set_cons_succ]
              refine aloneZ (i := 4) rfl (by kernel_rfl) (fun K hK => ?_)
              refine step_calls_w rfl 145 _ _ rfl #[.agg #[.slice a1 u.shapes.length c1, .slice a2 u.consts.length c2, .slice (some ⟨fb, foff, none⟩) u.funcs.length c3, .slice a4 u.imports.length c4, .slice a5 u.exports.length c5, .map (some mb), .int .i64 (cs.length : Int), .int .i64 (es3.length : Int)], .agg #[.slice ap g.params.length cp, .int .i64 g.result, .slice al g.locals.length cl, .slice ac g.code.length cc]] (by simp [Act.eval]) (Tryd.callFun _ _) (HFN.out.mono ?_)
              rintro z w2 ⟨vp', vl', vc', rfl, hop, hol, hoc, hp1, hp2, hp3, hg2⟩
              obtain ⟨vpa, vpc, rfl⟩ := own_shape_ hop
              obtain ⟨vla, vlc, rfl⟩ := own_shape_ hol
              obtain ⟨vca, vcc, rfl⟩ := own_shape_ hoc
              have HG2x := hide hg2
              have HOP := hide hop
              have HOL := hide hol
              have HOC := hide hoc
              have HAP := hide (And.intro hp1 (And.intro hp2 hp3))
              clear hg2 hop hol hoc hp1 hp2 hp3 HFN
              refine .inl ⟨_, rfl, ?_⟩
              refine hK.out _ _ (fun _ => KS.out _ (Gr.trans (Gr.drew (Gr.refl _)) HG2x.out)) (fun hHeld => ?_)
              replace hHeld := hHeld (by decide)
              clear hK
              try simp only [Act.put, List.setIfInBounds_toArray, List.set_cons_zero, List.set_cons_succ]
              refine aloneZ (i := 5) rfl (by kernel_rfl) (fun K hK => ?_)
              refine want_yes (by rfl) ?_
              have HK := hide hK
              clear hK
              go_simp
              refine HK.out _ _ (fun _ => KS.out _ ((Gr.trans (Gr.drew (Gr.refl _)) HG2x.out).alloc _)) (fun hHeld => ?_)
              replace hHeld := hHeld (by decide)
              clear HK
              try simp only [Act.put, List.setIfInBounds_toArray, List.set_cons_zero, List.set_cons_succ]
              obtain ⟨v6, w5, hr5, ho5, hg5, hl5⟩ := app_rows (ty := 24) 24 76 _ Tryd.infU Tryd.uU rfl (by decide) (by decide) (own_gr HJ3.out.o3.1 (HGF.out.drew.trans (HG2x.out.alloc (.cells #[.slice vpa g'.params.length vpc, .int .i64 g'.result, .slice vla g'.locals.length vlc, .slice vca g'.code.length vcc] 76)))) (rrow_new w2 #[.slice vpa g'.params.length vpc, .int .i64 g'.result, .slice vla g'.locals.length vlc, .slice vca g'.code.length vcc] 76 1) rfl (by intro u hu; simp at hu; rcases hu with rfl | rfl | rfl | rfl <;> rfl) (by omega) (by have := HJ3.out.bs; have := HG2x.out.size; have := HGF.out.size; simp at *; omega)
              obtain ⟨ao6, cp6, rfl⟩ := own_shape_ ho5
              have hne5 : some ab ≠ (Value.slice ao3 es3'.length cp3).ownBlock := fun e => own_no HJ3.out.o3.1 haB e.symm
              have hc5 := hg5.cell (a := ⟨ab, 2, none⟩) ((HGF.out.drew.trans (HG2x.out.alloc (.cells #[.slice vpa g'.params.length vpc, .int .i64 g'.result, .slice vla g'.locals.length vlc, .slice vca g'.code.length vcc] 76))).cell HJ3.out.cells.1.2.2.1 (by simp)) hne5
              have hz5 : w5.frozen? ⟨ab, 2, none⟩ = false := hfrozen_ ((hg5.block ab (by have := HJ3.out.bs; have := HG2x.out.size; have := HGF.out.size; simp at *; omega) hne5).trans (((HGF.out.drew.trans (HG2x.out.alloc (.cells #[.slice vpa g'.params.length vpc, .int .i64 g'.result, .slice vla g'.locals.length vlc, .slice vca g'.code.length vcc] 76))).block ab (by have := HJ3.out.bs; omega) (by simp)).trans HJ3.out.box))
              have KS5 : Hid (w5.cell? ⟨ab, 2, none⟩ = some (.slice ao3 es3'.length cp3) ∧ w5.cell? ⟨mvb, 0, none⟩ = some (.slice a1 u.shapes.length c1) ∧ w5.cell? ⟨mvb, 1, none⟩ = some (.slice a2 u.consts.length c2) ∧ w5.cell? ⟨mvb, 2, none⟩ = some (.slice (some ⟨fb, foff, none⟩) u.funcs.length c3) ∧ w5.cell? ⟨mvb, 3, none⟩ = some (.slice a4 u.imports.length c4) ∧ w5.cell? ⟨mvb, 4, none⟩ = some (.slice a5 u.exports.length c5) ∧ w5.cell? ⟨mvb, 5, none⟩ = some (.map (some mb)) ∧ w5.cell? ⟨mvb, 6, none⟩ = some (.int .i64 (cs.length : Int)) ∧ w5.cell? ⟨mvb, 7, none⟩ = some (.int .i64 (es3.length : Int)) ∧ w5.cell? ⟨wr.heap.size, 0, none⟩ = some (.slice ap g.params.length cp) ∧ w5.cell? ⟨wr.heap.size, 1, none⟩ = some (.int .i64 g.result) ∧ w5.cell? ⟨wr.heap.size, 2, none⟩ = some (.slice al g.locals.length cl) ∧ w5.cell? ⟨wr.heap.size, 3, none⟩ = some (.slice ac g.code.length cc)) := hide (by
                have hq := KS.out _ ((Gr.trans (Gr.drew (Gr.refl _)) HG2x.out).alloc (.cells #[.slice vpa g'.params.length vpc, .int .i64 g'.result, .slice vla g'.locals.length vlc, .slice vca g'.code.length vcc] 76))
                have hmv : some mvb ≠ (Value.slice ao3 es3'.length cp3).ownBlock := fun e => by have := HJ3.out.o3.2 mvb e.symm; rw [HXM.out.1] at this; cases this
                have hwr : some wr.heap.size ≠ (Value.slice ao3 es3'.length cp3).ownBlock := fun e => by have := (HJ3.out.o3.1.lt wr.heap.size e.symm).2; omega
                obtain ⟨s0, s1, s2, s3, s4, s5, s6, s7, s8, s9, s10, s11, s12⟩ := hq
                exact ⟨hc5, hg5.cell s1 hmv, hg5.cell s2 hmv, hg5.cell s3 hmv, hg5.cell s4 hmv, hg5.cell s5 hmv, hg5.cell s6 hmv, hg5.cell s7 hmv, hg5.cell s8 hmv, hg5.cell s9 hwr, hg5.cell s10 hwr, hg5.cell s11 hwr, hg5.cell s12 hwr⟩)
              refine aloneZ (i := 6) rfl (by kernel_rfl) (fun K hK => ?_)
              refine want_yes (by rfl) (Lib.wp_append_run _ _ _ _ _ rfl (.slice ao3 es3'.length cp3) (.slice (some ⟨w2.heap.size, 0, none⟩) 1 1) (by simp [Act.eval]) (by simp [Act.eval]) _ _ hr5 ?_)
              refine hK.out _ _ (fun _ => KS5.out) (fun hHeld => ?_)
              replace hHeld := hHeld (by decide)
              clear hK
              try simp only [Act.put, List.setIfInBounds_toArray, List.set_cons_zero, List.set_cons_succ]
              refine takeZ (i := 7) (v := ?fxv7) rfl (by kernel_rfl) (by decide) (by kernel_rfl) (by kernel_rfl) (by kernel_rfl) (by intro c a w h; exact h) (by rfl) ?fxhy7 hHeld ?fxrest7
              case fxhy7 => (intro w hSw; (try dsimp only at hSw); go_simp <;> with_reducible rfl)
              simp only [Act.put, List.setIfInBounds_toArray, List.set_cons_zero, List.set_cons_succ]
              refine aloneZ (i := 8) rfl (by kernel_rfl) (fun K hK => ?_)
              refine want_yes (by rfl) ?_
              have HK := hide hK
              clear hK
              go_simp
              refine HK.out _ _ (fun h => absurd rfl h) (fun _ => ?_)
              clear HK
              try simp only [Act.put, List.setIfInBounds_toArray, List.set_cons_zero, List.set_cons_succ]
              refine doneZ (by kernel_rfl) ?_ _
              clear KS5
              obtain ⟨ρ4, hJ4, hm4⟩ := (HJ3.out.step (ρ' := ρ3) HGF.out.drew (fun _ _ => rfl)).put3 (e := ⟨.slice vpa g'.params.length vpc, .slice vla g'.locals.length vlc, .slice vca g'.code.length vcc, g'⟩) (HG2x.out.alloc (.cells #[.slice vpa g'.params.length vpc, .int .i64 g'.result, .slice vla g'.locals.length vlc, .slice vca g'.code.length vcc] 76)) (World.ownsRow.alloc HOP.out _) (World.ownsRow.alloc HOL.out _) (World.ownsRow.alloc HOC.out _) HAP.out.1 HAP.out.2.1 HAP.out.2.2 (Nat.le_refl _) ho5 hg5 hl5
              have HJ4 := hide hJ4
              have HXA4 := hide (((HXA.out.mv (Mv.gr HGF.out.drew) (r0 := .fu) nofun)).mv hm4 nofun)
              have HXM4 := hide (((HXM.out.mv (Mv.gr HGF.out.drew) (r0 := .fu) nofun)).mv hm4 nofun)
              have HL4 := hide ((HL3.out.gr HGF.out.drew hB2).put (o := 2) (u := .slice ao6 (es3'.length + 1) cp6) (HG2x.out.alloc (.cells #[.slice vpa g'.params.length vpc, .int .i64 g'.result, .slice vla g'.locals.length vlc, .slice vca g'.code.length vcc] 76)) hg5 hB2 (fun q hq => (HJ3.out.o3.1.lt q hq).1))
              clear hJ4 hm4 hr5 ho5 hg5 hl5 hc5 hz5 HG2x HOP HOL HOC HAP KS f0 f1 f2 f3
              go_wp2_with fail
              refine ⟨⟨j + 1, _, _, ρ4, by simp, hjl, HJ4.out, ?_, HXA4.out, HXM4.out, HL4.out⟩, by simp [intOf]; omega⟩
              rw [List.map_append, HE3.out, HTK.out, List.map_append, List.append_assoc, ← HGG.out]; rfl
            · have hjj : j = u.funcs.length := by omega
              subst hjj
              have HE3' : Hid (es3'.map (·.f) = es3.map (·.f) ++ u.funcs.map (mvF N u cs.length es3.length)) := hide (by rw [HE3.out, List.take_length])
              have cu4 : wr.cell? ⟨ub, 4, none⟩ = some (.slice a5 u.exports.length c5) := by rw [hcell_ HXA.out.2.2]; rfl
              clear hjl hj HE3
              go_wp2_with fail
              clear cu4
              obtain ⟨wE, hwE⟩ : ∃ x, x = wr := ⟨wr, rfl⟩
              subst hwE
              go_loopw [72] (fun i wr => ∃ (j : Nat) (v5 : Value) (es5' : List LX) (ρ5 : Nat → Rl), i = .int .i64 (j : Int) ∧ j ≤ u.exports.length ∧ JA B ab wr (.slice ao1 es1.length cp1) (.slice ao2' (cs.length + u.consts.length) cp2') (.slice ao3 es3'.length cp3) v5 es1 (cs ++ u.consts) es3' es5' ρ5 ∧ es5'.map (·.p) = es5.map (·.p) ++ (u.exports.take j).map (movedE es3.length) ∧ Bx B ρ5 wr mvb #[.slice a1 u.shapes.length c1, .slice a2 u.consts.length c2, .slice a3 u.funcs.length c3, .slice a4 u.imports.length c4, .slice a5 u.exports.length c5, .map (some mb), .int .i64 (cs.length : Int), .int .i64 (es3.length : Int)] 213 ∧ Lo B ab V2 wr) (fun i _ => u.exports.length - (intOf i).toNat)
              case atStart => exact ⟨0, _, es5, ρ3, rfl, Nat.zero_le _, HJ3.out, by simp, HXM.out, HL3.out⟩
              case round =>
                obtain ⟨j, v5, es5', ρ5, rfl, hj, hJ5, he5, hxm, hLo5⟩ := hrel
                have HG5 := hide (hLo5.to HG2.out hWab haB)
                have HJ5 := hide hJ5
                have HE5 := hide he5
                have HXM5 := hide hxm
                have HL5 := hide hLo5
                obtain ⟨ao5, cp5, rfl⟩ := own_shape_ hJ5.o5.1
                have HXL : Hid (es5'.length = es5.length + j) := hide (by have := congrArg List.length he5; simp at this; omega)
                have hxl2 : es5'.length ≤ 1000 := by have := HXL.out; omega
                clear hJ5 he5 hxm hLo5 HJ3 HXA HXM HL3 HG3
                by_cases hjl : j < u.exports.length
                · obtain ⟨x, hx⟩ := getElem?_lt hjl
                  obtain ⟨xao, xcap, he, _, hxc⟩ := H5.out
                  simp only [Value.slice.injEq, true_and] at he
                  obtain ⟨rfl, rfl⟩ := he
                  obtain ⟨xb, xoff, vs, rfl, e0, e1, ⟨s, rfl, hs, hsz⟩⟩ := hxc j x hx
                  have g0 := HW.out.trans HG5.out
                  have e0 := g0.cell e0 (by simp)
                  have e1 := g0.cell e1 (by simp)
                  have hxq := HFE.out x (List.mem_of_getElem? hx)
                  have hs20x : s.size ≤ 1000000 := by
                    have := exp_name HUK.out (List.mem_of_getElem? hx)
                    rw [← hs] at this
                    have e : s.data.toList.length = s.size := by rw [Array.length_toList]; rfl
                    omega
                  have gX : Gr wr (wr.alloc (.cells #[.string s, .int .i64 x.func] 81)) := (Gr.refl wr).alloc _
                  have hbX := heap_alloc_new wr (.cells #[.string s, .int .i64 x.func] 81)
                  have hji : (j : Int) < (u.exports.length : Int) := by omega
                  have hwj : IntKind.i64.wrap ((j : Int) + 1) = (j : Int) + 1 := Go.IntWalk.i64_in _ (by omega)
                  have HTK : Hid (u.exports.take (j + 1) = u.exports.take j ++ [x]) := hide (by
                    obtain ⟨hk', rfl⟩ := List.getElem?_eq_some_iff.1 hx
                    exact List.take_succ_eq_append_getElem hk')
                  have HXN := hide (export_any u mb cs.length es3.length a1 a2 a3 a4 (some ⟨xb, xoff, none⟩) c1 c2 c3 c4 c5 s x.func (wr.alloc (.cells #[.string s, .int .i64 x.func] 81)).drew (by omega) hs20x (by omega))
                  have KS : Hid (∀ w', Gr (wr.alloc (.cells #[.string s, .int .i64 x.func] 81)) w' → w'.cell? ⟨ab, 4, none⟩ = some (.slice ao5 es5'.length cp5) ∧ w'.cell? ⟨mvb, 0, none⟩ = some (.slice a1 u.shapes.length c1) ∧ w'.cell? ⟨mvb, 1, none⟩ = some (.slice a2 u.consts.length c2) ∧ w'.cell? ⟨mvb, 2, none⟩ = some (.slice a3 u.funcs.length c3) ∧ w'.cell? ⟨mvb, 3, none⟩ = some (.slice a4 u.imports.length c4) ∧ w'.cell? ⟨mvb, 4, none⟩ = some (.slice (some ⟨xb, xoff, none⟩) u.exports.length c5) ∧ w'.cell? ⟨mvb, 5, none⟩ = some (.map (some mb)) ∧ w'.cell? ⟨mvb, 6, none⟩ = some (.int .i64 (cs.length : Int)) ∧ w'.cell? ⟨mvb, 7, none⟩ = some (.int .i64 (es3.length : Int)) ∧ w'.cell? ⟨wr.heap.size, 0, none⟩ = some (.string s) ∧ w'.cell? ⟨wr.heap.size, 1, none⟩ = some (.int .i64 x.func)) := hide (fun w' g => by
                    have d0 := ((gX.trans g).block mvb (Array.getElem?_eq_some_iff.1 HXM5.out.2.2).1 (by simp)).trans HXM5.out.2.2
                    have d1 : w'.heap[wr.heap.size]? = _ := (g.block wr.heap.size (by simp) (by simp)).trans hbX
                    refine ⟨(gX.trans g).cell HJ5.out.cells.1.2.2.2.2 (by simp), ?_, ?_, ?_, ?_, ?_, ?_, ?_, ?_, ?_, ?_⟩
                    · rw [hcell_ d0]; rfl
                    · rw [hcell_ d0]; rfl
                    · rw [hcell_ d0]; rfl
                    · rw [hcell_ d0]; rfl
                    · rw [hcell_ d0]; rfl
                    · rw [hcell_ d0]; rfl
                    · rw [hcell_ d0]; rfl
                    · rw [hcell_ d0]; rfl
                    · rw [hcell_ d1]; rfl
                    · rw [hcell_ d1]; rfl)
                  have HGX := hide gX
                  have HSP : Hid (LX.p ⟨s, (es3.length : Int) + x.func⟩ = movedE es3.length x) := hide (by unfold LX.p movedE; rw [hs])
                  clear hx hxc g0 gX hbX hs hsz
                  go_upto_region 20 with fail
                  refine wp_region_z 8 (S := (fun w' => w'.cell? ⟨ab, 4, none⟩ = some (.slice ao5 es5'.length cp5) ∧ w'.cell? ⟨mvb, 0, none⟩ = some (.slice a1 u.shapes.length c1) ∧ w'.cell? ⟨mvb, 1, none⟩ = some (.slice a2 u.consts.length c2) ∧ w'.cell? ⟨mvb, 2, none⟩ = some (.slice a3 u.funcs.length c3) ∧ w'.cell? ⟨mvb, 3, none⟩ = some (.slice a4 u.imports.length c4) ∧ w'.cell? ⟨mvb, 4, none⟩ = some (.slice (some ⟨xb, xoff, none⟩) u.exports.length c5) ∧ w'.cell? ⟨mvb, 5, none⟩ = some (.map (some mb)) ∧ w'.cell? ⟨mvb, 6, none⟩ = some (.int .i64 (cs.length : Int)) ∧ w'.cell? ⟨mvb, 7, none⟩ = some (.int .i64 (es3.length : Int)) ∧ w'.cell? ⟨wr.heap.size, 0, none⟩ = some (.string s) ∧ w'.cell? ⟨wr.heap.size, 1, none⟩ = some (.int .i64 x.func))) (by kernel_rfl) (KS.out _ (Gr.drew (Gr.refl _))) (fun hHeld => ?_)
                  refine takeZ (i := 0) (v := ?gv0) rfl (by kernel_rfl) (by decide) (by kernel_rfl) (by kernel_rfl) (by kernel_rfl) (by intro c a w h; exact h) (by rfl) ?ghy0 hHeld ?grest0
                  case ghy0 => (intro w hSw; (try dsimp only at hSw); go_simp <;> with_reducible rfl)
                  simp only [Act.put, List.setIfInBounds_toArray, List.set_cons_zero, List.set_cons_succ]
                  refine takeZ (i := 1) (v := ?gv1) rfl (by kernel_rfl) (by decide) (by kernel_rfl) (by kernel_rfl) (by kernel_rfl) (by intro c a w h; exact h) (by rfl) ?ghy1 hHeld ?grest1
                  case ghy1 => (intro w hSw; (try dsimp only at hSw); go_simp <;> with_reducible rfl)
                  simp only [Act.put, List.setIfInBounds_toArray, List.set_cons_zero, List.set_cons_succ]
                  refine takeZ (i := 2) (v := ?gv2) rfl (by kernel_rfl) (by decide) (by kernel_rfl) (by kernel_rfl) (by kernel_rfl) (by intro c a w h; exact h) (by rfl) ?ghy2 hHeld ?grest2
                  case ghy2 => (intro w hSw; (try dsimp only at hSw); go_simp <;> with_reducible rfl)
                  simp only [Act.put, List.setIfInBounds_toArray, List.set_cons_zero, List.set_cons_succ]
                  refine takeZ (i := 3) (v := ?gv3) rfl (by kernel_rfl) (by decide) (by kernel_rfl) (by kernel_rfl) (by kernel_rfl) (by intro c a w h; exact h) (by rfl) ?ghy3 hHeld ?grest3
                  case ghy3 => (intro w hSw; (try dsimp only at hSw); go_simp <;> with_reducible rfl)
                  simp only [Act.put, List.setIfInBounds_toArray, List.set_cons_zero, List.set_cons_succ]
                  refine aloneZ (i := 4) rfl (by kernel_rfl) (fun K hK => ?_)
                  refine step_calls_w rfl 146 _ _ rfl #[.agg #[.slice a1 u.shapes.length c1, .slice a2 u.consts.length c2, .slice a3 u.funcs.length c3, .slice a4 u.imports.length c4, .slice (some ⟨xb, xoff, none⟩) u.exports.length c5, .map (some mb), .int .i64 (cs.length : Int), .int .i64 (es3.length : Int)], .agg #[.string s, .int .i64 x.func]] (by simp [Act.eval]) (Tryd.callExpo _ _) (HXN.out.mono ?_)
                  rintro z w2 ⟨rfl, hg2⟩
                  have HG2x := hide hg2
                  clear hg2 HXN
                  refine .inl ⟨_, rfl, ?_⟩
                  refine hK.out _ _ (fun _ => KS.out _ (Gr.trans (Gr.drew (Gr.refl _)) HG2x.out)) (fun hHeld => ?_)
                  replace hHeld := hHeld (by decide)
                  clear hK
                  try simp only [Act.put, List.setIfInBounds_toArray, List.set_cons_zero, List.set_cons_succ]
                  refine aloneZ (i := 5) rfl (by kernel_rfl) (fun K hK => ?_)
                  refine want_yes (by rfl) ?_
                  have HK := hide hK
                  clear hK
                  go_simp
                  refine HK.out _ _ (fun _ => KS.out _ ((Gr.trans (Gr.drew (Gr.refl _)) HG2x.out).alloc _)) (fun hHeld => ?_)
                  replace hHeld := hHeld (by decide)
                  clear HK
                  try simp only [Act.put, List.setIfInBounds_toArray, List.set_cons_zero, List.set_cons_succ]
                  obtain ⟨v6, w5, hr5, ho5, hg5, hl5⟩ := app_rows (ty := 26) 26 81 _ Tryd.infX Tryd.uX rfl (by decide) (by decide) (own_gr HJ5.out.o5.1 (HGX.out.drew.trans (HG2x.out.alloc (.cells #[.string s, .int .i64 ((es3.length : Int) + x.func)] 81)))) (rrow_new w2 #[.string s, .int .i64 ((es3.length : Int) + x.func)] 81 1) rfl (by intro u hu; simp at hu; rcases hu with rfl | rfl <;> rfl) (by omega) (by have := HJ5.out.bs; have := HG2x.out.size; have := HGX.out.size; simp at *; omega)
                  obtain ⟨ao6, cp6, rfl⟩ := own_shape_ ho5
                  have hne5 : some ab ≠ (Value.slice ao5 es5'.length cp5).ownBlock := fun e => own_no HJ5.out.o5.1 haB e.symm
                  have hc5 := hg5.cell (a := ⟨ab, 4, none⟩) ((HGX.out.drew.trans (HG2x.out.alloc (.cells #[.string s, .int .i64 ((es3.length : Int) + x.func)] 81))).cell HJ5.out.cells.1.2.2.2.2 (by simp)) hne5
                  have hz5 : w5.frozen? ⟨ab, 4, none⟩ = false := hfrozen_ ((hg5.block ab (by have := HJ5.out.bs; have := HG2x.out.size; have := HGX.out.size; simp at *; omega) hne5).trans (((HGX.out.drew.trans (HG2x.out.alloc (.cells #[.string s, .int .i64 ((es3.length : Int) + x.func)] 81))).block ab (by have := HJ5.out.bs; omega) (by simp)).trans HJ5.out.box))
                  have KS5 : Hid (w5.cell? ⟨ab, 4, none⟩ = some (.slice ao5 es5'.length cp5) ∧ w5.cell? ⟨mvb, 0, none⟩ = some (.slice a1 u.shapes.length c1) ∧ w5.cell? ⟨mvb, 1, none⟩ = some (.slice a2 u.consts.length c2) ∧ w5.cell? ⟨mvb, 2, none⟩ = some (.slice a3 u.funcs.length c3) ∧ w5.cell? ⟨mvb, 3, none⟩ = some (.slice a4 u.imports.length c4) ∧ w5.cell? ⟨mvb, 4, none⟩ = some (.slice (some ⟨xb, xoff, none⟩) u.exports.length c5) ∧ w5.cell? ⟨mvb, 5, none⟩ = some (.map (some mb)) ∧ w5.cell? ⟨mvb, 6, none⟩ = some (.int .i64 (cs.length : Int)) ∧ w5.cell? ⟨mvb, 7, none⟩ = some (.int .i64 (es3.length : Int)) ∧ w5.cell? ⟨wr.heap.size, 0, none⟩ = some (.string s) ∧ w5.cell? ⟨wr.heap.size, 1, none⟩ = some (.int .i64 x.func)) := hide (by
                    have hq := KS.out _ ((Gr.trans (Gr.drew (Gr.refl _)) HG2x.out).alloc (.cells #[.string s, .int .i64 ((es3.length : Int) + x.func)] 81))
                    have hmv : some mvb ≠ (Value.slice ao5 es5'.length cp5).ownBlock := fun e => by have := HJ5.out.o5.2 mvb e.symm; rw [HXM5.out.1] at this; cases this
                    have hwr : some wr.heap.size ≠ (Value.slice ao5 es5'.length cp5).ownBlock := fun e => by have := (HJ5.out.o5.1.lt wr.heap.size e.symm).2; omega
                    obtain ⟨s0, s1, s2, s3, s4, s5, s6, s7, s8, s9, s10⟩ := hq
                    exact ⟨hc5, hg5.cell s1 hmv, hg5.cell s2 hmv, hg5.cell s3 hmv, hg5.cell s4 hmv, hg5.cell s5 hmv, hg5.cell s6 hmv, hg5.cell s7 hmv, hg5.cell s8 hmv, hg5.cell s9 hwr, hg5.cell s10 hwr⟩)
                  refine aloneZ (i := 6) rfl (by kernel_rfl) (fun K hK => ?_)
                  refine want_yes (by rfl) (Lib.wp_append_run _ _ _ _ _ rfl (.slice ao5 es5'.length cp5) (.slice (some ⟨w2.heap.size, 0, none⟩) 1 1) (by simp [Act.eval]) (by simp [Act.eval]) _ _ hr5 ?_)
                  refine hK.out _ _ (fun _ => KS5.out) (fun hHeld => ?_)
                  replace hHeld := hHeld (by decide)
                  clear hK
                  try simp only [Act.put, List.setIfInBounds_toArray, List.set_cons_zero, List.set_cons_succ]
                  refine takeZ (i := 7) (v := ?gxv7) rfl (by kernel_rfl) (by decide) (by kernel_rfl) (by kernel_rfl) (by kernel_rfl) (by intro c a w h; exact h) (by rfl) ?gxhy7 hHeld ?gxrest7
                  case gxhy7 => (intro w hSw; (try dsimp only at hSw); go_simp <;> with_reducible rfl)
                  simp only [Act.put, List.setIfInBounds_toArray, List.set_cons_zero, List.set_cons_succ]
                  refine aloneZ (i := 8) rfl (by kernel_rfl) (fun K hK => ?_)
                  refine want_yes (by rfl) ?_
                  have HK := hide hK
                  clear hK
                  go_simp
                  refine HK.out _ _ (fun h => absurd rfl h) (fun _ => ?_)
                  clear HK
                  try simp only [Act.put, List.setIfInBounds_toArray, List.set_cons_zero, List.set_cons_succ]
                  refine doneZ (by kernel_rfl) ?_ _
                  clear KS5
                  obtain ⟨ρ6, hJ6, hm6⟩ := (HJ5.out.step (ρ' := ρ5) HGX.out.drew (fun _ _ => rfl)).put5 (e := ⟨s, (es3.length : Int) + x.func⟩) (HG2x.out.alloc (.cells #[.string s, .int .i64 ((es3.length : Int) + x.func)] 81)) ho5 hg5 hl5
                  have HJ6 := hide hJ6
                  have HXM6 := hide (((HXM5.out.mv (Mv.gr HGX.out.drew) (r0 := .ex) nofun)).mv hm6 nofun)
                  have HL6 := hide ((HL5.out.gr HGX.out.drew hB2).put (o := 4) (u := .slice ao6 (es5'.length + 1) cp6) (HG2x.out.alloc (.cells #[.string s, .int .i64 ((es3.length : Int) + x.func)] 81)) hg5 hB2 (fun q hq => (HJ5.out.o5.1.lt q hq).1))
                  clear hJ6 hm6 hr5 ho5 hg5 hl5 hc5 hz5 HG2x KS e0 e1
                  go_wp2_with fail
                  refine ⟨⟨j + 1, _, _, ρ6, by simp, hjl, HJ6.out, ?_, HXM6.out, HL6.out⟩, by simp [intOf]; omega⟩
                  rw [List.map_append, HE5.out, HTK.out, List.map_append, List.append_assoc]
                  show _ ++ (_ ++ [LX.p ⟨s, (es3.length : Int) + x.func⟩]) = _
                  rw [HSP.out]; rfl
                · have hjj : j = u.exports.length := by omega
                  subst hjj
                  have HE5' : Hid (es5'.map (·.p) = es5.map (·.p) ++ u.exports.map (movedE es3.length)) := hide (by rw [HE5.out, List.take_length])
                  have HCL : Hid ((cs ++ u.consts).length = cs.length + u.consts.length) := hide (List.length_append)
                  clear hjl hj HE5
                  go_wp2_with fail
                  refine ⟨⟨k + 1, .slice ao2' (cs.length + u.consts.length) cp2', .slice ao3 es3'.length cp3, .slice ao5 es5'.length cp5, cs ++ u.consts, es3', es5', ρ5, by simp, hlt, ?_, ?_, by rw [HCL.out]; omega, by have := HEL.out; omega, by have := HXL.out; omega, HL5.out⟩, by simp [intOf]; omega⟩
                  · exact HJ5.out
                  · rw [HJN.out, HDR.out, joinF, HE3'.out, HE5'.out, HCL.out, HEL.out]
                    have e : u.funcs.map (mvF N u cs.length es3.length) = u.funcs.map (movedF (numN N) u cs.length es3.length) := List.map_congr_left fun g hg => mvF_eq (HFF.out g hg).2.2.2
                    rw [e]
                    simp only [List.append_assoc]
        · have hkk : k = l.length := by omega
          subst hkk
          have HFIN : Hid ((cs, es3.map (·.f), es5.map (·.p)) = joinF (numN N) 0 0 l) := hide (by rw [HJN.out, List.drop_length]; simp [joinF])
          have hrb := (HLU.out.blk W.heap.size (by have := HAB.out; omega) (by have := HAB.out; omega)).trans HRB.out
          obtain ⟨⟨d0, d1, d2, d3, d4⟩, _⟩ := HJU.out.cells
          have p0 : wU.cell? ⟨W.heap.size, 0, none⟩ = some (.slice none 0 0) := by rw [hcell_ hrb]; rfl
          have p1 : wU.cell? ⟨W.heap.size, 1, none⟩ = some (.slice none 0 0) := by rw [hcell_ hrb]; rfl
          have p2 : wU.cell? ⟨W.heap.size, 2, none⟩ = some (.slice none 0 0) := by rw [hcell_ hrb]; rfl
          have p3 : wU.cell? ⟨W.heap.size, 3, none⟩ = some (.slice none 0 0) := by rw [hcell_ hrb]; rfl
          have p4 : wU.cell? ⟨W.heap.size, 4, none⟩ = some (.slice none 0 0) := by rw [hcell_ hrb]; rfl
          have z0 : wU.frozen? ⟨W.heap.size, 0, none⟩ = false := hfrozen_ hrb
          have z1 : wU.frozen? ⟨W.heap.size, 1, none⟩ = false := hfrozen_ hrb
          have z2 : wU.frozen? ⟨W.heap.size, 2, none⟩ = false := hfrozen_ hrb
          have z3 : wU.frozen? ⟨W.heap.size, 3, none⟩ = false := hfrozen_ hrb
          have z4 : wU.frozen? ⟨W.heap.size, 4, none⟩ = false := hfrozen_ hrb
          have HRB2 := hide hrb
          clear hlt hk hrb
          go_wp2_with fail
          have hwf : ∀ q, ¬ q = W.heap.size → (put5j wU W.heap.size (.slice ao1 es1.length cp1) (.slice ao2 cs.length cp2) (.slice ao3 es3.length cp3) (.slice none 0 0) (.slice ao5 es5.length cp5)).heap[q]? = wU.heap[q]? := fun q hq => put5j_other hq
          have hwb := put5j_same (y0 := .slice ao1 es1.length cp1) (y1 := .slice ao2 cs.length cp2) (y2 := .slice ao3 es3.length cp3) (y3 := .slice none 0 0) (y4 := .slice ao5 es5.length cp5) HRB2.out
          rw [put5j_eq]
          have hws : (put5j wU W.heap.size (.slice ao1 es1.length cp1) (.slice ao2 cs.length cp2) (.slice ao3 es3.length cp3) (.slice none 0 0) (.slice ao5 es5.length cp5)).heap.size = wU.heap.size := by unfold put5j; simp
          have hwt : Gr W (put5j wU W.heap.size (.slice ao1 es1.length cp1) (.slice ao2 cs.length cp2) (.slice ao3 es3.length cp3) (.slice none 0 0) (.slice ao5 es5.length cp5)) := ⟨HGU.out.os, HGU.out.tape, HGU.out.output, by rw [hws]; exact HGU.out.size, fun i hi hne => (hwf i (by omega)).trans (HGU.out.block i hi hne)⟩
          generalize put5j wU W.heap.size (.slice ao1 es1.length cp1) (.slice ao2 cs.length cp2) (.slice ao3 es3.length cp3) (.slice none 0 0) (.slice ao5 es5.length cp5) = WE at hwf hwb hws hwt ⊢
          have t0 : WE.cell? ⟨W.heap.size, 0, none⟩ = some (.slice ao1 es1.length cp1) := by rw [hcell_ hwb]; rfl
          have t1 : WE.cell? ⟨W.heap.size, 1, none⟩ = some (.slice ao2 cs.length cp2) := by rw [hcell_ hwb]; rfl
          have t2 : WE.cell? ⟨W.heap.size, 2, none⟩ = some (.slice ao3 es3.length cp3) := by rw [hcell_ hwb]; rfl
          have t3 : WE.cell? ⟨W.heap.size, 3, none⟩ = some (.slice none 0 0) := by rw [hcell_ hwb]; rfl
          have t4 : WE.cell? ⟨W.heap.size, 4, none⟩ = some (.slice ao5 es5.length cp5) := by rw [hcell_ hwb]; rfl
          refine bodyPost_ret (v := .agg #[.slice ao1 es1.length cp1, .slice ao2 cs.length cp2, .slice ao3 es3.length cp3, .slice none 0 0, .slice ao5 es5.length cp5]) (by simp [results, Tryd.results106, go_sem, t0, t1, t2, t3, t4]) rfl ?_
          have hab2 := HAB.out
          exact ⟨_, _, _, _, es1, cs, es3, es5, ρ, B, ab, rfl, hWab, HJU.out.keep (rb := W.heap.size) (by omega) hwf (by omega) (by omega), HE1'.out, HFIN.out, hwt⟩
end Go.Proofs.YtkgncijcnlfhiaaDoor

