import Derived.Test.YtkgncijcnlfhiaaDoorNh
namespace Go.Proofs.YtkgncijcnlfhiaaDoor
set_option linter.unusedVariables false
set_option linter.unusedSimpArgs false
open Go.RowKit
attribute [local go_sem ↓] Go.wp_at_zero Go.wp_at_succ
theorem Tryd.callCn (vals : Array Value) (w : World) : (callFunc 167 vals).run Tryd.prog w = .ok (.enter 167 vals) w := by kernel_rfl
theorem Tryd.callFn (vals : Array Value) (w : World) : (callFunc 168 vals).run Tryd.prog w = .ok (.enter 168 vals) w := by kernel_rfl
/-- as it is moved -/
def mvI (N : List UInt8 → Option (PFunc × Int)) (u : PUnit) (c f : Nat) (i : PIns) : PIns :=
  if i.op = 0 then { i with a := if i.a.toNat < u.consts.length then (c : Int) + (i.a.toNat : Int) else 65535 }
  else if i.op = 13 then { i with a := fnNum N u f i.a.toNat } else i
theorem set_flat : ∀ (l : List PIns) (k : Nat) (i : PIns) (x : Int), l[k]? = some i → (l.flatMap cC).set (k * 3 + 1) (.int .i64 x) = (l.set k { i with a := x }).flatMap cC
  | [], k, i, x, h => by simp at h
  | y :: l, 0, i, x, h => by
    simp only [List.getElem?_cons_zero, Option.some.injEq] at h
    subst h; rfl
  | y :: l, k + 1, i, x, h => by
    have e : (y :: l).flatMap cC = .int .i64 y.op :: .int .i64 y.a :: .int .i64 y.b :: l.flatMap cC := rfl
    have e2 : (k + 1) * 3 + 1 = (k * 3 + 1) + 1 + 1 + 1 := by omega
    rw [e, e2]
    simp only [List.set_cons_succ]
    rw [set_flat l k i x (by simpa using h)]
    rfl
theorem set_same {l : List PIns} {k : Nat} {i : PIns} (h : l[k]? = some i) : l.set k i = l := by
  obtain ⟨hk, rfl⟩ := List.getElem?_eq_some_iff.1 h
  exact List.set_getElem_self hk
theorem own_gr {w w' : World} {base : Nat} {e : TypeId} {size : Nat} {v : Value} {n : Nat} {xs : List Value} (h : w.ownsRow base e size v n xs) (g : Gr w w') : w'.ownsRow base e size v n xs := h.kept g (by cases hv : v.ownBlock <;> simp)
def RenR (B n cap cb : Nat) (l : List PIns) (w : World) (x : Ending) (w' : World) : Prop := x = .returned (.tuple #[]) ∧ w'.ownsRow B 91 3 (.slice (some ⟨cb, 0, none⟩) n cap) n (l.flatMap cC) ∧ w.grownBy w' (some cb)

set_option maxRecDepth 100000 in
set_option maxHeartbeats 2000000 in
theorem renumber_any (W : World) (u : PUnit) (mb c f : Nat) (N : List UInt8 → Option (PFunc × Int)) (a1 a2 a3 a4 a5 : Option Addr) (c1 c2 c3 c4 c5 : Nat) (B n cap cb k : Nat) (l : List PIns) (i : PIns) (w : World) (hM : MvAt W w u mb N a3 c3 a4 c4) (hc : c ≤ 1000) (hf : f ≤ 1000)
    (hown : w.ownsRow B 91 3 (.slice (some ⟨cb, 0, none⟩) n cap) n (l.flatMap cC)) (hnl : n = l.length) (hi : l[k]? = some i) (hok : insOk i = true) :
    Calls Tryd.prog 160 #[.agg #[.slice a1 u.shapes.length c1, .slice a2 u.consts.length c2, .slice a3 u.funcs.length c3, .slice a4 u.imports.length c4, .slice a5 u.exports.length c5, .map (some mb), .int .i64 (c : Int), .int .i64 (f : Int)], .pointer (some ⟨cb, k * 3, none⟩)] w (RenR B n cap cb (l.set k (mvI N u c f i)) w) := by
  subst hnl
  have hkl : k < l.length := (List.getElem?_eq_some_iff.1 hi).1
  have hco : w.cell? ⟨cb, k * 3, none⟩ = some (.int .i64 i.op) := by rw [hown.cellAt _ (by omega)]; exact flat_put cC_len l k 0 i hi (by omega)
  have hca : w.cell? ⟨cb, k * 3 + 1, none⟩ = some (.int .i64 i.a) := by rw [hown.cellAt _ (by omega)]; exact flat_put cC_len l k 1 i hi (by omega)
  have hcb : cb < w.heap.size := World.block_lt_of_cell? w _ hco
  have hb0 := heap_alloc_new w (.cells #[.slice a1 u.shapes.length c1, .slice a2 u.consts.length c2, .slice a3 u.funcs.length c3, .slice a4 u.imports.length c4, .slice a5 u.exports.length c5, .map (some mb), .int .i64 (c : Int), .int .i64 (f : Int)] 213)
  have hgw := (Gr.refl w).alloc (.cells #[.slice a1 u.shapes.length c1, .slice a2 u.consts.length c2, .slice a3 u.funcs.length c3, .slice a4 u.imports.length c4, .slice a5 u.exports.length c5, .map (some mb), .int .i64 (c : Int), .int .i64 (f : Int)] 213)
  have KS : Hid (∀ w', Gr (w.alloc (.cells #[.slice a1 u.shapes.length c1, .slice a2 u.consts.length c2, .slice a3 u.funcs.length c3, .slice a4 u.imports.length c4, .slice a5 u.exports.length c5, .map (some mb), .int .i64 (c : Int), .int .i64 (f : Int)] 213)) w' → w'.cell? ⟨w.heap.size, 0, none⟩ = some (.slice a1 u.shapes.length c1) ∧ w'.cell? ⟨w.heap.size, 1, none⟩ = some (.slice a2 u.consts.length c2) ∧ w'.cell? ⟨w.heap.size, 2, none⟩ = some (.slice a3 u.funcs.length c3) ∧ w'.cell? ⟨w.heap.size, 3, none⟩ = some (.slice a4 u.imports.length c4) ∧ w'.cell? ⟨w.heap.size, 4, none⟩ = some (.slice a5 u.exports.length c5) ∧ w'.cell? ⟨w.heap.size, 5, none⟩ = some (.map (some mb)) ∧ w'.cell? ⟨w.heap.size, 6, none⟩ = some (.int .i64 (c : Int)) ∧ w'.cell? ⟨w.heap.size, 7, none⟩ = some (.int .i64 (f : Int))) := hide (fun w' g => by
    have e0 : w'.heap[w.heap.size]? = _ := (g.block w.heap.size (by simp) (by simp)).trans hb0
    refine ⟨?_, ?_, ?_, ?_, ?_, ?_, ?_, ?_⟩ <;> (rw [hcell_ e0]; rfl))
  have KSS : Hid (∀ w' v, Gr (w.alloc (.cells #[.slice a1 u.shapes.length c1, .slice a2 u.consts.length c2, .slice a3 u.funcs.length c3, .slice a4 u.imports.length c4, .slice a5 u.exports.length c5, .map (some mb), .int .i64 (c : Int), .int .i64 (f : Int)] 213)) w' → (w'.setCell ⟨cb, k * 3 + 1, none⟩ v).cell? ⟨w.heap.size, 0, none⟩ = some (.slice a1 u.shapes.length c1) ∧ (w'.setCell ⟨cb, k * 3 + 1, none⟩ v).cell? ⟨w.heap.size, 1, none⟩ = some (.slice a2 u.consts.length c2) ∧ (w'.setCell ⟨cb, k * 3 + 1, none⟩ v).cell? ⟨w.heap.size, 2, none⟩ = some (.slice a3 u.funcs.length c3) ∧ (w'.setCell ⟨cb, k * 3 + 1, none⟩ v).cell? ⟨w.heap.size, 3, none⟩ = some (.slice a4 u.imports.length c4) ∧ (w'.setCell ⟨cb, k * 3 + 1, none⟩ v).cell? ⟨w.heap.size, 4, none⟩ = some (.slice a5 u.exports.length c5) ∧ (w'.setCell ⟨cb, k * 3 + 1, none⟩ v).cell? ⟨w.heap.size, 5, none⟩ = some (.map (some mb)) ∧ (w'.setCell ⟨cb, k * 3 + 1, none⟩ v).cell? ⟨w.heap.size, 6, none⟩ = some (.int .i64 (c : Int)) ∧ (w'.setCell ⟨cb, k * 3 + 1, none⟩ v).cell? ⟨w.heap.size, 7, none⟩ = some (.int .i64 (f : Int))) := hide (fun w' v g => by
    have e0 : (w'.setCell ⟨cb, k * 3 + 1, none⟩ v).heap[w.heap.size]? = _ := (Below.heap_setCell _ _ _ _ (by show w.heap.size ≠ cb; omega)).trans ((g.block w.heap.size (by simp) (by simp)).trans hb0)
    refine ⟨?_, ?_, ?_, ?_, ?_, ?_, ?_, ?_⟩ <;> (rw [hcell_ e0]; rfl))
  have hcoA := hgw.cell hco (by simp)
  have HGW := hide hgw
  have HOWN := hide hown
  have HM := hide hM
  have HI := hide hi
  have HEND : Hid (∀ w' x, Gr w w' → RenR B l.length cap cb (l.set k { i with a := x }) w (.returned (.tuple #[])) (w'.setCell ⟨cb, k * 3 + 1, none⟩ (.int .i64 x))) := hide (fun w' x g => by
    obtain ⟨h1, h2⟩ := (own_gr HOWN.out g).stored (k * 3 + 1) (.int .i64 x)
    rw [set_flat l k i x HI.out] at h1
    exact ⟨rfl, h1, by_trans (gr_by g) h2⟩)
  obtain ⟨i_op, i_a, i_b⟩ := i
  have hlc := (unit_fits hM.ok).2.1
  clear hi hown hM hgw hb0
  by_cases h0 : i_op = 0
  · subst h0
    have hab : 0 ≤ i_a ∧ i_a ≤ 65535 := by
      simp only [insOk, operandOk, operandsN, wB] at hok
      simp at hok; omega
    obtain ⟨a, rfl⟩ : ∃ a : Nat, i_a = (a : Int) := ⟨i_a.toNat, by omega⟩
    obtain ⟨q, hq⟩ : ∃ q : Int, (if a < u.consts.length then (c : Int) + (a : Int) else 65535) = q := ⟨_, rfl⟩
    have HE : Hid (mvI N u c f ⟨0, (a : Int), i_b⟩ = ⟨0, q, i_b⟩) := hide (by rw [← hq]; simp [mvI])
    have HCN : Hid (∀ w', Calls Tryd.prog 167 #[.agg #[.slice a1 u.shapes.length c1, .slice a2 u.consts.length c2, .slice a3 u.funcs.length c3, .slice a4 u.imports.length c4, .slice a5 u.exports.length c5, .map (some mb), .int .i64 (c : Int), .int .i64 (f : Int)], .int .i64 (a : Int)] w' fun x w2 => x = .returned (.int .i64 q) ∧ Gr w' w2) := hide (fun w' => by rw [← hq]; exact constNum_any u mb c f a1 a2 a3 a4 a5 c1 c2 c3 c4 c5 a w' hc (by omega) (by omega))
    clear hok hq
    go_enter Tryd.func160, Tryd.ntmps160
    go_upto_region 3 with fail
    have hcaW := HGW.out.cell hca (by simp)
    generalize w.alloc (.cells #[.slice a1 u.shapes.length c1, .slice a2 u.consts.length c2, .slice a3 u.funcs.length c3, .slice a4 u.imports.length c4, .slice a5 u.exports.length c5, .map (some mb), .int .i64 (c : Int), .int .i64 (f : Int)] 213) = W1 at KS KSS HGW hcoA hcaW ⊢
    refine wp_region_held_drew (S := (fun w' => w'.cell? ⟨w.heap.size, 0, none⟩ = some (.slice a1 u.shapes.length c1) ∧ w'.cell? ⟨w.heap.size, 1, none⟩ = some (.slice a2 u.consts.length c2) ∧ w'.cell? ⟨w.heap.size, 2, none⟩ = some (.slice a3 u.funcs.length c3) ∧ w'.cell? ⟨w.heap.size, 3, none⟩ = some (.slice a4 u.imports.length c4) ∧ w'.cell? ⟨w.heap.size, 4, none⟩ = some (.slice a5 u.exports.length c5) ∧ w'.cell? ⟨w.heap.size, 5, none⟩ = some (.map (some mb)) ∧ w'.cell? ⟨w.heap.size, 6, none⟩ = some (.int .i64 (c : Int)) ∧ w'.cell? ⟨w.heap.size, 7, none⟩ = some (.int .i64 (f : Int)))) (by kernel_rfl) (KS.out _ (Gr.drew (Gr.refl _))) (fun hHeld => ?_)
    refine takeL (i := 0) (v := ?av0) rfl (by kernel_rfl) (by kernel_rfl) (by kernel_rfl) (by intro c a w h; exact h) (by rfl) ?ahy0 hHeld ?arest0
    case ahy0 => (intro w hSw; (try dsimp only at hSw); go_simp <;> with_reducible rfl)
    simp only [Act.put, List.setIfInBounds_toArray, List.set_cons_zero, List.set_cons_succ]
    refine takeL (i := 1) (v := ?av1) rfl (by kernel_rfl) (by kernel_rfl) (by kernel_rfl) (by intro c a w h; exact h) (by rfl) ?ahy1 hHeld ?arest1
    case ahy1 => (intro w hSw; (try dsimp only at hSw); go_simp <;> with_reducible rfl)
    simp only [Act.put, List.setIfInBounds_toArray, List.set_cons_zero, List.set_cons_succ]
    refine takeL (i := 2) (v := ?av2) rfl (by kernel_rfl) (by kernel_rfl) (by kernel_rfl) (by intro c a w h; exact h) (by rfl) ?ahy2 hHeld ?arest2
    case ahy2 => (intro w hSw; (try dsimp only at hSw); go_simp <;> with_reducible rfl)
    simp only [Act.put, List.setIfInBounds_toArray, List.set_cons_zero, List.set_cons_succ]
    refine takeL (i := 3) (v := ?av3) rfl (by kernel_rfl) (by kernel_rfl) (by kernel_rfl) (by intro c a w h; exact h) (by rfl) ?ahy3 hHeld ?arest3
    case ahy3 => (intro w hSw; (try dsimp only at hSw); go_simp <;> with_reducible rfl)
    simp only [Act.put, List.setIfInBounds_toArray, List.set_cons_zero, List.set_cons_succ]
    refine takeL (i := 4) (v := ?av4) rfl (by kernel_rfl) (by kernel_rfl) (by kernel_rfl) (by intro c a w h; exact h) (by rfl) ?ahy4 hHeld ?arest4
    case ahy4 => (intro w hSw; (try dsimp only at hSw); go_simp <;> with_reducible rfl)
    simp only [Act.put, List.setIfInBounds_toArray, List.set_cons_zero, List.set_cons_succ]
    refine aloneL (i := 5) rfl (by kernel_rfl) (fun K hK => ?_)
    refine want_yes (by rfl) ?_
    have HK := hide hK
    clear hK
    go_simp
    refine HK.out _ _ (KS.out _ (Gr.drew (Gr.refl _))) (fun hHeld => ?_)
    clear HK
    try simp only [Act.put, List.setIfInBounds_toArray, List.set_cons_zero, List.set_cons_succ]
    refine aloneL (i := 6) rfl (by kernel_rfl) (fun K hK => ?_)
    refine step_calls_w rfl 167 _ _ rfl #[.agg #[.slice a1 u.shapes.length c1, .slice a2 u.consts.length c2, .slice a3 u.funcs.length c3, .slice a4 u.imports.length c4, .slice a5 u.exports.length c5, .map (some mb), .int .i64 (c : Int), .int .i64 (f : Int)], .int .i64 (a : Int)] (by simp [Act.eval]) (Tryd.callCn _ _) ((HCN.out _).mono ?_)
    rintro z w2 ⟨rfl, hg2⟩
    have HG2 := hide ((Gr.drew (Gr.refl W1)).trans hg2)
    clear hg2
    refine .inl ⟨_, rfl, ?_⟩
    refine hK.out _ _ (KS.out _ HG2.out) (fun hHeld => ?_)
    clear hK
    try simp only [Act.put, List.setIfInBounds_toArray, List.set_cons_zero, List.set_cons_succ]
    refine takeL (i := 7) (v := ?av7) rfl (by kernel_rfl) (by kernel_rfl) (by kernel_rfl) (by intro c a w h; exact h) (by rfl) ?ahy7 hHeld ?arest7
    case ahy7 => (intro w hSw; (try dsimp only at hSw); go_simp <;> with_reducible rfl)
    simp only [Act.put, List.setIfInBounds_toArray, List.set_cons_zero, List.set_cons_succ]
    refine takeL (i := 8) (v := ?av8) rfl (by kernel_rfl) (by kernel_rfl) (by kernel_rfl) (by intro c a w h; exact h) (by rfl) ?ahy8 hHeld ?arest8
    case ahy8 => (intro w hSw; (try dsimp only at hSw); go_simp <;> with_reducible rfl)
    simp only [Act.put, List.setIfInBounds_toArray, List.set_cons_zero, List.set_cons_succ]
    have hg02 := HGW.out.trans HG2.out
    have hz2 := (own_gr HOWN.out hg02).frozenAt (k * 3 + 1)
    have hc2 := hg02.cell hca (by simp)
    refine aloneL (i := 9) rfl (by kernel_rfl) (fun K hK => ?_)
    refine want_yes (by rfl) ?_
    have HK := hide hK
    clear hK
    go_simp
    refine HK.out _ _ (KSS.out _ _ HG2.out) (fun hHeld => ?_)
    clear HK
    try simp only [Act.put, List.setIfInBounds_toArray, List.set_cons_zero, List.set_cons_succ]
    refine wpAnyH_done (by kernel_rfl) ?_ _
    clear KS KSS hHeld
    go_wp2_with fail
    go_end0
    rw [HE.out]
    exact HEND.out _ _ hg02
  · by_cases h13 : i_op = 13
    · subst h13
      have hab : 0 ≤ i_a ∧ i_a ≤ 65535 := by
        simp only [insOk, operandOk, operandsN, wB] at hok
        simp at hok; omega
      obtain ⟨a, rfl⟩ : ∃ a : Nat, i_a = (a : Int) := ⟨i_a.toNat, by omega⟩
      have HE : Hid (mvI N u c f ⟨13, (a : Int), i_b⟩ = ⟨13, fnNum N u f a, i_b⟩) := hide (by simp [mvI])
      clear hok
      go_enter Tryd.func160, Tryd.ntmps160
      go_upto_region 5 with fail
      have hcaW := HGW.out.cell hca (by simp)
      generalize w.alloc (.cells #[.slice a1 u.shapes.length c1, .slice a2 u.consts.length c2, .slice a3 u.funcs.length c3, .slice a4 u.imports.length c4, .slice a5 u.exports.length c5, .map (some mb), .int .i64 (c : Int), .int .i64 (f : Int)] 213) = W1 at KS KSS HGW hcoA hcaW ⊢
      refine wp_region_held_drew (S := (fun w' => w'.cell? ⟨w.heap.size, 0, none⟩ = some (.slice a1 u.shapes.length c1) ∧ w'.cell? ⟨w.heap.size, 1, none⟩ = some (.slice a2 u.consts.length c2) ∧ w'.cell? ⟨w.heap.size, 2, none⟩ = some (.slice a3 u.funcs.length c3) ∧ w'.cell? ⟨w.heap.size, 3, none⟩ = some (.slice a4 u.imports.length c4) ∧ w'.cell? ⟨w.heap.size, 4, none⟩ = some (.slice a5 u.exports.length c5) ∧ w'.cell? ⟨w.heap.size, 5, none⟩ = some (.map (some mb)) ∧ w'.cell? ⟨w.heap.size, 6, none⟩ = some (.int .i64 (c : Int)) ∧ w'.cell? ⟨w.heap.size, 7, none⟩ = some (.int .i64 (f : Int)))) (by kernel_rfl) (KS.out _ (Gr.drew (Gr.refl _))) (fun hHeld => ?_)
      refine takeL (i := 0) (v := ?bv0) rfl (by kernel_rfl) (by kernel_rfl) (by kernel_rfl) (by intro c a w h; exact h) (by rfl) ?bhy0 hHeld ?brest0
      case bhy0 => (intro w hSw; (try dsimp only at hSw); go_simp <;> with_reducible rfl)
      simp only [Act.put, List.setIfInBounds_toArray, List.set_cons_zero, List.set_cons_succ]
      refine takeL (i := 1) (v := ?bv1) rfl (by kernel_rfl) (by kernel_rfl) (by kernel_rfl) (by intro c a w h; exact h) (by rfl) ?bhy1 hHeld ?brest1
      case bhy1 => (intro w hSw; (try dsimp only at hSw); go_simp <;> with_reducible rfl)
      simp only [Act.put, List.setIfInBounds_toArray, List.set_cons_zero, List.set_cons_succ]
      refine takeL (i := 2) (v := ?bv2) rfl (by kernel_rfl) (by kernel_rfl) (by kernel_rfl) (by intro c a w h; exact h) (by rfl) ?bhy2 hHeld ?brest2
      case bhy2 => (intro w hSw; (try dsimp only at hSw); go_simp <;> with_reducible rfl)
      simp only [Act.put, List.setIfInBounds_toArray, List.set_cons_zero, List.set_cons_succ]
      refine takeL (i := 3) (v := ?bv3) rfl (by kernel_rfl) (by kernel_rfl) (by kernel_rfl) (by intro c a w h; exact h) (by rfl) ?bhy3 hHeld ?brest3
      case bhy3 => (intro w hSw; (try dsimp only at hSw); go_simp <;> with_reducible rfl)
      simp only [Act.put, List.setIfInBounds_toArray, List.set_cons_zero, List.set_cons_succ]
      refine takeL (i := 4) (v := ?bv4) rfl (by kernel_rfl) (by kernel_rfl) (by kernel_rfl) (by intro c a w h; exact h) (by rfl) ?bhy4 hHeld ?brest4
      case bhy4 => (intro w hSw; (try dsimp only at hSw); go_simp <;> with_reducible rfl)
      simp only [Act.put, List.setIfInBounds_toArray, List.set_cons_zero, List.set_cons_succ]
      refine aloneL (i := 5) rfl (by kernel_rfl) (fun K hK => ?_)
      refine want_yes (by rfl) ?_
      have HK := hide hK
      clear hK
      go_simp
      refine HK.out _ _ (KS.out _ (Gr.drew (Gr.refl _))) (fun hHeld => ?_)
      clear HK
      try simp only [Act.put, List.setIfInBounds_toArray, List.set_cons_zero, List.set_cons_succ]
      refine aloneL (i := 6) rfl (by kernel_rfl) (fun K hK => ?_)
      refine step_calls_w rfl 168 _ _ rfl #[.agg #[.slice a1 u.shapes.length c1, .slice a2 u.consts.length c2, .slice a3 u.funcs.length c3, .slice a4 u.imports.length c4, .slice a5 u.exports.length c5, .map (some mb), .int .i64 (c : Int), .int .i64 (f : Int)], .int .i64 (a : Int)] (by simp [Act.eval]) (Tryd.callFn _ _) ((funcNum_any W u mb c f N a1 a2 a3 a4 a5 c1 c2 c3 c4 c5 a _ (HM.out.step (HGW.out.trans (Gr.drew (Gr.refl _)))) hf (by omega)).mono ?_)
      rintro z w2 ⟨rfl, hg2⟩
      have HG2 := hide ((Gr.drew (Gr.refl W1)).trans hg2)
      clear hg2
      refine .inl ⟨_, rfl, ?_⟩
      refine hK.out _ _ (KS.out _ HG2.out) (fun hHeld => ?_)
      clear hK
      try simp only [Act.put, List.setIfInBounds_toArray, List.set_cons_zero, List.set_cons_succ]
      refine takeL (i := 7) (v := ?bv7) rfl (by kernel_rfl) (by kernel_rfl) (by kernel_rfl) (by intro c a w h; exact h) (by rfl) ?bhy7 hHeld ?brest7
      case bhy7 => (intro w hSw; (try dsimp only at hSw); go_simp <;> with_reducible rfl)
      simp only [Act.put, List.setIfInBounds_toArray, List.set_cons_zero, List.set_cons_succ]
      refine takeL (i := 8) (v := ?bv8) rfl (by kernel_rfl) (by kernel_rfl) (by kernel_rfl) (by intro c a w h; exact h) (by rfl) ?bhy8 hHeld ?brest8
      case bhy8 => (intro w hSw; (try dsimp only at hSw); go_simp <;> with_reducible rfl)
      simp only [Act.put, List.setIfInBounds_toArray, List.set_cons_zero, List.set_cons_succ]
      have hg02 := HGW.out.trans HG2.out
      have hz2 := (own_gr HOWN.out hg02).frozenAt (k * 3 + 1)
      have hc2 := hg02.cell hca (by simp)
      refine aloneL (i := 9) rfl (by kernel_rfl) (fun K hK => ?_)
      refine want_yes (by rfl) ?_
      have HK := hide hK
      clear hK
      go_simp
      refine HK.out _ _ (KSS.out _ _ HG2.out) (fun hHeld => ?_)
      clear HK
      try simp only [Act.put, List.setIfInBounds_toArray, List.set_cons_zero, List.set_cons_succ]
      refine wpAnyH_done (by kernel_rfl) ?_ _
      clear KS KSS hHeld
      go_wp2_with fail
      go_end0
      rw [HE.out]
      exact HEND.out _ _ hg02
    · have HE : Hid (l.set k (mvI N u c f ⟨i_op, i_a, i_b⟩) = l) := hide (by
        have : mvI N u c f ⟨i_op, i_a, i_b⟩ = ⟨i_op, i_a, i_b⟩ := by simp [mvI, h0, h13]
        rw [this]; exact set_same HI.out)
      have hd0 : (i_op == 0) = false := by simpa using h0
      have hd13 : (i_op == 13) = false := by simpa using h13
      clear hok
      go_enter Tryd.func160, Tryd.ntmps160
      go_wp2_with fail
      go_end0
      rw [HE.out]
      exact ⟨rfl, own_gr HOWN.out HGW.out, gr_by HGW.out⟩
end Go.Proofs.YtkgncijcnlfhiaaDoor

