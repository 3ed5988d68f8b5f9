import Derived.Test.YtkgncijcnlfhiaaDoorNa
import Derived.Deep.Cut
import Derived.Deep.CutRange
import Derived.Test.YtkgncijcnlfhiaaDoorNg
namespace Go.Proofs.YtkgncijcnlfhiaaDoor
set_option linter.unusedVariables false
set_option linter.unusedSimpArgs false
open Go.RowKit
attribute [local go_sem ↓] Go.wp_at_zero Go.wp_at_succ
theorem own_shape_ {w : World} {B : Nat} {e : TypeId} {n len : Nat} {v : Value} {xs : List Value} (h : w.ownsRow B e n v len xs) : ∃ ao cap, v = .slice ao len cap := by
  obtain ⟨_, h2⟩ := h
  rcases h2 with ⟨rfl, rfl⟩ | ⟨g, cap, cur, rfl, _⟩
  · exact ⟨none, 0, rfl⟩
  · exact ⟨_, _, rfl⟩
end Go.Proofs.YtkgncijcnlfhiaaDoor

namespace Go.Proofs.YtkgncijcnlfhiaaDoor
set_option linter.unusedVariables false
set_option linter.unusedSimpArgs false
open Go.RowKit
attribute [local go_sem ↓] Go.wp_at_zero Go.wp_at_succ
theorem flat_get {α : Type} {f : α → List Value} {n : Nat} (hf : ∀ x, (f x).length = n) : ∀ (l : List α) (j : Nat) (u : Value), (l.flatMap f)[j]? = some u → ∃ i r x, j = i * n + r ∧ r < n ∧ l[i]? = some x ∧ (f x)[r]? = some u
  | [], j, u, h => by simp at h
  | y :: l, j, u, h => by
    rw [List.flatMap_cons] at h
    by_cases hj : j < n
    · rw [List.getElem?_append_left (by rw [hf]; exact hj)] at h
      exact ⟨0, j, y, by omega, hj, rfl, h⟩
    · rw [List.getElem?_append_right (by rw [hf]; omega), hf] at h
      obtain ⟨i, r, x, e1, e2, e3, e4⟩ := flat_get hf l (j - n) u h
      refine ⟨i + 1, r, x, ?_, e2, by simpa using e3, e4⟩
      rw [Nat.add_mul]; omega
theorem flat_put {α : Type} {f : α → List Value} {n : Nat} (hf : ∀ x, (f x).length = n) : ∀ (l : List α) (i r : Nat) (x : α), l[i]? = some x → r < n → (l.flatMap f)[i * n + r]? = (f x)[r]?
  | [], i, r, x, h, _ => by simp at h
  | y :: l, 0, r, x, h, hr => by
    simp only [List.getElem?_cons_zero, Option.some.injEq] at h
    subst h
    rw [List.flatMap_cons, List.getElem?_append_left (by rw [hf]; omega)]
    simp
  | y :: l, i + 1, r, x, h, hr => by
    rw [List.flatMap_cons, List.getElem?_append_right (by rw [hf, Nat.add_mul]; omega), hf, show (i + 1) * n + r - n = i * n + r by rw [Nat.add_mul]; omega]
    exact flat_put hf l i r x (by simpa using h) hr
theorem flat_lenL {α : Type} {f : α → List Value} {n : Nat} (hf : ∀ x, (f x).length = n) : ∀ (l : List α), (l.flatMap f).length = l.length * n
  | [] => by simp
  | x :: l => by simp [hf x, flat_lenL hf l, Nat.add_mul]; omega
def cC (i : PIns) : List Value := [.int .i64 i.op, .int .i64 i.a, .int .i64 i.b]
theorem cC_len (i : PIns) : (cC i).length = 3 := rfl
/-- a row of cells that is read -/
def RRow (w : World) (v : Value) (m : Nat) (xs : List Value) : Prop := ∃ ao cap, v = .slice ao m cap ∧ ∀ j u, xs[j]? = some u → ∃ b off, ao = some ⟨b, off, none⟩ ∧ w.cell? ⟨b, off + j, none⟩ = some u
/-- a row that is read, behind a row of one's own -/
theorem app_rows {w : World} {base n m size bytes : Nat} {v vx : Value} {xs news : List Value} (t e ty : TypeId) (zero : Value) (inf : (Tryd.prog.info? e).map (fun i => (i.zero, i.size, i.bytes)) = some (some zero, size, bytes)) (ht : Tryd.prog.underlying t = some (.slice e)) (hzs : zero.cells.size = size) (hsz : 0 < size) (hby : bytes ≤ 1000)
    (hown : w.ownsRow base e size v n xs) (hR : RRow w vx m news) (hl : news.length = m * size) (h1 : ∀ u ∈ news, u.oneCell' = true) (hn : n + m ≤ 1000000) (hb : base ≤ w.heap.size) :
    ∃ v' w', (Builtin.append_ #[t, t] ty #[v, vx]).run Tryd.prog w = .ok v' w' ∧ w'.ownsRow base e size v' (n + m) (xs ++ news) ∧ w.grownBy w' v.ownBlock ∧ (v'.ownBlock = v.ownBlock ∨ v'.ownBlock = some w.heap.size) := by
  obtain ⟨i0, hi, hz0, hz1, hz2⟩ := info_parts inf
  obtain ⟨ao, cap, rfl, hc⟩ := hR
  cases ao with
  | none =>
    have hx : news = [] := by
      cases news with
      | nil => rfl
      | cons x t => obtain ⟨b, off, e, _⟩ := hc 0 x rfl; cases e
    subst hx
    have hm : m = 0 := by
      simp only [List.length_nil] at hl
      rcases Nat.mul_eq_zero.1 hl.symm with h | h
      · exact h
      · omega
    subst hm
    refine ⟨v, w, ?_, by simpa using hown, ⟨rfl, rfl, rfl, Nat.le_refl _, fun _ _ _ => rfl⟩, .inl rfl⟩
    rcases hown.2 with ⟨rfl, rfl⟩ | ⟨g, cp, cur, rfl, _, _, hnc, _⟩
    · simp [Builtin.append_, run_underlying ht, Go.sizeOf, typeInfo, hi, Builtin.lenOf, Builtin.firstCells]
    · simp [Builtin.append_, run_underlying ht, Go.sizeOf, typeInfo, hi, Builtin.lenOf, Builtin.firstCells, hnc, storeCells]
  | some a =>
    have hnews : ∀ j u, news[j]? = some u → w.cell? (a.add j) = some u := by
      intro j u hj
      obtain ⟨b, off, e, hcell⟩ := hc j u hj
      obtain rfl := Option.some.inj e
      have e2 : (⟨b, off, none⟩ : Addr).add j = ⟨b, off + j, none⟩ := by simp [Addr.add]
      rw [e2]; exact hcell
    obtain ⟨v', w', hr, h2, h3, _, h5⟩ := run_append_own_at (P := Tryd.prog) w base t ty e i0 zero size bytes ht hi hz0 hz1 hz2 hzs hsz v n xs hown a m cap news hl hnews h1 (by unfold maxLen; omega) (Nat.le_trans (Nat.mul_le_mul hn hby) (by decide)) hb
    exact ⟨v', w', hr, h2, h3, h5⟩
theorem Tryd.infI : (Tryd.prog.info? 3).map (fun i => (i.zero, i.size, i.bytes)) = some (some (.int .i64 0), 1, 8) := by kernel_rfl
theorem Tryd.infC : (Tryd.prog.info? 91).map (fun i => (i.zero, i.size, i.bytes)) = some (some (.agg #[.int .i64 0, .int .i64 0, .int .i64 0]), 3, 24) := by kernel_rfl
theorem Tryd.uI : Tryd.prog.underlying 23 = some (.slice 3) := by kernel_rfl
theorem Tryd.uC : Tryd.prog.underlying 74 = some (.slice 91) := by kernel_rfl
theorem RInts.row {w : World} {v : Value} {l : List Int} (h : RInts w v l) : RRow w v l.length (ivL l) := by
  obtain ⟨ao, cap, rfl, hm, hc⟩ := h
  refine ⟨ao, cap, rfl, fun j u hj => ?_⟩
  have hjl : j < l.length := by rw [← ivL_len l]; exact (List.getElem?_eq_some_iff.1 hj).1
  obtain ⟨b, off, e, hcell⟩ := hc j hjl
  refine ⟨b, off, e, hcell.trans ?_⟩
  rw [← hj]; simp [ivL, hjl, List.getD_eq_getElem?_getD]
theorem RCode.row {w : World} {v : Value} {l : List PIns} (h : RCode w v l) : RRow w v l.length (l.flatMap cC) := by
  obtain ⟨ao, cap, rfl, hm, hc⟩ := h
  refine ⟨ao, cap, rfl, fun j u hj => ?_⟩
  obtain ⟨i, r, x, rfl, hr, hx, hu⟩ := flat_get cC_len l j u hj
  obtain ⟨b, off, e, h0, h1, h2⟩ := hc i x hx
  refine ⟨b, off, e, ?_⟩
  rcases (show r = 0 ∨ r = 1 ∨ r = 2 by omega) with rfl | rfl | rfl
  · rw [← hu]; exact h0
  · rw [← hu]; exact h1
  · rw [← hu]; exact h2
theorem ivL_one (l : List Int) : ∀ u ∈ ivL l, u.oneCell' = true := by
  intro u hu; simp only [ivL, List.mem_map] at hu; obtain ⟨x, _, rfl⟩ := hu; rfl
theorem cC_one (l : List PIns) : ∀ u ∈ l.flatMap cC, u.oneCell' = true := by
  intro u hu; simp only [List.mem_flatMap, cC, List.mem_cons, List.not_mem_nil, or_false] at hu; obtain ⟨x, _, rfl | rfl | rfl⟩ := hu <;> rfl
/-- a new list of one's own -/
def NewR (e : TypeId) (size n : Nat) (xs : List Value) (w : World) (x : Ending) (w' : World) : Prop := ∃ v, x = .returned v ∧ w'.ownsRow w.heap.size e size v n xs ∧ Gr w w'

set_option maxRecDepth 100000 in
set_option maxHeartbeats 1000000 in
theorem copied_ints (v : Value) (l : List Int) (w : World) (hR : RInts w v l) (hl : l.length ≤ 100000) :
    Calls Tryd.prog 144 #[v] w (NewR 3 1 l.length (ivL l) w) := by
  obtain ⟨v', w', hr, ho, hg, _⟩ := app_rows (ty := 23) 23 3 _ Tryd.infI Tryd.uI rfl (by decide) (by decide) (World.ownsRow_nil w w.heap.size 3 1) hR.row (by rw [ivL_len]; omega) (ivL_one l) (by omega) (Nat.le_refl _)
  obtain ⟨ao, cap, rfl⟩ := hR.shape
  have HR := hide hr
  have HO := hide ho
  have HG := hide hg
  clear hr ho hg hR
  go_enter Tryd.func144, Tryd.ntmps144
  go_wp2_with (at_builtin; refine Lib.wpList_append_run _ rfl _ _ _ _ rfl _ _ rfl rfl _ _ HR.out ?_)
  go_ret
  exact ⟨_, rfl, by simpa using HO.out, HG.out⟩

set_option maxRecDepth 100000 in
set_option maxHeartbeats 1000000 in
theorem copied_ins (v : Value) (l : List PIns) (w : World) (hR : RCode w v l) (hl : l.length ≤ 100000) :
    Calls Tryd.prog 159 #[v] w (NewR 91 3 l.length (l.flatMap cC) w) := by
  obtain ⟨v', w', hr, ho, hg, _⟩ := app_rows (ty := 74) 74 91 _ Tryd.infC Tryd.uC rfl (by decide) (by decide) (World.ownsRow_nil w w.heap.size 91 3) hR.row (flat_lenL cC_len l) (cC_one l) (by omega) (Nat.le_refl _)
  obtain ⟨ao, cap, rfl⟩ := hR.shape
  have HR := hide hr
  have HO := hide ho
  have HG := hide hg
  clear hr ho hg hR
  go_enter Tryd.func159, Tryd.ntmps159
  go_wp2_with (at_builtin; refine Lib.wpList_append_run _ rfl _ _ _ _ rfl _ _ rfl rfl _ _ HR.out ?_)
  go_ret
  exact ⟨_, rfl, by simpa using HO.out, HG.out⟩
structure MvAt (W w : World) (u : PUnit) (mb : Nat) (N : List UInt8 → Option (PFunc × Int)) (a3 : Option Addr) (c3 : Nat) (a4 : Option Addr) (c4 : Nat) : Prop where
  gr : Gr W w
  mp : ∃ n, MapT W w mb n N
  fu : RFuncs W (.slice a3 u.funcs.length c3) u.funcs
  im : RImports W (.slice a4 u.imports.length c4) u.imports
  ok : unitOk u = true
theorem MvAt.step {W w w' : World} {u : PUnit} {mb : Nat} {N : List UInt8 → Option (PFunc × Int)} {a3 : Option Addr} {c3 : Nat} {a4 : Option Addr} {c4 : Nat} (h : MvAt W w u mb N a3 c3 a4 c4) (g : Gr w w') : MvAt W w' u mb N a3 c3 a4 c4 := by
  obtain ⟨n, hm⟩ := h.mp
  exact ⟨h.gr.trans g, ⟨n, hm.gr g⟩, h.fu, h.im, h.ok⟩
def numN (N : List UInt8 → Option (PFunc × Int)) (n : List UInt8) : Int := match N n with
  | some (_, k) => k
  | none => 0

set_option maxRecDepth 100000 in
set_option maxHeartbeats 1000000 in
theorem constNum_any (u : PUnit) (mb c f : Nat) (a1 a2 a3 a4 a5 : Option Addr) (c1 c2 c3 c4 c5 : Nat) (n : Nat) (w : World) (hc : c ≤ 1000) (hn : n ≤ 65535) (hl : u.consts.length ≤ 1000) :
    Calls Tryd.prog 167 #[.agg #[.slice a1 u.shapes.length c1, .slice a2 u.consts.length c2, .slice a3 u.funcs.length c3, .slice a4 u.imports.length c4, .slice a5 u.exports.length c5, .map (some mb), .int .i64 (c : Int), .int .i64 (f : Int)], .int .i64 (n : Int)] w fun x w' => x = .returned (.int .i64 (if n < u.consts.length then (c : Int) + (n : Int) else 65535)) ∧ Gr w w' := by
  have hw : IntKind.i64.wrap ((c : Int) + (n : Int)) = (c : Int) + (n : Int) := Go.IntWalk.i64_in _ (by omega)
  by_cases h : n < u.consts.length
  · have hi : (n : Int) < (u.consts.length : Int) := by omega
    go_enter Tryd.func167, Tryd.ntmps167
    go_wp2_with fail
    go_ret
    exact ⟨by first | rfl | (rw [if_pos h]; rfl), (Gr.refl _).alloc _⟩
  · have hi : ¬ (n : Int) < (u.consts.length : Int) := by omega
    have hd : decide ((n : Int) < (u.consts.length : Int)) = false := by simpa using hi
    go_enter Tryd.func167, Tryd.ntmps167
    go_wp2_with fail
    go_ret
    exact ⟨by first | rfl | (rw [if_neg h]; rfl), (Gr.refl _).alloc _⟩

def fnNum (N : List UInt8 → Option (PFunc × Int)) (u : PUnit) (f n : Nat) : Int := if n < u.funcs.length then (f : Int) + (n : Int) else match u.imports[n - u.funcs.length]? with
  | some g => numN N g.name
  | none => 65535
set_option maxRecDepth 100000 in
set_option maxHeartbeats 1000000 in
theorem funcNum_any (W : World) (u : PUnit) (mb c f : Nat) (N : List UInt8 → Option (PFunc × Int)) (a1 a2 a3 a4 a5 : Option Addr) (c1 c2 c3 c4 c5 : Nat) (n : Nat) (w : World) (hM : MvAt W w u mb N a3 c3 a4 c4) (hf : f ≤ 1000) (hn : n ≤ 65535) :
    Calls Tryd.prog 168 #[.agg #[.slice a1 u.shapes.length c1, .slice a2 u.consts.length c2, .slice a3 u.funcs.length c3, .slice a4 u.imports.length c4, .slice a5 u.exports.length c5, .map (some mb), .int .i64 (c : Int), .int .i64 (f : Int)], .int .i64 (n : Int)] w fun x w' => x = .returned (.int .i64 (fnNum N u f n)) ∧ Gr w w' := by
  have hft := fun (a b c d e : Value) (w : World) => Tryd.tgtN a b c d e w
  have hfit := unit_fits hM.ok
  have hl := hfit.1
  have hli := hfit.2.2.1
  clear hfit
  have hw : IntKind.i64.wrap ((f : Int) + (n : Int)) = (f : Int) + (n : Int) := Go.IntWalk.i64_in _ (by omega)
  have hw2 : IntKind.i64.wrap ((u.funcs.length : Int) + (u.imports.length : Int)) = (u.funcs.length : Int) + (u.imports.length : Int) := Go.IntWalk.i64_in _ (by omega)
  by_cases h : n < u.funcs.length
  · have hi : (n : Int) < (u.funcs.length : Int) := by omega
    have HE : Hid (fnNum N u f n = (f : Int) + (n : Int)) := hide (by unfold fnNum; rw [if_pos h])
    clear hM
    go_enter Tryd.func168, Tryd.ntmps168
    go_wp2_with fail
    go_ret
    exact ⟨by rw [HE.out]; rfl, (Gr.refl _).alloc _⟩
  · have hi : decide ((n : Int) < (u.funcs.length : Int)) = false := by rw [decide_eq_false_iff_not]; omega
    by_cases h2 : n < u.funcs.length + u.imports.length
    · have hi2 : (n : Int) < (u.funcs.length : Int) + (u.imports.length : Int) := by omega
      obtain ⟨k, hk⟩ : ∃ k, n - u.funcs.length = k := ⟨_, rfl⟩
      have hkl : k < u.imports.length := by omega
      have hki : (k : Int) < (u.imports.length : Int) := by omega
      have hws : IntKind.i64.wrap ((n : Int) - (u.funcs.length : Int)) = (k : Int) := by rw [Go.IntWalk.i64_in _ (by omega)]; omega
      obtain ⟨x, hx⟩ := getElem?_lt hkl
      have HE : Hid (fnNum N u f n = numN N x.name) := hide (by unfold fnNum; rw [if_neg h, hk, hx])
      obtain ⟨ao, cap, he, _, hc⟩ := hM.im
      simp only [Value.slice.injEq, true_and] at he
      obtain ⟨rfl, rfl⟩ := he
      obtain ⟨b, off, vs, vp, rfl, k0, _, _, ⟨s, rfl, hs, hsz⟩, _⟩ := hc k x hx
      have k0 := hM.gr.cell k0 (by simp)
      obtain ⟨nn, hm⟩ := hM.mp
      have hv : ∃ p1 p2 p3 p4 : Value, ∃ kk : Int, numN N x.name = kk ∧ ∀ w', Gr w w' → (Instr.lookup 161 (.map (some mb)) (.string s) false).run Tryd.prog w' = .ok (.agg #[p1, p2, p3, p4, .int .i64 kk]) w' := by
        rcases hm.find s hsz with ⟨e1, _, e2⟩ | ⟨g, kk, v, e1, ⟨_, _, _, _, _, _, _, _, rfl, _⟩, _, e2⟩
        · exact ⟨_, _, _, _, 0, by unfold numN; rw [← hs, e1], fun w' g => e2 w' g⟩
        · exact ⟨_, _, _, _, kk, by unfold numN; rw [← hs, e1], fun w' g => e2 w' g⟩
      obtain ⟨p1, p2, p3, p4, kk, hkk, hlk⟩ := hv
      have HKK := hide hkk
      have hb0 := heap_alloc_new w (.cells #[.slice a1 u.shapes.length c1, .slice a2 u.consts.length c2, .slice a3 u.funcs.length c3, .slice (some ⟨b, off, none⟩) u.imports.length c4, .slice a5 u.exports.length c5, .map (some mb), .int .i64 (c : Int), .int .i64 (f : Int)] 213)
      have KS : Hid (∀ w', Gr (w.alloc (.cells #[.slice a1 u.shapes.length c1, .slice a2 u.consts.length c2, .slice a3 u.funcs.length c3, .slice (some ⟨b, off, none⟩) u.imports.length c4, .slice a5 u.exports.length c5, .map (some mb), .int .i64 (c : Int), .int .i64 (f : Int)] 213)) w' → w'.cell? ⟨w.heap.size, 3, none⟩ = some (.slice (some ⟨b, off, none⟩) u.imports.length c4) ∧ w'.cell? ⟨w.heap.size, 5, none⟩ = some (.map (some mb)) ∧ w'.cell? ⟨b, off + k * 3, none⟩ = some (.string s) ∧ (Instr.lookup 161 (.map (some mb)) (.string s) false).run Tryd.prog w' = .ok (.agg #[p1, p2, p3, p4, .int .i64 kk]) w') := hide (fun w' g => by
        have g0 := ((Gr.refl w).alloc (.cells #[.slice a1 u.shapes.length c1, .slice a2 u.consts.length c2, .slice a3 u.funcs.length c3, .slice (some ⟨b, off, none⟩) u.imports.length c4, .slice a5 u.exports.length c5, .map (some mb), .int .i64 (c : Int), .int .i64 (f : Int)] 213)).trans g
        have e0 : w'.heap[w.heap.size]? = _ := (g.block w.heap.size (by simp) (by simp)).trans hb0
        exact ⟨by rw [hcell_ e0]; rfl, by rw [hcell_ e0]; rfl, g0.cell k0 (by simp), hlk w' g0⟩)
      clear hx hc hM hm hs hsz k0 hkk hlk hk hb0
      have hi2d : decide ((n : Int) < (u.funcs.length : Int) + (u.imports.length : Int)) = true := by simpa using hi2
      go_enter Tryd.func168, Tryd.ntmps168
      go_upto_region 5 with fail
      refine wp_region_held_drew (S := (fun w' => w'.cell? ⟨w.heap.size, 3, none⟩ = some (.slice (some ⟨b, off, none⟩) u.imports.length c4) ∧ w'.cell? ⟨w.heap.size, 5, none⟩ = some (.map (some mb)) ∧ w'.cell? ⟨b, off + k * 3, none⟩ = some (.string s) ∧ (Instr.lookup 161 (.map (some mb)) (.string s) false).run Tryd.prog w' = .ok (.agg #[p1, p2, p3, p4, .int .i64 kk]) w')) (by kernel_rfl) (KS.out _ (Gr.drew (Gr.refl _))) (fun hHeld => ?_)
      refine takeL (i := 0) (v := ?av0) rfl (by kernel_rfl) (by kernel_rfl) (by kernel_rfl) (by intro c a w h; exact h) (by rfl) ?ahy0 hHeld ?arest0
      case ahy0 => (intro w hSw; (try dsimp only at hSw); go_simp <;> with_reducible rfl)
      simp only [Act.put, List.setIfInBounds_toArray, List.set_cons_zero, List.set_cons_succ]
      refine takeL (i := 1) (v := ?av1) rfl (by kernel_rfl) (by kernel_rfl) (by kernel_rfl) (by intro c a w h; exact h) (by rfl) ?ahy1 hHeld ?arest1
      case ahy1 => (intro w hSw; (try dsimp only at hSw); go_simp <;> with_reducible rfl)
      simp only [Act.put, List.setIfInBounds_toArray, List.set_cons_zero, List.set_cons_succ]
      refine takeL (i := 2) (v := ?av2) rfl (by kernel_rfl) (by kernel_rfl) (by kernel_rfl) (by intro c a w h; exact h) (by rfl) ?ahy2 hHeld ?arest2
      case ahy2 => (intro w hSw; (try dsimp only at hSw); go_simp <;> with_reducible rfl)
      simp only [Act.put, List.setIfInBounds_toArray, List.set_cons_zero, List.set_cons_succ]
      refine takeL (i := 3) (v := ?av3) rfl (by kernel_rfl) (by kernel_rfl) (by kernel_rfl) (by intro c a w h; exact h) (by rfl) ?ahy3 hHeld ?arest3
      case ahy3 => (intro w hSw; (try dsimp only at hSw); go_simp <;> with_reducible rfl)
      simp only [Act.put, List.setIfInBounds_toArray, List.set_cons_zero, List.set_cons_succ]
      refine takeL (i := 4) (v := ?av4) rfl (by kernel_rfl) (by kernel_rfl) (by kernel_rfl) (by intro c a w h; exact h) (by rfl) ?ahy4 hHeld ?arest4
      case ahy4 => (intro w hSw; (try dsimp only at hSw); go_simp <;> with_reducible rfl)
      simp only [Act.put, List.setIfInBounds_toArray, List.set_cons_zero, List.set_cons_succ]
      refine takeL (i := 5) (v := ?av5) rfl (by kernel_rfl) (by kernel_rfl) (by kernel_rfl) (by intro c a w h; exact h) (by rfl) ?ahy5 hHeld ?arest5
      case ahy5 => (intro w hSw; (try dsimp only at hSw); go_simp <;> with_reducible rfl)
      simp only [Act.put, List.setIfInBounds_toArray, List.set_cons_zero, List.set_cons_succ]
      refine takeL (i := 6) (v := ?av6) rfl (by kernel_rfl) (by kernel_rfl) (by kernel_rfl) (by intro c a w h; exact h) (by rfl) ?ahy6 hHeld ?arest6
      case ahy6 => (intro w hSw; (try dsimp only at hSw); go_simp <;> with_reducible rfl)
      simp only [Act.put, List.setIfInBounds_toArray, List.set_cons_zero, List.set_cons_succ]
      refine takeL (i := 7) (v := ?av7) rfl (by kernel_rfl) (by kernel_rfl) (by kernel_rfl) (by intro c a w h; exact h) (by rfl) ?ahy7 hHeld ?arest7
      case ahy7 => (intro w hSw; (try dsimp only at hSw); go_simp <;> with_reducible rfl)
      simp only [Act.put, List.setIfInBounds_toArray, List.set_cons_zero, List.set_cons_succ]
      refine takeL (i := 8) (v := ?av8) rfl (by kernel_rfl) (by kernel_rfl) (by kernel_rfl) (by intro c a w h; exact h) (by rfl) ?ahy8 hHeld ?arest8
      case ahy8 => (intro w hSw; (try dsimp only at hSw); go_simp <;> with_reducible rfl)
      simp only [Act.put, List.setIfInBounds_toArray, List.set_cons_zero, List.set_cons_succ]
      refine takeL (i := 9) (v := ?av9) rfl (by kernel_rfl) (by kernel_rfl) (by kernel_rfl) (by intro c a w h; exact h) (by rfl) ?ahy9 hHeld ?arest9
      case ahy9 => (intro w hSw; (try dsimp only at hSw); go_simp <;> with_reducible rfl)
      simp only [Act.put, List.setIfInBounds_toArray, List.set_cons_zero, List.set_cons_succ]
      refine takeL (i := 10) (v := ?av10) rfl (by kernel_rfl) (by kernel_rfl) (by kernel_rfl) (by intro c a w h; exact h) (by rfl) ?ahy10 hHeld ?arest10
      case ahy10 => (intro w hSw; (try dsimp only at hSw); go_simp <;> with_reducible rfl)
      simp only [Act.put, List.setIfInBounds_toArray, List.set_cons_zero, List.set_cons_succ]
      refine takeL (i := 11) (v := ?av11) rfl (by kernel_rfl) (by kernel_rfl) (by kernel_rfl) (by intro c a w h; exact h) (by rfl) ?ahy11 hHeld ?arest11
      case ahy11 => (intro w hSw; (try dsimp only at hSw); go_simp <;> with_reducible rfl)
      simp only [Act.put, List.setIfInBounds_toArray, List.set_cons_zero, List.set_cons_succ]
      refine takeL (i := 12) (v := ?av12) rfl (by kernel_rfl) (by kernel_rfl) (by kernel_rfl) (by intro c a w h; exact h) (by rfl) ?ahy12 hHeld ?arest12
      case ahy12 => (intro w hSw; (try dsimp only at hSw); go_simp <;> with_reducible rfl)
      simp only [Act.put, List.setIfInBounds_toArray, List.set_cons_zero, List.set_cons_succ]
      refine takeL (i := 13) (v := ?av13) rfl (by kernel_rfl) (by kernel_rfl) (by kernel_rfl) (by intro c a w h; exact h) (by rfl) ?ahy13 hHeld ?arest13
      case ahy13 => (intro w hSw; (try dsimp only at hSw); go_simp <;> with_reducible rfl)
      simp only [Act.put, List.setIfInBounds_toArray, List.set_cons_zero, List.set_cons_succ]
      refine wpAnyH_done (by kernel_rfl) ?_ _
      clear KS hHeld
      go_wp2_with fail
      go_ret
      exact ⟨by rw [HE.out, HKK.out]; rfl, Gr.drew ((Gr.refl _).alloc _)⟩
    · have hi2 : decide ((n : Int) < (u.funcs.length : Int) + (u.imports.length : Int)) = false := by rw [decide_eq_false_iff_not]; omega
      have HE : Hid (fnNum N u f n = 65535) := hide (by unfold fnNum; rw [if_neg h, List.getElem?_eq_none (by omega)])
      clear hM
      go_enter Tryd.func168, Tryd.ntmps168
      go_wp2_with fail
      go_ret
      exact ⟨by rw [HE.out]; rfl, (Gr.refl _).alloc _⟩
end Go.Proofs.YtkgncijcnlfhiaaDoor

