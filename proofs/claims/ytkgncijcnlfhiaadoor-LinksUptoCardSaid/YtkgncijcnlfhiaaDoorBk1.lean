import Derived.Test.YtkgncijcnlfhiaaDoorHk
import Derived.Test.YtkgncijcnlfhiaaDoorGd
import Derived.Lib.AppendZeros
import Derived.Test.YtkgncijcnlfhiaaDoorH4
namespace Go.Proofs.YtkgncijcnlfhiaaDoor
set_option linter.unusedVariables false
set_option linter.unusedSimpArgs false
open Go.ChangeShapes Go.WideShapes Go.RowKit Go.Deep
theorem blk_sum {H : Type} : ∀ (l : List (DataW H)), Rows.uptoBulkAll l = (l.map Rows.uptoBulk).sum
  | [] => rfl
  | a :: l => by simp only [Rows.uptoBulkAll, List.map_cons, List.sum_cons, blk_sum l]
theorem le_sum : ∀ {l : List Nat} {n : Nat}, n ∈ l → n ≤ l.sum
  | a :: l, n, h => by
    rcases List.mem_cons.1 h with e | e
    · subst e; simp
    · have := le_sum e; simp only [List.sum_cons]; omega
theorem sum_le2 {α : Type} {f : α → Nat} : ∀ {l : List α} {bs : List Nat}, bs.length = l.length → (∀ (i : Nat) (y : α) (n : Nat), l[i]? = some y → bs[i]? = some n → f y ≤ n) → (l.map f).sum ≤ bs.sum
  | [], bs, _, _ => by simp
  | a :: l, [], h, _ => by simp at h
  | a :: l, b :: bs, h, k => by
    have h1 := k 0 a b rfl rfl
    have h2 := sum_le2 (f := f) (l := l) (bs := bs) (by simpa using h) (fun i y n hi hn => k (i + 1) y n (by simpa using hi) (by simpa using hn))
    simp only [List.map_cons, List.sum_cons]; omega
section
variable {H : Type} {enc : TypeId × Value → H} {w : World} {spare : Nat → Bool} {held : Bool}
theorem read_rowsW {t e : TypeId} {c : Nat} (ht : Tryd.prog.underlying t = some (.slice e)) (hc : Tryd.prog.cellsOf e = c) (hc0 : 0 < c) {α : Type} (El : List Value → α → Prop) (B : α → Nat → Prop)
    (hel : ∀ fuel cs y, DataW.trod enc Tryd.prog w 0 spare held fuel e cs = some y → cs.length = c → ∃ x : α, El cs x ∧ B x (Rows.uptoBulk y.1)) {fuel : Nat} {cs : List Value} {x : DataW H × List MemPlace} (h : DataW.trod enc Tryd.prog w 0 spare held fuel t cs = some x) :
    ∃ (v : Value) (l : List α) (ao : Option Addr) (cap : Nat), cs = [v] ∧ v = .slice ao l.length cap ∧ l.length ≤ maxLen ∧ (∃ bs : List Nat, bs.length = l.length ∧ bs.sum ≤ Rows.uptoBulk x.1 ∧ ∀ (i : Nat) (y : α) (n : Nat), l[i]? = some y → bs[i]? = some n → B y n) ∧
      ∀ (i : Nat) (y : α), l[i]? = some y → ∃ b off cs', ao = some ⟨b, off, none⟩ ∧ cs'.length = c ∧ (∀ j, j < c → w.cell? ⟨b, off + i * c + j, none⟩ = cs'[j]?) ∧ El cs' y := by
  rcases open_slice ht h with ⟨rfl, rfl⟩ | ⟨a, len, cap, m, n, D, Pl, rfl, hb, hl, hm, hmm, rfl, hx⟩
  · exact ⟨_, [], none, 0, rfl, rfl, Nat.zero_le _, ⟨[], rfl, by simp, fun i y n hi => by simp at hi⟩, fun i y hi => by simp at hi⟩
  · have hlm : len ≤ m := by rw [hmm]; split <;> omega
    have hall : ∀ i : Fin len, ∃ y : α, (∃ cs', w.cells? 0 (a.add (i.1 * c)) c = some cs' ∧ El cs' y) ∧ B y (Rows.uptoBulk (D i.1)) := fun i => by
      obtain ⟨cs', h1, h2⟩ := hx i.1 (by have := i.2; omega)
      rw [hc] at h1
      obtain ⟨_, hlen, _⟩ := World.cells?_some h1
      obtain ⟨y, k1, k2⟩ := hel n cs' _ h2 hlen
      exact ⟨y, ⟨cs', h1, k1⟩, k2⟩
    obtain ⟨f, hf⟩ := Classical.axiomOfChoice hall
    refine ⟨_, List.ofFn f, some a, cap, rfl, by rw [List.length_ofFn], by rw [List.length_ofFn]; omega, ⟨((List.range len).map D).map Rows.uptoBulk, by simp, ?_, fun i y n hi hn => ?_⟩, fun i y hi => ?_⟩
    · rw [← blk_sum]; simp only [Rows.uptoBulk]; omega
    · have hil : i < len := by have := (List.getElem?_eq_some_iff.1 hi).1; rwa [List.length_ofFn] at this
      have hfy : f ⟨i, hil⟩ = y := by
        rw [List.getElem?_ofFn, dif_pos hil] at hi; exact Option.some.inj hi
      have hn2 : Rows.uptoBulk (D i) = n := by
        simp only [List.map_map, List.getElem?_map, List.getElem?_range hil, Option.map_some, Option.some.injEq, Function.comp_apply] at hn
        exact hn
      rw [← hfy, ← hn2]; exact (hf ⟨i, hil⟩).2
    · have hil : i < len := by have := (List.getElem?_eq_some_iff.1 hi).1; rwa [List.length_ofFn] at this
      have hfy : f ⟨i, hil⟩ = y := by
        rw [List.getElem?_ofFn, dif_pos hil] at hi; exact Option.some.inj hi
      obtain ⟨⟨cs', h1, h2⟩, _⟩ := hf ⟨i, hil⟩
      rw [hfy] at h2
      obtain ⟨_, hlen, hcell⟩ := World.cells?_some h1
      obtain ⟨b, off, spot⟩ := a
      have hspot : spot = none := by
        obtain ⟨cs0, g1, _⟩ := hx 0 (by omega)
        rw [hc] at g1
        obtain ⟨_, glen, gcell⟩ := World.cells?_some g1
        have g2 := gcell 0 hc0
        have g3 : w.cell? (((⟨b, off, spot⟩ : Addr).add (0 * c)).add 0) = some (cs0[0]'(by omega)) := by rw [g2]; simp
        simpa [Addr.add] using World.cell?_spot g3
      subst hspot
      refine ⟨b, off, cs', rfl, hlen, fun j hj => ?_, h2⟩
      have := hcell j hj
      rw [add_add, add_plain] at this
      rw [show off + i * c + j = off + (i * c + j) by omega]; exact this
theorem read_unitW {fuel : Nat} {cs : List Value} {x : DataW H × List MemPlace} (h : DataW.trod enc Tryd.prog w 0 spare held fuel 28 cs = some x) : ∃ u : PUnit, RUnit w (.agg cs.toArray) u ∧ (Rows.uptoBulk x.1 ≤ 1048576 → Few u) ∧ u.shapes.length + u.funcs.length + u.imports.length + 1 ≤ Rows.uptoBulk x.1 ∧ 6 ≤ Rows.uptoBulk x.1 := by
  obtain ⟨xs, n, hy, hl, hxl, hf⟩ := open_struct Tryd.uUnit h
  rw [Tryd.cUnit] at hl
  obtain ⟨c0, c1, c2, c3, c4, rfl⟩ := list5 hl
  obtain ⟨y0, y1, y2, y3, y4, rfl⟩ := list5 hxl
  have g0 := hf 0 22 0 rfl
  have g1 := hf 1 23 1 rfl
  have g2 := hf 2 24 2 rfl
  have g3 := hf 3 25 3 rfl
  have g4 := hf 4 26 4 rfl
  rw [Tryd.cShs] at g0
  rw [Tryd.cInts] at g1
  rw [Tryd.cFs] at g2
  rw [Tryd.cIs] at g3
  rw [Tryd.cEs] at g4
  obtain ⟨w0, l0, k0, r0, s0, t0⟩ := read_shapes (x := y0) g0
  obtain ⟨w1, l1, k1, r1, s1, t1⟩ := read_ints (x := y1) g1
  obtain ⟨w2, l2, k2, r2, s2, t2⟩ := read_funcs (x := y2) g2
  obtain ⟨w3, l3, k3, r3, s3, t3⟩ := read_imports (x := y3) g3
  obtain ⟨w4, l4, k4, r4, s4⟩ := read_exports (x := y4) g4
  simp at k0 k1 k2 k3 k4
  subst k0 k1 k2 k3 k4
  rw [hy]
  have b0 := blk_one y0.1
  have b1 := blk_one y1.1
  have b2 := blk_one y2.1
  have b3 := blk_one y3.1
  have b4 := blk_one y4.1
  have ht : Rows.uptoBulk (DataW.agg (List.map (fun x => x.1) [y0, y1, y2, y3, y4])) = Rows.uptoBulk y0.1 + (Rows.uptoBulk y1.1 + (Rows.uptoBulk y2.1 + (Rows.uptoBulk y3.1 + (Rows.uptoBulk y4.1 + 0)))) + 1 := by
    simp only [List.map_cons, List.map_nil, Rows.uptoBulk, Rows.uptoBulkAll]
  rw [ht]
  refine ⟨⟨l0, l1, l2, l3, l4⟩, ⟨_, _, _, _, _, rfl, r0, r1, r2, r3, r4⟩, fun hb => ⟨?_, ?_, ?_, ?_, ?_, fun s hs => ?_, fun f hf => ?_, fun i hi => ?_⟩, ?_, ?_⟩
  · show l0.length ≤ _; omega
  · show l1.length ≤ _; omega
  · show l2.length ≤ _; omega
  · show l3.length ≤ _; omega
  · show l4.length ≤ _; omega
  · have := t0 s hs; omega
  · obtain ⟨q1, q2, q3⟩ := t2 f hf; exact ⟨by omega, by omega, by omega⟩
  · have := t3 i hi; omega
  · show l0.length + l2.length + l3.length + 1 ≤ _; omega
  · omega
theorem read_units {fuel : Nat} {v : Value} {x : DataW H × List MemPlace} (h : DataW.trod enc Tryd.prog w 0 spare held fuel 45 [v] = some x) (hb : Rows.uptoBulk x.1 ≤ 1048576) : ∃ l : List PUnit, RUnits w v l ∧ FewL l := by
  obtain ⟨v', l, ao, cap, e1, rfl, hm, ⟨bs, n1, n2, n3⟩, hcell⟩ := read_rowsW (c := 5) Tryd.underlying45 Tryd.cUnit (by decide) (fun cs u => RUnit w (.agg cs.toArray) u) (fun u n => (n ≤ 1048576 → Few u) ∧ u.shapes.length + u.funcs.length + u.imports.length + 1 ≤ n ∧ 6 ≤ n)
    (fun fuel cs y h _ => by obtain ⟨u, k1, k2, k3, k4⟩ := read_unitW h; exact ⟨u, k1, k2, k3, k4⟩) h
  obtain rfl : v = .slice ao l.length cap := by simpa using e1
  refine ⟨l, ⟨ao, cap, rfl, hm, fun i u hi => ?_⟩, ⟨fun u hu => ?_, ?_, ?_⟩⟩
  · obtain ⟨b, off, cs, rfl, hl, hc, hr⟩ := hcell i u hi
    obtain ⟨c0, c1, c2, c3, c4, rfl⟩ := list5 hl
    exact ⟨b, off, c0, c1, c2, c3, c4, rfl, hc 0 (by decide), hc 1 (by decide), hc 2 (by decide), hc 3 (by decide), hc 4 (by decide), hr⟩
  · obtain ⟨i, hi⟩ := List.getElem?_of_mem hu
    have hil : i < bs.length := by rw [n1]; exact (List.getElem?_eq_some_iff.1 hi).1
    obtain ⟨k, hk⟩ := getElem?_lt hil
    have := le_sum (List.mem_of_getElem? hk)
    exact (n3 i u k hi hk).1 (by omega)
  · have := sum_le2 (f := fun u : PUnit => u.shapes.length + u.funcs.length + u.imports.length + 1) n1 (fun i y n hi hn => (n3 i y n hi hn).2.1)
    omega
  · have := sum_le2 (f := fun _ : PUnit => 6) n1 (fun i y n hi hn => (n3 i y n hi hn).2.2)
    rw [List.map_const', List.sum_replicate_nat] at this
    omega
end
end Go.Proofs.YtkgncijcnlfhiaaDoor

namespace Go.Proofs.YtkgncijcnlfhiaaDoor
set_option linter.unusedVariables false
set_option linter.unusedSimpArgs false
open Go.RowKit
theorem grow_fits {n m c b : Nat} (hc : c < n + m) (h : (n + m) * b ≤ 140737488355328) : Builtin.nextslicecap (n + m) c * b ≤ 281474976710656 := growslice_fits hc h
section
variable {ops : Array Oper} {rest : List Oper} {o : Oper} {a : Act} {Q : Exit → Act → World → Prop}
/-- append of one element, whose cells lie in a block of their own; what the old slice reads it reads still -/
theorem wpList_append_kept (w : World) (hgd : o.guard = none) (s x : Operand) (t e : TypeId) (n bytes : Nat) (zero : Value) (inf : (Tryd.prog.info? e).map (fun i => (i.zero, i.size, i.bytes)) = some (some zero, n, bytes)) (ht : Tryd.prog.underlying t = some (.slice e)) (hzs : zero.cells.size = n) (hn : 0 < n) (hby : bytes ≤ 1000)
    (ho : o.op = .call { callee := .builtin .append, args := #[s, x], argTypes := #[t, t] })
    (base : Nat) (v : Value) (len : Nat) (xs : List Value) (hs : a.eval s = v) (hown : w.ownsRow base e n v len xs) (ys : Array Value) (hys : ys.size = n) (h1 : ∀ u ∈ ys.toList, u.oneCell' = true)
    (H : Nat) (hx : a.eval x = .slice (some ⟨H, 0, none⟩) 1 1) (hH : w.heap.size = H) (hlen : len ≤ 10000000) (hbase : base ≤ w.heap.size)
    (h : ∀ v' w', Ap base e n w v w' v' (len + 1) (xs ++ ys.toList) → (v'.ownBlock = v.ownBlock ∨ w.grownBy w' none) → wpList Tryd.prog ops Q rest (a.put o.dst v') w') :
    wpList Tryd.prog ops Q (o :: rest) a (w.alloc (.cells ys e)) := by
  subst hH
  obtain ⟨i0, hi, hz0, hz1, hz2⟩ := info_parts inf
  have hb : (len + 1) * bytes ≤ 140737488355328 := Nat.le_trans (Nat.mul_le_mul (Nat.add_le_add_right hlen 1) hby) (by decide)
  have h63 : len + 1 ≤ maxLen := by unfold maxLen; omega
  have hl : ys.toList.length = 1 * n := by rw [Array.length_toList, hys, Nat.one_mul]
  have hown1 := hown.alloc (.cells ys e)
  obtain ⟨v', w', hr, k1, k2, _, k4⟩ := run_append_own_at (P := Tryd.prog) (w.alloc (.cells ys e)) base t o.type e i0 zero n bytes ht hi hz0 hz1 hz2 hzs hn v len xs hown1 ⟨w.heap.size, 0, none⟩ 1 1 ys.toList hl (cells_new _ _ _) h1 h63 hb (by simp; omega)
  have hk : v'.ownBlock = v.ownBlock ∨ (w.alloc (.cells ys e)).grownBy w' none := by
    rcases hown1.2 with ⟨rfl, rfl⟩ | ⟨g, cap, cur, rfl, hbg, hg, hnc, hcm, hcs, htake⟩
    · exact .inr k2
    · by_cases hroom : len + 1 ≤ cap
      · have hr2 := run_append_room (P := Tryd.prog) (w.alloc (.cells ys e)) t o.type e i0 ht hi g len cap cur hg ⟨w.heap.size, 0, none⟩ 1 1 ys.toList (by rw [hz1]; exact hl) (cells_new _ _ _) h1 hroom (by rw [hl, hcs, hz1, ← Nat.add_mul]; exact Nat.mul_le_mul_right _ hroom)
        rw [hr] at hr2
        simp only [Result.ok.injEq] at hr2
        left; rw [hr2.1]; rfl
      · have holds : ∀ j u, xs[j]? = some u → (w.alloc (.cells ys e)).cell? ((⟨g, 0, none⟩ : Addr).add j) = some u := hown1.cells (g := g) rfl
        have hr2 := run_append_grow (P := Tryd.prog) (w.alloc (.cells ys e)) t o.type e i0 zero ht hi hz0 ⟨g, 0, none⟩ len cap xs (by rw [hz1]; exact hown1.1) holds ⟨w.heap.size, 0, none⟩ 1 1 ys.toList (by rw [hz1]; exact hl) (cells_new _ _ _) (by omega) (by unfold maxLen at h63; omega) (by rw [hz2]; exact grow_fits (by omega) hb)
        rw [hr] at hr2
        simp only [Result.ok.injEq] at hr2
        right
        rw [hr2.2]
        exact ⟨rfl, rfl, rfl, by simp, fun k hk _ => heap_alloc_old (w.alloc (.cells ys e)).drew _ hk⟩
  refine Lib.wpList_append_run _ hgd s x t t ho _ _ hs hx v' w' hr ?_
  refine h v' w' ⟨k1, (World.grownBy_alloc w _ _).trans k2, fun k hk => ?_⟩ (hk.imp id fun g => (World.grownBy_alloc w _ _).trans g)
  rcases k4 with e | e
  · exact .inl (e ▸ hk)
  · rw [hk] at e; simp at e; right; omega
end
/-- what a slice reads -/
def Ent (sz : Nat) (w : World) (v : Value) (L : Nat) (xs : List Value) : Prop := ∃ ao c, v = .slice ao L c ∧ L ≤ maxLen ∧ xs.length = L * sz ∧ ∀ j u, xs[j]? = some u → ∃ b, ao = some ⟨b, 0, none⟩ ∧ w.cell? ⟨b, j, none⟩ = some u
theorem Ent.of_own {w : World} {B : Nat} {e : TypeId} {sz : Nat} {v : Value} {L : Nat} {xs : List Value} (h : w.ownsRow B e sz v L xs) : Ent sz w v L xs := by
  obtain ⟨⟨ao, c, rfl⟩, hm⟩ := own_form h
  refine ⟨ao, c, rfl, hm, h.1, fun j u hj => ?_⟩
  have hjl : j < L * sz := by rw [← h.1]; exact (List.getElem?_eq_some_iff.1 hj).1
  obtain ⟨g, _, _, ⟨c', h3⟩, h4⟩ := own_at h hjl
  simp only [Value.slice.injEq, true_and] at h3
  exact ⟨g, h3.1, by rw [Nat.zero_add] at h4; rw [h4]; exact hj⟩
theorem Ent.keep {sz : Nat} {w w' : World} {v : Value} {L : Nat} {xs : List Value} (h : Ent sz w v L xs) (g : ∀ b, v.ownBlock = some b → w'.heap[b]? = w.heap[b]?) : Ent sz w' v L xs := by
  obtain ⟨ao, c, rfl, hm, hl, hc⟩ := h
  refine ⟨ao, c, rfl, hm, hl, fun j u hj => ?_⟩
  obtain ⟨b, rfl, h2⟩ := hc j u hj
  exact ⟨b, rfl, (World.cell?_of_block (g b rfl)).trans h2⟩
/-- an append behind it: a slice of what the old one reads reads it still -/
theorem Ent.app {B B' : Nat} {e : TypeId} {sz : Nat} {w w' : World} {v v' x : Value} {L Le : Nat} {xs xe ys : List Value} (h : Ent sz w x Le xe) (hp : xe <+: xs) (hown : w.ownsRow B e sz v L xs) (hown' : w'.ownsRow B' e sz v' (L + 1) (xs ++ ys)) (hf : w.grownBy w' v.ownBlock) (hk : v'.ownBlock = v.ownBlock ∨ w.grownBy w' none) : Ent sz w' x Le xe := by
  obtain ⟨ao, c, rfl, hm, hl, hc⟩ := h
  refine ⟨ao, c, rfl, hm, hl, fun j u hj => ?_⟩
  obtain ⟨b, rfl, h2⟩ := hc j u hj
  refine ⟨b, rfl, ?_⟩
  have hbl : b < w.heap.size := World.block_lt_of_cell? w _ h2
  by_cases hb : v.ownBlock = some b
  · rcases hk with hk | hk
    · obtain ⟨zs, rfl⟩ := hp
      have hx : (xe ++ zs ++ ys)[j]? = some u := by
        have hjl := (List.getElem?_eq_some_iff.1 hj).1
        rw [List.append_assoc, List.getElem?_append_left hjl]; exact hj
      have hjl : j < (L + 1) * sz := by rw [← hown'.1]; exact (List.getElem?_eq_some_iff.1 hx).1
      obtain ⟨g, h1, _, _, h4⟩ := own_at hown' hjl
      rw [hk, hb] at h1
      obtain rfl := Option.some.inj h1
      rw [Nat.zero_add] at h4
      rw [h4]; exact hx
    · exact (World.cell?_of_block (a := ⟨b, j, none⟩) (hk.block b hbl (by simp))).trans h2
  · exact (World.cell?_of_block (a := ⟨b, j, none⟩) (hf.block b hbl (fun e => hb e.symm))).trans h2
end Go.Proofs.YtkgncijcnlfhiaaDoor

