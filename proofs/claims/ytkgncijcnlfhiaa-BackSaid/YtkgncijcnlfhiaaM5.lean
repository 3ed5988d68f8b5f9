import Derived.Test.YtkgncijcnlfhiaaM4
namespace Go.Proofs.Ytkgncijcnlfhiaa
set_option linter.unusedVariables false
set_option linter.unusedSimpArgs false
open Go.RowKit
/- lists in memory, all of whose blocks are such ones -/
def RIntsP (P : Nat → Prop) (w : World) (v : Value) (l : List Int) : Prop :=
  ∃ ao cap, v = .slice ao l.length cap ∧ l.length ≤ maxLen ∧ ∀ i y, l[i]? = some y → ∃ b off, ao = some ⟨b, off, none⟩ ∧ P b ∧ w.cell? ⟨b, off + i, none⟩ = some (.int .i64 y)
def RShapesP (P : Nat → Prop) (w : World) (v : Value) (l : List (List Int)) : Prop :=
  ∃ ao cap, v = .slice ao l.length cap ∧ l.length ≤ maxLen ∧ ∀ i x, l[i]? = some x → ∃ b off vx, ao = some ⟨b, off, none⟩ ∧ P b ∧ w.cell? ⟨b, off + i, none⟩ = some vx ∧ RIntsP P w vx x
def RCodeP (P : Nat → Prop) (w : World) (v : Value) (l : List PIns) : Prop :=
  ∃ ao cap, v = .slice ao l.length cap ∧ l.length ≤ maxLen ∧ ∀ i x, l[i]? = some x → ∃ b off, ao = some ⟨b, off, none⟩ ∧ P b ∧
    w.cell? ⟨b, off + i * 3, none⟩ = some (.int .i64 x.op) ∧ w.cell? ⟨b, off + i * 3 + 1, none⟩ = some (.int .i64 x.a) ∧ w.cell? ⟨b, off + i * 3 + 2, none⟩ = some (.int .i64 x.b)
def RFuncsP (P : Nat → Prop) (w : World) (v : Value) (l : List PFunc) : Prop :=
  ∃ ao cap, v = .slice ao l.length cap ∧ l.length ≤ maxLen ∧ ∀ i x, l[i]? = some x → ∃ b off vp vl vc, ao = some ⟨b, off, none⟩ ∧ P b ∧
    w.cell? ⟨b, off + i * 4, none⟩ = some vp ∧ w.cell? ⟨b, off + i * 4 + 1, none⟩ = some (.int .i64 x.result) ∧ w.cell? ⟨b, off + i * 4 + 2, none⟩ = some vl ∧ w.cell? ⟨b, off + i * 4 + 3, none⟩ = some vc ∧
    RIntsP P w vp x.params ∧ RIntsP P w vl x.locals ∧ RCodeP P w vc x.code
def RImportsP (P : Nat → Prop) (w : World) (v : Value) (l : List PImp) : Prop :=
  ∃ ao cap, v = .slice ao l.length cap ∧ l.length ≤ maxLen ∧ ∀ i x, l[i]? = some x → ∃ b off vs vp, ao = some ⟨b, off, none⟩ ∧ P b ∧
    w.cell? ⟨b, off + i * 3, none⟩ = some vs ∧ w.cell? ⟨b, off + i * 3 + 1, none⟩ = some vp ∧ w.cell? ⟨b, off + i * 3 + 2, none⟩ = some (.int .i64 x.result) ∧
    RText vs x.name ∧ RIntsP P w vp x.params
def RExportsP (P : Nat → Prop) (w : World) (v : Value) (l : List PExp) : Prop :=
  ∃ ao cap, v = .slice ao l.length cap ∧ l.length ≤ maxLen ∧ ∀ i x, l[i]? = some x → ∃ b off vs, ao = some ⟨b, off, none⟩ ∧ P b ∧
    w.cell? ⟨b, off + i * 2, none⟩ = some vs ∧ w.cell? ⟨b, off + i * 2 + 1, none⟩ = some (.int .i64 x.func) ∧ RText vs x.name

/-- such blocks have not turned, and are such ones again -/
def Stay (P P' : Nat → Prop) (w w' : World) : Prop := ∀ b, P b → b < w.heap.size → w'.heap[b]? = w.heap[b]? ∧ P' b
theorem Stay.cell {P P' : Nat → Prop} {w w' : World} (h : Stay P P' w w') {b o : Nat} {x : Value} (hb : P b) (hx : w.cell? ⟨b, o, none⟩ = some x) : w'.cell? ⟨b, o, none⟩ = some x ∧ P' b := by
  obtain ⟨h1, h2⟩ := h b hb (World.block_lt_of_cell? w _ hx)
  exact ⟨(World.cell?_of_block (a := ⟨b, o, none⟩) h1).trans hx, h2⟩
theorem RIntsP.stay {P P' : Nat → Prop} {w w' : World} {v : Value} {l : List Int} (h : RIntsP P w v l) (g : Stay P P' w w') : RIntsP P' w' v l := by
  obtain ⟨ao, cap, hv, hm, hc⟩ := h
  refine ⟨ao, cap, hv, hm, fun i x hi => ?_⟩
  obtain ⟨b, off, h1, h2, h3⟩ := hc i x hi
  exact ⟨b, off, h1, (g.cell h2 h3).2, (g.cell h2 h3).1⟩
theorem RCodeP.stay {P P' : Nat → Prop} {w w' : World} {v : Value} {l : List PIns} (h : RCodeP P w v l) (g : Stay P P' w w') : RCodeP P' w' v l := by
  obtain ⟨ao, cap, hv, hm, hc⟩ := h
  refine ⟨ao, cap, hv, hm, fun i x hi => ?_⟩
  obtain ⟨b, off, h1, h2, h3, h4, h5⟩ := hc i x hi
  exact ⟨b, off, h1, (g.cell h2 h3).2, (g.cell h2 h3).1, (g.cell h2 h4).1, (g.cell h2 h5).1⟩
theorem RShapesP.stay {P P' : Nat → Prop} {w w' : World} {v : Value} {l : List (List Int)} (h : RShapesP P w v l) (g : Stay P P' w w') : RShapesP P' w' v l := by
  obtain ⟨ao, cap, hv, hm, hc⟩ := h
  refine ⟨ao, cap, hv, hm, fun i x hi => ?_⟩
  obtain ⟨b, off, vx, h1, h2, h3, h4⟩ := hc i x hi
  exact ⟨b, off, vx, h1, (g.cell h2 h3).2, (g.cell h2 h3).1, h4.stay g⟩
theorem RFuncsP.stay {P P' : Nat → Prop} {w w' : World} {v : Value} {l : List PFunc} (h : RFuncsP P w v l) (g : Stay P P' w w') : RFuncsP P' w' v l := by
  obtain ⟨ao, cap, hv, hm, hc⟩ := h
  refine ⟨ao, cap, hv, hm, fun i x hi => ?_⟩
  obtain ⟨b, off, vp, vl, vc, h1, h2, h3, h4, h5, h6, h7, h8, h9⟩ := hc i x hi
  exact ⟨b, off, vp, vl, vc, h1, (g.cell h2 h3).2, (g.cell h2 h3).1, (g.cell h2 h4).1, (g.cell h2 h5).1, (g.cell h2 h6).1, h7.stay g, h8.stay g, h9.stay g⟩
theorem RImportsP.stay {P P' : Nat → Prop} {w w' : World} {v : Value} {l : List PImp} (h : RImportsP P w v l) (g : Stay P P' w w') : RImportsP P' w' v l := by
  obtain ⟨ao, cap, hv, hm, hc⟩ := h
  refine ⟨ao, cap, hv, hm, fun i x hi => ?_⟩
  obtain ⟨b, off, vs, vp, h1, h2, h3, h4, h5, h6, h7⟩ := hc i x hi
  exact ⟨b, off, vs, vp, h1, (g.cell h2 h3).2, (g.cell h2 h3).1, (g.cell h2 h4).1, (g.cell h2 h5).1, h6, h7.stay g⟩
theorem RExportsP.stay {P P' : Nat → Prop} {w w' : World} {v : Value} {l : List PExp} (h : RExportsP P w v l) (g : Stay P P' w w') : RExportsP P' w' v l := by
  obtain ⟨ao, cap, hv, hm, hc⟩ := h
  refine ⟨ao, cap, hv, hm, fun i x hi => ?_⟩
  obtain ⟨b, off, vs, h1, h2, h3, h4, h5⟩ := hc i x hi
  exact ⟨b, off, vs, h1, (g.cell h2 h3).2, (g.cell h2 h3).1, (g.cell h2 h4).1, h5⟩
theorem RIntsP.to {P : Nat → Prop} {w : World} {v : Value} {l : List Int} (h : RIntsP P w v l) : RIntsF 0 w v l := h.stay (P' := fun b => 0 ≤ b) fun _ _ _ => ⟨rfl, Nat.zero_le _⟩
theorem RShapesP.to {P : Nat → Prop} {w : World} {v : Value} {l : List (List Int)} (h : RShapesP P w v l) : RShapesF 0 w v l := h.stay (P' := fun b => 0 ≤ b) fun _ _ _ => ⟨rfl, Nat.zero_le _⟩
theorem RFuncsP.to {P : Nat → Prop} {w : World} {v : Value} {l : List PFunc} (h : RFuncsP P w v l) : RFuncsF 0 w v l := h.stay (P' := fun b => 0 ≤ b) fun _ _ _ => ⟨rfl, Nat.zero_le _⟩
theorem RImportsP.to {P : Nat → Prop} {w : World} {v : Value} {l : List PImp} (h : RImportsP P w v l) : RImportsF 0 w v l := h.stay (P' := fun b => 0 ≤ b) fun _ _ _ => ⟨rfl, Nat.zero_le _⟩
theorem RExportsP.to {P : Nat → Prop} {w : World} {v : Value} {l : List PExp} (h : RExportsP P w v l) : RExportsF 0 w v l := h.stay (P' := fun b => 0 ≤ b) fun _ _ _ => ⟨rfl, Nat.zero_le _⟩

/-- all but the row that grows (and, behind it, one block more) -/
def Bt (B : Nat) (v : Value) (b : Nat) : Prop := B ≤ b ∧ ¬ v.ownBlock = some b
/-- an element at its place -/
theorem flat_at {α : Type} {f : α → List Value} {n : Nat} (hf : ∀ x, (f x).length = n) : ∀ {l : List α} {i j : Nat} {x : α}, l[i]? = some x → j < n → (l.flatMap f)[i * n + j]? = (f x)[j]?
  | [], i, j, x, h, _ => by simp at h
  | a :: l, 0, j, x, h, hj => by
    simp only [List.getElem?_cons_zero, Option.some.injEq] at h
    subst h
    rw [List.flatMap_cons, Nat.zero_mul, Nat.zero_add, List.getElem?_append_left (by rw [hf]; exact hj)]
  | a :: l, i + 1, j, x, h, hj => by
    rw [List.getElem?_cons_succ] at h
    rw [List.flatMap_cons, List.getElem?_append_right (by rw [hf, Nat.add_mul]; omega), hf, show (i + 1) * n + j - n = i * n + j by rw [Nat.add_mul]; omega]
    exact flat_at hf h hj
theorem flat_size {α : Type} {f : α → List Value} {n : Nat} (hf : ∀ x, (f x).length = n) : ∀ (l : List α), (l.flatMap f).length = l.length * n
  | [] => by simp
  | a :: l => by rw [List.flatMap_cons, List.length_append, hf, flat_size hf l, List.length_cons, Nat.add_mul]; omega
theorem own_at {w : World} {B : Nat} {e : TypeId} {n len : Nat} {v : Value} {xs : List Value} (h : w.ownsRow B e n v len xs) {j : Nat} (hj : j < len * n) : ∃ g, v.ownBlock = some g ∧ B ≤ g ∧ (∃ cap, v = .slice (some ⟨g, 0, none⟩) len cap) ∧ w.cell? ⟨g, 0 + j, none⟩ = xs[j]? := by
  have h' := h
  rcases h.2 with ⟨rfl, rfl⟩ | ⟨g, cap, cur, rfl, hg, _⟩
  · simp at hj
  · exact ⟨g, rfl, hg, ⟨cap, rfl⟩, by rw [Nat.zero_add]; exact h'.cellAt j hj⟩
theorem own_form {w : World} {B : Nat} {e : TypeId} {n len : Nat} {v : Value} {xs : List Value} (h : w.ownsRow B e n v len xs) : (∃ ao cap, v = .slice ao len cap) ∧ len ≤ maxLen := by
  rcases h.2 with ⟨rfl, rfl⟩ | ⟨g, cap, cur, rfl, hg, _, h1, h2, _⟩
  · exact ⟨⟨none, 0, rfl⟩, by decide⟩
  · exact ⟨⟨_, _, rfl⟩, Nat.le_trans h1 h2⟩
theorem row_of {w : World} {B : Nat} {e : TypeId} {n : Nat} {v : Value} {α : Type} {f : α → List Value} {l : List α} (hf : ∀ x, (f x).length = n) (h : w.ownsRow B e n v l.length (l.flatMap f)) (hn : 0 < n) :
    ∃ ao cap, v = .slice ao l.length cap ∧ l.length ≤ maxLen ∧ ∀ i x, l[i]? = some x → ∃ b, ao = some ⟨b, 0, none⟩ ∧ B ≤ b ∧ v.ownBlock = some b ∧ ∀ j, j < n → w.cell? ⟨b, 0 + (i * n + j), none⟩ = (f x)[j]? := by
  obtain ⟨⟨ao, cap, hv⟩, hm⟩ := own_form h
  refine ⟨ao, cap, hv, hm, fun i x hi => ?_⟩
  have hil : i < l.length := (List.getElem?_eq_some_iff.1 hi).1
  have hb : ∀ j, j < n → i * n + j < l.length * n := fun j hj => by
    have h1 : (i + 1) * n ≤ l.length * n := Nat.mul_le_mul_right _ hil
    rw [Nat.add_mul] at h1; omega
  obtain ⟨g, h1, h2, ⟨cap', h3⟩, _⟩ := own_at h (hb 0 hn)
  refine ⟨g, ?_, h2, h1, fun j hj => ?_⟩
  · rw [hv] at h3; simp only [Value.slice.injEq] at h3; exact h3.1
  · obtain ⟨g', k1, _, _, k4⟩ := own_at h (hb j hj)
    rw [h1] at k1; simp only [Option.some.injEq] at k1; subst k1
    rw [k4]; exact flat_at hf hi hj
def fI (x : Int) : List Value := [.int .i64 x]
def fC (i : PIns) : List Value := [.int .i64 i.op, .int .i64 i.a, .int .i64 i.b]
def fS (e : Value × List Int) : List Value := [e.1]
structure BF where
  vp : Value
  vl : Value
  vc : Value
  f : PFunc
def fF (e : BF) : List Value := [e.vp, .int .i64 e.f.result, e.vl, e.vc]
structure BI where
  vs : Value
  vp : Value
  i : PImp
def fM (e : BI) : List Value := [e.vs, e.vp, .int .i64 e.i.result]
structure BE where
  vs : Value
  e : PExp
def fE (e : BE) : List Value := [e.vs, .int .i64 e.e.func]

theorem ints_of {P : Nat → Prop} {w : World} {B : Nat} {e : TypeId} {v : Value} {l : List Int} (h : w.ownsRow B e 1 v l.length (l.flatMap fI)) (hP : ∀ b, B ≤ b → P b) : RIntsP P w v l := by
  obtain ⟨ao, cap, hv, hm, hc⟩ := row_of (f := fI) (fun _ => rfl) h (by decide)
  refine ⟨ao, cap, hv, hm, fun i x hi => ?_⟩
  obtain ⟨b, h1, h2, _, h3⟩ := hc i x hi
  exact ⟨b, 0, h1, hP b h2, by have := h3 0 (by decide); rw [Nat.mul_one] at this; exact this⟩
theorem code_of {P : Nat → Prop} {w : World} {B : Nat} {e : TypeId} {v : Value} {l : List PIns} (h : w.ownsRow B e 3 v l.length (l.flatMap fC)) (hP : ∀ b, B ≤ b → P b) : RCodeP P w v l := by
  obtain ⟨ao, cap, hv, hm, hc⟩ := row_of (f := fC) (fun _ => rfl) h (by decide)
  refine ⟨ao, cap, hv, hm, fun i x hi => ?_⟩
  obtain ⟨b, h1, h2, _, h3⟩ := hc i x hi
  exact ⟨b, 0, h1, hP b h2, h3 0 (by decide), h3 1 (by decide), h3 2 (by decide)⟩
theorem shapes_of {P : Nat → Prop} {w : World} {B : Nat} {e : TypeId} {v : Value} {es : List (Value × List Int)} (h : w.ownsRow B e 1 v es.length (es.flatMap fS)) (hP : ∀ b, B ≤ b → P b) (he : ∀ e ∈ es, RIntsP P w e.1 e.2) : RShapesP P w v (es.map (·.2)) := by
  obtain ⟨ao, cap, hv, hm, hc⟩ := row_of (f := fS) (fun _ => rfl) h (by decide)
  refine ⟨ao, cap, by rw [List.length_map]; exact hv, by rw [List.length_map]; exact hm, fun i x hi => ?_⟩
  rw [List.getElem?_map, Option.map_eq_some_iff] at hi
  obtain ⟨y, hy, rfl⟩ := hi
  obtain ⟨b, h1, h2, _, h3⟩ := hc i y hy
  exact ⟨b, 0, y.1, h1, hP b h2, by have := h3 0 (by decide); rw [Nat.mul_one] at this; exact this, he y (List.mem_of_getElem? hy)⟩
theorem funcs_of {P : Nat → Prop} {w : World} {B : Nat} {e : TypeId} {v : Value} {es : List BF} (h : w.ownsRow B e 4 v es.length (es.flatMap fF)) (hP : ∀ b, B ≤ b → P b) (he : ∀ e ∈ es, RIntsP P w e.vp e.f.params ∧ RIntsP P w e.vl e.f.locals ∧ RCodeP P w e.vc e.f.code) : RFuncsP P w v (es.map (·.f)) := by
  obtain ⟨ao, cap, hv, hm, hc⟩ := row_of (f := fF) (fun _ => rfl) h (by decide)
  refine ⟨ao, cap, by rw [List.length_map]; exact hv, by rw [List.length_map]; exact hm, fun i x hi => ?_⟩
  rw [List.getElem?_map, Option.map_eq_some_iff] at hi
  obtain ⟨y, hy, rfl⟩ := hi
  obtain ⟨b, h1, h2, _, h3⟩ := hc i y hy
  obtain ⟨k1, k2, k3⟩ := he y (List.mem_of_getElem? hy)
  exact ⟨b, 0, y.vp, y.vl, y.vc, h1, hP b h2, h3 0 (by decide), h3 1 (by decide), h3 2 (by decide), h3 3 (by decide), k1, k2, k3⟩
theorem imps_of {P : Nat → Prop} {w : World} {B : Nat} {e : TypeId} {v : Value} {es : List BI} (h : w.ownsRow B e 3 v es.length (es.flatMap fM)) (hP : ∀ b, B ≤ b → P b) (he : ∀ e ∈ es, RText e.vs e.i.name ∧ RIntsP P w e.vp e.i.params) : RImportsP P w v (es.map (·.i)) := by
  obtain ⟨ao, cap, hv, hm, hc⟩ := row_of (f := fM) (fun _ => rfl) h (by decide)
  refine ⟨ao, cap, by rw [List.length_map]; exact hv, by rw [List.length_map]; exact hm, fun i x hi => ?_⟩
  rw [List.getElem?_map, Option.map_eq_some_iff] at hi
  obtain ⟨y, hy, rfl⟩ := hi
  obtain ⟨b, h1, h2, _, h3⟩ := hc i y hy
  obtain ⟨k1, k2⟩ := he y (List.mem_of_getElem? hy)
  exact ⟨b, 0, y.vs, y.vp, h1, hP b h2, h3 0 (by decide), h3 1 (by decide), h3 2 (by decide), k1, k2⟩
theorem exps_of {P : Nat → Prop} {w : World} {B : Nat} {e : TypeId} {v : Value} {es : List BE} (h : w.ownsRow B e 2 v es.length (es.flatMap fE)) (hP : ∀ b, B ≤ b → P b) (he : ∀ e ∈ es, RText e.vs e.e.name) : RExportsP P w v (es.map (·.e)) := by
  obtain ⟨ao, cap, hv, hm, hc⟩ := row_of (f := fE) (fun _ => rfl) h (by decide)
  refine ⟨ao, cap, by rw [List.length_map]; exact hv, by rw [List.length_map]; exact hm, fun i x hi => ?_⟩
  rw [List.getElem?_map, Option.map_eq_some_iff] at hi
  obtain ⟨y, hy, rfl⟩ := hi
  obtain ⟨b, h1, h2, _, h3⟩ := hc i y hy
  exact ⟨b, 0, y.vs, h1, hP b h2, h3 0 (by decide), h3 1 (by decide), he y (List.mem_of_getElem? hy)⟩

/-- a row has grown by an element: what lies elsewhere has stayed -/
theorem Ap.stay {B : Nat} {e : TypeId} {n : Nat} {w w' : World} {v v' : Value} {len : Nat} {xs : List Value} (h : Ap B e n w v w' v' len xs) : Stay (Bt B v) (Bt B v') w w' := by
  intro b hb hl
  refine ⟨h.frm.block b hl (fun e => hb.2 e.symm), hb.1, fun e => ?_⟩
  rcases h.lies b e with k | k
  · exact hb.2 k
  · omega
theorem Stay.set {P P' : Nat → Prop} {w w' : World} {g o : Nat} {u : Value} (h : Stay P P' w w') (hg : ∀ b, P b → ¬ b = g) : Stay P P' w (w'.setCell ⟨g, o, none⟩ u) := by
  intro b hb hl
  exact ⟨by rw [Below.heap_setCell _ _ _ _ (hg b hb)]; exact (h b hb hl).1, (h b hb hl).2⟩
theorem Stay.gc {P : Nat → Prop} {w w' : World} {mb : Nat} (h : Gc mb w w') (hg : ∀ b, P b → ¬ b = mb) : Stay P P w w' := by
  intro b hb hl
  exact ⟨h.block b hl (by intro e; simp only [Option.some.injEq] at e; exact hg b hb e), hb⟩
theorem Stay.trans {P P' P'' : Nat → Prop} {w w' w'' : World} (h : Stay P P' w w') (k : Stay P' P'' w' w'') (hs : w.heap.size ≤ w'.heap.size) : Stay P P'' w w'' := by
  intro b hb hl
  obtain ⟨h1, h2⟩ := h b hb hl
  obtain ⟨k1, k2⟩ := k b h2 (Nat.lt_of_lt_of_le hl hs)
  exact ⟨k1.trans h1, k2⟩
end Go.Proofs.Ytkgncijcnlfhiaa
