import Derived.Test.YtkgncijcnlfhiaaDoorH1
import Derived.Laws.CopyOwn
import Derived.Lib.OwnKind
namespace Go.Proofs.YtkgncijcnlfhiaaDoor
set_option linter.unusedVariables false
set_option linter.unusedSimpArgs false
open Go.RowKit
def RIntsP (P : Nat → Prop) (w : World) (v : Value) (l : List Int) : Prop :=
  ∃ ao cap, v = .slice ao l.length cap ∧ l.length ≤ maxLen ∧ ∀ i y, l[i]? = some y → ∃ b off, ao = some ⟨b, off, none⟩ ∧ P b ∧ w.cell? ⟨b, off + i, none⟩ = some (.int .i64 y)
def RShapesP (P : Nat → Prop) (w : World) (v : Value) (l : List (List Int)) : Prop :=
  ∃ ao cap, v = .slice ao l.length cap ∧ l.length ≤ maxLen ∧ ∀ i x, l[i]? = some x → ∃ b off vx, ao = some ⟨b, off, none⟩ ∧ P b ∧ w.cell? ⟨b, off + i, none⟩ = some vx ∧ RIntsP P w vx x
def RCodeP (P : Nat → Prop) (w : World) (v : Value) (l : List PIns) : Prop :=
  ∃ ao cap, v = .slice ao l.length cap ∧ l.length ≤ maxLen ∧ ∀ i x, l[i]? = some x → ∃ b off, ao = some ⟨b, off, none⟩ ∧ P b ∧
    w.cell? ⟨b, off + i * 3, none⟩ = some (.int .i64 x.op) ∧ w.cell? ⟨b, off + i * 3 + 1, none⟩ = some (.int .i64 x.a) ∧ w.cell? ⟨b, off + i * 3 + 2, none⟩ = some (.int .i64 x.b)
def RFuncsP (P : Nat → Prop) (w : World) (v : Value) (l : List PFunc) : Prop :=
  ∃ ao cap, v = .slice ao l.length cap ∧ l.length ≤ maxLen ∧ ∀ i x, l[i]? = some x → ∃ b off vp vl vc, ao = some ⟨b, off, none⟩ ∧ P b ∧
    w.cell? ⟨b, off + i * 4, none⟩ = some vp ∧ w.cell? ⟨b, off + i * 4 + 1, none⟩ = some (.int .i64 x.result) ∧ w.cell? ⟨b, off + i * 4 + 2, none⟩ = some vl ∧ w.cell? ⟨b, off + i * 4 + 3, none⟩ = some vc ∧
    RIntsP P w vp x.params ∧ RIntsP P w vl x.locals ∧ RCodeP P w vc x.code
def RImportsP (P : Nat → Prop) (w : World) (v : Value) (l : List PImp) : Prop :=
  ∃ ao cap, v = .slice ao l.length cap ∧ l.length ≤ maxLen ∧ ∀ i x, l[i]? = some x → ∃ b off vs vp, ao = some ⟨b, off, none⟩ ∧ P b ∧
    w.cell? ⟨b, off + i * 3, none⟩ = some vs ∧ w.cell? ⟨b, off + i * 3 + 1, none⟩ = some vp ∧ w.cell? ⟨b, off + i * 3 + 2, none⟩ = some (.int .i64 x.result) ∧
    RText vs x.name ∧ RIntsP P w vp x.params
def RExportsP (P : Nat → Prop) (w : World) (v : Value) (l : List PExp) : Prop :=
  ∃ ao cap, v = .slice ao l.length cap ∧ l.length ≤ maxLen ∧ ∀ i x, l[i]? = some x → ∃ b off vs, ao = some ⟨b, off, none⟩ ∧ P b ∧
    w.cell? ⟨b, off + i * 2, none⟩ = some vs ∧ w.cell? ⟨b, off + i * 2 + 1, none⟩ = some (.int .i64 x.func) ∧ RText vs x.name

/-- such blocks have not turned, and are such ones again -/
def Stay (P P' : Nat → Prop) (w w' : World) : Prop := ∀ b, P b → b < w.heap.size → w'.heap[b]? = w.heap[b]? ∧ P' b
theorem Stay.cell {P P' : Nat → Prop} {w w' : World} (h : Stay P P' w w') {b o : Nat} {x : Value} (hb : P b) (hx : w.cell? ⟨b, o, none⟩ = some x) : w'.cell? ⟨b, o, none⟩ = some x ∧ P' b := by
  obtain ⟨h1, h2⟩ := h b hb (World.block_lt_of_cell? w _ hx)
  exact ⟨(World.cell?_of_block (a := ⟨b, o, none⟩) h1).trans hx, h2⟩
theorem RIntsP.stay {P P' : Nat → Prop} {w w' : World} {v : Value} {l : List Int} (h : RIntsP P w v l) (g : Stay P P' w w') : RIntsP P' w' v l := by
  obtain ⟨ao, cap, hv, hm, hc⟩ := h
  refine ⟨ao, cap, hv, hm, fun i x hi => ?_⟩
  obtain ⟨b, off, h1, h2, h3⟩ := hc i x hi
  exact ⟨b, off, h1, (g.cell h2 h3).2, (g.cell h2 h3).1⟩
theorem RCodeP.stay {P P' : Nat → Prop} {w w' : World} {v : Value} {l : List PIns} (h : RCodeP P w v l) (g : Stay P P' w w') : RCodeP P' w' v l := by
  obtain ⟨ao, cap, hv, hm, hc⟩ := h
  refine ⟨ao, cap, hv, hm, fun i x hi => ?_⟩
  obtain ⟨b, off, h1, h2, h3, h4, h5⟩ := hc i x hi
  exact ⟨b, off, h1, (g.cell h2 h3).2, (g.cell h2 h3).1, (g.cell h2 h4).1, (g.cell h2 h5).1⟩
theorem RShapesP.stay {P P' : Nat → Prop} {w w' : World} {v : Value} {l : List (List Int)} (h : RShapesP P w v l) (g : Stay P P' w w') : RShapesP P' w' v l := by
  obtain ⟨ao, cap, hv, hm, hc⟩ := h
  refine ⟨ao, cap, hv, hm, fun i x hi => ?_⟩
  obtain ⟨b, off, vx, h1, h2, h3, h4⟩ := hc i x hi
  exact ⟨b, off, vx, h1, (g.cell h2 h3).2, (g.cell h2 h3).1, h4.stay g⟩
theorem RFuncsP.stay {P P' : Nat → Prop} {w w' : World} {v : Value} {l : List PFunc} (h : RFuncsP P w v l) (g : Stay P P' w w') : RFuncsP P' w' v l := by
  obtain ⟨ao, cap, hv, hm, hc⟩ := h
  refine ⟨ao, cap, hv, hm, fun i x hi => ?_⟩
  obtain ⟨b, off, vp, vl, vc, h1, h2, h3, h4, h5, h6, h7, h8, h9⟩ := hc i x hi
  exact ⟨b, off, vp, vl, vc, h1, (g.cell h2 h3).2, (g.cell h2 h3).1, (g.cell h2 h4).1, (g.cell h2 h5).1, (g.cell h2 h6).1, h7.stay g, h8.stay g, h9.stay g⟩
theorem RImportsP.stay {P P' : Nat → Prop} {w w' : World} {v : Value} {l : List PImp} (h : RImportsP P w v l) (g : Stay P P' w w') : RImportsP P' w' v l := by
  obtain ⟨ao, cap, hv, hm, hc⟩ := h
  refine ⟨ao, cap, hv, hm, fun i x hi => ?_⟩
  obtain ⟨b, off, vs, vp, h1, h2, h3, h4, h5, h6, h7⟩ := hc i x hi
  exact ⟨b, off, vs, vp, h1, (g.cell h2 h3).2, (g.cell h2 h3).1, (g.cell h2 h4).1, (g.cell h2 h5).1, h6, h7.stay g⟩
theorem RExportsP.stay {P P' : Nat → Prop} {w w' : World} {v : Value} {l : List PExp} (h : RExportsP P w v l) (g : Stay P P' w w') : RExportsP P' w' v l := by
  obtain ⟨ao, cap, hv, hm, hc⟩ := h
  refine ⟨ao, cap, hv, hm, fun i x hi => ?_⟩
  obtain ⟨b, off, vs, h1, h2, h3, h4, h5⟩ := hc i x hi
  exact ⟨b, off, vs, h1, (g.cell h2 h3).2, (g.cell h2 h3).1, (g.cell h2 h4).1, h5⟩
theorem RIntsP.to {P : Nat → Prop} {w : World} {v : Value} {l : List Int} (h : RIntsP P w v l) : RIntsF 0 w v l := h.stay (P' := fun b => 0 ≤ b) fun _ _ _ => ⟨rfl, Nat.zero_le _⟩
theorem RShapesP.to {P : Nat → Prop} {w : World} {v : Value} {l : List (List Int)} (h : RShapesP P w v l) : RShapesF 0 w v l := h.stay (P' := fun b => 0 ≤ b) fun _ _ _ => ⟨rfl, Nat.zero_le _⟩
theorem RFuncsP.to {P : Nat → Prop} {w : World} {v : Value} {l : List PFunc} (h : RFuncsP P w v l) : RFuncsF 0 w v l := h.stay (P' := fun b => 0 ≤ b) fun _ _ _ => ⟨rfl, Nat.zero_le _⟩
theorem RImportsP.to {P : Nat → Prop} {w : World} {v : Value} {l : List PImp} (h : RImportsP P w v l) : RImportsF 0 w v l := h.stay (P' := fun b => 0 ≤ b) fun _ _ _ => ⟨rfl, Nat.zero_le _⟩
theorem RExportsP.to {P : Nat → Prop} {w : World} {v : Value} {l : List PExp} (h : RExportsP P w v l) : RExportsF 0 w v l := h.stay (P' := fun b => 0 ≤ b) fun _ _ _ => ⟨rfl, Nat.zero_le _⟩

/-- all but the row that grows (and, behind it, one block more) -/
def Bt (B : Nat) (v : Value) (b : Nat) : Prop := B ≤ b ∧ ¬ v.ownBlock = some b
/-- an element at its place -/
theorem flat_at {α : Type} {f : α → List Value} {n : Nat} (hf : ∀ x, (f x).length = n) : ∀ {l : List α} {i j : Nat} {x : α}, l[i]? = some x → j < n → (l.flatMap f)[i * n + j]? = (f x)[j]?
  | [], i, j, x, h, _ => by simp at h
  | a :: l, 0, j, x, h, hj => by
    simp only [List.getElem?_cons_zero, Option.some.injEq] at h
    subst h
    rw [List.flatMap_cons, Nat.zero_mul, Nat.zero_add, List.getElem?_append_left (by rw [hf]; exact hj)]
  | a :: l, i + 1, j, x, h, hj => by
    rw [List.getElem?_cons_succ] at h
    rw [List.flatMap_cons, List.getElem?_append_right (by rw [hf, Nat.add_mul]; omega), hf, show (i + 1) * n + j - n = i * n + j by rw [Nat.add_mul]; omega]
    exact flat_at hf h hj
theorem flat_size {α : Type} {f : α → List Value} {n : Nat} (hf : ∀ x, (f x).length = n) : ∀ (l : List α), (l.flatMap f).length = l.length * n
  | [] => by simp
  | a :: l => by rw [List.flatMap_cons, List.length_append, hf, flat_size hf l, List.length_cons, Nat.add_mul]; omega
theorem own_at {w : World} {B : Nat} {e : TypeId} {n len : Nat} {v : Value} {xs : List Value} (h : w.ownsRow B e n v len xs) {j : Nat} (hj : j < len * n) : ∃ g, v.ownBlock = some g ∧ B ≤ g ∧ (∃ cap, v = .slice (some ⟨g, 0, none⟩) len cap) ∧ w.cell? ⟨g, 0 + j, none⟩ = xs[j]? := by
  have h' := h
  rcases h.2 with ⟨rfl, rfl⟩ | ⟨g, cap, cur, rfl, hg, _⟩
  · simp at hj
  · exact ⟨g, rfl, hg, ⟨cap, rfl⟩, by rw [Nat.zero_add]; exact h'.cellAt j hj⟩
theorem own_form {w : World} {B : Nat} {e : TypeId} {n len : Nat} {v : Value} {xs : List Value} (h : w.ownsRow B e n v len xs) : (∃ ao cap, v = .slice ao len cap) ∧ len ≤ maxLen := by
  rcases h.2 with ⟨rfl, rfl⟩ | ⟨g, cap, cur, rfl, hg, _, h1, h2, _⟩
  · exact ⟨⟨none, 0, rfl⟩, by decide⟩
  · exact ⟨⟨_, _, rfl⟩, Nat.le_trans h1 h2⟩
theorem row_of {w : World} {B : Nat} {e : TypeId} {n : Nat} {v : Value} {α : Type} {f : α → List Value} {l : List α} (hf : ∀ x, (f x).length = n) (h : w.ownsRow B e n v l.length (l.flatMap f)) (hn : 0 < n) :
    ∃ ao cap, v = .slice ao l.length cap ∧ l.length ≤ maxLen ∧ ∀ i x, l[i]? = some x → ∃ b, ao = some ⟨b, 0, none⟩ ∧ B ≤ b ∧ v.ownBlock = some b ∧ ∀ j, j < n → w.cell? ⟨b, 0 + (i * n + j), none⟩ = (f x)[j]? := by
  obtain ⟨⟨ao, cap, hv⟩, hm⟩ := own_form h
  refine ⟨ao, cap, hv, hm, fun i x hi => ?_⟩
  have hil : i < l.length := (List.getElem?_eq_some_iff.1 hi).1
  have hb : ∀ j, j < n → i * n + j < l.length * n := fun j hj => by
    have h1 : (i + 1) * n ≤ l.length * n := Nat.mul_le_mul_right _ hil
    rw [Nat.add_mul] at h1; omega
  obtain ⟨g, h1, h2, ⟨cap', h3⟩, _⟩ := own_at h (hb 0 hn)
  refine ⟨g, ?_, h2, h1, fun j hj => ?_⟩
  · rw [hv] at h3; simp only [Value.slice.injEq] at h3; exact h3.1
  · obtain ⟨g', k1, _, _, k4⟩ := own_at h (hb j hj)
    rw [h1] at k1; simp only [Option.some.injEq] at k1; subst k1
    rw [k4]; exact flat_at hf hi hj
def fC (i : PIns) : List Value := [.int .i64 i.op, .int .i64 i.a, .int .i64 i.b]
structure BF where
  vp : Value
  vl : Value
  vc : Value
  f : PFunc
def fF (e : BF) : List Value := [e.vp, .int .i64 e.f.result, e.vl, e.vc]
structure BI where
  vs : Value
  vp : Value
  i : PImp
def fM (e : BI) : List Value := [e.vs, e.vp, .int .i64 e.i.result]
structure BE where
  vs : Value
  e : PExp
def fE (e : BE) : List Value := [e.vs, .int .i64 e.e.func]

/-- a row has grown by an element: what lies elsewhere has stayed -/
theorem Ap.stay {B : Nat} {e : TypeId} {n : Nat} {w w' : World} {v v' : Value} {len : Nat} {xs : List Value} (h : Ap B e n w v w' v' len xs) : Stay (Bt B v) (Bt B v') w w' := by
  intro b hb hl
  refine ⟨h.frm.block b hl (fun e => hb.2 e.symm), hb.1, fun e => ?_⟩
  rcases h.lies b e with k | k
  · exact hb.2 k
  · omega
theorem Stay.set {P P' : Nat → Prop} {w w' : World} {g o : Nat} {u : Value} (h : Stay P P' w w') (hg : ∀ b, P b → ¬ b = g) : Stay P P' w (w'.setCell ⟨g, o, none⟩ u) := by
  intro b hb hl
  exact ⟨by rw [Below.heap_setCell _ _ _ _ (hg b hb)]; exact (h b hb hl).1, (h b hb hl).2⟩
theorem Stay.gc {P : Nat → Prop} {w w' : World} {mb : Nat} (h : Gc mb w w') (hg : ∀ b, P b → ¬ b = mb) : Stay P P w w' := by
  intro b hb hl
  exact ⟨h.block b hl (by intro e; simp only [Option.some.injEq] at e; exact hg b hb e), hb⟩
theorem Stay.trans {P P' P'' : Nat → Prop} {w w' w'' : World} (h : Stay P P' w w') (k : Stay P' P'' w' w'') (hs : w.heap.size ≤ w'.heap.size) : Stay P P'' w w'' := by
  intro b hb hl
  obtain ⟨h1, h2⟩ := h b hb hl
  obtain ⟨k1, k2⟩ := k b h2 (Nat.lt_of_lt_of_le hl hs)
  exact ⟨k1.trans h1, k2⟩
end Go.Proofs.YtkgncijcnlfhiaaDoor

namespace Go.Proofs.YtkgncijcnlfhiaaDoor
set_option linter.unusedVariables false
set_option linter.unusedSimpArgs false
open Go.RowKit
theorem run_copy_n {P : Program} (w : World) (dT sT ty elem : TypeId) (n g dLen dCap : Nat) (sp : Option Addr) (sLen sCap : Nat) (cur : Array Value) (t : TypeId) (cs : List Value)
    (hu : P.underlying dT = some (.slice elem)) (hs : (P.info? elem).map (·.size) = some n) (hg : w.heap[g]? = some (.cells cur t (0, 0))) (hle : sLen ≤ dLen) (hn : cs.length = sLen * n)
    (hpos : 0 < sLen → ∃ ad, sp = some ad ∧ ∀ j v, cs[j]? = some v → w.cell? (ad.add j) = some v) (hfit : cs.length ≤ cur.size) (h1 : ∀ v ∈ cs, v.oneCell' = true) :
    (Builtin.copy_ #[dT, sT] ty #[.slice (some ⟨g, 0, none⟩) dLen dCap, .slice sp sLen sCap]).run P w = .ok (goInt sLen) (w.setRow g (cs ++ cur.toList.drop cs.length).toArray) := by
  have hmin : Nat.min sLen dLen = sLen := Nat.min_eq_left hle
  cases hq : P.info? elem with
  | none => simp [hq] at hs
  | some i =>
    have hi : i.size = n := by simpa [hq] using hs
    have hst := run_storeCells_at P g 0 t cs 0 cur w hg (by simpa using hfit) h1
    simp only [Nat.add_zero, List.take_zero, List.nil_append, Nat.zero_add] at hst
    by_cases h0 : sLen = 0
    · subst h0
      obtain rfl : cs = [] := List.eq_nil_of_length_eq_zero (by rw [hn]; simp)
      simp only [List.nil_append, List.length_nil, List.drop_zero, Array.toArray_toList]
      rw [setRow_self w g cur t (0, 0) hg]
      cases sp with
      | none => simp [Builtin.copy_, run_underlying hu, Builtin.lenOf, Builtin.firstCells, sizeOf, typeInfo, hq, storeCells]
      | some ad =>
        have hl := run_loadCells_list (P := P) w ad [] (by simp)
        simp at hl
        simp [Builtin.copy_, run_underlying hu, Builtin.lenOf, Builtin.firstCells, sizeOf, typeInfo, hq, storeCells, hl]
    · obtain ⟨ad, rfl, hsrc⟩ := hpos (by omega)
      have hl := run_loadCells_list (P := P) w ad cs hsrc
      rw [hn] at hl
      simp [Builtin.copy_, run_underlying hu, Builtin.lenOf, Builtin.firstCells, sizeOf, typeInfo, hq, hi, hmin, hl, hst]
end Go.Proofs.YtkgncijcnlfhiaaDoor

namespace Go.Proofs.YtkgncijcnlfhiaaDoor
set_option linter.unusedVariables false
set_option linter.unusedSimpArgs false
open Go.RowKit
abbrev inkV : Value := .int .i64 (-77000000)
abbrev nS : Value := .slice none 0 0
abbrev zI : Value := .int .i64 0
abbrev eS : Value := .string ⟨#[]⟩
abbrev inkT : Value := .string ⟨#[105, 110, 107]⟩
def rowV (r : Nat × Nat) : Value := .slice (some ⟨r.1, 0, none⟩) r.2 r.2
/-- of field f: the type of its rows, of their elements, and how many cells these have -/
def oT : Nat → TypeId
  | 0 => 23 | 1 => 22 | 2 => 74 | 3 => 24 | 4 => 25 | 5 => 26 | 6 => 92 | _ => 45
def eT : Nat → TypeId
  | 0 => 3 | 1 => 23 | 2 => 91 | 3 => 76 | 4 => 79 | 5 => 81 | 6 => 9 | _ => 28
def sZ : Nat → Nat
  | 0 => 1 | 1 => 1 | 2 => 3 | 3 => 4 | 4 => 3 | 5 => 2 | 6 => 1 | _ => 5
/-- element k of the row at b is the caller's -/
def Ink (P : Nat → Prop) (w : World) (b k : Nat) : Nat → Prop
  | 0 => w.cell? ⟨b, k, none⟩ = some inkV
  | 1 => ∃ b', w.cell? ⟨b, k, none⟩ = some (.slice (some ⟨b', 0, none⟩) 1 1) ∧ P b' ∧ w.heap[b']? = some (.cells #[inkV] 3 (0, 0))
  | 2 => w.cell? ⟨b, k * 3, none⟩ = some inkV ∧ w.cell? ⟨b, k * 3 + 1, none⟩ = some zI ∧ w.cell? ⟨b, k * 3 + 2, none⟩ = some zI
  | 3 => w.cell? ⟨b, k * 4, none⟩ = some nS ∧ w.cell? ⟨b, k * 4 + 1, none⟩ = some inkV ∧ w.cell? ⟨b, k * 4 + 2, none⟩ = some nS ∧ w.cell? ⟨b, k * 4 + 3, none⟩ = some nS
  | 4 => w.cell? ⟨b, k * 3, none⟩ = some eS ∧ w.cell? ⟨b, k * 3 + 1, none⟩ = some nS ∧ w.cell? ⟨b, k * 3 + 2, none⟩ = some inkV
  | 5 => w.cell? ⟨b, k * 2, none⟩ = some eS ∧ w.cell? ⟨b, k * 2 + 1, none⟩ = some inkV
  | 6 => w.cell? ⟨b, k, none⟩ = some inkT
  | _ => ∃ b', w.cell? ⟨b, k * 5, none⟩ = some nS ∧ w.cell? ⟨b, k * 5 + 1, none⟩ = some (.slice (some ⟨b', 0, none⟩) 1 1) ∧ w.cell? ⟨b, k * 5 + 2, none⟩ = some nS ∧ w.cell? ⟨b, k * 5 + 3, none⟩ = some nS ∧ w.cell? ⟨b, k * 5 + 4, none⟩ = some nS ∧ P b' ∧ w.heap[b']? = some (.cells #[inkV] 3 (0, 0))
/-- a row: its block, and how much of it is the caller's -/
structure RowOk (P : Nat → Prop) (w : World) (f : Nat) (all : Bool) (r : Nat × Nat) : Prop where
  here : P r.1
  two : 2 ≤ r.2
  most : r.2 ≤ 10000000
  cells : ∃ cs : Array Value, w.heap[r.1]? = some (.cells cs (eT f) (0, 0)) ∧ cs.size = r.2 * sZ f
  inked : ∀ k, (all = true ∨ r.2 ≤ k + 2) → k < r.2 → Ink P w r.1 k f
/-- all blocks but the box and the lists of rows -/
def PO (lo ob : Nat) (V : Nat → Value) (b : Nat) : Prop := lo ≤ b ∧ ¬ b = ob ∧ ∀ f, f < 8 → ¬ (V f).ownBlock = some b
structure OwnAt (lo : Nat) (w : World) (ob : Nat) (all : Bool) (V : Nat → Value) (S : Nat → List (Nat × Nat)) : Prop where
  box : w.heap[ob]? = some (.cells #[V 0, V 1, V 2, V 3, V 4, V 5, V 6, V 7] 52 (0, 0))
  low : lo ≤ ob
  own : ∀ f, f < 8 → w.ownsRow lo (oT f) 1 (V f) (S f).length ((S f).map rowV)
  rows : ∀ f, f < 8 → ∀ r ∈ S f, RowOk (PO lo ob V) w f all r

theorem block_lt {w : World} {b : Nat} {o : Obj} (h : w.heap[b]? = some o) : b < w.heap.size := (Array.getElem?_eq_some_iff.1 h).1
theorem Ink.stay {P P' : Nat → Prop} {w w' : World} {b k f : Nat} (h : Ink P w b k f) (g : Stay P P' w w') (hP : P b) (hl : b < w.heap.size) : Ink P' w' b k f := by
  have hb := (g b hP hl).1
  have hc : ∀ q, w'.cell? ⟨b, q, none⟩ = w.cell? ⟨b, q, none⟩ := fun q => World.cell?_of_block (a := ⟨b, q, none⟩) hb
  rcases f with _ | _ | _ | _ | _ | _ | _ | f <;> simp only [Ink, hc] at h ⊢
  · exact h
  · obtain ⟨b', h1, h2, h3⟩ := h
    obtain ⟨k1, k2⟩ := g b' h2 (block_lt h3)
    exact ⟨b', h1, k2, k1.trans h3⟩
  · exact h
  · exact h
  · exact h
  · exact h
  · exact h
  · obtain ⟨b', h0, h1, h4, h5, h6, h2, h3⟩ := h
    obtain ⟨k1, k2⟩ := g b' h2 (block_lt h3)
    exact ⟨b', h0, h1, h4, h5, h6, k2, k1.trans h3⟩
theorem RowOk.stay {P P' : Nat → Prop} {w w' : World} {f : Nat} {all : Bool} {r : Nat × Nat} (h : RowOk P w f all r) (g : Stay P P' w w') : RowOk P' w' f all r := by
  obtain ⟨cs, hcs, hsz⟩ := h.cells
  obtain ⟨k1, k2⟩ := g r.1 h.here (block_lt hcs)
  exact ⟨k2, h.two, h.most, ⟨cs, k1.trans hcs, hsz⟩, fun k hk hl => (h.inked k hk hl).stay g h.here (block_lt hcs)⟩
theorem ownsRow_same {w w' : World} {base : Nat} {e : TypeId} {n : Nat} {v : Value} {len : Nat} {xs : List Value} (h : w.ownsRow base e n v len xs) (hs : ∀ g, v.ownBlock = some g → w'.heap[g]? = w.heap[g]?) : w'.ownsRow base e n v len xs := by
  refine ⟨h.1, ?_⟩
  rcases h.2 with ⟨h1, h2⟩ | ⟨g, cap, cur, rfl, h2, h3, h4⟩
  · exact .inl ⟨h1, h2⟩
  · exact .inr ⟨g, cap, cur, rfl, h2, (hs g rfl).trans h3, h4⟩
theorem OwnAt.lows {lo : Nat} {w : World} {ob : Nat} {all : Bool} {V : Nat → Value} {S : Nat → List (Nat × Nat)} (h : OwnAt lo w ob all V S) {f : Nat} (hf : f < 8) {g : Nat} (hg : (V f).ownBlock = some g) : lo ≤ g ∧ ∃ c, w.heap[g]? = some (.cells c (oT f) (0, 0)) := by
  rcases (h.own f hf).2 with ⟨h1, _⟩ | ⟨g', cap, cur, h1, h2, h3, _⟩
  · rw [h1] at hg; cases hg
  · rw [h1] at hg; simp only [Value.ownBlock, Option.some.injEq] at hg; subst hg; exact ⟨h2, cur, h3⟩
/-- nothing from lo on has changed -/
theorem OwnAt.keep {lo : Nat} {w w' : World} {ob : Nat} {all : Bool} {V : Nat → Value} {S : Nat → List (Nat × Nat)} (h : OwnAt lo w ob all V S) (g : ∀ b, lo ≤ b → b < w.heap.size → w'.heap[b]? = w.heap[b]?) : OwnAt lo w' ob all V S := by
  have hst : Stay (PO lo ob V) (PO lo ob V) w w' := fun b hb hl => ⟨g b hb.1 hl, hb⟩
  refine ⟨(g ob h.low (block_lt h.box)).trans h.box, h.low, fun f hf => ownsRow_same (h.own f hf) fun q hq => ?_, fun f hf r hr => (h.rows f hf r hr).stay hst⟩
  obtain ⟨h1, c, h2⟩ := h.lows hf hq
  exact g q h1 (block_lt h2)
/-- what was done between: below lo nothing, and nothing to what is in the rows -/
structure Fr (lo ob : Nat) (V V' : Nat → Value) (w w' : World) : Prop where
  size : w.heap.size ≤ w'.heap.size
  stay : Stay (PO lo ob V) (PO lo ob V') w w'
  low : Below lo w w'
theorem Fr.refl (lo ob : Nat) (V : Nat → Value) (w : World) : Fr lo ob V V w w := ⟨Nat.le_refl _, fun _ hb _ => ⟨rfl, hb⟩, Below.refl _ _⟩
theorem Fr.trans {lo ob : Nat} {V V' V'' : Nat → Value} {w w' w'' : World} (h : Fr lo ob V V' w w') (k : Fr lo ob V' V'' w' w'') : Fr lo ob V V'' w w'' :=
  ⟨Nat.le_trans h.size k.size, h.stay.trans k.stay h.size, h.low.trans k.low⟩
theorem Fr.drew {lo ob : Nat} {V V' : Nat → Value} {w w' : World} (h : Fr lo ob V V' w w') : Fr lo ob V V' w w'.drew := ⟨h.size, h.stay, h.low.drew⟩
theorem fr_gr {lo ob : Nat} {V : Nat → Value} {w w' : World} (g : Gr w w') (hl : lo ≤ w.heap.size) : Fr lo ob V V w w' :=
  ⟨g.size, fun b hb hs => ⟨g.block b hs (by simp), hb⟩, (Below.refl _ _).grown g hl (by simp)⟩
def upd (V : Nat → Value) (k : Nat) (v : Value) : Nat → Value := fun f => if f = k then v else V f
def updS (S : Nat → List (Nat × Nat)) (k : Nat) (r : Nat × Nat) : Nat → List (Nat × Nat) := fun f => if f = k then S f ++ [r] else S f
theorem oT_ne : ∀ f, f < 8 → ∀ g, g < 8 → f ≠ g → oT f ≠ oT g := by decide
theorem oT_own : ∀ f, f < 8 → oT f ≠ 52 := by decide
theorem eT_ne : ∀ f, f < 8 → ∀ g, g < 8 → f ≠ g → eT f ≠ eT g := by decide
theorem upd_arr (V : Nat → Value) (v : Value) : ∀ k, k < 8 → (#[V 0, V 1, V 2, V 3, V 4, V 5, V 6, V 7] : Array Value).setIfInBounds k v = #[upd V k v 0, upd V k v 1, upd V k v 2, upd V k v 3, upd V k v 4, upd V k v 5, upd V k v 6, upd V k v 7]
  | 0, _ => rfl | 1, _ => rfl | 2, _ => rfl | 3, _ => rfl | 4, _ => rfl | 5, _ => rfl | 6, _ => rfl | 7, _ => rfl
  | _ + 8, h => by omega
theorem heap_set {w : World} {g o : Nat} {cur : Array Value} {t : TypeId} {v : Value} (hg : w.heap[g]? = some (.cells cur t (0, 0))) : (w.setCell ⟨g, o, none⟩ v).heap[g]? = some (.cells (cur.setIfInBounds o v) t (0, 0)) := by
  rw [setCell_eq_setRow w g o cur t (0, 0) v hg]; exact setRow_heap w g cur _ t _ hg
/-- a row more -/
theorem OwnAt.push {lo : Nat} {w w1 : World} {ob : Nat} {all : Bool} {V : Nat → Value} {S : Nat → List (Nat × Nat)} {k : Nat} {v' : Value} {r : Nat × Nat} (h : OwnAt lo w ob all V S) (hk : k < 8)
    (ha : Ap lo (oT k) 1 w (V k) w1 v' ((S k).length + 1) ((S k).map rowV ++ [rowV r])) (hr : RowOk (PO lo ob V) w k all r) (hlo : lo ≤ w.heap.size) :
    OwnAt lo (w1.setCell ⟨ob, k, none⟩ v') ob all (upd V k v') (updS S k r) ∧ Fr lo ob V (upd V k v') w (w1.setCell ⟨ob, k, none⟩ v') := by
  have hobl := block_lt h.box
  have hobk : ¬ (V k).ownBlock = some ob := fun e => by
    obtain ⟨_, c, hc⟩ := h.lows hk e
    rw [h.box] at hc; simp only [Option.some.injEq, Obj.cells.injEq] at hc
    exact oT_own k hk hc.2.1.symm
  have hob1 : w1.heap[ob]? = w.heap[ob]? := ha.frm.block ob hobl (fun e => hobk e.symm)
  have hobv : ¬ v'.ownBlock = some ob := fun e => by
    rcases ha.lies ob e with e' | e'
    · exact hobk e'
    · omega
  have hne : ∀ b, ¬ b = ob → (w1.setCell ⟨ob, k, none⟩ v').heap[b]? = w1.heap[b]? := fun b hb => Below.heap_setCell _ _ _ _ hb
  have hst : Stay (PO lo ob V) (PO lo ob (upd V k v')) w (w1.setCell ⟨ob, k, none⟩ v') := by
    intro b hb hl
    refine ⟨(hne b hb.2.1).trans (ha.frm.block b hl (fun e => hb.2.2 k hk e.symm)), hb.1, hb.2.1, fun f hf e => ?_⟩
    unfold upd at e
    split at e
    · rcases ha.lies b e with e' | e'
      · exact hb.2.2 k hk e'
      · omega
    · exact hb.2.2 f hf e
  refine ⟨⟨?_, h.low, fun f hf => ?_, fun f hf q hq => ?_⟩, ⟨by simpa using ha.frm.size, hst, ?_⟩⟩
  · rw [← upd_arr V v' k hk]; exact heap_set (hob1.trans h.box)
  · by_cases hfk : f = k
    · subst hfk
      simp only [upd, updS, if_true, List.length_append, List.length_singleton, List.map_append, List.map_cons, List.map_nil]
      exact ownsRow_same ha.own fun g hg => hne g (fun e => hobv (e ▸ hg))
    · simp only [upd, updS, if_neg hfk]
      refine ownsRow_same (h.own f hf) fun g hg => ?_
      obtain ⟨_, c, hc⟩ := h.lows hf hg
      have hgo : ¬ g = ob := fun e => by
        subst e
        rw [h.box] at hc; simp only [Option.some.injEq, Obj.cells.injEq] at hc
        exact oT_own f hf hc.2.1.symm
      refine (hne g hgo).trans (ha.frm.block g (block_lt hc) fun e => ?_)
      obtain ⟨_, c', hc'⟩ := h.lows hk e.symm
      rw [hc] at hc'; simp only [Option.some.injEq, Obj.cells.injEq] at hc'
      exact oT_ne f hf k hk hfk hc'.2.1
  · by_cases hfk : f = k
    · subst hfk
      simp only [updS, if_true, List.mem_append, List.mem_singleton] at hq
      rcases hq with hq | rfl
      · exact (h.rows f hf q hq).stay hst
      · exact hr.stay hst
    · simp only [updS, if_neg hfk] at hq
      exact (h.rows f hf q hq).stay hst
  · have hb1 : Below lo w w1 := (Below.refl _ _).grown ha.frm hlo (fun q hq => (h.lows hk hq).1)
    exact hb1.setCell (p := ⟨ob, k, none⟩) h.low _
/-- of the box: a cell -/
theorem OwnAt.cell {lo : Nat} {w : World} {ob : Nat} {all : Bool} {V : Nat → Value} {S : Nat → List (Nat × Nat)} (h : OwnAt lo w ob all V S) : ∀ f, f < 8 → w.cell? ⟨ob, f, none⟩ = some (V f)
  | 0, _ => by simp [World.cell?, h.box]
  | 1, _ => by simp [World.cell?, h.box]
  | 2, _ => by simp [World.cell?, h.box]
  | 3, _ => by simp [World.cell?, h.box]
  | 4, _ => by simp [World.cell?, h.box]
  | 5, _ => by simp [World.cell?, h.box]
  | 6, _ => by simp [World.cell?, h.box]
  | 7, _ => by simp [World.cell?, h.box]
  | _ + 8, hf => by omega
theorem OwnAt.frozen {lo : Nat} {w : World} {ob : Nat} {all : Bool} {V : Nat → Value} {S : Nat → List (Nat × Nat)} (h : OwnAt lo w ob all V S) (f : Nat) : w.frozen? ⟨ob, f, none⟩ = false := by simp [World.frozen?, h.box]
/-- of a list of rows: a row -/
theorem OwnAt.row {lo : Nat} {w : World} {ob : Nat} {all : Bool} {V : Nat → Value} {S : Nat → List (Nat × Nat)} (h : OwnAt lo w ob all V S) {f : Nat} (hf : f < 8) {i : Nat} {r : Nat × Nat} (hi : (S f)[i]? = some r) :
    ∃ g cap, V f = .slice (some ⟨g, 0, none⟩) (S f).length cap ∧ w.cell? ⟨g, i, none⟩ = some (.slice (some ⟨r.1, 0, none⟩) r.2 r.2) ∧ RowOk (PO lo ob V) w f all r := by
  have hil : i < (S f).length := (List.getElem?_eq_some_iff.1 hi).1
  obtain ⟨g, h1, h2, ⟨cap, h3⟩, h4⟩ := own_at (h.own f hf) (j := i) (by omega)
  refine ⟨g, cap, h3, ?_, h.rows f hf r (List.mem_of_getElem? hi)⟩
  rw [Nat.zero_add] at h4
  rw [h4, List.getElem?_map, hi]; rfl
theorem OwnAt.form {lo : Nat} {w : World} {ob : Nat} {all : Bool} {V : Nat → Value} {S : Nat → List (Nat × Nat)} (h : OwnAt lo w ob all V S) {f : Nat} (hf : f < 8) : (∃ ao cap, V f = .slice ao (S f).length cap) ∧ (S f).length ≤ maxLen := own_form (h.own f hf)
end Go.Proofs.YtkgncijcnlfhiaaDoor

