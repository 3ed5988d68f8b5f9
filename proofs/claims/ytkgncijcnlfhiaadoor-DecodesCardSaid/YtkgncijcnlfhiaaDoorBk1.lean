import Derived.Test.YtkgncijcnlfhiaaDoorH2
import Derived.Lib.AppendZeros
namespace Go.Proofs.YtkgncijcnlfhiaaDoor
set_option linter.unusedVariables false
set_option linter.unusedSimpArgs false
open Go.RowKit
abbrev inkV : Value := .int .i64 (-77000000)
abbrev nS : Value := .slice none 0 0
abbrev zI : Value := .int .i64 0
abbrev eS : Value := .string ⟨#[]⟩
abbrev inkT : Value := .string ⟨#[105, 110, 107]⟩
def rowV (r : Nat × Nat) : Value := .slice (some ⟨r.1, 0, none⟩) r.2 r.2
/-- of field f: the type of its rows, of their elements, and how many cells these have -/
def oT : Nat → TypeId
  | 0 => 23 | 1 => 22 | 2 => 74 | 3 => 24 | 4 => 25 | 5 => 26 | 6 => 92 | _ => 45
def eT : Nat → TypeId
  | 0 => 3 | 1 => 23 | 2 => 91 | 3 => 76 | 4 => 79 | 5 => 81 | 6 => 9 | _ => 28
def sZ : Nat → Nat
  | 0 => 1 | 1 => 1 | 2 => 3 | 3 => 4 | 4 => 3 | 5 => 2 | 6 => 1 | _ => 5
/-- element k of the row at b is the caller's -/
def Ink (P : Nat → Prop) (w : World) (b k : Nat) : Nat → Prop
  | 0 => w.cell? ⟨b, k, none⟩ = some inkV
  | 1 => ∃ b', w.cell? ⟨b, k, none⟩ = some (.slice (some ⟨b', 0, none⟩) 1 1) ∧ P b' ∧ w.heap[b']? = some (.cells #[inkV] 3 (0, 0))
  | 2 => w.cell? ⟨b, k * 3, none⟩ = some inkV ∧ w.cell? ⟨b, k * 3 + 1, none⟩ = some zI ∧ w.cell? ⟨b, k * 3 + 2, none⟩ = some zI
  | 3 => w.cell? ⟨b, k * 4, none⟩ = some nS ∧ w.cell? ⟨b, k * 4 + 1, none⟩ = some inkV ∧ w.cell? ⟨b, k * 4 + 2, none⟩ = some nS ∧ w.cell? ⟨b, k * 4 + 3, none⟩ = some nS
  | 4 => w.cell? ⟨b, k * 3, none⟩ = some eS ∧ w.cell? ⟨b, k * 3 + 1, none⟩ = some nS ∧ w.cell? ⟨b, k * 3 + 2, none⟩ = some inkV
  | 5 => w.cell? ⟨b, k * 2, none⟩ = some eS ∧ w.cell? ⟨b, k * 2 + 1, none⟩ = some inkV
  | 6 => w.cell? ⟨b, k, none⟩ = some inkT
  | _ => ∃ b', w.cell? ⟨b, k * 5, none⟩ = some nS ∧ w.cell? ⟨b, k * 5 + 1, none⟩ = some (.slice (some ⟨b', 0, none⟩) 1 1) ∧ w.cell? ⟨b, k * 5 + 2, none⟩ = some nS ∧ w.cell? ⟨b, k * 5 + 3, none⟩ = some nS ∧ w.cell? ⟨b, k * 5 + 4, none⟩ = some nS ∧ P b' ∧ w.heap[b']? = some (.cells #[inkV] 3 (0, 0))
/-- a row: its block, and how much of it is the caller's -/
structure RowOk (P : Nat → Prop) (w : World) (f : Nat) (all : Bool) (r : Nat × Nat) : Prop where
  here : P r.1
  two : 2 ≤ r.2
  most : r.2 ≤ 10000000
  cells : ∃ cs : Array Value, w.heap[r.1]? = some (.cells cs (eT f) (0, 0)) ∧ cs.size = r.2 * sZ f
  inked : ∀ k, (all = true ∨ r.2 ≤ k + 2) → k < r.2 → Ink P w r.1 k f
/-- all blocks but the box and the lists of rows -/
def PO (lo ob : Nat) (V : Nat → Value) (b : Nat) : Prop := lo ≤ b ∧ ¬ b = ob ∧ ∀ f, f < 8 → ¬ (V f).ownBlock = some b
structure OwnAt (lo : Nat) (w : World) (ob : Nat) (all : Bool) (V : Nat → Value) (S : Nat → List (Nat × Nat)) : Prop where
  box : w.heap[ob]? = some (.cells #[V 0, V 1, V 2, V 3, V 4, V 5, V 6, V 7] 52 (0, 0))
  low : lo ≤ ob
  own : ∀ f, f < 8 → w.ownsRow lo (oT f) 1 (V f) (S f).length ((S f).map rowV)
  rows : ∀ f, f < 8 → ∀ r ∈ S f, RowOk (PO lo ob V) w f all r

theorem block_lt {w : World} {b : Nat} {o : Obj} (h : w.heap[b]? = some o) : b < w.heap.size := (Array.getElem?_eq_some_iff.1 h).1
theorem Ink.stay {P P' : Nat → Prop} {w w' : World} {b k f : Nat} (h : Ink P w b k f) (g : Stay P P' w w') (hP : P b) (hl : b < w.heap.size) : Ink P' w' b k f := by
  have hb := (g b hP hl).1
  have hc : ∀ q, w'.cell? ⟨b, q, none⟩ = w.cell? ⟨b, q, none⟩ := fun q => World.cell?_of_block (a := ⟨b, q, none⟩) hb
  rcases f with _ | _ | _ | _ | _ | _ | _ | f <;> simp only [Ink, hc] at h ⊢
  · exact h
  · obtain ⟨b', h1, h2, h3⟩ := h
    obtain ⟨k1, k2⟩ := g b' h2 (block_lt h3)
    exact ⟨b', h1, k2, k1.trans h3⟩
  · exact h
  · exact h
  · exact h
  · exact h
  · exact h
  · obtain ⟨b', h0, h1, h4, h5, h6, h2, h3⟩ := h
    obtain ⟨k1, k2⟩ := g b' h2 (block_lt h3)
    exact ⟨b', h0, h1, h4, h5, h6, k2, k1.trans h3⟩
theorem RowOk.stay {P P' : Nat → Prop} {w w' : World} {f : Nat} {all : Bool} {r : Nat × Nat} (h : RowOk P w f all r) (g : Stay P P' w w') : RowOk P' w' f all r := by
  obtain ⟨cs, hcs, hsz⟩ := h.cells
  obtain ⟨k1, k2⟩ := g r.1 h.here (block_lt hcs)
  exact ⟨k2, h.two, h.most, ⟨cs, k1.trans hcs, hsz⟩, fun k hk hl => (h.inked k hk hl).stay g h.here (block_lt hcs)⟩
theorem ownsRow_same {w w' : World} {base : Nat} {e : TypeId} {n : Nat} {v : Value} {len : Nat} {xs : List Value} (h : w.ownsRow base e n v len xs) (hs : ∀ g, v.ownBlock = some g → w'.heap[g]? = w.heap[g]?) : w'.ownsRow base e n v len xs := by
  refine ⟨h.1, ?_⟩
  rcases h.2 with ⟨h1, h2⟩ | ⟨g, cap, cur, rfl, h2, h3, h4⟩
  · exact .inl ⟨h1, h2⟩
  · exact .inr ⟨g, cap, cur, rfl, h2, (hs g rfl).trans h3, h4⟩
theorem OwnAt.lows {lo : Nat} {w : World} {ob : Nat} {all : Bool} {V : Nat → Value} {S : Nat → List (Nat × Nat)} (h : OwnAt lo w ob all V S) {f : Nat} (hf : f < 8) {g : Nat} (hg : (V f).ownBlock = some g) : lo ≤ g ∧ ∃ c, w.heap[g]? = some (.cells c (oT f) (0, 0)) := by
  rcases (h.own f hf).2 with ⟨h1, _⟩ | ⟨g', cap, cur, h1, h2, h3, _⟩
  · rw [h1] at hg; cases hg
  · rw [h1] at hg; simp only [Value.ownBlock, Option.some.injEq] at hg; subst hg; exact ⟨h2, cur, h3⟩
/-- nothing from lo on has changed -/
theorem OwnAt.keep {lo : Nat} {w w' : World} {ob : Nat} {all : Bool} {V : Nat → Value} {S : Nat → List (Nat × Nat)} (h : OwnAt lo w ob all V S) (g : ∀ b, lo ≤ b → b < w.heap.size → w'.heap[b]? = w.heap[b]?) : OwnAt lo w' ob all V S := by
  have hst : Stay (PO lo ob V) (PO lo ob V) w w' := fun b hb hl => ⟨g b hb.1 hl, hb⟩
  refine ⟨(g ob h.low (block_lt h.box)).trans h.box, h.low, fun f hf => ownsRow_same (h.own f hf) fun q hq => ?_, fun f hf r hr => (h.rows f hf r hr).stay hst⟩
  obtain ⟨h1, c, h2⟩ := h.lows hf hq
  exact g q h1 (block_lt h2)
/-- what was done between: below lo nothing, and nothing to what is in the rows -/
structure Fr (lo ob : Nat) (V V' : Nat → Value) (w w' : World) : Prop where
  size : w.heap.size ≤ w'.heap.size
  stay : Stay (PO lo ob V) (PO lo ob V') w w'
  low : Below lo w w'
theorem Fr.refl (lo ob : Nat) (V : Nat → Value) (w : World) : Fr lo ob V V w w := ⟨Nat.le_refl _, fun _ hb _ => ⟨rfl, hb⟩, Below.refl _ _⟩
theorem Fr.trans {lo ob : Nat} {V V' V'' : Nat → Value} {w w' w'' : World} (h : Fr lo ob V V' w w') (k : Fr lo ob V' V'' w' w'') : Fr lo ob V V'' w w'' :=
  ⟨Nat.le_trans h.size k.size, h.stay.trans k.stay h.size, h.low.trans k.low⟩
theorem Fr.drew {lo ob : Nat} {V V' : Nat → Value} {w w' : World} (h : Fr lo ob V V' w w') : Fr lo ob V V' w w'.drew := ⟨h.size, h.stay, h.low.drew⟩
theorem fr_gr {lo ob : Nat} {V : Nat → Value} {w w' : World} (g : Gr w w') (hl : lo ≤ w.heap.size) : Fr lo ob V V w w' :=
  ⟨g.size, fun b hb hs => ⟨g.block b hs (by simp), hb⟩, (Below.refl _ _).grown g hl (by simp)⟩
def upd (V : Nat → Value) (k : Nat) (v : Value) : Nat → Value := fun f => if f = k then v else V f
def updS (S : Nat → List (Nat × Nat)) (k : Nat) (r : Nat × Nat) : Nat → List (Nat × Nat) := fun f => if f = k then S f ++ [r] else S f
theorem oT_ne : ∀ f, f < 8 → ∀ g, g < 8 → f ≠ g → oT f ≠ oT g := by decide
theorem oT_own : ∀ f, f < 8 → oT f ≠ 52 := by decide
theorem eT_ne : ∀ f, f < 8 → ∀ g, g < 8 → f ≠ g → eT f ≠ eT g := by decide
theorem upd_arr (V : Nat → Value) (v : Value) : ∀ k, k < 8 → (#[V 0, V 1, V 2, V 3, V 4, V 5, V 6, V 7] : Array Value).setIfInBounds k v = #[upd V k v 0, upd V k v 1, upd V k v 2, upd V k v 3, upd V k v 4, upd V k v 5, upd V k v 6, upd V k v 7]
  | 0, _ => rfl | 1, _ => rfl | 2, _ => rfl | 3, _ => rfl | 4, _ => rfl | 5, _ => rfl | 6, _ => rfl | 7, _ => rfl
  | _ + 8, h => by omega
theorem heap_set {w : World} {g o : Nat} {cur : Array Value} {t : TypeId} {v : Value} (hg : w.heap[g]? = some (.cells cur t (0, 0))) : (w.setCell ⟨g, o, none⟩ v).heap[g]? = some (.cells (cur.setIfInBounds o v) t (0, 0)) := by
  rw [setCell_eq_setRow w g o cur t (0, 0) v hg]; exact setRow_heap w g cur _ t _ hg
/-- a row more -/
theorem OwnAt.push {lo : Nat} {w w1 : World} {ob : Nat} {all : Bool} {V : Nat → Value} {S : Nat → List (Nat × Nat)} {k : Nat} {v' : Value} {r : Nat × Nat} (h : OwnAt lo w ob all V S) (hk : k < 8)
    (ha : Ap lo (oT k) 1 w (V k) w1 v' ((S k).length + 1) ((S k).map rowV ++ [rowV r])) (hr : RowOk (PO lo ob V) w k all r) (hlo : lo ≤ w.heap.size) :
    OwnAt lo (w1.setCell ⟨ob, k, none⟩ v') ob all (upd V k v') (updS S k r) ∧ Fr lo ob V (upd V k v') w (w1.setCell ⟨ob, k, none⟩ v') := by
  have hobl := block_lt h.box
  have hobk : ¬ (V k).ownBlock = some ob := fun e => by
    obtain ⟨_, c, hc⟩ := h.lows hk e
    rw [h.box] at hc; simp only [Option.some.injEq, Obj.cells.injEq] at hc
    exact oT_own k hk hc.2.1.symm
  have hob1 : w1.heap[ob]? = w.heap[ob]? := ha.frm.block ob hobl (fun e => hobk e.symm)
  have hobv : ¬ v'.ownBlock = some ob := fun e => by
    rcases ha.lies ob e with e' | e'
    · exact hobk e'
    · omega
  have hne : ∀ b, ¬ b = ob → (w1.setCell ⟨ob, k, none⟩ v').heap[b]? = w1.heap[b]? := fun b hb => Below.heap_setCell _ _ _ _ hb
  have hst : Stay (PO lo ob V) (PO lo ob (upd V k v')) w (w1.setCell ⟨ob, k, none⟩ v') := by
    intro b hb hl
    refine ⟨(hne b hb.2.1).trans (ha.frm.block b hl (fun e => hb.2.2 k hk e.symm)), hb.1, hb.2.1, fun f hf e => ?_⟩
    unfold upd at e
    split at e
    · rcases ha.lies b e with e' | e'
      · exact hb.2.2 k hk e'
      · omega
    · exact hb.2.2 f hf e
  refine ⟨⟨?_, h.low, fun f hf => ?_, fun f hf q hq => ?_⟩, ⟨by simpa using ha.frm.size, hst, ?_⟩⟩
  · rw [← upd_arr V v' k hk]; exact heap_set (hob1.trans h.box)
  · by_cases hfk : f = k
    · subst hfk
      simp only [upd, updS, if_true, List.length_append, List.length_singleton, List.map_append, List.map_cons, List.map_nil]
      exact ownsRow_same ha.own fun g hg => hne g (fun e => hobv (e ▸ hg))
    · simp only [upd, updS, if_neg hfk]
      refine ownsRow_same (h.own f hf) fun g hg => ?_
      obtain ⟨_, c, hc⟩ := h.lows hf hg
      have hgo : ¬ g = ob := fun e => by
        subst e
        rw [h.box] at hc; simp only [Option.some.injEq, Obj.cells.injEq] at hc
        exact oT_own f hf hc.2.1.symm
      refine (hne g hgo).trans (ha.frm.block g (block_lt hc) fun e => ?_)
      obtain ⟨_, c', hc'⟩ := h.lows hk e.symm
      rw [hc] at hc'; simp only [Option.some.injEq, Obj.cells.injEq] at hc'
      exact oT_ne f hf k hk hfk hc'.2.1
  · by_cases hfk : f = k
    · subst hfk
      simp only [updS, if_true, List.mem_append, List.mem_singleton] at hq
      rcases hq with hq | rfl
      · exact (h.rows f hf q hq).stay hst
      · exact hr.stay hst
    · simp only [updS, if_neg hfk] at hq
      exact (h.rows f hf q hq).stay hst
  · have hb1 : Below lo w w1 := (Below.refl _ _).grown ha.frm hlo (fun q hq => (h.lows hk hq).1)
    exact hb1.setCell (p := ⟨ob, k, none⟩) h.low _
/-- of the box: a cell -/
theorem OwnAt.cell {lo : Nat} {w : World} {ob : Nat} {all : Bool} {V : Nat → Value} {S : Nat → List (Nat × Nat)} (h : OwnAt lo w ob all V S) : ∀ f, f < 8 → w.cell? ⟨ob, f, none⟩ = some (V f)
  | 0, _ => by simp [World.cell?, h.box]
  | 1, _ => by simp [World.cell?, h.box]
  | 2, _ => by simp [World.cell?, h.box]
  | 3, _ => by simp [World.cell?, h.box]
  | 4, _ => by simp [World.cell?, h.box]
  | 5, _ => by simp [World.cell?, h.box]
  | 6, _ => by simp [World.cell?, h.box]
  | 7, _ => by simp [World.cell?, h.box]
  | _ + 8, hf => by omega
theorem OwnAt.frozen {lo : Nat} {w : World} {ob : Nat} {all : Bool} {V : Nat → Value} {S : Nat → List (Nat × Nat)} (h : OwnAt lo w ob all V S) (f : Nat) : w.frozen? ⟨ob, f, none⟩ = false := by simp [World.frozen?, h.box]
/-- of a list of rows: a row -/
theorem OwnAt.row {lo : Nat} {w : World} {ob : Nat} {all : Bool} {V : Nat → Value} {S : Nat → List (Nat × Nat)} (h : OwnAt lo w ob all V S) {f : Nat} (hf : f < 8) {i : Nat} {r : Nat × Nat} (hi : (S f)[i]? = some r) :
    ∃ g cap, V f = .slice (some ⟨g, 0, none⟩) (S f).length cap ∧ w.cell? ⟨g, i, none⟩ = some (.slice (some ⟨r.1, 0, none⟩) r.2 r.2) ∧ RowOk (PO lo ob V) w f all r := by
  have hil : i < (S f).length := (List.getElem?_eq_some_iff.1 hi).1
  obtain ⟨g, h1, h2, ⟨cap, h3⟩, h4⟩ := own_at (h.own f hf) (j := i) (by omega)
  refine ⟨g, cap, h3, ?_, h.rows f hf r (List.mem_of_getElem? hi)⟩
  rw [Nat.zero_add] at h4
  rw [h4, List.getElem?_map, hi]; rfl
end Go.Proofs.YtkgncijcnlfhiaaDoor

namespace Go.Proofs.YtkgncijcnlfhiaaDoor
set_option linter.unusedVariables false
set_option linter.unusedSimpArgs false
open Go.RowKit
theorem grow_fits {n m c b : Nat} (hc : c < n + m) (h : (n + m) * b ≤ 140737488355328) : Builtin.nextslicecap (n + m) c * b ≤ 281474976710656 := growslice_fits hc h
section
variable {ops : Array Oper} {rest : List Oper} {o : Oper} {a : Act} {Q : Exit → Act → World → Prop}
/-- append of one element, whose cells lie in a block of their own; what the old slice reads it reads still -/
theorem wpList_append_kept (w : World) (hgd : o.guard = none) (s x : Operand) (t e : TypeId) (n bytes : Nat) (zero : Value) (inf : (Tryd.prog.info? e).map (fun i => (i.zero, i.size, i.bytes)) = some (some zero, n, bytes)) (ht : Tryd.prog.underlying t = some (.slice e)) (hzs : zero.cells.size = n) (hn : 0 < n) (hby : bytes ≤ 1000)
    (ho : o.op = .call { callee := .builtin .append, args := #[s, x], argTypes := #[t, t] })
    (base : Nat) (v : Value) (len : Nat) (xs : List Value) (hs : a.eval s = v) (hown : w.ownsRow base e n v len xs) (ys : Array Value) (hys : ys.size = n) (h1 : ∀ u ∈ ys.toList, u.oneCell' = true)
    (H : Nat) (hx : a.eval x = .slice (some ⟨H, 0, none⟩) 1 1) (hH : w.heap.size = H) (hlen : len ≤ 10000000) (hbase : base ≤ w.heap.size)
    (h : ∀ v' w', Ap base e n w v w' v' (len + 1) (xs ++ ys.toList) → (v'.ownBlock = v.ownBlock ∨ w.grownBy w' none) → wpList Tryd.prog ops Q rest (a.put o.dst v') w') :
    wpList Tryd.prog ops Q (o :: rest) a (w.alloc (.cells ys e)) := by
  subst hH
  obtain ⟨i0, hi, hz0, hz1, hz2⟩ := info_parts inf
  have hb : (len + 1) * bytes ≤ 140737488355328 := Nat.le_trans (Nat.mul_le_mul (Nat.add_le_add_right hlen 1) hby) (by decide)
  have h63 : len + 1 ≤ maxLen := by unfold maxLen; omega
  have hl : ys.toList.length = 1 * n := by rw [Array.length_toList, hys, Nat.one_mul]
  have hown1 := hown.alloc (.cells ys e)
  obtain ⟨v', w', hr, k1, k2, _, k4⟩ := run_append_own_at (P := Tryd.prog) (w.alloc (.cells ys e)) base t o.type e i0 zero n bytes ht hi hz0 hz1 hz2 hzs hn v len xs hown1 ⟨w.heap.size, 0, none⟩ 1 1 ys.toList hl (cells_new _ _ _) h1 h63 hb (by simp; omega)
  have hk : v'.ownBlock = v.ownBlock ∨ (w.alloc (.cells ys e)).grownBy w' none := by
    rcases hown1.2 with ⟨rfl, rfl⟩ | ⟨g, cap, cur, rfl, hbg, hg, hnc, hcm, hcs, htake⟩
    · exact .inr k2
    · by_cases hroom : len + 1 ≤ cap
      · have hr2 := run_append_room (P := Tryd.prog) (w.alloc (.cells ys e)) t o.type e i0 ht hi g len cap cur hg ⟨w.heap.size, 0, none⟩ 1 1 ys.toList (by rw [hz1]; exact hl) (cells_new _ _ _) h1 hroom (by rw [hl, hcs, hz1, ← Nat.add_mul]; exact Nat.mul_le_mul_right _ hroom)
        rw [hr] at hr2
        simp only [Result.ok.injEq] at hr2
        left; rw [hr2.1]; rfl
      · have holds : ∀ j u, xs[j]? = some u → (w.alloc (.cells ys e)).cell? ((⟨g, 0, none⟩ : Addr).add j) = some u := hown1.cells (g := g) rfl
        have hr2 := run_append_grow (P := Tryd.prog) (w.alloc (.cells ys e)) t o.type e i0 zero ht hi hz0 ⟨g, 0, none⟩ len cap xs (by rw [hz1]; exact hown1.1) holds ⟨w.heap.size, 0, none⟩ 1 1 ys.toList (by rw [hz1]; exact hl) (cells_new _ _ _) (by omega) (by unfold maxLen at h63; omega) (by rw [hz2]; exact grow_fits (by omega) hb)
        rw [hr] at hr2
        simp only [Result.ok.injEq] at hr2
        right
        rw [hr2.2]
        exact ⟨rfl, rfl, rfl, by simp, fun k hk _ => heap_alloc_old (w.alloc (.cells ys e)).drew _ hk⟩
  refine Lib.wpList_append_run _ hgd s x t t ho _ _ hs hx v' w' hr ?_
  refine h v' w' ⟨k1, (World.grownBy_alloc w _ _).trans k2, fun k hk => ?_⟩ (hk.imp id fun g => (World.grownBy_alloc w _ _).trans g)
  rcases k4 with e | e
  · exact .inl (e ▸ hk)
  · rw [hk] at e; simp at e; right; omega
end
/-- what a slice reads -/
def Ent (sz : Nat) (w : World) (v : Value) (L : Nat) (xs : List Value) : Prop := ∃ ao c, v = .slice ao L c ∧ L ≤ maxLen ∧ xs.length = L * sz ∧ ∀ j u, xs[j]? = some u → ∃ b, ao = some ⟨b, 0, none⟩ ∧ w.cell? ⟨b, j, none⟩ = some u
theorem Ent.of_own {w : World} {B : Nat} {e : TypeId} {sz : Nat} {v : Value} {L : Nat} {xs : List Value} (h : w.ownsRow B e sz v L xs) : Ent sz w v L xs := by
  obtain ⟨⟨ao, c, rfl⟩, hm⟩ := own_form h
  refine ⟨ao, c, rfl, hm, h.1, fun j u hj => ?_⟩
  have hjl : j < L * sz := by rw [← h.1]; exact (List.getElem?_eq_some_iff.1 hj).1
  obtain ⟨g, _, _, ⟨c', h3⟩, h4⟩ := own_at h hjl
  simp only [Value.slice.injEq, true_and] at h3
  exact ⟨g, h3.1, by rw [Nat.zero_add] at h4; rw [h4]; exact hj⟩
theorem Ent.keep {sz : Nat} {w w' : World} {v : Value} {L : Nat} {xs : List Value} (h : Ent sz w v L xs) (g : ∀ b, v.ownBlock = some b → w'.heap[b]? = w.heap[b]?) : Ent sz w' v L xs := by
  obtain ⟨ao, c, rfl, hm, hl, hc⟩ := h
  refine ⟨ao, c, rfl, hm, hl, fun j u hj => ?_⟩
  obtain ⟨b, rfl, h2⟩ := hc j u hj
  exact ⟨b, rfl, (World.cell?_of_block (g b rfl)).trans h2⟩
/-- an append behind it: a slice of what the old one reads reads it still -/
theorem Ent.app {B B' : Nat} {e : TypeId} {sz : Nat} {w w' : World} {v v' x : Value} {L Le : Nat} {xs xe ys : List Value} (h : Ent sz w x Le xe) (hp : xe <+: xs) (hown : w.ownsRow B e sz v L xs) (hown' : w'.ownsRow B' e sz v' (L + 1) (xs ++ ys)) (hf : w.grownBy w' v.ownBlock) (hk : v'.ownBlock = v.ownBlock ∨ w.grownBy w' none) : Ent sz w' x Le xe := by
  obtain ⟨ao, c, rfl, hm, hl, hc⟩ := h
  refine ⟨ao, c, rfl, hm, hl, fun j u hj => ?_⟩
  obtain ⟨b, rfl, h2⟩ := hc j u hj
  refine ⟨b, rfl, ?_⟩
  have hbl : b < w.heap.size := World.block_lt_of_cell? w _ h2
  by_cases hb : v.ownBlock = some b
  · rcases hk with hk | hk
    · obtain ⟨zs, rfl⟩ := hp
      have hx : (xe ++ zs ++ ys)[j]? = some u := by
        have hjl := (List.getElem?_eq_some_iff.1 hj).1
        rw [List.append_assoc, List.getElem?_append_left hjl]; exact hj
      have hjl : j < (L + 1) * sz := by rw [← hown'.1]; exact (List.getElem?_eq_some_iff.1 hx).1
      obtain ⟨g, h1, _, _, h4⟩ := own_at hown' hjl
      rw [hk, hb] at h1
      obtain rfl := Option.some.inj h1
      rw [Nat.zero_add] at h4
      rw [h4]; exact hx
    · exact (World.cell?_of_block (a := ⟨b, j, none⟩) (hk.block b hbl (by simp))).trans h2
  · exact (World.cell?_of_block (a := ⟨b, j, none⟩) (hf.block b hbl (fun e => hb e.symm))).trans h2
end Go.Proofs.YtkgncijcnlfhiaaDoor

