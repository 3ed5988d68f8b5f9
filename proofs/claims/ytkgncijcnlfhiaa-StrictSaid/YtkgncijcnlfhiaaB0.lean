import Derived.Test.YtkgncijcnlfhiaaR0
import Derived.Maps.AppendAt
namespace Go.Proofs.Ytkgncijcnlfhiaa
set_option linter.unusedVariables false
set_option linter.unusedSimpArgs false
open Go.RowKit
/-- bytes, as cells -/
def bc (l : List UInt8) : List Value := l.map fun b => Value.int .u8 b.toNat
theorem bc_len (l : List UInt8) : (bc l).length = l.length := by simp [bc]
theorem bc_app (l m : List UInt8) : bc (l ++ m) = bc l ++ bc m := by simp [bc]
theorem bc_one (l : List UInt8) : ∀ u ∈ bc l, u.oneCell' = true := by
  intro u hu; simp [bc] at hu; obtain ⟨x, _, rfl⟩ := hu; rfl

theorem Try.info5 : (Try.prog.info? 5).map (fun i => (i.zero, i.size, i.bytes)) = some (some (.int .u8 0), 1, 1) := by kernel_rfl

/-- v, which owned its bytes, has become v', which owns l'; nothing else that was there has turned -/
structure App (base : Nat) (w : World) (v : Value) (w' : World) (v' : Value) (l' : List UInt8) : Prop where
  own : w'.ownsRow base 5 1 v' l'.length (bc l')
  frm : w.grownBy w' v.ownBlock
  lies : ∀ k, v'.ownBlock = some k → v.ownBlock = some k ∨ w.heap.size ≤ k

theorem App.refl {base : Nat} {w : World} {v : Value} {l : List UInt8} (h : w.ownsRow base 5 1 v l.length (bc l)) : App base w v w v l :=
  ⟨h, World.grownBy.refl _ _, fun _ hk => .inl hk⟩
theorem App.trans {base : Nat} {w w1 w2 : World} {v v1 v2 : Value} {l1 l2 : List UInt8} (h : App base w v w1 v1 l1) (k : App base w1 v1 w2 v2 l2) : App base w v w2 v2 l2 := by
  refine ⟨k.own, ⟨k.frm.os.trans h.frm.os, k.frm.tape.trans h.frm.tape, k.frm.output.trans h.frm.output, Nat.le_trans h.frm.size k.frm.size, fun i hi hne => ?_⟩, fun i hi => ?_⟩
  · refine (k.frm.block i (Nat.lt_of_lt_of_le hi h.frm.size) fun e => ?_).trans (h.frm.block i hi hne)
    rcases h.lies i e.symm with e1 | e1
    · exact hne e1.symm
    · omega
  · rcases k.lies i hi with e | e
    · exact h.lies i e
    · exact .inr (Nat.le_trans h.frm.size e)
theorem App.gr {base : Nat} {w w1 w2 : World} {v v2 : Value} {l2 : List UInt8} (g : Gr w w1) (k : App base w1 v w2 v2 l2) : App base w v w2 v2 l2 := by
  refine ⟨k.own, ⟨k.frm.os.trans g.os, k.frm.tape.trans g.tape, k.frm.output.trans g.output, Nat.le_trans g.size k.frm.size, fun i hi hne => (k.frm.block i (Nat.lt_of_lt_of_le hi g.size) hne).trans (g.block i hi (by simp))⟩, fun i hi => ?_⟩
  rcases k.lies i hi with e | e
  · exact .inl e
  · exact .inr (Nat.le_trans g.size e)
theorem App.thenGr {base : Nat} {w w1 w2 : World} {v v1 : Value} {l1 : List UInt8} (k : App base w v w1 v1 l1) (g : Gr w1 w2) : App base w v w2 v1 l1 := by
  refine ⟨k.own.kept g ?_, ⟨g.os.trans k.frm.os, g.tape.trans k.frm.tape, g.output.trans k.frm.output, Nat.le_trans k.frm.size g.size, fun i hi hne => (g.block i (Nat.lt_of_lt_of_le hi k.frm.size) (by simp)).trans (k.frm.block i hi hne)⟩, k.lies⟩
  cases h : v1.ownBlock <;> simp
theorem App.cell {base : Nat} {w w' : World} {v v' : Value} {l' : List UInt8} (k : App base w v w' v' l') {b o : Nat} {x : Value} (hx : w.cell? ⟨b, o, none⟩ = some x) (hb : b < base) (hv : ∀ i, v.ownBlock = some i → base ≤ i) : w'.cell? ⟨b, o, none⟩ = some x :=
  k.frm.cell hx (fun e => by have := hv b e.symm; omega)

section
variable {ops : Array Oper} {rest : List Oper} {o : Oper} {a : Act} {Q : Exit → Act → World → Prop}
/-- append of one byte, which lies in a block of its own -/
theorem wpList_append_byte (w : World) (hgd : o.guard = none) (s x : Operand) (ho : o.op = .call { callee := .builtin .append, args := #[s, x], argTypes := #[37, 37] })
    (base : Nat) (v : Value) (l : List UInt8) (hs : a.eval s = v) (hown : w.ownsRow base 5 1 v l.length (bc l)) (y : UInt8) (val : Int) (hy : val = y.toNat)
    (H : Nat) (hx : a.eval x = .slice (some ⟨H, 0, none⟩) 1 1) (hH : w.heap.size = H) (hlen : l.length ≤ 100000000) (hbase : base ≤ w.heap.size)
    (h : ∀ v' w', App base w v w' v' (l ++ [y]) → wpList Try.prog ops Q rest (a.put o.dst v') w') :
    wpList Try.prog ops Q (o :: rest) a (w.alloc (.cells #[.int .u8 val] 5)) := by
  subst hy
  subst hH
  obtain ⟨i0, hi, hz0, hz1, hz2⟩ := info_parts Try.info5
  refine wpList_append_own_at _ hgd s x 37 ho base 5 i0 (.int .u8 0) 1 1 Try.underlying37 hi hz0 hz1 hz2 rfl (by decide) v l.length (bc l) hs (hown.alloc _) ⟨w.heap.size, 0, none⟩ 1 1 [.int .u8 y.toNat] hx rfl (cell_one_new _ _ _) (by intro u hu; simp at hu; subst hu; rfl) (by unfold maxLen; omega) (by omega) (by simp; omega) ?_
  intro v' w' h1 h2 _ h4
  refine h v' w' ⟨?_, (World.grownBy_alloc w _ _).trans h2, fun k hk => ?_⟩
  · simpa [bc] using h1
  · rcases h4 with e | e
    · exact .inl (e ▸ hk)
    · rw [hk] at e; simp at e; right; omega
end

/-- numbers, in bytes of seven bits -/
def numF : Nat → Nat → List UInt8
  | 0, v => [UInt8.ofNat v]
  | k + 1, v => if v < 128 then [UInt8.ofNat v] else UInt8.ofNat (v % 128 + 128) :: numF k (v / 128)
def num (v : Nat) : List UInt8 := numF 10 v
end Go.Proofs.Ytkgncijcnlfhiaa
