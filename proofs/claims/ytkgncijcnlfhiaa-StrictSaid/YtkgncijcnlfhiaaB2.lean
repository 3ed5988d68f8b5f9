import Derived.Test.YtkgncijcnlfhiaaB1
import Derived.Lib.AppendStr
namespace Go.Proofs.Ytkgncijcnlfhiaa
set_option linter.unusedVariables false
set_option linter.unusedSimpArgs false
open Go.RowKit

theorem below_cell {W w : World} (h : Below W.heap.size W w) {a : Addr} {x : Value} (hx : W.cell? a = some x) : w.cell? a = some x :=
  (h.cell (World.block_lt_of_cell? W a hx)).trans hx
theorem RInts.below {W w : World} {v : Value} {l : List Int} (h : RInts W v l) (g : Below W.heap.size W w) : RInts w v l := by
  obtain ⟨ao, cap, hv, hm, hc⟩ := h
  refine ⟨ao, cap, hv, hm, fun i hi => ?_⟩
  obtain ⟨b, off, h1, h2⟩ := hc i hi
  exact ⟨b, off, h1, below_cell g h2⟩
theorem App.below {base : Nat} {w w' : World} {v v' : Value} {l l' : List UInt8} (k : App base w v w' v' l') (hown : w.ownsRow base 5 1 v l.length (bc l)) (hb : base ≤ w.heap.size) : Below base w w' :=
  (Below.refl _ _).grown k.frm hb fun i hi => (hown.lt i hi).1
/-- what a call of the writers is made in: the unit lies in W, below all that was made since -/
structure Wr (W w : World) (v : Value) (l : List UInt8) : Prop where
  low : Below W.heap.size W w
  own : w.ownsRow W.heap.size 5 1 v l.length (bc l)
theorem Wr.base {W w : World} {v : Value} {l : List UInt8} (h : Wr W w v l) : W.heap.size ≤ w.heap.size := h.low.size
theorem Wr.app {W w w' : World} {v v' : Value} {l l' : List UInt8} (h : Wr W w v l) (k : App W.heap.size w v w' v' l') : Wr W w' v' l' :=
  ⟨h.low.trans (k.below h.own h.base), k.own⟩
theorem Wr.gr {W w w' : World} {v : Value} {l : List UInt8} (h : Wr W w v l) (g : Gr w w') : Wr W w' v l :=
  ⟨h.low.grown g h.base (by simp), h.own.kept g (by cases v.ownBlock <;> simp)⟩
theorem Wr.refl {W w : World} {v : Value} {l : List UInt8} (h : Wr W w v l) : App W.heap.size w v w v l := App.refl h.own

section
variable {ops : Array Oper} {rest : List Oper} {o : Oper} {a : Act} {Q : Exit → Act → World → Prop}
/-- append of a text -/
theorem wpList_append_text (w : World) (hgd : o.guard = none) (sl x : Operand) (ho : o.op = .call { callee := .builtin .append, args := #[sl, x], argTypes := #[37, 9] })
    (base : Nat) (v : Value) (l : List UInt8) (hs : a.eval sl = v) (hown : w.ownsRow base 5 1 v l.length (bc l)) (s : ByteArray)
    (hx : a.eval x = .string s) (hlen : l.length + s.size ≤ 100000000) (hbase : base ≤ w.heap.size)
    (h : ∀ v' w', App base w v w' v' (l ++ s.data.toList) → wpList Try.prog ops Q rest (a.put o.dst v') w') :
    wpList Try.prog ops Q (o :: rest) a w := by
  obtain ⟨i, hi, hz, hsize, hby⟩ := info_parts Try.info5
  refine wpList_plain hgd fun K hK => ?_
  obtain ⟨v', w', hr, h2, h3, _⟩ := Go.Lib.run_append_own_string (P := Try.prog) w base 37 9 o.type 5 i Try.underlying37 Try.underlying9 hi hz hsize hby v l.length (bc l) hown s (by unfold maxLen; omega) (by omega) hbase
  have hsz : s.data.toList.length = s.size := by rw [Array.length_toList]; rfl
  have hlies : ∀ k, v'.ownBlock = some k → v.ownBlock = some k ∨ w.heap.size ≤ k := by
    intro k hk
    rcases hown.2 with ⟨rfl, hn⟩ | ⟨g, cap, cur, rfl, hbg, hg, hnc, hcm, hcs, htake⟩
    · obtain ⟨v2, w2, hr2, h22, _⟩ := Go.Lib.run_append_own_string (P := Try.prog) w w.heap.size 37 9 o.type 5 i Try.underlying37 Try.underlying9 hi hz hsize hby _ l.length (bc l) (by rw [hn]; exact ⟨by simp [bc_len, hn], .inl ⟨rfl, rfl⟩⟩) s (by unfold maxLen; omega) (by omega) (Nat.le_refl _)
      rw [hr] at hr2
      simp only [Result.ok.injEq] at hr2
      obtain ⟨rfl, rfl⟩ := hr2
      exact .inr (h22.lt k hk).1
    · have hcs' : cur.size = cap := by simpa using hcs
      by_cases hroom : l.length + s.size ≤ cap
      · have hr2 := Go.Lib.run_append_room_string (P := Try.prog) w 37 9 o.type 5 i Try.underlying37 Try.underlying9 hi hsize g l.length cap cur hg s hroom (by omega)
        rw [hr] at hr2
        simp only [Result.ok.injEq] at hr2
        obtain ⟨rfl, rfl⟩ := hr2
        exact .inl hk
      · have hr2 := Go.Lib.run_append_grow_string (P := Try.prog) w 37 9 o.type 5 i (.int .u8 0) Try.underlying37 Try.underlying9 hi hz ⟨g, 0, none⟩ l.length cap (bc l) (by rw [hsize]; simp [bc_len]) (hown.cells (g := g) rfl) s (by omega) (by omega) (by rw [hby]; exact growslice_fits (by omega) (by omega))
        rw [hr] at hr2
        simp only [Result.ok.injEq] at hr2
        obtain ⟨rfl, rfl⟩ := hr2
        simp [Value.ownBlock] at hk
        right; omega
  unfold Oper.wp execOp
  simp only [ho, resolve, invoke, builtin, Sem.run_bind, Sem.run_pure, Result.andThen_ok, List.map_toArray, List.map_cons, List.map_nil, hs, hx, hr]
  refine hK _ _ (h v' w' ⟨?_, h3, hlies⟩)
  rw [bc_app, List.length_append, hsz]
  exact h2
end

theorem whole_any (W : World) (v : Value) (l : List UInt8) (n : Int) (w : World) (h0 : 0 ≤ n) (hn : n ≤ 9223372036854775807) (hw : Wr W w v l) (hlen : l.length ≤ 10000000) :
    Calls Try.prog 55 #[v, .int .i64 n] w fun x w' => ∃ v', x = .returned v' ∧ App W.heap.size w v w' v' (l ++ num n.toNat) := by
  obtain ⟨k, rfl⟩ := Int.eq_ofNat_of_zero_le h0
  exact appendWhole_any _ v l k w (by omega) hw.own hlen hw.base
theorem signed_any (W : World) (v : Value) (l : List UInt8) (n : Int) (w : World) (h0 : -9223372036854775808 ≤ n) (hn : n ≤ 9223372036854775807) (hw : Wr W w v l) (hlen : l.length ≤ 10000000) :
    Calls Try.prog 29 #[v, .int .i64 n] w fun x w' => ∃ v', x = .returned v' ∧ App W.heap.size w v w' v' (l ++ num (zig n)) :=
  appendSigned_any _ v l n w h0 hn hw.own hlen hw.base

set_option maxHeartbeats 400000 in
theorem text_any (W : World) (v : Value) (l : List UInt8) (s : ByteArray) (w : World) (hs : s.size ≤ 1000000) (hw : Wr W w v l) (hlen : l.length ≤ 10000000) :
    Calls Try.prog 58 #[v, .string s] w fun x w' => ∃ v', x = .returned v' ∧ App W.heap.size w v w' v' (l ++ (num s.size ++ s.data.toList)) := by
  have hl2 : (num s.size).length ≤ 11 := num_len _
  go_enter Try.func58, Try.ntmps58
  go_wp2_with (first | (go_at_call 55; refine (whole_any W _ l s.size _ (by omega) (by omega) (by exact hw) hlen).mono ?_; rintro e w1 ⟨v1, rfl, happ⟩; rw [Int.toNat_natCast] at happ; have hw1 := hw.app happ) | (at_builtin; refine wpList_append_text _ rfl _ _ rfl W.heap.size _ (l ++ num s.size) rfl hw1.own s rfl (by simp only [List.length_append]; omega) hw1.base ?_; intro v2 w2 happ2))
  go_ret
  refine ⟨v2, rfl, ?_⟩
  rw [← List.append_assoc]
  exact happ.trans happ2
end Go.Proofs.Ytkgncijcnlfhiaa
