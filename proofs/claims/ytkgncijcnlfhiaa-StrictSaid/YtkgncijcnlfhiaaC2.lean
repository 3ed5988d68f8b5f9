import Derived.Test.YtkgncijcnlfhiaaC1
import Derived.ArgAppend
import Derived.Deep.Onto
namespace Go.Proofs.Ytkgncijcnlfhiaa
set_option linter.unusedVariables false
set_option linter.unusedSimpArgs false
open Go.RowKit

section
variable {ops : Array Oper} {rest : List Oper} {o : Oper} {a : Act} {Q : Exit → Act → World → Prop}
/-- append of other bytes that are owned -/
theorem wpList_append_bytes (w : World) (hgd : o.guard = none) (s x : Operand) (ho : o.op = .call { callee := .builtin .append, args := #[s, x], argTypes := #[37, 37] })
    (base : Nat) (v : Value) (l : List UInt8) (hs : a.eval s = v) (hown : w.ownsRow base 5 1 v l.length (bc l)) (base2 g cap : Nat) (m : List UInt8)
    (hx : a.eval x = .slice (some ⟨g, 0, none⟩) m.length cap) (hm : w.ownsRow base2 5 1 (.slice (some ⟨g, 0, none⟩) m.length cap) m.length (bc m)) (hlen : (l ++ m).length ≤ 100000000) (hbase : base ≤ w.heap.size)
    (h : ∀ v' w', App base w v w' v' (l ++ m) → wpList Try.prog ops Q rest (a.put o.dst v') w') :
    wpList Try.prog ops Q (o :: rest) a w := by
  obtain ⟨i0, hi, hz0, hz1, hz2⟩ := info_parts Try.info5
  rw [List.length_append] at hlen
  refine wpList_append_own_at _ hgd s x 37 ho base 5 i0 (.int .u8 0) 1 1 Try.underlying37 hi hz0 hz1 hz2 rfl (by decide) v l.length (bc l) hs hown ⟨g, 0, none⟩ m.length cap (bc m) hx (by rw [bc_len, Nat.mul_one]) (hm.cells (g := g) rfl) (bc_one m) (by unfold maxLen; omega) (by omega) hbase ?_
  intro v' w' h1 h2 _ h4
  refine h v' w' ⟨?_, h2, fun k hk => ?_⟩
  · rw [bc_app, List.length_append]; exact h1
  · rcases h4 with e | e
    · exact .inl (e ▸ hk)
    · rw [hk] at e; simp at e; right; omega
end

/-- owned, or a row that is full (that of a text that was turned into bytes) -/
def Own0 (base : Nat) (w : World) (v : Value) (l : List UInt8) : Prop :=
  w.ownsRow base 5 1 v l.length (bc l) ∨ ∃ b, base ≤ b ∧ b < w.heap.size ∧ v = .slice (some ⟨b, 0, none⟩) l.length l.length ∧ ∀ j u, (bc l)[j]? = some u → w.cell? ((⟨b, 0, none⟩ : Addr).add j) = some u
theorem Own0.lt {base : Nat} {w : World} {v : Value} {l : List UInt8} (h : Own0 base w v l) : ∀ k, v.ownBlock = some k → base ≤ k ∧ k < w.heap.size := by
  rcases h with h | ⟨b, h1, h2, rfl, _⟩
  · exact h.lt
  · intro k hk; simp [Value.ownBlock] at hk; subst hk; exact ⟨h1, h2⟩
structure Wr0 (W w : World) (v : Value) (l : List UInt8) : Prop where
  low : Below W.heap.size W w
  own : Own0 W.heap.size w v l
theorem Wr.to0 {W w : World} {v : Value} {l : List UInt8} (h : Wr W w v l) : Wr0 W w v l := ⟨h.low, .inl h.own⟩
theorem Wr0.base {W w : World} {v : Value} {l : List UInt8} (h : Wr0 W w v l) : W.heap.size ≤ w.heap.size := h.low.size
theorem Wr0.app {W w w' : World} {v v' : Value} {l l' : List UInt8} (h : Wr0 W w v l) (k : App W.heap.size w v w' v' l') : Wr W w' v' l' :=
  ⟨h.low.trans ((Below.refl _ _).grown k.frm h.base fun i hi => (h.own.lt i hi).1), k.own⟩
theorem Wr0.gr {W w w' : World} {v : Value} {l : List UInt8} (h : Wr0 W w v l) (g : Gr w w') : Wr0 W w' v l := by
  refine ⟨h.low.grown g h.base (by simp), ?_⟩
  rcases h.own with ho | ⟨b, h1, h2, rfl, h3⟩
  · exact .inl (ho.kept g (by cases v.ownBlock <;> simp))
  · exact .inr ⟨b, h1, Nat.lt_of_lt_of_le h2 g.size, rfl, fun j u hu => g.cell (h3 j u hu) (by simp)⟩
theorem Wr0.apart {W w : World} {v : Value} {l : List UInt8} (h : Wr0 W w v l) {g : Nat} (hg : w.heap.size ≤ g) : v.ownBlock ≠ some g := fun e => by have := (h.own.lt g e).2; omega

section
variable {ops : Array Oper} {rest : List Oper} {o : Oper} {a : Act} {Q : Exit → Act → World → Prop}
theorem wpList_append_byte0 (w : World) (hgd : o.guard = none) (s x : Operand) (ho : o.op = .call { callee := .builtin .append, args := #[s, x], argTypes := #[37, 37] })
    (base : Nat) (v : Value) (l : List UInt8) (hs : a.eval s = v) (hown : Own0 base w v l) (y : UInt8) (val : Int) (hy : val = y.toNat)
    (H : Nat) (hx : a.eval x = .slice (some ⟨H, 0, none⟩) 1 1) (hH : w.heap.size = H) (hlen : l.length ≤ 100000000) (hbase : base ≤ w.heap.size)
    (h : ∀ v' w', App base w v w' v' (l ++ [y]) → wpList Try.prog ops Q rest (a.put o.dst v') w') :
    wpList Try.prog ops Q (o :: rest) a (w.alloc (.cells #[.int .u8 val] 5)) := by
  rcases hown with hown | ⟨b, h1, h2, rfl, h3⟩
  · exact wpList_append_byte w hgd s x ho base v l hs hown y val hy H hx hH hlen hbase h
  · subst hy
    subst hH
    obtain ⟨i0, hi, hz0, hz1, hz2⟩ := info_parts Try.info5
    refine wpList_append_grows _ hgd s x 37 ho 5 i0 (.int .u8 0) 1 1 Try.underlying37 hi hz0 hz1 hz2 rfl (by decide) (some ⟨b, 0, none⟩) l.length l.length (bc l) hs (by simp) (by rw [bc_len, Nat.mul_one]) (fun b' hb' j u hu => by simp only [Option.some.injEq] at hb'; subst hb'; exact (World.grownBy_alloc w _ none).cell (h3 j u hu) (by simp)) ⟨w.heap.size, 0, none⟩ 1 1 [.int .u8 y.toNat] hx rfl (cell_one_new _ _ _) (by intro u hu; simp at hu; subst hu; rfl) (by omega) (by unfold maxLen; omega) (by omega) ?_
    intro v' w' h4 h5
    refine h v' w' ⟨?_, ?_, fun k hk => ?_⟩
    · have h6 := h4.mono (base' := base) (by simp; omega)
      simpa [bc] using h6
    · have h7 := (World.grownBy_alloc w (.cells #[.int .u8 y.toNat] 5) none).trans h5
      exact ⟨h7.os, h7.tape, h7.output, h7.size, fun k hk _ => h7.block k hk (by simp)⟩
    · have := (h4.lt k hk).1
      simp at this; right; omega
end

theorem run_conv (w : World) (base g cap : Nat) (m : List UInt8) (hm : w.ownsRow base 5 1 (.slice (some ⟨g, 0, none⟩) m.length cap) m.length (bc m)) :
    (convert 37 9 (.slice (some ⟨g, 0, none⟩) m.length cap)).run Try.prog w = .ok (.string ⟨m.toArray⟩) w := by
  rw [run_convert_bytes_string w 37 9 5 _ _ _ Try.underlying37 Try.underlying5 Try.underlying9]
  have hl := run_loadCells_list (P := Try.prog) (w := w) ⟨g, 0, none⟩ (bc m) (hm.cells (g := g) rfl)
  rw [bc_len] at hl
  have e : bc m = (m.map (fun b => (b.toNat : Int))).map (Value.int .u8) := by simp [bc]
  rw [e] at hl
  rw [run_bytesToString w _ _ _ _ hl, foldl_push_byteCells]
  simp

def leK (c k : Nat) : List UInt8 := (List.range k).map fun j => UInt8.ofNat (c / 256 ^ j % 256)
theorem leK_succ (c k : Nat) : leK c (k + 1) = leK c k ++ [UInt8.ofNat (c / 256 ^ k % 256)] := by simp [leK, List.range_succ]
theorem leK_len (c k : Nat) : (leK c k).length = k := by simp [leK]
def sect (n : Nat) (b : List UInt8) : List UInt8 := [UInt8.ofNat n] ++ num b.length ++ b ++ leK (crc b) 4
theorem byte_sec {n : Nat} (h : n ≤ 5) : (n : Int) = (UInt8.ofNat n).toNat := by simp [UInt8.toNat_ofNat']; omega
theorem byte_mod (q : Nat) : (q : Int) % 256 = (UInt8.ofNat (q % 256)).toNat := by simp [UInt8.toNat_ofNat']

theorem App.keeps {base : Nat} {w w' : World} {v v' : Value} {l' : List UInt8} (k : App base w v w' v' l') {b2 g c n : Nat} {xs : List Value} (h : w.ownsRow b2 5 1 (.slice (some ⟨g, 0, none⟩) n c) n xs) (hne : v.ownBlock ≠ some g) : w'.ownsRow b2 5 1 (.slice (some ⟨g, 0, none⟩) n c) n xs :=
  h.kept k.frm (.inr (by simp [Value.ownBlock]; exact fun e => hne e.symm))

theorem own_shape {w : World} {base : Nat} {e : TypeId} {v : Value} {n : Nat} {xs : List Value} (h : w.ownsRow base e 1 v n xs) : ∃ ao co, v = .slice ao n co := by
  rcases h.2 with ⟨h1, h2⟩ | ⟨g2, c2, _, h1, _⟩
  · exact ⟨none, 0, by rw [h1, h2]⟩
  · exact ⟨_, c2, h1⟩

set_option maxRecDepth 100000 in
set_option maxHeartbeats 2000000 in
theorem section_write (W : World) (v : Value) (l : List UInt8) (n : Nat) (g cap base2 : Nat) (m : List UInt8) (w : World) (hn : n ≤ 5) (hw : Wr0 W w v l)
    (hm : w.ownsRow base2 5 1 (.slice (some ⟨g, 0, none⟩) m.length cap) m.length (bc m)) (hne : v.ownBlock ≠ some g) (hlen : l.length + m.length ≤ 5000000) :
    Calls Try.prog 25 #[v, .int .u8 n, .slice (some ⟨g, 0, none⟩) m.length cap] w fun x w' =>
      ((l ++ sect n m).length ≤ 20000 ∧ ∃ v', x = .returned v' ∧ App W.heap.size w v w' v' (l ++ sect n m)) ∨
      (¬ (l ++ sect n m).length ≤ 20000 ∧ x = .panicked (thrown 3 0) ∧ Below W.heap.size W w') := by
  have hl11 := num_len m.length
  have hc := crc_lt m
  have hgl : g < w.heap.size := (hm.lt g rfl).2
  have HG := hide hne
  have HM := hide hm
  clear hne hm
  go_enter Try.func25, Try.ntmps25
  go_wp2_with (first
    | (at_builtin; refine wpList_append_byte0 _ rfl (.tmp 8) (.tmp 10) rfl W.heap.size v l rfl hw.own (UInt8.ofNat n) _ (by exact byte_sec hn) _ rfl (by simp) (by omega) hw.base ?_; intro v1 w1 happ1; have hw1 := hw.app happ1)
    | (go_at_call 53; refine (appendNumber_any W.heap.size _ (l ++ [UInt8.ofNat n]) m.length _ (by omega) (by exact hw1.own) (by simp; omega) (by exact hw1.base)).mono ?_; rintro e w2 ⟨v2, rfl, happ2⟩; have hw2 := hw1.app happ2; have happ12 := happ1.trans happ2; have hm2 := hide (happ12.keeps HM.out HG.out))
    | (at_builtin; refine wpList_append_bytes _ rfl (.tmp 17) (.tmp 18) rfl W.heap.size v2 (l ++ [UInt8.ofNat n] ++ num m.length) rfl hw2.own base2 g cap m rfl hm2.out (by simp; omega) hw2.base ?_; intro v3 w3 happ3; have hw3 := hw2.app happ3; have happ13 := happ12.trans happ3; have hconv := run_conv w3 base2 g cap m (happ13.keeps HM.out HG.out))
    | (go_at_call 54; refine (check_any _ _ (by unfold maxLen; simp [ByteArray.size]; omega)).mono ?_; rintro e w4 ⟨rfl, e4⟩; subst e4))
  have HS : Hid (l ++ sect n m = l ++ [UInt8.ofNat n] ++ num m.length ++ m ++ leK (crc m) 4) := hide (by simp [sect])
  have hlm : (l ++ [UInt8.ofNat n] ++ num m.length ++ m).length ≤ 5000020 := by simp only [List.length_append, List.length_cons, List.length_nil]; omega
  generalize l ++ [UInt8.ofNat n] ++ num m.length ++ m = l3 at HS happ13 hw3 hlm
  have H13 := hide happ13
  clear happ1 happ2 happ12 happ13 happ3 hw1 hw2 hm2 hconv hw3
  go_loopw [0, 7, 23] (fun vo c i wr => ∃ k : Nat, k ≤ 4 ∧ i = .int .i64 k ∧ c = .int .u32 ((crc m / 256 ^ k : Nat) : Int) ∧ App W.heap.size w v wr vo (l3 ++ leK (crc m) k)) (fun _ _ i _ => 4 - (intOf i).toNat)
  case atStart => exact ⟨0, Nat.zero_le _, rfl, by simp, by simp [leK]; exact H13.out⟩
  case round =>
    obtain ⟨k, hk, rfl, rfl, happ⟩ := hrel
    have hwr := hw.app happ
    have H2 := hide happ
    clear happ
    by_cases hlt : k < 4
    · have HD : Hid (crc m / 256 ^ (k + 1) = crc m / 256 ^ k / 256) := hide (by rw [Nat.pow_succ, Nat.div_div_eq_div_mul])
      have HK := hide (leK_succ (crc m) k)
      have hq : crc m / 256 ^ k < 4294967296 := Nat.lt_of_le_of_lt (Nat.div_le_self _ _) hc
      have hlk : (l3 ++ leK (crc m) k).length ≤ 100000000 := by rw [List.length_append, leK_len]; omega
      generalize crc m / 256 ^ k = q at HD HK hq
      go_wp2_with (at_builtin; refine wpList_append_byte _ rfl (.tmp 25) (.tmp 28) rfl W.heap.size _ (l3 ++ leK (crc m) k) rfl hwr.own (UInt8.ofNat (q % 256)) _ (by exact byte_mod q) _ rfl (by simp) hlk hwr.base ?_; intro v5 w5 happ5)
      have H5 := hide happ5
      clear happ5
      go_roundw
      case rel => exact ⟨k + 1, by omega, by go_num, by rw [HD.out]; go_num, by rw [HK.out, ← List.append_assoc]; exact H2.out.trans H5.out⟩
      case measure => simp [intOf]; omega
    · have hk4 : k = 4 := by omega
      subst hk4
      have HS2 := HS.out
      rw [← HS2] at H2 hwr
      obtain ⟨ao, co, hv0⟩ := own_shape hwr.own
      subst hv0
      have HLow := hide hwr.low
      clear hwr HS2
      by_cases hN : (l ++ sect n m).length ≤ 20000
      · have H20 := hide hN
        have hd : (((l ++ sect n m).length : Nat) : Int) ≤ 20000 := by omega
        clear hN
        generalize (l ++ sect n m).length = N at hd ⊢ H2
        go_wp2_with (go_at_call 36; refine (unless_yes _ _ _).mono ?_; rintro e w' ⟨rfl, hg'⟩)
        go_ret
        refine .inl ⟨H20.out, _, rfl, ?_⟩
        exact H2.out.thenGr hg'
      · have H20 := hide hN
        have hd : ¬ (((l ++ sect n m).length : Nat) : Int) ≤ 20000 := by omega
        clear hN
        generalize (l ++ sect n m).length = N at hd ⊢ H2
        go_wp2_with (go_at_call 36; refine (unless_no _ _ _).mono ?_; rintro e w' ⟨rfl, hg'⟩)
        exact ⟨rfl, .inr ⟨H20.out, rfl, HLow.out.grown hg' HLow.out.size (by simp)⟩⟩
end Go.Proofs.Ytkgncijcnlfhiaa
