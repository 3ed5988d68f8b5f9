import Derived.BigRegion
import Derived.Laws.IdiomStrings
import Derived.Test.YtkgncijcnlfhiaaQ4
import Derived.Test.YtkgncijcnlfhiaaR4
import Derived.Test.YtkgncijcnlfhiaaE1
namespace Go.Proofs.Ytkgncijcnlfhiaa
set_option linter.unusedVariables false
set_option linter.unusedSimpArgs false
open Go.RowKit

def pickOf (c n : Int) : Int := if c < 0 then (-(c + 1)) % n else c % n
theorem pickOf_lt {c n : Int} (hn : 0 < n) : 0 ≤ pickOf c n ∧ pickOf c n < n := by
  unfold pickOf; split
  · exact ⟨Int.emod_nonneg _ (by omega), Int.emod_lt_of_pos _ hn⟩
  · exact ⟨Int.emod_nonneg _ (by omega), Int.emod_lt_of_pos _ hn⟩
set_option maxRecDepth 100000 in
theorem pick_any (c n : Int) (w : World) (hc : -9223372036854775808 ≤ c ∧ c ≤ 9223372036854775807) (hn : 0 < n) (hn2 : n ≤ 9223372036854775807) :
    Calls Try.prog 9 #[.int .i64 c, .int .i64 n] w fun x w' => x = .returned (.int .i64 (pickOf c n)) ∧ w' = w := by
  go_enter Try.func9, Try.ntmps9
  go_wp2
  · rename_i h
    have e : pickOf c n = -(c + 1).tmod n := by
      unfold pickOf; rw [if_pos h, ← Int.tmod_eq_emod_of_nonneg (by omega), Int.neg_tmod]
    rw [e]
    go_ret
    exact ⟨rfl, rfl⟩
  · rename_i h
    have e : pickOf c n = c % n := by
      unfold pickOf; rw [if_neg (by omega)]
    rw [e]
    go_ret
    exact ⟨rfl, rfl⟩

theorem encode_dec {s : ByteArray} {u : PUnit} (h : dec s.data.toList = .inl u) (vu : Value) (W : World) (hR : RUnit W vu u) :
    Calls Try.prog 6 #[vu] W fun x w' => x = .returned (.tuple #[.string s, .int .i64 0]) ∧ Below W.heap.size W w' := by
  obtain ⟨h1, h2, h3, h4, _⟩ := dec_ok h
  have e1 : encErr u = 0 := by unfold encErr; rw [h1, h3, if_pos rfl, if_pos h4]
  have e2 : (ByteArray.mk (encStr u).toArray) = s := by unfold encStr; rw [h1, h3, if_pos rfl, if_pos h4]
  have h := encode_any u vu W hR h2
  rw [e1, e2] at h
  exact h

theorem len_size (s : ByteArray) : s.data.toList.length = s.size := Array.length_toList
theorem bytes_made (s : ByteArray) (w : World) : ∃ cp w', (convert 9 37 (.string s)).run Try.prog w = .ok (.slice (some ⟨w.heap.size, 0, none⟩) s.size cp) w' ∧
    (∀ j (hj : j < s.data.size), w'.cell? ⟨w.heap.size, j, none⟩ = some (.int .u8 (s.data[j].toNat : Int))) ∧ (∀ j, j < s.size → w'.frozen? ⟨w.heap.size, j, none⟩ = false) ∧ Below w.heap.size w w' := by
  refine ⟨_, _, run_bytes_of_string w 9 37 5 s Try.underlying9 Try.underlying37 Try.underlying5, ?_, ?_, ?_⟩
  · intro j hj
    exact (World.cell?_alloc_mark w.drew _ _ _ j).trans (bytesRow_at s _ j hj)
  · intro j hj
    refine (World.frozen?_alloc_mark w.drew _ _ _ _ j).trans ?_
    have : s.size ≤ (bytesRow s (grownCap w s.size 0 5)).size := by unfold bytesRow; simp
    simp; omega
  · exact (Below.refl w.heap.size w).drew.alloc (by simp) _
theorem bytes_back (s : ByteArray) (g i cp : Nat) (y : UInt8) (w : World) (hi : i < s.size) (hc : ∀ j (hj : j < s.data.size), w.cell? ⟨g, j, none⟩ = some (.int .u8 (s.data[j].toNat : Int))) :
    (convert 37 9 (.slice (some ⟨g, 0, none⟩) s.size cp)).run Try.prog (w.setCell ⟨g, i, none⟩ (.int .u8 (y.toNat : Int))).drew = .ok (.string ⟨(s.data.toList.set i y).toArray⟩) (w.setCell ⟨g, i, none⟩ (.int .u8 (y.toNat : Int))).drew := by
  have h := run_convert_bytes_back (P := Try.prog) (w.setCell ⟨g, i, none⟩ (.int .u8 (y.toNat : Int))).drew 37 9 5 ⟨g, 0, none⟩ cp (s.data.toList.set i y) Try.underlying37 Try.underlying5 Try.underlying9 (by
    intro j hj
    have hj' : j < s.data.size := by simpa using hj
    have e : (⟨g, 0, none⟩ : Addr).add j = ⟨g, j, none⟩ := by simp [Addr.add]; try (intro h; exact h.symm)
    rw [e]
    refine (show (w.setCell ⟨g, i, none⟩ (.int .u8 (y.toNat : Int))).drew.cell? ⟨g, j, none⟩ = (w.setCell ⟨g, i, none⟩ (.int .u8 (y.toNat : Int))).cell? ⟨g, j, none⟩ from rfl).trans ?_
    by_cases hij : i = j
    · subst hij
      rw [World.cell?_setCell_same _ _ _ (hc i hj')]
      simp
    · rw [cell_set_ne (by omega), hc j hj']
      simp [List.getElem_set_ne hij])
  rw [List.length_set, len_size] at h
  exact h
theorem xor_pow_ne : ∀ a : Fin 256, ∀ j : Fin 8, a.val ^^^ 2 ^ j.val ≠ a.val := by decide +kernel
theorem flip_byte (b : UInt8) (j : Nat) (hj : j < 8) : ∃ y : UInt8, bits BinOp.xor IntKind.u8 (b.toNat : Int) (2 ^ j % 256) = (y.toNat : Int) ∧ y ≠ b := by
  have hp : 2 ^ j < 256 := Nat.pow_lt_pow_right (a := 2) (m := j) (n := 8) (by decide) hj
  have hx : b.toNat ^^^ 2 ^ j < 256 := Nat.xor_lt_two_pow (n := 8) b.toNat_lt hp
  have ht : (UInt8.ofNat (b.toNat ^^^ 2 ^ j)).toNat = b.toNat ^^^ 2 ^ j := by rw [UInt8.toNat_ofNat']; exact Nat.mod_eq_of_lt hx
  refine ⟨UInt8.ofNat (b.toNat ^^^ 2 ^ j), ?_, ?_⟩
  · have h := u8_xor_nat b.toNat (2 ^ j) b.toNat_lt hp
    have e : ((2 : Int) ^ j % 256) = ((2 ^ j : Nat) : Int) := by
      have e1 : ((2 : Int) ^ j) = ((2 ^ j : Nat) : Int) := by rw [Int.natCast_pow]; rfl
      rw [e1]; generalize 2 ^ j = n at hp ⊢; omega
    rw [e, h, ht]
  · intro e
    have h := xor_pow_ne ⟨b.toNat, b.toNat_lt⟩ ⟨j, hj⟩
    have h2 := congrArg UInt8.toNat e
    rw [ht] at h2
    exact h h2
theorem dec_set {s : ByteArray} {u : PUnit} (h : dec s.data.toList = .inl u) {i : Nat} {y : UInt8} (hi : i < s.data.size) (h4 : s.size - 4 ≤ i) (hy : y ≠ s.data[i]) :
    ∃ p : Nat, dec (ByteArray.mk (s.data.toList.set i y).toArray).data.toList = .inr (2, p) ∧ 33 ≤ p ∧ p + 6 < s.size := by
  have hl := len_size s
  obtain ⟨h1, h2, h3⟩ := dec_flip (t' := s.data.toList.set i y) h (by simp) (by
    rw [hl, List.take_set_of_le h4]) (by
    intro e
    have h5 := congrArg (fun l => l[i]?) e
    have h6 : i < s.data.toList.length := by simpa using hi
    simp only [List.getElem?_set_self h6, List.getElem?_eq_getElem h6, Option.some.injEq] at h5
    exact hy (h5.trans (Array.getElem_toList hi)))
  exact ⟨_, by simpa using h1, h2, by rw [hl] at h3; exact h3⟩

set_option maxRecDepth 100000 in
set_option maxHeartbeats 2000000 in
theorem strict_any (s : ByteArray) (bit : Int) (w : World) (hs : s.size ≤ maxLen) (hb : -9223372036854775808 ≤ bit ∧ bit ≤ 9223372036854775807) :
    Calls Try.prog 4 #[.string s, .int .i64 bit] w fun x w' => x = .returned (.bool true) ∧ Below w.heap.size w w' := by
  generalize hT : dec s.data.toList = D
  have HT := hide hT
  go_enter Try.func4, Try.ntmps4
  go_wp2_with fail
  refine (decode_any s _ hs).mono ?_
  rw [hT]
  clear hT
  intro x w1 h
  cases D with
  | inl u =>
    obtain ⟨v, B, rfl, hB, hu, hg1⟩ := h
    obtain ⟨v1, v2, v3, v4, v5, rfl, k1, k2, k3, k4, k5⟩ := hu
    obtain ⟨a1, c1, rfl⟩ := k1.shape
    obtain ⟨a2, c2, rfl⟩ := k2.shape
    obtain ⟨a3, c3, rfl⟩ := k3.shape
    obtain ⟨a4, c4, rfl⟩ := k4.shape
    obtain ⟨a5, c5, rfl⟩ := k5.shape
    have HU : Hid (RUnitF B w1 (.agg #[.slice a1 u.shapes.length c1, .slice a2 u.consts.length c2, .slice a3 u.funcs.length c3, .slice a4 u.imports.length c4, .slice a5 u.exports.length c5]) u) := hide ⟨_, _, _, _, _, rfl, k1, k2, k3, k4, k5⟩
    have HGx := hide hg1
    clear k1 k2 k3 k4 k5 hg1
    go_wp2_with fail
    refine (decode_any _ _ (by decide)).mono ?_
    rw [show dec (ByteArray.mk #[75, 73, 76, 78, 1]).data.toList = .inr (2, 5) from dec_magic]
    rintro x w2 ⟨rfl, hg2⟩
    have HG2 := hide (hg2.alloc (.cells #[.slice none 0 0, .slice none 0 0, .slice none 0 0, .slice none 0 0, .slice none 0 0] 28))
    clear hg2
    obtain ⟨b0, b1, b2, b3, b4, d0, d1, d2, d3, d4⟩ := (Box5.new w1 28 (.slice a1 u.shapes.length c1) (.slice a2 u.consts.length c2) (.slice a3 u.funcs.length c3) (.slice a4 u.imports.length c4) (.slice a5 u.exports.length c5)).gr HG2.out
    clear d0 d1 d2 d3 d4
    have hlen := (dec_ok HT.out).2.2.2
    have hsz : s.data.toList.length = s.size := len_size s
    rw [hsz] at hlen
    go_wp2_with fail
    refine (encode_dec HT.out _ _ ((HU.out.to.gr ((Gr.refl _).alloc _)).gr HG2.out)).mono ?_
    rintro x w3 ⟨rfl, hb3⟩
    have HB3 := hide hb3
    clear hb3
    obtain ⟨cp, w5, hcv, hrow, hfz, hb5⟩ := bytes_made s w3
    have HB5 := hide hb5
    have HROW := hide hrow
    clear hb5
    obtain ⟨k, hk⟩ : ∃ k : Nat, pickOf bit 32 = k := ⟨(pickOf bit 32).toNat, by have := pickOf_lt (c := bit) (n := 32) (by decide); omega⟩
    have hk32 : k < 32 := by have := (pickOf_lt (c := bit) (n := 32) (by decide)).2; omega
    have hi : s.size - 1 - k / 8 < s.size := by omega
    have hld := hrow (s.size - 1 - k / 8) hi
    have hfi := hfz _ hi
    clear hrow hfz
    go_wp2_with (go_at_call 9; refine (pick_any bit 32 _ hb (by decide) (by decide)).mono ?_; rintro x w4 ⟨rfl, e4⟩; subst e4; rw [hk])
    have hij : (s.size : Int) - 1 - (k : Int) / 8 = ((s.size - 1 - k / 8 : Nat) : Int) := by omega
    have hnn : (0 : Int) ≤ (s.size : Int) - 1 - (k : Int) / 8 := by omega
    have hlt : (s.size : Int) - 1 - (k : Int) / 8 < (s.size : Int) := by omega
    have htn : ((s.size : Int) - 1 - (k : Int) / 8).toNat = s.size - 1 - k / 8 := by omega
    have hi4 : s.size - 4 ≤ s.size - 1 - k / 8 := by omega
    obtain ⟨y, hy, hne⟩ := flip_byte s.data[s.size - 1 - k / 8] (k % 8) (by omega)
    obtain ⟨q, hd, hq1, hq2⟩ := dec_set HT.out hi hi4 hne
    have hback := bytes_back s w4.heap.size (s.size - 1 - k / 8) cp y w5 hi HROW.out
    have b3 := below_gr ((HGx.out.alloc _).trans HG2.out) HB3.out
    have b5 := b3.trans (HB5.out.mono b3.size)
    have HB6 := hide ((b5.setCell (p := ⟨w4.heap.size, s.size - 1 - k / 8, none⟩) (by show w.heap.size ≤ w4.heap.size; exact b3.size) (.int .u8 (y.toNat : Int))).drew)
    have HD := hide hd
    clear b3 b5 hd hne hi4
    go_region
    clear hy hld hij hnn hlt htn hfi b0 b1 b2 b3 b4 hcv
    go_wp2_with fail
    refine (decode_any _ _ (by show (s.data.toList.set _ y).toArray.size ≤ maxLen; rw [List.size_toArray, List.length_set, len_size]; exact hs)).mono ?_
    rw [HD.out]
    rintro x w6 ⟨rfl, hg6⟩
    have HB7 := hide ((HB6.out.grown hg6 HB6.out.size (by simp)).alloc (HB6.out.grown hg6 HB6.out.size (by simp)).size (.cells #[.slice none 0 0, .slice none 0 0, .slice none 0 0, .slice none 0 0, .slice none 0 0] 28))
    have hq3 : decide ((q : Int) < (s.size : Int) - 5) = true := by simp; omega
    clear hg6
    go_wp2_with fail
    all_goals go_ret
    all_goals exact ⟨rfl, HB7.out⟩
  | inr q =>
    obtain ⟨e, p⟩ := q
    obtain ⟨rfl, hg1⟩ := h
    have HGx := hide hg1
    clear hg1
    go_wp2_with fail
    refine (decode_any _ _ (by decide)).mono ?_
    rw [show dec (ByteArray.mk #[75, 73, 76, 78, 1]).data.toList = .inr (2, 5) from dec_magic]
    rintro x w2 ⟨rfl, hg2⟩
    have HG2 := hide (hg2.alloc (.cells #[.slice none 0 0, .slice none 0 0, .slice none 0 0, .slice none 0 0, .slice none 0 0] 28))
    have hsz : s.data.toList.length = s.size := len_size s
    clear hg2
    rcases dec_err HT.out with ⟨rfl, hp⟩ | ⟨rfl, rfl, hl⟩
    · rw [hsz] at hp
      have HB := hide (below_gr ((HGx.out.alloc _).trans HG2.out) (Below.refl _ _))
      go_wp2_with fail
      go_ret
      exact ⟨rfl, HB.out⟩
    · rw [hsz] at hl
      have HB := hide (below_gr ((HGx.out.alloc _).trans HG2.out) (Below.refl _ _))
      have hl2 : decide ((20000 : Int) < (s.size : Int)) = true := by simp; omega
      go_wp2_with fail
      go_ret
      exact ⟨rfl, HB.out⟩
end Go.Proofs.Ytkgncijcnlfhiaa
