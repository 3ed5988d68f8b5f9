import Derived.Test.YtkgncijcnlfhiaaDoorL2
import Derived.Test.YtkgncijcnlfhiaaDoorB4
namespace Go.Proofs.YtkgncijcnlfhiaaDoor
set_option linter.unusedVariables false
set_option linter.unusedSimpArgs false
open Go.RowKit
attribute [local go_sem ↓] Go.wp_at_zero Go.wp_at_succ
set_option maxRecDepth 100000 in
set_option maxHeartbeats 2000000 in
theorem small_ls (most : Nat) (hmost : most ≤ 65535) (rb : Nat) (s : ByteArray) (r : List UInt8) (bad : Bool) (w : World) (h : LsR w rb s r bad) :
    Calls Tryd.prog 93 #[.pointer (some ⟨rb, 0, none⟩), .int .i64 (most : Int)] w (Lsd rb s w (fun _ v (n : Int) => v = .int .i64 n) (lsmall most r bad)) := by
  have HN := hide (number_ls rb s r bad w h)
  have hlt := lnumF_lt 10 0 1 r bad
  have HS : Hid (lsmall most r bad = if most < (lnum r bad).1 then (0, (lnum r bad).2.1, true) else (((lnum r bad).1 : Int), (lnum r bad).2)) := hide rfl
  change (lnum r bad).1 < _ at hlt
  generalize lnum r bad = L at HN HS hlt
  obtain ⟨n, r2, b2⟩ := L
  simp only at HS hlt
  have hw0 : IntKind.u64.wrap (most : Int) = (most : Int) := Go.IntWalk.u64_in _ (by omega)
  clear h
  go_enter Tryd.func93, Tryd.ntmps93
  go_wp2_with fail
  refine HN.out.mono ?_
  rintro x w1 ⟨v1, rfl, rfl, hls1, hg1⟩
  have HL1 := hide hls1
  have HG1 := hide hg1
  obtain ⟨c2, z2⟩ := hls1.bad
  clear hls1 hg1 HN
  simp only at HL1 c2 z2
  by_cases hm : most < n
  · have hi : (most : Int) < (n : Int) := by omega
    have HE : Hid (lsmall most r bad = (0, r2, true)) := hide (by rw [HS.out, if_pos hm])
    clear HS
    go_wp2
    go_ret
    rw [HE.out]
    exact ⟨_, rfl, rfl, HL1.out.spoil, (by first | exact HG1.out.set 2 _ | exact (HG1.out.set 2 _).drew)⟩
  · have hi : ¬ ((most : Int) < (n : Int)) := by omega
    have HE : Hid (lsmall most r bad = ((n : Int), r2, b2)) := hide (by rw [HS.out, if_neg hm])
    have hw1 : IntKind.i64.wrap (n : Int) = (n : Int) := Go.IntWalk.i64_in _ (by omega)
    clear HS
    go_wp2
    go_ret
    rw [HE.out]
    exact ⟨_, rfl, rfl, HL1.out, (by first | exact HG1.out | exact HG1.out.drew)⟩
set_option maxRecDepth 100000 in
set_option maxHeartbeats 2000000 in
theorem signed_ls (rb : Nat) (s : ByteArray) (r : List UInt8) (bad : Bool) (w : World) (h : LsR w rb s r bad) :
    Calls Tryd.prog 95 #[.pointer (some ⟨rb, 0, none⟩)] w (Lsd rb s w (fun _ v (n : Int) => v = .int .i64 n) (lsigned r bad)) := by
  have HN := hide (number_ls rb s r bad w h)
  have hlt := lnumF_lt 10 0 1 r bad
  have HS : Hid (lsigned r bad = (unzig (lnum r bad).1, (lnum r bad).2)) := hide rfl
  change (lnum r bad).1 < _ at hlt
  generalize lnum r bad = L at HN HS hlt
  obtain ⟨n, r2, b2⟩ := L
  simp only at HS hlt
  obtain ⟨m, hm⟩ : ∃ m, m = n / 2 := ⟨_, rfl⟩
  obtain ⟨o, ho⟩ : ∃ o, o = n % 2 := ⟨_, rfl⟩
  have ht : (n : Int).tmod 2 = (o : Int) := by rw [Int.tmod_eq_emod_of_nonneg (by omega)]; omega
  have hd : (n : Int).tdiv 2 = (m : Int) := by rw [Int.tdiv_eq_ediv_of_nonneg (by omega)]; omega
  have hm63 : m < 9223372036854775808 := by omega
  have hw1 : IntKind.i64.wrap (m : Int) = (m : Int) := Go.IntWalk.i64_in _ (by omega)
  have hw2 : IntKind.i64.wrap (-(m : Int)) = -(m : Int) := Go.IntWalk.i64_in _ (by omega)
  have hw3 : IntKind.i64.wrap (-(m : Int) - 1) = -(m : Int) - 1 := Go.IntWalk.i64_in _ (by omega)
  have hw4 : IntKind.u64.wrap (m : Int) = (m : Int) := Go.IntWalk.u64_in _ (by omega)
  have hw5 : IntKind.u64.wrap (o : Int) = (o : Int) := Go.IntWalk.u64_in _ (by omega)
  have HU : Hid (unzig n = if o = 1 then -(m : Int) - 1 else (m : Int)) := hide (by unfold unzig; subst hm; subst ho; rfl)
  clear h hm ho
  go_enter Tryd.func95, Tryd.ntmps95
  go_wp2_with fail
  refine HN.out.mono ?_
  rintro x w1 ⟨v1, rfl, rfl, hls1, hg1⟩
  have HL1 := hide hls1
  have HG1 := hide hg1
  clear hls1 hg1 HN
  simp only at HL1
  by_cases h1 : o = 1
  · have hi : ((o : Int) == 1) = true := by simp [h1]
    have HE : Hid (lsigned r bad = (-(m : Int) - 1, r2, b2)) := hide (by rw [HS.out, HU.out, if_pos h1])
    clear HS HU h1
    go_wp2
    go_ret
    rw [HE.out]
    exact ⟨_, rfl, rfl, HL1.out, (by first | exact HG1.out | exact HG1.out.drew)⟩
  · have hi : ((o : Int) == 1) = false := by simp; omega
    have HE : Hid (lsigned r bad = ((m : Int), r2, b2)) := hide (by rw [HS.out, HU.out, if_neg h1])
    clear HS HU h1
    go_wp2
    go_ret
    rw [HE.out]
    exact ⟨_, rfl, rfl, HL1.out, (by first | exact HG1.out | exact HG1.out.drew)⟩
end Go.Proofs.YtkgncijcnlfhiaaDoor

namespace Go.Proofs.YtkgncijcnlfhiaaDoor
set_option linter.unusedVariables false
set_option linter.unusedSimpArgs false
open Go.RowKit
attribute [local go_sem ↓] Go.wp_at_zero Go.wp_at_succ
theorem lsmall_bound (most : Nat) (r : List UInt8) (bad : Bool) : 0 ≤ (lsmall most r bad).1 ∧ (lsmall most r bad).1 ≤ most := by
  unfold lsmall; split <;> simp <;> omega
theorem slice_bytes (s : ByteArray) (a b : Nat) : s.extract a b = ⟨((s.data.toList.drop a).take (b - a)).toArray⟩ := by
  have h : (s.extract a b).data.toList = (s.data.toList.drop a).take (b - a) := by simp [ByteArray.data_extract, List.drop_take]
  rw [← h]
set_option maxRecDepth 100000 in
set_option maxHeartbeats 2000000 in
theorem text_ls (rb : Nat) (s : ByteArray) (r : List UInt8) (bad : Bool) (w : World) (h : LsR w rb s r bad) :
    Calls Tryd.prog 97 #[.pointer (some ⟨rb, 0, none⟩)] w (Lsd rb s w (fun _ v (y : List UInt8) => v = .string ⟨y.toArray⟩) (ltext r bad)) := by
  have HN := hide (small_ls 20 (by decide) rb s r bad w h)
  have hbd := lsmall_bound 20 r bad
  have HS : Hid (ltext r bad = if (lsmall 20 r bad).2.1.length < (lsmall 20 r bad).1.toNat then ([], (lsmall 20 r bad).2.1, true)
    else ((lsmall 20 r bad).2.1.take (lsmall 20 r bad).1.toNat, (lsmall 20 r bad).2.1.drop (lsmall 20 r bad).1.toNat, (lsmall 20 r bad).2.2)) := hide rfl
  generalize lsmall 20 r bad = L at HN HS hbd
  obtain ⟨n0, r2, b2⟩ := L
  simp only at HS hbd
  obtain ⟨n, rfl⟩ : ∃ n : Nat, n0 = (n : Int) := ⟨n0.toNat, by omega⟩
  have hn : n ≤ 20 := by omega
  simp only [Int.toNat_natCast] at HS
  clear h hbd
  go_enter Tryd.func97, Tryd.ntmps97
  go_wp2_with fail
  refine HN.out.mono ?_
  rintro x w1 ⟨v1, rfl, rfl, hls1, hg1⟩
  simp only at hls1
  obtain ⟨q, hat, hr2⟩ := hls1
  have HA := hide hat
  have HG1 := hide hg1
  have HR2 := hide hr2
  have hlen : r2.length = s.size - q := by rw [hr2, List.length_drop, Array.length_toList]; rfl
  obtain ⟨c0, c1, c2, cz⟩ := hat.cells
  have z1 := cz 1
  have z2 := cz 2
  have hq := hat.2.1
  have hs := hat.2.2
  clear hat hg1 hr2 HN cz
  have hw1 : IntKind.i64.wrap ((q : Int) + (n : Int)) = (q : Int) + (n : Int) := Go.IntWalk.i64_in _ (by omega)
  by_cases hlt : s.size < q + n
  · have hi : (s.size : Int) < (q : Int) + (n : Int) := by omega
    have HE : Hid (ltext r bad = ([], r2, true)) := hide (by rw [HS.out, if_pos (by omega)])
    clear HS
    go_wp2_with fail
    go_region_held3 (fun w' => w'.cell? ⟨rb, 0, none⟩ = some (.string s) ∧ w'.cell? ⟨rb, 1, none⟩ = some (.int .i64 (q : Int))) (go_keep) (fail)
    go_wp2
    go_ret
    rw [HE.out]
    exact ⟨_, rfl, rfl, ⟨q, HA.out.spoil, HR2.out⟩, (by first | exact HG1.out.set 2 _ | exact (HG1.out.set 2 _).drew)⟩
  · have hi : ¬ ((s.size : Int) < (q : Int) + (n : Int)) := by omega
    have HE : Hid (ltext r bad = (r2.take n, r2.drop n, b2)) := hide (by rw [HS.out, if_neg (by omega)])
    have hc : ((q + n : Nat) : Int) = (q : Int) + (n : Int) := by omega
    have HN := hide (HA.out.step (q + n) (by omega))
    rw [hc] at HN
    obtain ⟨e0, e1, -, -⟩ := HN.out.cells
    rw [hc] at e1
    have HG2 : Hid (Gc rb w (w1.setCell ⟨rb, 1, none⟩ (.int .i64 ((q : Int) + (n : Int))))) := hide (HG1.out.set 1 _)
    have hw2 : IntKind.i64.wrap ((q : Int) + (n : Int) - (n : Int)) = (q : Int) := by rw [Go.IntWalk.i64_in _ (by omega)]; omega
    have hw3 : IntKind.i64.wrap (q : Int) = (q : Int) := Go.IntWalk.i64_in _ (by omega)
    have hb0 : (0 : Int) ≤ (q : Int) := by omega
    have hb1 : (q : Int) ≤ (q : Int) + (n : Int) := by omega
    have hb2 : (q : Int) + (n : Int) ≤ (s.size : Int) := by omega
    have hb3 : q + n ≤ s.size := by omega
    have ht : ((q : Int) + (n : Int)).toNat = q + n := by omega
    clear HS hc
    go_wp2_with fail
    go_region_held3 (fun w' => w'.cell? ⟨rb, 0, none⟩ = some (.string s) ∧ w'.cell? ⟨rb, 1, none⟩ = some (.int .i64 (q : Int))) (go_keep) (fail)
    go_wp2
    generalize w1.setCell ⟨rb, 1, none⟩ (.int .i64 ((q : Int) + (n : Int))) = W at e0 e1 HN HG2 ⊢
    go_region_held3 (fun w' => w'.cell? ⟨rb, 0, none⟩ = some (.string s) ∧ w'.cell? ⟨rb, 1, none⟩ = some (.int .i64 ((q : Int) + (n : Int)))) (go_keep) (fail)
    go_wp2
    go_ret
    rw [HE.out]
    refine ⟨_, rfl, ?_, ⟨q + n, HN.out, by rw [HR2.out, List.drop_drop]⟩, (by first | exact HG2.out | exact HG2.out.drew | exact HG2.out.drew.drew)⟩
    show Value.string (s.extract q (q + n)) = _
    rw [slice_bytes, HR2.out, Nat.add_sub_cancel_left]
end Go.Proofs.YtkgncijcnlfhiaaDoor

namespace Go.Proofs.YtkgncijcnlfhiaaDoor
set_option linter.unusedVariables false
set_option linter.unusedSimpArgs false
open Go.RowKit
attribute [local go_sem ↓] Go.wp_at_zero Go.wp_at_succ
theorem LsR.grown {w w' : World} {rb : Nat} {s : ByteArray} {r : List UInt8} {bad : Bool} {ob : Option Nat} (h : LsR w rb s r bad) (g : w.grownBy w' ob) (hne : ∀ k, ob = some k → k ≠ rb) : LsR w' rb s r bad := by
  obtain ⟨q, h1, h2⟩ := h
  exact ⟨q, ⟨(g.block rb (block_lt h1.1) (fun e => hne rb e.symm rfl)).trans h1.1, h1.2⟩, h2⟩
theorem LsR.lt {w : World} {rb : Nat} {s : ByteArray} {r : List UInt8} {bad : Bool} (h : LsR w rb s r bad) : rb < w.heap.size := by
  obtain ⟨q, h1, _⟩ := h; exact block_lt h1.1
theorem lgc_grown {mb : Nat} {w wr w' : World} {ob : Option Nat} (h : Gc mb w wr) (g : wr.grownBy w' ob) (ho : ∀ k, ob = some k → w.heap.size ≤ k) : Gc mb w w' :=
  ⟨g.os.trans h.os, g.tape.trans h.tape, g.output.trans h.output, Nat.le_trans h.size g.size, fun i hi hne => (g.block i (Nat.lt_of_lt_of_le hi h.size) (fun e => by have := ho i e.symm; omega)).trans (h.block i hi hne)⟩
theorem lown_ge {w : World} {base : Nat} {e : TypeId} {n : Nat} {v : Value} {len : Nat} {xs : List Value} (h : w.ownsRow base e n v len xs) : ∀ k, v.ownBlock = some k → base ≤ k := by
  intro k hk
  rcases h.2 with ⟨rfl, _⟩ | ⟨g, cap, cur, rfl, hg, _⟩
  · simp [Value.ownBlock] at hk
  · simp [Value.ownBlock] at hk; omega
theorem lown_shape {w : World} {base : Nat} {e : TypeId} {n : Nat} {v : Value} {len : Nat} {xs : List Value} (h : w.ownsRow base e n v len xs) : ∃ ao co, v = .slice ao len co := by
  obtain ⟨h1, h2⟩ := h
  rcases h2 with ⟨rfl, rfl⟩ | ⟨g, cap, cur, rfl, _⟩
  · exact ⟨none, 0, by simp_all⟩
  · exact ⟨_, _, rfl⟩
def icL (l : List Int) : List Value := l.map fun x => Value.int .i64 x
set_option maxRecDepth 100000 in
set_option maxHeartbeats 2000000 in
theorem list_ls (rb : Nat) (s : ByteArray) (r : List UInt8) (bad : Bool) (w : World) (h : LsR w rb s r bad) :
    Calls Tryd.prog 94 #[.pointer (some ⟨rb, 0, none⟩)] w (Lsd rb s w (fun w' v (y : List Int) => w'.ownsRow w.heap.size 3 1 v y.length (icL y)) (llist r bad)) := by
  have HN := hide (small_ls 20 (by decide) rb s r bad w h)
  have hbd := lsmall_bound 20 r bad
  have hrb := h.lt
  have HS : Hid (llist r bad = lmany (lsmall 65535) (lsmall 20 r bad).1.toNat (lsmall 20 r bad).2.1 (lsmall 20 r bad).2.2) := hide rfl
  generalize lsmall 20 r bad = L at HN HS hbd
  obtain ⟨n0, r2, b2⟩ := L
  simp only at HS hbd
  obtain ⟨n, rfl⟩ : ∃ n : Nat, n0 = (n : Int) := ⟨n0.toNat, by omega⟩
  have hn : n ≤ 20 := by omega
  simp only [Int.toNat_natCast] at HS
  clear h hbd
  go_enter Tryd.func94, Tryd.ntmps94
  go_wp2_with fail
  refine HN.out.mono ?_
  rintro x w1 ⟨v1, rfl, rfl, hls1, hg1⟩
  simp only at hls1
  have HL1 := hide hls1
  have HG1 := hide hg1
  clear hls1 hg1 HN
  go_wp2_with fail
  go_loopw [3, 4] (fun l i wr => ∃ (k : Nat) (ys : List Int) (rk : List UInt8) (bk : Bool), i = .int .i64 (k : Int) ∧ ys.length + k ≤ 20 ∧ wr.ownsRow w.heap.size 3 1 l ys.length (icL ys) ∧ LsR wr rb s rk bk ∧ Gc rb w wr ∧ lmany (lsmall 65535) n r2 b2 = (ys ++ (lmany (lsmall 65535) k rk bk).1, (lmany (lsmall 65535) k rk bk).2)) (fun _ i _ => (intOf i).toNat)
  case atStart => exact ⟨n, [], r2, b2, rfl, by simpa using hn, ⟨rfl, .inl ⟨rfl, rfl⟩⟩, HL1.out, HG1.out, by simp⟩
  case round =>
    obtain ⟨k, ys, rk, bk, rfl, hyk, hown, hls, hgc, hT⟩ := hrel
    have HOW := hide hown
    have HLS := hide hls
    have HGC := hide hgc
    have HTT := hide hT
    obtain ⟨ao, co, rfl⟩ := lown_shape hown
    clear hown hls hgc hT HL1 HG1
    by_cases hk : 0 < k
    · obtain ⟨j, rfl⟩ : ∃ j, k = j + 1 := ⟨k - 1, by omega⟩
      have HP := hide (small_ls 65535 (by decide) rb s rk bk wr HLS.out)
      have HT2 : Hid (lmany (lsmall 65535) n r2 b2 = ((ys ++ [(lsmall 65535 rk bk).1]) ++ (lmany (lsmall 65535) j (lsmall 65535 rk bk).2.1 (lsmall 65535 rk bk).2.2).1, (lmany (lsmall 65535) j (lsmall 65535 rk bk).2.1 (lsmall 65535 rk bk).2.2).2)) := hide (by rw [HTT.out]; simp [lmany])
      generalize lsmall 65535 rk bk = L at HP HT2
      obtain ⟨q, r3, b3⟩ := L
      simp only at HT2
      go_wp2_with fail
      refine HP.out.mono ?_
      rintro x w2 ⟨v2, rfl, rfl, hm2, hg2⟩
      simp only at hm2
      have hown2 : w2.ownsRow w.heap.size 3 1 (.slice ao ys.length co) ys.length (icL ys) := HOW.out.kept hg2 (.inr (by intro e; have := lown_ge HOW.out _ e; omega))
      have HM2 := hide hm2
      have HG2 := hide (HGC.out.trans hg2)
      have HO2 := hide hown2
      have hsz : w.heap.size ≤ w2.heap.size := HG2.out.size
      clear hm2 hg2 hown2 HP HOW HLS HGC HTT
      go_wp2_with (at_builtin; refine wpList_append_vals _ rfl _ _ 23 3 1 8 (.int .i64 0) Tryd.ownInt Tryd.underlying23 rfl (by decide) (by decide) rfl w.heap.size _ ys.length (icL ys) rfl HO2.out #[.int .i64 q] rfl (by intro u hu; simp at hu; subst hu; rfl) _ rfl rfl (by omega) hsz ?_; intro v3 w3 hap)
      have hap' : Ap w.heap.size 3 1 w2 (.slice ao ys.length co) w3 v3 (ys.length + 1) (icL ys ++ [Value.int .i64 q]) := hap
      have hge := lown_ge HO2.out
      refine ⟨⟨j, ys ++ [q], r3, b3, rfl, by simp; omega, ?_, HM2.out.grown hap'.frm (fun k e => by have := hge k e; omega), lgc_grown HG2.out hap'.frm hge, HT2.out⟩, by simp [intOf]⟩
      have := hap'.own
      simpa [icL] using this
    · obtain rfl : k = 0 := by omega
      go_wp2_with fail
      go_ret
      have hT := HTT.out
      rw [HS.out, hT]
      exact ⟨_, rfl, by simpa [lmany] using HOW.out, HLS.out, HGC.out⟩
end Go.Proofs.YtkgncijcnlfhiaaDoor

namespace Go.Proofs.YtkgncijcnlfhiaaDoor
set_option linter.unusedVariables false
set_option linter.unusedSimpArgs false
open Go.RowKit
attribute [local go_sem ↓] Go.wp_at_zero Go.wp_at_succ
theorem one_byte (w : World) (q : Nat) (hq : q < 256) : (convert 113 9 (.slice (some ⟨w.heap.size, 0, none⟩) 1 1)).run Tryd.prog (w.alloc (.cells #[.int .u8 (q : Int)] 5)) = .ok (.string ⟨#[UInt8.ofNat q]⟩) (w.alloc (.cells #[.int .u8 (q : Int)] 5)) := by
  have h := run_convert_bytes_back (P := Tryd.prog) (w.alloc (.cells #[.int .u8 (q : Int)] 5)) 113 9 5 ⟨w.heap.size, 0, none⟩ 1 [UInt8.ofNat q] Tryd.underlying113 Tryd.underlying5 Tryd.underlying9 (by
    intro j hj
    have hj0 : j = 0 := by simp at hj; omega
    subst hj0
    have e : (⟨w.heap.size, 0, none⟩ : Addr).add 0 = ⟨w.heap.size, 0, none⟩ := by simp [Addr.add]
    rw [e]
    have e2 : (UInt8.ofNat q).toNat = q := by rw [UInt8.toNat_ofNat']; exact Nat.mod_eq_of_lt hq
    simp [go_sem]; try omega)
  exact h
theorem one_byte_at (w : World) (g q : Nat) (hq : q < 256) (hc : w.cell? ⟨g, 0, none⟩ = some (.int .u8 (q : Int))) : (convert 113 9 (.slice (some ⟨g, 0, none⟩) 1 1)).run Tryd.prog w = .ok (.string ⟨#[UInt8.ofNat q]⟩) w := by
  have h := run_convert_bytes_back (P := Tryd.prog) w 113 9 5 ⟨g, 0, none⟩ 1 [UInt8.ofNat q] Tryd.underlying113 Tryd.underlying5 Tryd.underlying9 (by
    intro j hj
    have hj0 : j = 0 := by simp at hj; omega
    subst hj0
    have e : (⟨g, 0, none⟩ : Addr).add 0 = ⟨g, 0, none⟩ := by simp [Addr.add]
    rw [e]
    have e2 : (UInt8.ofNat q).toNat = q := by rw [UInt8.toNat_ofNat']; exact Nat.mod_eq_of_lt hq
    rw [hc]; simp; omega)
  exact h
theorem str_app (l m : List UInt8) : (ByteArray.mk l.toArray ++ ByteArray.mk m.toArray) = ByteArray.mk (l ++ m).toArray := by
  apply ByteArray.ext; rw [ByteArray.data_append]; simp

set_option maxRecDepth 100000 in
set_option maxHeartbeats 1000000 in
theorem number_ref : ∀ (k q : Nat), k ≤ 10 → q < 128 ^ (k + 1) → q < 18446744073709551616 → ∀ w : World,
    Calls Tryd.prog 124 #[.int .u64 (q : Int)] w fun x w' => x = .returned (.string ⟨(numF k q).toArray⟩) ∧ Gr w w' := by
  intro k
  induction k with
  | zero =>
    intro q _ hq _ w
    have hq' : q < 128 := by simpa using hq
    have HN := hide (numF_small (k := 0) hq')
    have hob := one_byte w q (by omega)
    have hw8 : IntKind.u8.wrap (q : Int) = (q : Int) := by rw [IntKind.wrap_u8]; omega
    go_enter Tryd.func124, Tryd.ntmps124
    go_wp2_with fail
    go_ret
    exact ⟨by rw [HN.out]; rfl, (Gr.refl w).alloc _⟩
  | succ k ih =>
    intro q hk hq hq64 w
    by_cases hs : q < 128
    · have HN := hide (numF_small (k := k + 1) hs)
      have hob := one_byte w q (by omega)
      have hw8 : IntKind.u8.wrap (q : Int) = (q : Int) := by rw [IntKind.wrap_u8]; omega
      clear ih hq
      go_enter Tryd.func124, Tryd.ntmps124
      go_wp2_with fail
      go_ret
      exact ⟨by rw [HN.out]; rfl, (Gr.refl w).alloc _⟩
    · obtain ⟨y, hy⟩ : ∃ y, y = q % 128 + 128 := ⟨_, rfl⟩
      obtain ⟨z, hz⟩ : ∃ z, z = q / 128 := ⟨_, rfl⟩
      have HN : Hid (numF (k + 1) q = UInt8.ofNat y :: numF k z) := hide (by rw [numF_big (k := k) hs, hy, hz])
      have hih := fun V : World => hide (ih z (by omega) (by rw [hz, Nat.div_lt_iff_lt_mul (by decide)]; rw [Nat.pow_succ] at hq; exact hq) (by omega) V)
      have hy256 : y < 256 := by omega
      have ht : (q : Int).tmod 128 = ((q % 128 : Nat) : Int) := by rw [Int.tmod_eq_emod_of_nonneg (by omega)]; omega
      have hr1 : IntKind.u64.wrap ((128 : Int) + (q : Int).tmod 128) = (y : Int) := by rw [ht, Go.IntWalk.u64_in _ (by omega)]; omega
      have hr3 : IntKind.u8.wrap (y : Int) = (y : Int) := by rw [IntKind.wrap_u8]; omega
      have hr4 : (q : Int).tdiv 128 = (z : Int) := by rw [Int.tdiv_eq_ediv_of_nonneg (by omega)]; omega
      have hr5 : IntKind.u64.wrap (z : Int) = (z : Int) := Go.IntWalk.u64_in _ (by omega)
      have hsz : (numF k z).length ≤ 100 := by have := (numF_len k z).1; omega
      clear ht ih hq hy hz
      go_enter Tryd.func124, Tryd.ntmps124
      go_wp2_with fail
      have hobA : (convert 113 9 (.slice (some ⟨w.heap.size, 0, none⟩) 1 1)).run Tryd.prog (w.alloc (.cells #[.int .u8 (y : Int)] 5)).drew = .ok (.string ⟨#[UInt8.ofNat y]⟩) (w.alloc (.cells #[.int .u8 (y : Int)] 5)).drew := one_byte w.drew y hy256
      have hob := fun V : World => one_byte V y hy256
      go_region_with (first | (go_at_call 124; refine (hih _).out.mono ?_; rintro x w1 ⟨rfl, hg1⟩; (first | have hobC := one_byte_at w1 w.heap.size y hy256 (hg1.cell (show (w.alloc (.cells #[.int .u8 (y : Int)] 5)).drew.cell? ⟨w.heap.size, 0, none⟩ = some (.int .u8 (y : Int)) by simp [go_sem]) (by simp)) | skip)))
      all_goals go_wp2_with fail
      all_goals go_ret
      all_goals rw [HN.out]
      all_goals refine ⟨congrArg (fun t => Ending.returned (Value.string t)) (str_app [UInt8.ofNat y] (numF k z)), ?_⟩
      all_goals first | exact (Gr.drew ((Gr.refl w).alloc _)).trans hg1 | exact ((Gr.drew (Gr.refl w)).trans hg1).alloc _
theorem num_ref (q : Nat) (hq : q < 18446744073709551616) (w : World) :
    Calls Tryd.prog 124 #[.int .u64 (q : Int)] w fun x w' => x = .returned (.string ⟨(num q).toArray⟩) ∧ Gr w w' := number_ref 10 q (Nat.le_refl _) (Nat.lt_trans hq (by decide)) hq w
set_option maxRecDepth 100000 in
theorem count_ref (n : Int) (h0 : 0 ≤ n) (hn : n ≤ 9223372036854775807) (w : World) :
    Calls Tryd.prog 73 #[.int .i64 n] w fun x w' => x = .returned (.string ⟨(num n.toNat).toArray⟩) ∧ Gr w w' := by
  have hw : IntKind.u64.wrap n = ((n.toNat : Nat) : Int) := by rw [Go.IntWalk.u64_in _ (by omega)]; omega
  have hc := fun V : World => hide (num_ref n.toNat (by omega) V)
  generalize n.toNat = q at hw hc ⊢
  go_enter Tryd.func73, Tryd.ntmps73
  go_wp2_with fail
  refine (hc _).out.mono ?_
  rintro x w1 ⟨rfl, hg1⟩
  go_wp2_with fail
  go_ret
  exact ⟨rfl, hg1⟩
set_option maxRecDepth 100000 in
theorem signed_ref (n : Int) (h0 : -9223372036854775808 ≤ n) (hn : n ≤ 9223372036854775807) (w : World) :
    Calls Tryd.prog 122 #[.int .i64 n] w fun x w' => x = .returned (.string ⟨(num (zig n)).toArray⟩) ∧ Gr w w' := by
  have hc := fun V : World => hide (num_ref (zig n) (zig_lt h0 hn) V)
  by_cases hneg : n < 0
  · have hz : (zig n : Int) = -2 * n - 1 := by unfold zig; rw [if_pos hneg]; omega
    generalize zig n = q at hz hc ⊢
    have hd : decide (n < 0) = true := by simpa using hneg
    have e1 : IntKind.i64.wrap (n + 1) = n + 1 := Go.IntWalk.i64_in _ (by omega)
    have e2 : IntKind.i64.wrap (-(n + 1)) = -(n + 1) := Go.IntWalk.i64_in _ (by omega)
    have e3 : IntKind.u64.wrap (-(n + 1)) = -(n + 1) := Go.IntWalk.u64_in _ (by omega)
    have e4 : IntKind.u64.wrap (2 * -(n + 1)) = 2 * -(n + 1) := Go.IntWalk.u64_in _ (by omega)
    have e5 : IntKind.u64.wrap (2 * -(n + 1) + 1) = (q : Int) := by rw [Go.IntWalk.u64_in _ (by omega)]; omega
    have HZ := hide hz
    clear hz
    go_enter Tryd.func122, Tryd.ntmps122
    go_wp2_with fail
    refine (hc _).out.mono ?_
    rintro x w1 ⟨rfl, hg1⟩
    go_wp2_with fail
    go_ret
    exact ⟨rfl, hg1⟩
  · have hz : (zig n : Int) = 2 * n := by unfold zig; rw [if_neg hneg]; omega
    generalize zig n = q at hz hc ⊢
    have hd : decide (n < 0) = false := by simpa using hneg
    have e3 : IntKind.u64.wrap n = n := Go.IntWalk.u64_in _ (by omega)
    have e5 : IntKind.u64.wrap (2 * n) = (q : Int) := by rw [Go.IntWalk.u64_in _ (by omega)]; omega
    clear hz
    go_enter Tryd.func122, Tryd.ntmps122
    go_wp2_with fail
    refine (hc _).out.mono ?_
    rintro x w1 ⟨rfl, hg1⟩
    go_wp2_with fail
    go_ret
    exact ⟨rfl, hg1⟩
theorem encTo_small {α : Type} {f : α → List UInt8} {xs : List α} {B : Nat} (h : ∀ x ∈ xs, (f x).length ≤ B) (hl : xs.length ≤ 300) (hB : B ≤ 3000) (k : Nat) : (encTo f xs k).length ≤ 1000000 := by
  have h1 := encTo_le f xs k
  have h2 : (encs f xs).length ≤ 11 + 300 * B := by
    have a1 := num_len xs.length
    have a2 : ∀ {ys : List α}, (∀ x ∈ ys, (f x).length ≤ B) → (ys.flatMap f).length ≤ ys.length * B := by
      intro ys hy
      induction ys with
      | nil => simp
      | cons y ys ih =>
        have b1 := hy y (by simp)
        have b2 := ih fun z hz => hy z (by simp [hz])
        simp only [List.flatMap_cons, List.length_append, List.length_cons, Nat.add_mul]; omega
    have a3 := a2 h
    have a4 : xs.length * B ≤ 300 * B := Nat.mul_le_mul_right B hl
    unfold encs; rw [List.length_append]; omega
  have h3 : 300 * B ≤ 300 * 3000 := Nat.mul_le_mul_left 300 hB
  omega
set_option maxRecDepth 100000 in
set_option maxHeartbeats 1000000 in
theorem list_ref (v : Value) (l : List Int) (w : World) (hR : RInts w v l) (hl : l.length ≤ 300) (hx : ∀ x ∈ l, 0 ≤ x ∧ x ≤ 9223372036854775807) :
    Calls Tryd.prog 121 #[v] w fun x w' => x = .returned (.string ⟨(encKinds l).toArray⟩) ∧ Gr w w' := by
  have HR := hide hR
  obtain ⟨a1, c1, rfl, _, _⟩ := hR
  have HX := hide hx
  have hc0 := fun V : World => hide (count_ref (l.length : Int) (by omega) (by omega) V)
  simp only [Int.toNat_natCast] at hc0
  have hsm := encTo_small (f := encWhole) (xs := l) (B := 11) (fun x _ => num_len _) hl (by decide)
  clear hx
  go_enter Tryd.func121, Tryd.ntmps121
  go_wp2_with fail
  refine (hc0 _).out.mono ?_
  rintro x w1 ⟨rfl, hg1⟩
  have HG1 := hide hg1
  clear hg1 hc0
  go_wp2_with fail
  go_loopw [3, 4] (fun s i wr => ∃ k : Nat, i = .int .i64 k ∧ k ≤ l.length ∧ s = .string ⟨(encTo encWhole l k).toArray⟩ ∧ Gr w wr) (fun _ i _ => l.length - (intOf i).toNat)
  case atStart => exact ⟨0, rfl, Nat.zero_le _, by rw [encTo_zero], HG1.out⟩
  case round =>
    obtain ⟨k, rfl, hk, rfl, hg⟩ := hrel
    clear HG1
    have HG := hide hg
    by_cases hlt : k < l.length
    · obtain ⟨a1', c1', h1e, _, hc1⟩ := HR.out
      simp only [Value.slice.injEq, true_and] at h1e
      obtain ⟨b1, o1, rfl, hx1⟩ := hc1 k hlt
      obtain ⟨rfl, rfl⟩ := h1e
      have hy1 := hg.cell hx1 (by simp)
      have hxk : l[k]? = some (l.getD k 0) := by simp [List.getD_eq_getElem?_getD, hlt]
      have hb := HX.out _ (List.mem_of_getElem? hxk)
      have HS := hide (encTo_succ (f := encWhole) hxk)
      generalize l.getD k 0 = x at hy1 hxk hb HS
      have hcx := fun V : World => hide (count_ref x hb.1 hb.2 V)
      have h1 := hsm k
      have h2 := num_len x.toNat
      generalize hT : encTo encWhole l k = T at h1 HS ⊢
      have HS2 : Hid (encTo encWhole l (k + 1) = T ++ num x.toNat) := HS
      generalize num x.toNat = U at h2 hcx HS2
      clear hc1 hx1 hg hxk hb HS hT
      go_wp2_with fail
      refine (hcx _).out.mono ?_
      rintro x w2 ⟨rfl, hg2⟩
      have HG2 := hide (HG.out.trans hg2)
      clear hg2 hcx hy1
      go_wp2_with fail
      refine ⟨⟨k + 1, by simp, hlt, by rw [HS2.out, str_app], HG2.out⟩, by simp [intOf]; omega⟩
    · have hkk : k = l.length := by omega
      subst hkk
      have HE := hide (encs_end (f := encWhole) (xs := l) (k := l.length) (by omega))
      clear hg
      go_wp2_with fail
      go_ret
      exact ⟨by unfold encKinds; rw [HE.out]; rfl, HG.out⟩
end Go.Proofs.YtkgncijcnlfhiaaDoor

