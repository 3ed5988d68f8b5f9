import Derived.Test.YtkgncijcnlfhiaaDoorL0
import Derived.Test.YtkgncijcnlfhiaaDoorBk3
namespace Go.Proofs.YtkgncijcnlfhiaaDoor
set_option linter.unusedVariables false
set_option linter.unusedSimpArgs false
open Go.RowKit
def LsAt (w : World) (rb : Nat) (s : ByteArray) (q : Nat) (bad : Bool) : Prop :=
  w.heap[rb]? = some (.cells #[.string s, .int .i64 (q : Int), .bool bad] 97 (0, 0)) ∧ q ≤ s.size ∧ s.size ≤ 1000000
/-- what is left, and whether it went bad -/
def LsR (w : World) (rb : Nat) (s : ByteArray) (r : List UInt8) (bad : Bool) : Prop := ∃ q, LsAt w rb s q bad ∧ r = s.data.toList.drop q
theorem LsAt.cells {w : World} {rb : Nat} {s : ByteArray} {q : Nat} {bad : Bool} (h : LsAt w rb s q bad) : w.cell? ⟨rb, 0, none⟩ = some (.string s) ∧ w.cell? ⟨rb, 1, none⟩ = some (.int .i64 (q : Int)) ∧ w.cell? ⟨rb, 2, none⟩ = some (.bool bad) ∧ (∀ j, w.frozen? ⟨rb, j, none⟩ = false) :=
  ⟨by rw [heap_cell h.1]; rfl, by rw [heap_cell h.1]; rfl, by rw [heap_cell h.1]; rfl, fun j => heap_frozen h.1⟩
theorem LsAt.step {w : World} {rb : Nat} {s : ByteArray} {q : Nat} {bad : Bool} (h : LsAt w rb s q bad) (q' : Nat) (hq : q' ≤ s.size) : LsAt (w.setCell ⟨rb, 1, none⟩ (.int .i64 (q' : Int))) rb s q' bad := ⟨heap_set h.1, hq, h.2.2⟩
theorem LsAt.spoil {w : World} {rb : Nat} {s : ByteArray} {q : Nat} {bad : Bool} (h : LsAt w rb s q bad) : LsAt (w.setCell ⟨rb, 2, none⟩ (.bool true)) rb s q true := ⟨heap_set h.1, h.2.1, h.2.2⟩
theorem LsAt.gr {w w' : World} {rb : Nat} {s : ByteArray} {q : Nat} {bad : Bool} (h : LsAt w rb s q bad) (g : Gr w w') : LsAt w' rb s q bad := ⟨(g.block rb (block_lt h.1) (by simp)).trans h.1, h.2⟩
theorem LsR.gr {w w' : World} {rb : Nat} {s : ByteArray} {r : List UInt8} {bad : Bool} (h : LsR w rb s r bad) (g : Gr w w') : LsR w' rb s r bad := by
  obtain ⟨q, h1, h2⟩ := h; exact ⟨q, h1.gr g, h2⟩
theorem LsR.spoil {w : World} {rb : Nat} {s : ByteArray} {r : List UInt8} {bad : Bool} (h : LsR w rb s r bad) : LsR (w.setCell ⟨rb, 2, none⟩ (.bool true)) rb s r true := by
  obtain ⟨q, h1, h2⟩ := h; exact ⟨q, h1.spoil, h2⟩
theorem LsR.bad {w : World} {rb : Nat} {s : ByteArray} {r : List UInt8} {bad : Bool} (h : LsR w rb s r bad) : w.cell? ⟨rb, 2, none⟩ = some (.bool bad) ∧ w.frozen? ⟨rb, 2, none⟩ = false := by
  obtain ⟨q, h1, _⟩ := h; exact ⟨h1.cells.2.2.1, h1.cells.2.2.2 2⟩
theorem drop_byte (s : ByteArray) (q : Nat) (h : q < s.size) : s.data.toList.drop q = s[q] :: s.data.toList.drop (q + 1) := by
  have hl : q < s.data.toList.length := by rw [Array.length_toList]; exact h
  rw [List.drop_eq_getElem_cons hl]; rfl
/-- how a loose reader ends -/
def Lsd {α : Type} (rb : Nat) (s : ByteArray) (w : World) (R : World → Value → α → Prop) (r : α × List UInt8 × Bool) (x : Ending) (w' : World) : Prop := ∃ v, x = .returned v ∧ R w' v r.1 ∧ LsR w' rb s r.2.1 r.2.2 ∧ Gc rb w w'

set_option maxRecDepth 100000 in
set_option maxHeartbeats 1000000 in
theorem next_ls (rb : Nat) (s : ByteArray) (r : List UInt8) (bad : Bool) (w : World) (h : LsR w rb s r bad) :
    Calls Tryd.prog 42 #[.pointer (some ⟨rb, 0, none⟩)] w (Lsd rb s w (fun _ v (n : Nat) => v = .int .i64 (n : Int)) (lnext r bad)) := by
  obtain ⟨q, h, hr⟩ := h
  obtain ⟨c0, c1, c2, cz⟩ := h.cells
  have z1 := cz 1
  have z2 := cz 2
  have hq := h.2.1
  have hs := h.2.2
  have HL := hide h
  have HRr := hide hr
  clear h cz hr
  by_cases hlt : q < s.size
  · have HR : Hid (lnext r bad = (s[q].toNat, s.data.toList.drop (q + 1), bad)) := hide (by rw [HRr.out, drop_byte s q hlt]; rfl)
    have hd : ¬ ((s.size : Int) ≤ (q : Int)) := by omega
    have hw1 : IntKind.i64.wrap ((q : Int) + 1) = (q : Int) + 1 := Go.IntWalk.i64_in _ (by omega)
    have hw2 : IntKind.i64.wrap ((q : Int) + 1 - 1) = (q : Int) := by rw [Go.IntWalk.i64_in _ (by omega)]; omega
    have hw3 : IntKind.i64.wrap (q : Int) = (q : Int) := Go.IntWalk.i64_in _ (by omega)
    have hbt := s[q].toNat_lt
    generalize hbe : s[q] = b at HR hbt
    have hidx : s[q]!.toNat = b.toNat := by rw [getElem!_pos s q hlt, hbe]
    have hw4 : IntKind.i64.wrap (b.toNat : Int) = (b.toNat : Int) := Go.IntWalk.i64_in _ (by omega)
    have HBE := hide hbe
    clear hbe
    have hb1 : (0 : Int) ≤ (q : Int) := by omega
    have hb2 : (q : Int) < (s.size : Int) := by omega
    have hc : ((q + 1 : Nat) : Int) = (q : Int) + 1 := by omega
    have HN := hide (HL.out.step (q + 1) (by omega))
    rw [hc] at HN
    obtain ⟨e0, e1, -, -⟩ := HN.out.cells
    rw [hc] at e1
    have HG : Hid (Gc rb w (w.setCell ⟨rb, 1, none⟩ (.int .i64 ((q : Int) + 1)))) := hide ((Gc.refl rb w).set 1 _)
    clear hc
    go_enter Tryd.func42, Tryd.ntmps42
    go_wp2
    go_region_held3 (fun w' => w'.cell? ⟨rb, 0, none⟩ = some (.string s) ∧ w'.cell? ⟨rb, 1, none⟩ = some (.int .i64 (q : Int))) (go_keep) (fail)
    go_wp2
    generalize w.setCell ⟨rb, 1, none⟩ (.int .i64 ((q : Int) + 1)) = W at e0 e1 HN HG ⊢
    go_region_held3 (fun w' => w'.cell? ⟨rb, 0, none⟩ = some (.string s) ∧ w'.cell? ⟨rb, 1, none⟩ = some (.int .i64 ((q : Int) + 1))) (go_keep) (fail)
    go_wp2
    go_ret
    rw [HR.out]
    refine ⟨_, rfl, ?_, ⟨q + 1, HN.out, rfl⟩, (by first | exact HG.out | exact HG.out.drew | exact HG.out.drew.drew)⟩
    show Value.int .i64 (IntKind.i64.wrap (s[q].toNat : Int)) = Value.int .i64 (b.toNat : Int)
    rw [HBE.out, hw4]
  · have HR : Hid (lnext r bad = (0, [], true)) := hide (by
      have : s.data.toList.drop q = [] := by rw [List.drop_eq_nil_iff]; rw [Array.length_toList]; show s.size ≤ q; omega
      rw [HRr.out, this]; rfl)
    have hd : (s.size : Int) ≤ (q : Int) := by omega
    go_enter Tryd.func42, Tryd.ntmps42
    go_wp2
    go_region_held3 (fun w' => w'.cell? ⟨rb, 0, none⟩ = some (.string s) ∧ w'.cell? ⟨rb, 1, none⟩ = some (.int .i64 (q : Int))) (go_keep) (fail)
    go_wp2
    go_ret
    rw [HR.out]
    exact ⟨_, rfl, rfl, ⟨q, HL.out.spoil, (List.drop_eq_nil_of_le (by rw [Array.length_toList]; show s.size ≤ q; omega)).symm⟩, (by first | exact (Gc.refl rb w).set 2 _ | exact ((Gc.refl rb w).set 2 _).drew | exact ((Gc.refl rb w).set 2 _).drew.drew)⟩
end Go.Proofs.YtkgncijcnlfhiaaDoor

namespace Go.Proofs.YtkgncijcnlfhiaaDoor
set_option linter.unusedVariables false
set_option linter.unusedSimpArgs false
open Go.RowKit
attribute [local go_sem ↓] Go.wp_at_zero Go.wp_at_succ
theorem wrap_u64_nat (n : Nat) : IntKind.u64.wrap (n : Int) = ((n % 18446744073709551616 : Nat) : Int) := by
  simp [IntKind.wrap, IntKind.bits, IntKind.signed]
theorem lnext_lt (r : List UInt8) (bad : Bool) : (lnext r bad).1 < 256 := by
  cases r with
  | nil => simp [lnext]
  | cons b r => exact b.toNat_lt
set_option maxRecDepth 100000 in
set_option maxHeartbeats 2000000 in
theorem number_ls (rb : Nat) (s : ByteArray) (r : List UInt8) (bad : Bool) (w : World) (h : LsR w rb s r bad) :
    Calls Tryd.prog 43 #[.pointer (some ⟨rb, 0, none⟩)] w (Lsd rb s w (fun _ v (n : Nat) => v = .int .u64 (n : Int)) (lnum r bad)) := by
  go_enter Tryd.func43, Tryd.ntmps43
  go_wp2_with fail
  go_loopw [3, 4, 5] (fun vv uu ii wr => ∃ (k v un : Nat) (r' : List UInt8) (b' : Bool), k ≤ 10 ∧ v < 18446744073709551616 ∧ un < 18446744073709551616 ∧ vv = .int .u64 (v : Int) ∧ uu = .int .u64 (un : Int) ∧ ii = .int .i64 (k : Int) ∧ lnumF (10 - k) v un r' b' = lnum r bad ∧ LsR wr rb s r' b' ∧ Gc rb w wr) (fun _ _ ii _ => 10 - (intOf ii).toNat)
  case atStart => exact ⟨0, 0, 1, r, bad, by decide, by decide, by decide, rfl, rfl, rfl, rfl, h, Gc.refl _ _⟩
  case round =>
    obtain ⟨k, v, un, r', b', hk, hv, hun, rfl, rfl, rfl, hF, hls, hgc⟩ := hrel
    have HF := hide hF
    have HLS := hide hls
    have HG := hide hgc
    clear hF hls hgc h
    by_cases hk10 : k < 10
    · have HN := hide (next_ls rb s r' b' wr HLS.out)
      have hc := lnext_lt r' b'
      obtain ⟨low, hlow⟩ : ∃ low, low = (lnext r' b').1 % 128 := ⟨_, rfl⟩
      have HS : Hid (lnum r bad = if (lnext r' b').1 < 128 then ((v + un * low) % 18446744073709551616, (lnext r' b').2) else lnumF (10 - (k + 1)) ((v + un * low) % 18446744073709551616) (un * 128 % 18446744073709551616) (lnext r' b').2.1 (lnext r' b').2.2) := hide (by
        rw [← HF.out, show 10 - k = (10 - (k + 1)) + 1 by omega, lnumF, ← hlow])
      have htm : ((lnext r' b').1 : Int).tmod 128 = (low : Int) := by rw [Int.tmod_eq_emod_of_nonneg (by omega)]; omega
      obtain ⟨m, hm⟩ : ∃ m, m = un * low % 18446744073709551616 := ⟨_, rfl⟩
      obtain ⟨v2, hv2⟩ : ∃ v2, v2 = (v + un * low) % 18446744073709551616 := ⟨_, rfl⟩
      obtain ⟨un2, hun2⟩ : ∃ un2, un2 = un * 128 % 18446744073709551616 := ⟨_, rfl⟩
      have hl : low < 128 := by omega
      have hw0 : IntKind.u64.wrap (low : Int) = (low : Int) := Go.IntWalk.u64_in _ (by omega)
      have hw1 : IntKind.u64.wrap ((un : Int) * (low : Int)) = (m : Int) := by rw [← Int.natCast_mul, wrap_u64_nat, ← hm]
      have hw2 : IntKind.u64.wrap ((v : Int) + (m : Int)) = (v2 : Int) := by rw [← Int.natCast_add, wrap_u64_nat, hm, hv2, Nat.add_mod_mod]
      have hw3 : IntKind.u64.wrap ((un : Int) * 128) = (un2 : Int) := by rw [show (un : Int) * 128 = ((un * 128 : Nat) : Int) by omega, wrap_u64_nat, ← hun2]
      have hv64 : v2 < 18446744073709551616 := by omega
      have hu64 : un2 < 18446744073709551616 := by omega
      rw [← hv2, ← hun2] at HS
      generalize lnext r' b' = L at HN HS hc htm
      obtain ⟨c, r2, b2⟩ := L
      simp only at HS hc htm
      clear hm hv2 hun2 hlow HF HLS
      go_wp2_with fail
      refine HN.out.mono ?_
      rintro x w1 ⟨v1, rfl, rfl, hls1, hg1⟩
      have HL1 := hide hls1
      have HG1 := hide (HG.out.trans hg1)
      clear hls1 hg1 HN HG
      by_cases hc128 : c < 128
      · have hci : (c : Int) < 128 := by omega
        have HE : Hid (lnum r bad = (v2, r2, b2)) := hide (by rw [HS.out, if_pos hc128])
        clear HS
        go_wp2
        go_ret
        rw [HE.out]
        exact ⟨_, rfl, rfl, HL1.out, HG1.out⟩
      · have hci : ¬ ((c : Int) < 128) := by omega
        have HE : Hid (lnumF (10 - (k + 1)) v2 un2 r2 b2 = lnum r bad) := hide (by rw [HS.out, if_neg hc128])
        clear HS
        have hwk : IntKind.i64.wrap ((k : Int) + 1) = (k : Int) + 1 := Go.IntWalk.i64_in _ (by omega)
        go_wp2
        go_roundw
        case rel => exact ⟨k + 1, v2, un2, r2, b2, by omega, hv64, hu64, rfl, rfl, by go_num, HE.out, HL1.out, HG1.out⟩
        case measure => simp [intOf]; omega
    · have hk2 : k = 10 := by omega
      subst hk2
      obtain ⟨c2, z2⟩ := HLS.out.bad
      have HE : Hid (lnum r bad = (0, r', true)) := hide (by rw [← HF.out]; rfl)
      go_wp2
      go_ret
      rw [HE.out]
      exact ⟨_, rfl, rfl, HLS.out.spoil, (by first | exact HG.out.set 2 _ | exact (HG.out.set 2 _).drew)⟩
end Go.Proofs.YtkgncijcnlfhiaaDoor

namespace Go.Proofs.YtkgncijcnlfhiaaDoor
set_option linter.unusedVariables false
set_option linter.unusedSimpArgs false
open Go.RowKit
/-- a section, read loosely: what stands there, and whether it went bad -/
def lsec {α : Type} (f : List UInt8 → Bool → α × List UInt8 × Bool) (r : List UInt8) : List α × List UInt8 × Bool :=
  lfill f (lnum (lnext r false).2.1 (lnext r false).2.2).2.1 (lnum (lnext r false).2.1 (lnext r false).2.2).2.2
/-- .. and it is right, if it is what is written of it -/
def refSect {α : Type} (k : Nat) (f : List UInt8 → Bool → α × List UInt8 × Bool) (g : α → List UInt8) (O : List α → Bool) (r : List UInt8) : Option (List α × List UInt8) :=
  if (lsec f r).2.2 = false ∧ O (lsec f r).1 = true ∧ r.take (sect k (encs g (lsec f r).1)).length = sect k (encs g (lsec f r).1) then some ((lsec f r).1, r.drop (sect k (encs g (lsec f r).1)).length) else none
theorem lnumF_lt : ∀ (k v un : Nat) (r : List UInt8) (bad : Bool), (lnumF k v un r bad).1 < 18446744073709551616
  | 0, v, un, r, bad => by simp [lnumF]
  | k + 1, v, un, r, bad => by
    rw [lnumF]
    split
    · exact Nat.mod_lt _ (by decide)
    · exact lnumF_lt k _ _ _ _
theorem lnum_lt (r : List UInt8) (bad : Bool) : (lnum r bad).1 < 18446744073709551616 := lnumF_lt _ _ _ _ _
theorem unzig_fit {n : Nat} (h : n < 18446744073709551616) : Fit (unzig n) := by unfold Fit unzig; split <;> omega
theorem lsigned_fit (r : List UInt8) (bad : Bool) : Fit (lsigned r bad).1 := unzig_fit (lnum_lt _ _)
theorem lfills_all {α : Type} {f : List UInt8 → Bool → α × List UInt8 × Bool} {F : α → Prop} (hf : ∀ r bad, F (f r bad).1) : ∀ (k : Nat) (r : List UInt8) (bad : Bool), ∀ y ∈ (lfills f k r bad).1, F y
  | 0, r, bad, y, h => by simp [lfills] at h
  | k + 1, r, bad, y, h => by
    rw [lfills] at h
    split at h
    · simp at h
    · simp only [List.mem_cons] at h
      rcases h with rfl | h
      · exact hf _ _
      · exact lfills_all hf k _ _ y h
theorem rdN_every {α : Type} {rd : List UInt8 → Option (α × List UInt8)} {F : α → Prop} (hf : ∀ r y r', rd r = some (y, r') → F y) : ∀ (n : Nat) (r : List UInt8) (ys : List α) (r' : List UInt8), rdN rd n r = some (ys, r') → ∀ y ∈ ys, F y
  | 0, r, ys, r', h, y, hy => by
    simp only [rdN, Option.some.injEq, Prod.mk.injEq] at h
    rw [← h.1] at hy; simp at hy
  | n + 1, r, ys, r', h, y, hy => by
    simp only [rdN] at h
    cases h1 : rd r with
    | none => rw [h1] at h; simp at h
    | some p =>
      obtain ⟨z, r1⟩ := p
      rw [h1] at h
      simp only at h
      cases h2 : rdN rd n r1 with
      | none => rw [h2] at h; simp at h
      | some q =>
        obtain ⟨zs, r2⟩ := q
        rw [h2] at h
        simp only [Option.some.injEq, Prod.mk.injEq] at h
        rw [← h.1] at hy
        rcases List.mem_cons.1 hy with rfl | hy
        · exact hf _ _ _ h1
        · exact rdN_every hf n r1 zs r2 h2 y hy
theorem rdSect_all {α : Type} {k : Nat} {rd : List UInt8 → Option (α × List UInt8)} {F : α → Prop} (hf : ∀ r y r', rd r = some (y, r') → F y) {r r' : List UInt8} {ys : List α} (h : rdSect k (rdList rd) r = some (ys, r')) : ∀ y ∈ ys, F y := by
  unfold rdSect at h
  cases h1 : rdOpen k r with
  | none => rw [h1] at h; simp at h
  | some p =>
    obtain ⟨b, r1⟩ := p
    rw [h1] at h
    simp only at h
    cases h2 : rdBody (rdList rd) b with
    | none => rw [h2] at h; simp at h
    | some zs =>
      rw [h2] at h
      simp only [Option.some.injEq, Prod.mk.injEq] at h
      rw [← h.1]
      unfold rdBody at h2
      cases h3 : rdList rd b with
      | none => rw [h3] at h2; simp at h2
      | some q =>
        obtain ⟨zs', r3⟩ := q
        rw [h3] at h2
        unfold rdList at h3
        cases h4 : rdNum 0 0 b with
        | none => rw [h4] at h3; simp at h3
        | some q4 =>
          obtain ⟨n, r4⟩ := q4
          rw [h4] at h3
          simp only at h3
          split at h3
          · have := rdN_every hf n r4 zs' r3 h3
            cases r3 with
            | nil => simp only [Option.some.injEq] at h2; rw [← h2]; exact this
            | cons a l => simp at h2
          · simp at h3
theorem signed_fit : ∀ r y r', rdSigned r = some (y, r') → Fit y := by
  intro r y r' h
  unfold rdSigned at h
  rw [Option.map_eq_some_iff] at h
  obtain ⟨p, h1, h2⟩ := h
  simp only [Prod.mk.injEq] at h2
  rw [← h2.1]
  exact unzig_fit (rdNum_lt r 0 0 (by simp) (by decide) p.1 p.2 h1)
theorem take_pref {b r r' : List UInt8} (h : r = b ++ r') : r.take b.length = b ∧ r.drop b.length = r' := by rw [h]; simp
theorem pref_of {b r : List UInt8} (h : r.take b.length = b) : r = b ++ r.drop b.length := by
  have := List.take_append_drop b.length r
  rw [h] at this; exact this.symm
def okd {α : Type} (O : List α → Bool) : Option (List α × List UInt8) → Option (List α × List UInt8)
  | none => none
  | some (y, r') => if O y = false then none else some (y, r')
/-- both ways of reading a section agree -/
theorem ref_sect {α : Type} {k : Nat} {rd : List UInt8 → Option (α × List UInt8)} {g : α → List UInt8} {f : List UInt8 → Bool → α × List UInt8 × Bool} {O : List α → Bool} {F Q : α → Prop} (hk : k < 256) (hinv : Inv rd g)
    (hfw : ∀ y, O y = true → (∀ x ∈ y, F x) → rdBody (rdList rd) (encs g y) = some y) (hl : LFwd f g Q) (hQ : ∀ y, O y = true → (∀ x ∈ y, F x) → y.length ≤ 50 ∧ ∀ x ∈ y, Q x) (hs : ∀ r y r', rd r = some (y, r') → F y) (hlo : ∀ r bad, F (f r bad).1) (r : List UInt8) (hr : r.length ≤ 20000) :
    refSect k f g O r = okd O (rdSect k (rdList rd) r) := by
  have key : ∀ y r', O y = true → (∀ x ∈ y, F x) → r = sect k (encs g y) ++ r' → lsec f r = (y, (lsec f r).2.1, false) := by
    intro y r' hO hF he
    have hbl : (encs g y).length ≤ 20000 := by
      have := sect_body_len k (encs g y)
      have h2 : (sect k (encs g y)).length ≤ r.length := by rw [he, List.length_append]; omega
      omega
    obtain ⟨q1, q2⟩ := hQ y hO hF
    have hls : lnext (sect k (encs g y) ++ r') false = ((UInt8.ofNat k).toNat, num (encs g y).length ++ (encs g y ++ (leK (crc (encs g y)) 4 ++ r')), false) := by
      unfold sect
      simp only [List.append_assoc, List.singleton_append, List.cons_append, List.nil_append, lnext]
    unfold lsec
    rw [he, hls]
    simp only
    rw [lnum_fwd (encs g y).length _ false (by show _ < _; omega)]
    simp only
    rw [lfill_fwd hl y _ q1 q2]
  cases h : rdSect k (rdList rd) r with
  | some p =>
    obtain ⟨y, r'⟩ := p
    obtain ⟨he, _⟩ := sect_inv (list_inv hinv) h
    have hF := rdSect_all hs h
    simp only [okd]
    cases hO : O y with
    | true =>
      have hls := key y r' hO hF he
      obtain ⟨t1, t2⟩ := take_pref he
      unfold refSect
      rw [hls]
      simp only [hO, t1, t2, and_self, if_true]
      simp
    | false =>
      simp only [if_true]
      unfold refSect
      refine if_neg ?_
      rintro ⟨_, c2, c3⟩
      have hF2 : ∀ x ∈ (lsec f r).1, F x := lfills_all hlo _ _ _
      have h2 := sect_fwd (n := k) (r := r.drop (sect k (encs g (lsec f r).1)).length) hk (by
        have := sect_body_len k (encs g (lsec f r).1)
        have h3 := congrArg List.length c3
        rw [List.length_take] at h3
        omega) (hfw _ c2 hF2)
      rw [← pref_of c3, h] at h2
      simp only [Option.some.injEq, Prod.mk.injEq] at h2
      rw [h2.1, c2] at hO
      cases hO
  | none =>
    unfold refSect
    refine if_neg ?_
    rintro ⟨_, c2, c3⟩
    have hF2 : ∀ x ∈ (lsec f r).1, F x := lfills_all hlo _ _ _
    have h2 := sect_fwd (n := k) (r := r.drop (sect k (encs g (lsec f r).1)).length) hk (by
      have := sect_body_len k (encs g (lsec f r).1)
      have h3 := congrArg List.length c3
      rw [List.length_take] at h3
      omega) (hfw _ c2 hF2)
    rw [← pref_of c3, h] at h2
    cases h2
def okU (sh : List (List Int)) (cs : List Int) (fs : List PFunc) (im : List PImp) (ex : List PExp) : Bool := unitOk ⟨sh, cs, fs, im, ex⟩
theorem empties (n m : Int) : constsOk [] = true ∧ funcsOk [] n = true ∧ importsOk [] n = true ∧ exportsOk [] m = true := by
  refine ⟨?_, ?_, ?_, ?_⟩ <;> simp [constsOk, funcsOk, importsOk, exportsOk, wB]
theorem ok_one (sh : List (List Int)) : okU sh [] [] [] [] = shapesOk sh := by
  obtain ⟨h1, h2, h3, h4⟩ := empties sh.length 0
  unfold okU unitOk
  simp only [h1, h2, h3, Bool.true_and, List.length_nil, Int.natCast_zero, h4, Bool.and_true]
theorem ok_two {sh : List (List Int)} (h : shapesOk sh = true) (cs : List Int) : okU sh cs [] [] [] = constsOk cs := by
  obtain ⟨h1, h2, h3, h4⟩ := empties sh.length 0
  unfold okU unitOk
  simp only [h, h2, h3, Bool.true_and, List.length_nil, Int.natCast_zero, h4, Bool.and_true]
theorem ok_three {sh : List (List Int)} {cs : List Int} (h : shapesOk sh = true) (hc : constsOk cs = true) (fs : List PFunc) : okU sh cs fs [] [] = funcsOk fs sh.length := by
  obtain ⟨h1, h2, h3, h4⟩ := empties sh.length fs.length
  unfold okU unitOk
  simp only [h, hc, h3, h4, Bool.true_and, Bool.and_true]
theorem ok_four {sh : List (List Int)} {cs : List Int} {fs : List PFunc} (h : shapesOk sh = true) (hc : constsOk cs = true) (hf : funcsOk fs sh.length = true) (im : List PImp) : okU sh cs fs im [] = importsOk im sh.length := by
  obtain ⟨h1, h2, h3, h4⟩ := empties sh.length fs.length
  unfold okU unitOk
  simp only [h, hc, hf, h4, Bool.true_and, Bool.and_true]
theorem ok_five {sh : List (List Int)} {cs : List Int} {fs : List PFunc} {im : List PImp} (h : shapesOk sh = true) (hc : constsOk cs = true) (hf : funcsOk fs sh.length = true) (hi : importsOk im sh.length = true) (ex : List PExp) : okU sh cs fs im ex = exportsOk ex fs.length := by
  unfold okU unitOk
  simp only [h, hc, hf, hi, Bool.true_and]
theorem inB_most {n : Int} (hn : n ≤ 65535) {x : Int} (h : inB n x = true) : 0 ≤ x ∧ x ≤ 65535 := by
  have := wB_le h; omega
theorem all_most {n : Int} (hn : n ≤ 65535) {l : List Int} (h : l.all (inB n) = true) : ∀ y ∈ l, 0 ≤ y ∧ y ≤ 65535 := fun y hy => inB_most hn (List.all_eq_true.1 h y hy)
theorem fits_nil : ∀ x ∈ ([] : List Int), -9223372036854775808 ≤ x ∧ x ≤ 9223372036854775807 := by simp
theorem ref_one (r : List UInt8) (hr : r.length ≤ 20000) : refSect 1 llist encKinds shapesOk r = okd shapesOk (rdSect 1 (rdList rdKinds) r) :=
  ref_sect (k := 1) (F := fun _ => True) (by decide) kinds_inv (fun y h _ => (unit_bodies (u := ⟨y, [], [], [], []⟩) (by have := ok_one y; unfold okU at this; rw [this]; exact h) fits_nil).b1) llist_fwd
    (fun y h _ => by
      unfold shapesOk at h
      simp only [Bool.and_eq_true] at h
      have h1 := wB_le h.1
      refine ⟨by omega, fun x hx => ?_⟩
      have h2 := List.all_eq_true.1 h.2 x hx
      unfold shapeOk at h2
      simp only [Bool.and_eq_true] at h2
      have h3 := wB_le h2.1
      exact ⟨by omega, all_most (by omega) h2.2⟩) (fun _ _ _ _ => trivial) (fun _ _ => trivial) r hr
theorem ref_two {sh : List (List Int)} (hsh : shapesOk sh = true) (r : List UInt8) (hr : r.length ≤ 20000) : refSect 2 lsigned encSigned constsOk r = okd constsOk (rdSect 2 (rdList rdSigned) r) :=
  ref_sect (k := 2) (F := Fit) (by decide) signed_inv (fun y h hF => (unit_bodies (u := ⟨sh, y, [], [], []⟩) (by have := ok_two hsh y; unfold okU at this; rw [this]; exact h) hF).b2) lsigned_fwd
    (fun y h hF => ⟨by have := wB_le h; omega, hF⟩) signed_fit lsigned_fit r hr
theorem ref_three {sh : List (List Int)} (hsh : shapesOk sh = true) (r : List UInt8) (hr : r.length ≤ 20000) : refSect 3 lfunc encFunc (fun y => funcsOk y sh.length) r = okd (fun y => funcsOk y sh.length) (rdSect 3 (rdList rdFunc) r) :=
  ref_sect (k := 3) (F := fun _ => True) (by decide) func_inv (fun y h _ => (unit_bodies (u := ⟨sh, [], y, [], []⟩) (by have := ok_three hsh (empties 0 0).1 y; unfold okU at this; rw [this]; exact h) fits_nil).b3) lfunc_fwd
    (fun y h _ => by
      unfold shapesOk at hsh
      simp only [Bool.and_eq_true] at hsh
      have h0 := wB_le hsh.1
      unfold funcsOk at h
      simp only [Bool.and_eq_true] at h
      have h1 := wB_le h.1
      refine ⟨by omega, fun x hx => ?_⟩
      have h2 := List.all_eq_true.1 h.2 x hx
      unfold funcOk sigOk codeOk at h2
      simp only [Bool.and_eq_true] at h2
      obtain ⟨⟨k1, k2, k3⟩, k4, k5, k6, k7⟩ := h2
      have q1 := wB_le k1
      have q4 := wB_le k4
      have q6 := wB_le k6
      exact ⟨⟨by omega, all_most (by omega) k2⟩, ⟨by omega, all_most (by omega) k5⟩, inB_most (by omega) k3, by omega, k7⟩) (fun _ _ _ _ => trivial) (fun _ _ => trivial) r hr
theorem ref_four {sh : List (List Int)} (hsh : shapesOk sh = true) (r : List UInt8) (hr : r.length ≤ 20000) : refSect 4 limp encImp (fun y => importsOk y sh.length) r = okd (fun y => importsOk y sh.length) (rdSect 4 (rdList rdImp) r) :=
  ref_sect (k := 4) (F := fun _ => True) (by decide) imp_inv (fun y h _ => (unit_bodies (u := ⟨sh, [], [], y, []⟩) (by have := ok_four hsh (empties 0 0).1 (empties sh.length 0).2.1 y; unfold okU at this; rw [this]; exact h) fits_nil).b4) limp_fwd
    (fun y h _ => by
      unfold shapesOk at hsh
      simp only [Bool.and_eq_true] at hsh
      have h0 := wB_le hsh.1
      unfold importsOk at h
      simp only [Bool.and_eq_true] at h
      have h1 := wB_le h.1
      refine ⟨by omega, fun x hx => ?_⟩
      have h2 := List.all_eq_true.1 h.2 x hx
      unfold impOk nameOk sigOk at h2
      simp only [Bool.and_eq_true] at h2
      obtain ⟨k0, k1, k2, k3⟩ := h2
      have q0 := wB_le k0
      have q1 := wB_le k1
      exact ⟨by omega, ⟨by omega, all_most (by omega) k2⟩, inB_most (by omega) k3⟩) (fun _ _ _ _ => trivial) (fun _ _ => trivial) r hr
theorem ref_five {sh : List (List Int)} {fs : List PFunc} (hsh : shapesOk sh = true) (hfs : funcsOk fs sh.length = true) (r : List UInt8) (hr : r.length ≤ 20000) : refSect 5 lexp encExp (fun y => exportsOk y fs.length) r = okd (fun y => exportsOk y fs.length) (rdSect 5 (rdList rdExp) r) :=
  ref_sect (k := 5) (F := fun _ => True) (by decide) exp_inv (fun y h _ => (unit_bodies (u := ⟨sh, [], fs, [], y⟩) (by have := ok_five hsh (empties 0 0).1 hfs (empties sh.length 0).2.2.1 y; unfold okU at this; rw [this]; exact h) fits_nil).b5) lexp_fwd
    (fun y h _ => by
      unfold funcsOk at hfs
      simp only [Bool.and_eq_true] at hfs
      have h0 := wB_le hfs.1
      unfold exportsOk at h
      simp only [Bool.and_eq_true] at h
      have h1 := wB_le h.1
      refine ⟨by omega, fun x hx => ?_⟩
      have h2 := List.all_eq_true.1 h.2 x hx
      unfold expOk nameOk at h2
      simp only [Bool.and_eq_true] at h2
      have q0 := wB_le h2.1
      have q1 := wB_le h2.2
      exact ⟨by omega, by omega, by omega⟩) (fun _ _ _ _ => trivial) (fun _ _ => trivial) r hr
end Go.Proofs.YtkgncijcnlfhiaaDoor

