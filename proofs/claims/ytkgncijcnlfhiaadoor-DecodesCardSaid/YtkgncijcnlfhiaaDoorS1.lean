import Derived.Test.YtkgncijcnlfhiaaDoorT4
import Derived.Test.YtkgncijcnlfhiaaDoorV5
namespace Go.Proofs.YtkgncijcnlfhiaaDoor
set_option linter.unusedVariables false
set_option linter.unusedSimpArgs false
open Go.RowKit
attribute [local go_sem ↓] Go.wp_at_zero Go.wp_at_succ

theorem byte_yes (cb : Nat) (b : UInt8) (r : List UInt8) (e a : Int) (w : World) (hc : Cur w cb (b :: r) e a) :
    Calls Tryd.prog 154 #[.pointer (some ⟨cb, 0, none⟩)] w fun x w' => x = .returned (.int .u8 (b.toNat : Int)) ∧ Cur w' cb r e a ∧ Gc cb w w' := by
  refine (byte_any cb (b :: r) e a w hc).mono ?_
  intro x w' h
  obtain ⟨v, rfl, rfl, h1, h2⟩ := h.some_ (y := b) (r' := r) rfl
  exact ⟨rfl, h1, h2⟩
theorem byte_no (cb : Nat) (e a : Int) (w : World) (hc : Cur w cb [] e a) :
    Calls Tryd.prog 154 #[.pointer (some ⟨cb, 0, none⟩)] w fun x w' => x = .panicked (thrown e a) ∧ Gc cb w w' := by
  refine (byte_any cb [] e a w hc).mono ?_
  intro x w' h
  exact h.none_ rfl

/-- a unit's bytes, gone through section by section -/
def Sec (w : World) (sb : Nat) (t : List UInt8) (p : Nat) : Prop :=
  (∃ s : ByteArray, w.cell? ⟨sb, 0, none⟩ = some (.string s) ∧ s.data.toList = t) ∧ t.length ≤ 1000000 ∧ p ≤ t.length ∧ w.cell? ⟨sb, 1, none⟩ = some (.int .i64 (p : Int)) ∧ w.frozen? ⟨sb, 1, none⟩ = false

/-- writes into a block that is new change nothing that was there -/
theorem Gc.over {sb cb : Nat} {w w1 w2 : World} (h : Gc sb w w1) (k : Gc cb w1 w2) (hc : w.heap.size ≤ cb) : Gc sb w w2 :=
  ⟨k.os.trans h.os, k.tape.trans h.tape, k.output.trans h.output, Nat.le_trans h.size k.size, fun i hi hne => (k.block i (Nat.lt_of_lt_of_le hi h.size) (by intro e; simp only [Option.some.injEq] at e; omega)).trans (h.block i hi hne)⟩
theorem Gc.trans_ {cb : Nat} {a b c : World} (h : Gc cb a b) (k : Gc cb b c) : Gc cb a c := World.grownBy.trans h k
theorem Sec.gc {w w' : World} {sb cb : Nat} {t : List UInt8} {p : Nat} (h : Sec w sb t p) (g : Gc cb w w') (hne : ¬ sb = cb) : Sec w' sb t p := by
  obtain ⟨⟨s, h0, hs⟩, hl, hp, h1, z1⟩ := h
  exact ⟨⟨s, g.box hne h0, hs⟩, hl, hp, g.box hne h1, g.boxz hne h1 z1⟩

def rdSum : Nat → Nat → List UInt8 → Option (List UInt8)
  | 0, _, r => some r
  | j + 1, c, r => match rdByte r with
    | none => none
    | some (b, r1) => if b.toNat = c % 256 then rdSum j (c / 256) r1 else none
def rdOpen (n : Nat) (r : List UInt8) : Option (List UInt8 × List UInt8) := match rdByte r with
  | none => none
  | some (b, r1) => if b.toNat = n then (match rdNum 0 0 r1 with
      | none => none
      | some (k, r2) => match rdTake k r2 with
        | none => none
        | some (body, r3) => match rdSum 4 (crc body) r3 with
          | none => none
          | some r4 => some (body, r4))
    else none

theorem rdSum_le : ∀ (j c : Nat) (r r' : List UInt8), rdSum j c r = some r' → r'.length ≤ r.length
  | 0, _, r, r', h => by simp only [rdSum, Option.some.injEq] at h; rw [h]; exact Nat.le_refl _
  | j + 1, c, [], r', h => by simp [rdSum, rdByte] at h
  | j + 1, c, b :: r, r', h => by
    simp only [rdSum, rdByte] at h
    split at h
    · have := rdSum_le j _ r r' h; simp; omega
    · cases h
theorem rdTake_le {n : Nat} {r y r' : List UInt8} (h : rdTake n r = some (y, r')) : r'.length ≤ r.length := by
  unfold rdTake at h
  split at h
  · simp only [Option.some.injEq, Prod.mk.injEq] at h; rw [← h.2, List.length_drop]; omega
  · cases h
theorem rdOpen_le {n : Nat} {r b r' : List UInt8} (h : rdOpen n r = some (b, r')) : r'.length ≤ r.length := by
  cases r with
  | nil => simp [rdOpen, rdByte] at h
  | cons x r1 =>
    simp only [rdOpen, rdByte] at h
    split at h
    · cases hn : rdNum 0 0 r1 with
      | none => rw [hn] at h; cases h
      | some p =>
        obtain ⟨k, r2⟩ := p
        have l1 := rdNum_le r1 0 0 k r2 hn
        rw [hn] at h
        simp only at h
        cases ht : rdTake k r2 with
        | none => rw [ht] at h; cases h
        | some q =>
          obtain ⟨y, r3⟩ := q
          have l2 := rdTake_le ht
          rw [ht] at h
          simp only at h
          cases hs : rdSum 4 (crc y) r3 with
          | none => rw [hs] at h; cases h
          | some r4 =>
            have l3 := rdSum_le 4 _ r3 r4 hs
            rw [hs] at h
            simp only [Option.some.injEq, Prod.mk.injEq] at h
            rw [← h.2]; simp; omega
    · cases h

def Opened (sb : Nat) (t : List UInt8) (p : Nat) (w : World) : Option (List UInt8 × List UInt8) → Ending → World → Prop
  | some (body, r), x, w' => ∃ nb, x = .returned (.pointer (some ⟨nb, 0, none⟩)) ∧ w.heap.size ≤ nb ∧ nb < w'.heap.size ∧ Cur w' nb body 2 p ∧ Sec w' sb t (t.length - r.length) ∧ Gc sb w w'
  | none, x, w' => x = .panicked (thrown 2 p) ∧ Gc sb w w'

theorem cur_new (w : World) (s : ByteArray) (r : List UInt8) (e a : Int) (hs : s.data.toList = r) (hl : r.length ≤ 1000000) : Cur (w.alloc (.cells #[.string s, .int .i64 e, .int .i64 0, .int .i64 a] 194)) w.heap.size r e a := by
  refine ⟨⟨s, by simp [go_sem], hs⟩, hl, by simp [go_sem], by simp [go_sem], by simp [go_sem], by simp [go_sem]⟩

set_option maxRecDepth 100000 in
set_option maxHeartbeats 4000000 in
theorem open_any (sb : Nat) (t : List UInt8) (p n : Nat) (hn : n < 256) (w : World) (hS : Sec w sb t p) :
    Calls Tryd.prog 127 #[.pointer (some ⟨sb, 0, none⟩), .int .u8 (n : Int)] w (Opened sb t p w (rdOpen n (t.drop p))) := by
  have HS0 := hide hS
  obtain ⟨⟨s, h0, hs⟩, hl, hp, h1, z1⟩ := hS
  have hsz : s.size = t.length := by rw [← hs, Array.length_toList]; rfl
  have hsl : sb < w.heap.size := World.block_lt_of_cell? w _ h1
  have hp0 : (0 : Int) ≤ (p : Int) := by omega
  have hp1 : (p : Int) ≤ (s.size : Int) := by omega
  have hss : s.size ≤ 1000000 := by omega
  go_enter Tryd.func127, Tryd.ntmps127
  go_wp2
  clear z1
  go_region_held3 (fun w' => w'.cell? ⟨sb, 0, none⟩ = some (.string s) ∧ w'.cell? ⟨sb, 1, none⟩ = some (.int .i64 (p : Int))) (go_keep) (fail)
  have hcur : Cur (w.alloc (.cells #[.string (s.extract p t.length), .int .i64 2, .int .i64 0, .int .i64 (p : Int)] 194)).drew w.heap.size (t.drop p) 2 p := by
    have h := cur_new w (s.extract p t.length) (t.drop p) 2 p (by have h := drop_bytes s p; rw [hsz, hs] at h; exact h) (by rw [List.length_drop]; omega)
    exact h
  have hsec : Sec (w.alloc (.cells #[.string (s.extract p t.length), .int .i64 2, .int .i64 0, .int .i64 (p : Int)] 194)).drew sb t p := by
    exact HS0.out.gc (cb := w.heap.size) ((Gr.drew (Gr.alloc (Gr.refl w) _)).toGc) (by omega)
  have hgc : Gc sb w (w.alloc (.cells #[.string (s.extract p t.length), .int .i64 2, .int .i64 0, .int .i64 (p : Int)] 194)).drew := (Gr.drew (Gr.alloc (Gr.refl w) _)).toGc
  have hsz2 : w.heap.size < (w.alloc (.cells #[.string (s.extract p t.length), .int .i64 2, .int .i64 0, .int .i64 (p : Int)] 194)).drew.heap.size := by simp
  generalize (w.alloc (.cells #[.string (s.extract p t.length), .int .i64 2, .int .i64 0, .int .i64 (p : Int)] 194)).drew = W2 at hcur hsec hgc hsz2 ⊢
  generalize hR : t.drop p = R at hcur ⊢
  have HR := hide hR
  have HC := hide hcur
  have HS := hide hsec
  have HG := hide hgc
  have h11 := hcur.2.2.1
  have h12 := hcur.2.2.2.1
  have h13 := hcur.2.2.2.2.2
  clear hR hcur hsec hgc h0 h1 HS0 hp0 hp1 hss hs hsz
  cases R with
  | nil =>
    go_wp2
    go_region_with (first | (go_at_call 154; refine (byte_no w.heap.size 2 p _ (by exact HC.out)).mono ?_; rintro x w3 ⟨rfl, hg3⟩; refine left_region ?_))
    all_goals exact ⟨rfl, by rw [HR.out]; exact ⟨rfl, HG.out.over (Gc.trans_ (Gr.drew (Gr.refl _)).toGc hg3) (by omega)⟩⟩
  | cons b r1 =>
    by_cases hbn : b.toNat = n
    · subst hbn
      have hbeq : ((b.toNat : Int) == (b.toNat : Int)) = true := by simp
      go_wp2
      go_region_held3 (fun w' => w'.cell? ⟨w.heap.size, 1, none⟩ = some (.int .i64 2) ∧ w'.cell? ⟨w.heap.size, 3, none⟩ = some (.int .i64 (p : Int)) ∧ w'.cell? ⟨w.heap.size, 2, none⟩ = some (.int .i64 0)) (first | go_keep | exact ⟨hcur3.2.2.1, hcur3.2.2.2.1, hcur3.2.2.2.2.2⟩ | (refine ⟨?_, ?_, ?_⟩ <;> exact hg'.cell (by assumption) (by simp))) (first | (go_at_call 154; refine (byte_yes w.heap.size b r1 2 p _ (by exact HC.out)).mono ?_; rintro x w3 ⟨rfl, hcur3, hg3⟩; have q1 := hcur3.2.2.1; have q2 := hcur3.2.2.2.1; have q3 := hcur3.2.2.2.2.2) | (go_at_call 76; refine (unless_yes _ _ _).mono ?_; rintro e w' ⟨rfl, hg'⟩))
      have HC4 := hide (hcur3.gr hg')
      have HG4 := hide (HG.out.over (Gc.trans_ (Gc.trans_ (Gr.drew (Gr.refl _)).toGc hg3) hg'.toGc) (by omega))
      have HS4 := hide (HS.out.gc (Gc.trans_ (Gc.trans_ (Gr.drew (Gr.refl _)).toGc hg3) hg'.toGc) (by omega))
      have hsz4 : w.heap.size < w'.heap.size := by have h1 := hg3.size; have h2 := hg'.size; simp at h1; omega
      clear hcur3 hg3 hg' q1 q2 q3 h11 h12 h13 HC HG HS hbeq
      go_wp2_with fail
      refine (number_any w.heap.size r1 2 p _ HC4.out).mono ?_
      intro x w5 h
      cases hn5 : rdNum 0 0 r1 with
      | none =>
        obtain ⟨rfl, hg⟩ := h.none_ hn5
        exact ⟨rfl, by rw [HR.out]; simp only [rdOpen, rdByte, if_true, hn5]; exact ⟨rfl, HG4.out.over hg (by omega)⟩⟩
      | some q5 =>
        obtain ⟨k5, r2⟩ := q5
        obtain ⟨_, rfl, rfl, hcur, hg⟩ := h.some_ hn5
        have hlt5 := rdNum_lt r1 0 0 (by simp) (by decide) k5 r2 hn5
        have HC5 := hide hcur
        have HG5 := hide (HG4.out.over hg (by omega))
        have HS5 := hide (HS4.out.gc hg (by omega))
        have hsz5 : w.heap.size < w5.heap.size := Nat.lt_of_lt_of_le hsz4 hg.size
        have HN5 := hide hn5
        clear h hcur hg hn5 HC4 HG4 HS4 hsz4
        go_wp2_with fail
        refine (take_any w.heap.size r2 2 p k5 hlt5 _ HC5.out).mono ?_
        intro x w6 h
        cases ht6 : rdTake k5 r2 with
        | none =>
          obtain ⟨rfl, hg⟩ := h.none_ ht6
          exact ⟨rfl, by rw [HR.out]; simp only [rdOpen, rdByte, if_true, HN5.out, ht6]; exact ⟨rfl, HG5.out.over hg (by omega)⟩⟩
        | some q6 =>
          obtain ⟨body, r3⟩ := q6
          obtain ⟨_, rfl, rfl, hcur, hg⟩ := h.some_ ht6
          have hbl : body.length ≤ 1000000 := by
            have h6 := HC5.out.2.1
            unfold rdTake at ht6
            split at ht6
            · simp only [Option.some.injEq, Prod.mk.injEq] at ht6; rw [← ht6.1, List.length_take]; omega
            · cases ht6
          have HE : Hid (rdOpen b.toNat (b :: r1) = match rdSum 4 (crc body) r3 with
            | none => none
            | some r4 => some (body, r4)) := hide (by simp only [rdOpen, rdByte, if_true, HN5.out, ht6])
          have HC6 := hide hcur
          have HG6 := hide (HG5.out.over hg (by omega))
          have HS6 := hide (HS5.out.gc hg (by omega))
          have hsz6 : w.heap.size < w6.heap.size := Nat.lt_of_lt_of_le hsz5 hg.size
          clear h hcur hg ht6 HC5 HG5 HS5 hsz5 HN5
          go_wp2_with (go_at_call 115; refine (check_any _ _ (by unfold maxLen; show (List.toArray body).size ≤ _; simp; omega)).mono ?_; rintro e w7 ⟨rfl, e7⟩; subst e7)
          go_loopw [7, 39] (fun c i wr => ∃ (k q : Nat) (rk : List UInt8), k ≤ 4 ∧ i = .int .i64 k ∧ c = .int .u32 (q : Int) ∧ q < 4294967296 ∧ rdSum (4 - k) q rk = rdSum 4 (crc body) r3 ∧ Cur wr w.heap.size rk 2 p ∧ Sec wr sb t p ∧ Gc sb w wr ∧ w.heap.size < wr.heap.size) (fun _ i _ => 4 - (intOf i).toNat)
          case atStart => exact ⟨0, crc body, r3, Nat.zero_le _, rfl, rfl, crc_lt _, rfl, HC6.out, HS6.out, HG6.out, hsz6⟩
          case round =>
            obtain ⟨k, q, rk, hk, rfl, rfl, hq, hrd, hcur, hsec, hgc, hszr⟩ := hrel
            have HRd := hide hrd
            have HC := hide hcur
            have HS := hide hsec
            have HG := hide hgc
            have h11 := hcur.2.2.1
            have h12 := hcur.2.2.2.1
            have h13 := hcur.2.2.2.2.2
            clear hrd hcur hsec hgc HC6 HS6 HG6
            by_cases hk4 : k < 4
            · obtain ⟨m, hm⟩ : ∃ m, 4 - k = m + 1 := ⟨3 - k, by omega⟩
              have HM := hide hm
              clear hm
              cases rk with
              | nil =>
                have HN : Hid (rdOpen b.toNat (b :: r1) = none) := hide (by rw [HE.out, ← HRd.out, HM.out]; rfl)
                go_wp2
                go_region_with (first | (go_at_call 154; refine (byte_no w.heap.size 2 p _ (by exact HC.out)).mono ?_; rintro x w3 ⟨rfl, hg3⟩; refine left_region ?_))
                all_goals exact ⟨rfl, by rw [HR.out, HN.out]; exact ⟨rfl, HG.out.over (Gc.trans_ (Gr.drew (Gr.refl _)).toGc hg3) (by omega)⟩⟩
              | cons b2 r5 =>
                have hw8 : IntKind.u8.wrap (q : Int) = (q : Int) % 256 := IntKind.wrap_u8 _
                by_cases hb2 : b2.toNat = q % 256
                · have hbeq : ((b2.toNat : Int) == (q : Int) % 256) = true := by rw [beq_iff_eq]; omega
                  have HN : Hid (rdSum (4 - (k + 1)) (q / 256) r5 = rdSum 4 (crc body) r3) := hide (by rw [← HRd.out, HM.out, show 4 - (k + 1) = m by have := HM.out; omega]; simp only [rdSum, rdByte, if_pos hb2])
                  clear hb2
                  go_wp2
                  go_region_held3 (fun w' => w'.cell? ⟨w.heap.size, 1, none⟩ = some (.int .i64 2) ∧ w'.cell? ⟨w.heap.size, 3, none⟩ = some (.int .i64 (p : Int)) ∧ w'.cell? ⟨w.heap.size, 2, none⟩ = some (.int .i64 0)) (first | go_keep | exact ⟨hcur3.2.2.1, hcur3.2.2.2.1, hcur3.2.2.2.2.2⟩ | (refine ⟨?_, ?_, ?_⟩ <;> exact hg'.cell (by assumption) (by simp))) (first | (go_at_call 154; refine (byte_yes w.heap.size b2 r5 2 p _ (by exact HC.out)).mono ?_; rintro x w3 ⟨rfl, hcur3, hg3⟩; have q1 := hcur3.2.2.1; have q2 := hcur3.2.2.2.1; have q3 := hcur3.2.2.2.2.2) | (go_at_call 76; refine (unless_yes _ _ _).mono ?_; rintro e w' ⟨rfl, hg'⟩))
                  have HC4 := hide (hcur3.gr hg')
                  have HG4 := hide (HG.out.over (Gc.trans_ (Gc.trans_ (Gr.drew (Gr.refl _)).toGc hg3) hg'.toGc) (by omega))
                  have HS4 := hide (HS.out.gc (Gc.trans_ (Gc.trans_ (Gr.drew (Gr.refl _)).toGc hg3) hg'.toGc) (by omega))
                  have hszn : w.heap.size < w'.heap.size := by have h1 := hg3.size; have h2 := hg'.size; simp at h1; omega
                  clear hcur3 hg3 hg' q1 q2 q3 h11 h12 h13 hbeq
                  go_wp2
                  go_roundw
                  case rel => exact ⟨k + 1, q / 256, r5, by omega, by go_num, by go_num, by omega, HN.out, HC4.out, HS4.out, HG4.out, hszn⟩
                  case measure => simp [intOf]; omega
                · have hbeq : ((b2.toNat : Int) == (q : Int) % 256) = false := by rw [beq_eq_false_iff_ne]; omega
                  have HN : Hid (rdOpen b.toNat (b :: r1) = none) := hide (by rw [HE.out, ← HRd.out, HM.out]; simp only [rdSum, rdByte, if_neg hb2])
                  clear hb2
                  go_wp2
                  go_region_with (first | (go_at_call 154; refine (byte_yes w.heap.size b2 r5 2 p _ (by exact HC.out)).mono ?_; rintro x w3 ⟨rfl, hcur3, hg3⟩; have q1 := hcur3.2.2.1; have q2 := hcur3.2.2.2.1; have q3 := hcur3.2.2.2.2.2) | (go_at_call 76; refine (unless_no _ _ _).mono ?_; rintro e w' ⟨rfl, hg'⟩; refine left_region ?_))
                  all_goals exact ⟨rfl, by rw [HR.out, HN.out]; exact ⟨rfl, HG.out.over (Gc.trans_ (Gc.trans_ (Gr.drew (Gr.refl _)).toGc hg3) hg'.toGc) (by omega)⟩⟩
            · have hk44 : k = 4 := by omega
              subst hk44
              have HN : Hid (rdOpen b.toNat (b :: r1) = some (body, rk)) := hide (by rw [HE.out, ← HRd.out]; rfl)
              obtain ⟨⟨s5, e0', e1'⟩, e2', _⟩ := HC.out
              obtain ⟨⟨s6, f0, f1⟩, f2, f3, f4, g1⟩ := HS.out
              have hrk : s5.size = rk.length := by rw [← e1', Array.length_toList]; rfl
              have ht6 : s6.size = t.length := by rw [← f1, Array.length_toList]; rfl
              have hle : rk.length ≤ t.length := by
                have h1 := rdOpen_le HN.out
                rw [← HR.out, List.length_drop] at h1; omega
              have hwr : IntKind.i64.wrap ((s6.size : Int) - (s5.size : Int)) = (s6.size : Int) - (s5.size : Int) := Go.IntWalk.i64_in _ (by omega)
              have HT := hide hrk
              have HF1 := hide f1
              have HT2 := hide ht6
              have hss5 : s5.size ≤ s6.size := by omega
              have hss6 : s6.size ≤ 1000000 := by omega
              have hso : ∀ q, (wr.setCell ⟨sb, 1, none⟩ (.int .i64 ((s6.size : Int) - (s5.size : Int)))).cell? ⟨w.heap.size, q, none⟩ = wr.cell? ⟨w.heap.size, q, none⟩ := fun q => World.cell?_setCell_other wr ⟨sb, 1, none⟩ ⟨w.heap.size, q, none⟩ _ (by intro h; simp only [Addr.mk.injEq] at h; omega)
              have hs0 : (wr.setCell ⟨sb, 1, none⟩ (.int .i64 ((s6.size : Int) - (s5.size : Int)))).cell? ⟨sb, 0, none⟩ = some (.string s6) := (cell_set_ne (by omega)).trans f0
              have SX : Hid ((wr.setCell ⟨sb, 1, none⟩ (.int .i64 ((s6.size : Int) - (s5.size : Int)))).drew.cell? ⟨sb, 0, none⟩ = some (.string s6) ∧ (wr.setCell ⟨sb, 1, none⟩ (.int .i64 ((s6.size : Int) - (s5.size : Int)))).drew.cell? ⟨w.heap.size, 0, none⟩ = some (.string s5)) := hide ⟨hs0, (hso 0).trans e0'⟩
              have SY : Hid ((wr.setCell ⟨sb, 1, none⟩ (.int .i64 ((s6.size : Int) - (s5.size : Int)))).drew.cell? ⟨w.heap.size, 1, none⟩ = some (.int .i64 2) ∧ (wr.setCell ⟨sb, 1, none⟩ (.int .i64 ((s6.size : Int) - (s5.size : Int)))).drew.cell? ⟨w.heap.size, 3, none⟩ = some (.int .i64 p) ∧ (wr.setCell ⟨sb, 1, none⟩ (.int .i64 ((s6.size : Int) - (s5.size : Int)))).drew.cell? ⟨w.heap.size, 2, none⟩ = some (.int .i64 0)) := hide ⟨(hso 1).trans h11, (hso 3).trans h12, (hso 2).trans h13⟩
              clear hs0 hso
              clear hrk ht6 e1' f1 h11 h12 h13
              go_wp2
              go_region_held3 (fun w' => w'.cell? ⟨sb, 0, none⟩ = some (.string s6) ∧ w'.cell? ⟨w.heap.size, 0, none⟩ = some (.string s5)) (first | exact SX.out | go_keep) (fail)
              have HF : Hid (Sec (wr.setCell ⟨sb, 1, none⟩ (.int .i64 ((s6.size : Int) - (s5.size : Int)))).drew sb t (t.length - rk.length)) := hide (by
                refine ⟨⟨s6, SX.out.1, HF1.out⟩, f2, by omega, ?_, (World.frozen?_setCell wr ⟨sb, 1, none⟩ ⟨sb, 1, none⟩ _).trans g1⟩
                have e : ((t.length - rk.length : Nat) : Int) = (s6.size : Int) - (s5.size : Int) := by have h1 := HT.out; have h2 := HT2.out; omega
                rw [e]
                exact World.cell?_setCell_same wr ⟨sb, 1, none⟩ _ f4)
              have HGF := hide ((HG.out.set 1 (.int .i64 ((s6.size : Int) - (s5.size : Int)))).drew)
              have hszF : w.heap.size < (wr.setCell ⟨sb, 1, none⟩ (.int .i64 ((s6.size : Int) - (s5.size : Int)))).drew.heap.size := by simp; exact hszr
              obtain ⟨y1, y2, y3⟩ := SY.out
              clear SX f0 f4 g1 e0' HC HS HG SY
              generalize (wr.setCell ⟨sb, 1, none⟩ (.int .i64 ((s6.size : Int) - (s5.size : Int)))).drew = WF at HF HGF hszF y1 y2 y3 ⊢
              go_wp2
              go_ret
              rw [HR.out, HN.out]
              have hgn := Gr.alloc (Gr.refl WF) (.cells #[.string ⟨body.toArray⟩, .int .i64 2, .int .i64 0, .int .i64 (p : Int)] 194)
              exact ⟨WF.heap.size, rfl, by omega, by simp, cur_new WF ⟨body.toArray⟩ body 2 p rfl hbl, HF.out.gc (cb := WF.heap.size) hgn.toGc (by omega), HGF.out.trans hgn.toGc⟩
    · have hbeq : ((b.toNat : Int) == (n : Int)) = false := by rw [beq_eq_false_iff_ne]; omega
      have HE : Hid (rdOpen n (b :: r1) = none) := hide (by simp only [rdOpen, rdByte]; rw [if_neg hbn])
      clear hbn
      go_wp2
      go_region_with (first | (go_at_call 154; refine (byte_yes w.heap.size b r1 2 p _ (by exact HC.out)).mono ?_; rintro x w3 ⟨rfl, hcur3, hg3⟩; have q1 := hcur3.2.2.1; have q2 := hcur3.2.2.2.1; have q3 := hcur3.2.2.2.2.2) | (go_at_call 76; refine (unless_no _ _ _).mono ?_; rintro e w' ⟨rfl, hg'⟩; refine left_region ?_))
      all_goals exact ⟨rfl, by rw [HR.out, HE.out]; exact ⟨rfl, HG.out.over (Gc.trans_ (Gc.trans_ (Gr.drew (Gr.refl _)).toGc hg3) hg'.toGc) (by omega)⟩⟩
end Go.Proofs.YtkgncijcnlfhiaaDoor

