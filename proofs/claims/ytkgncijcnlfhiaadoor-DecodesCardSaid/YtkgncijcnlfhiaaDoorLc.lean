import Derived.Test.YtkgncijcnlfhiaaDoorLb
namespace Go.Proofs.YtkgncijcnlfhiaaDoor
set_option linter.unusedVariables false
set_option linter.unusedSimpArgs false
open Go.RowKit
attribute [local go_sem ↓] Go.wp_at_zero Go.wp_at_succ
theorem lcell_ {w : World} {b i : Nat} {cur : Array Value} {t : TypeId} (h : w.heap[b]? = some (.cells cur t (0, 0))) : w.cell? ⟨b, i, none⟩ = cur[i]? := by simp [World.cell?, h]
theorem ltext_text (r : List UInt8) (bad : Bool) : RText (.string ⟨(ltext r bad).1.toArray⟩) (ltext r bad).1 := by
  refine ⟨_, rfl, by simp, ?_⟩
  have hb := lsmall_bound 20 r bad
  have hl : (ltext r bad).1.length ≤ 20 := by
    unfold ltext
    split
    · simp
    · simp only [List.length_take]; omega
  show (ltext r bad).1.toArray.size ≤ maxLen
  unfold maxLen
  simp only [List.size_toArray]
  omega
theorem lown_at {w wq : World} {B n len : Nat} {e : TypeId} {v : Value} {xs : List Value} (h : w.ownsRow B e n v len xs) (g : ∀ k (x : Obj), v.ownBlock = some k → w.heap[k]? = some x → wq.heap[k]? = some x) : wq.ownsRow B e n v len xs := by
  rcases h.2 with ⟨e1, h0⟩ | ⟨k, cap, cur, e1, h1, h2, h3⟩
  · exact ⟨h.1, .inl ⟨e1, h0⟩⟩
  · exact ⟨h.1, .inr ⟨k, cap, cur, e1, h1, g k _ (by rw [e1]; rfl) h2, h3⟩⟩
theorem lown_ints {w : World} {B : Nat} {e : TypeId} {v : Value} {l : List Int} (h : w.ownsRow B e 1 v l.length (icL l)) : RInts w v l := by
  rcases h.2 with ⟨rfl, h0⟩ | ⟨k, cap, cur, rfl, h1, h2, h3, h4, h5, h6⟩
  · exact ⟨none, 0, by rw [h0], by rw [h0]; exact Nat.zero_le _, fun i hi => by omega⟩
  · refine ⟨_, cap, rfl, by omega, fun i hi => ⟨k, 0, rfl, ?_⟩⟩
    have e1 : (cur.toList.take (l.length * 1))[i]? = cur.toList[i]? := by rw [List.getElem?_take, if_pos (by omega)]
    have e2 : w.cell? ⟨k, 0 + i, none⟩ = cur.toList[i]? := by rw [Nat.zero_add, lcell_ h2, ← Array.getElem?_toList]
    rw [e2, ← e1, h6, icL, List.getElem?_map, List.getElem?_eq_getElem hi, List.getD_eq_getElem?_getD, List.getElem?_eq_getElem hi]
    rfl
/-- a list that was just read, in every world that keeps it -/
theorem new_ints {wr w2 : World} {H : Nat} {vl v : Value} {q : List Int} {t : TypeId} {n len : Nat} {xs : List Value} (ho : wr.ownsRow H t n vl len xs) (hs : H ≤ wr.heap.size) (hv : w2.ownsRow wr.heap.size 3 1 v q.length (icL q)) : ∀ wq : World, (∀ b (x : Obj), H ≤ b → some b ≠ vl.ownBlock → w2.heap[b]? = some x → wq.heap[b]? = some x) → RInts wq v q := fun wq hq => lown_ints (lown_at hv fun k x hk hx => hq k x (by have := (lown_lt hv k hk).1; omega) (fun e => by have := (lown_lt ho k e.symm).2; have := (lown_lt hv k hk).1; omega) hx)
theorem Tryd.infFill2 : (Tryd.prog.info? 3).map (fun i => (i.zero, i.size, i.bytes)) = some (some (.int .i64 0), 1, 8) := by kernel_rfl
set_option maxRecDepth 100000 in
set_option maxHeartbeats 4000000 in
theorem fill2_ls (rb ub : Nat) (s : ByteArray) (r : List UInt8) (bad : Bool) (w : World) (h : LsR w rb s r bad) (hub : ub < w.heap.size) (hne : ¬ rb = ub) (hc : w.cell? ⟨ub, 1, none⟩ = some (.slice none 0 0) ∧ w.frozen? ⟨ub, 1, none⟩ = false) :
    Calls Tryd.prog 44 #[.pointer (some ⟨rb, 0, none⟩), .pointer (some ⟨ub, 0, none⟩), .int .i64 2] w fun x w' => x = .returned (.tuple #[]) ∧ ∃ (es : List Int) (vl : Value), FlW w w.heap.size rb ub s 1 1 3 (fun x : Int => [Value.int .i64 x]) (fun _ _ => True) es vl (lfill lsigned r bad).2.1 (lfill lsigned r bad).2.2 w' ∧ (lfill lsigned r bad).1 = es := by
  have hrb := h.lt
  have HN := hide (small_ls 50 (by decide) rb s r bad w h)
  have hbd := lsmall_bound 50 r bad
  have HS : Hid (lfill lsigned r bad = lfills lsigned (lsmall 50 r bad).1.toNat (lsmall 50 r bad).2.1 (lsmall 50 r bad).2.2) := hide rfl
  have H0 : Hid (FlW w w.heap.size rb ub s 1 1 3 (fun x : Int => [Value.int .i64 x]) (fun _ _ => True) [] (.slice none 0 0) r bad w) := hide (FlW.new ⟨hrb, hub, hne⟩ hc h)
  generalize lsmall 50 r bad = L at HN HS hbd
  obtain ⟨n0, r2, b2⟩ := L
  simp only at HS hbd
  obtain ⟨n, rfl⟩ : ∃ n : Nat, n0 = (n : Int) := ⟨n0.toNat, by omega⟩
  have hn : n ≤ 50 := by omega
  simp only [Int.toNat_natCast] at HS
  clear h hbd hc
  go_enter Tryd.func44, Tryd.ntmps44
  go_wp2_with fail
  refine HN.out.mono ?_
  rintro x w1 ⟨v1, rfl, rfl, hl1, hg1⟩
  simp only at hl1 ⊢
  have H1 := hide (H0.out.call hg1 hl1)
  clear hl1 hg1 HN H0
  go_wp2_with fail
  go_loopw [6] (fun i wr => ∃ (k : Nat) (es : List Int) (vl : Value) (rk : List UInt8) (bk : Bool), i = .int .i64 (k : Int) ∧ es.length + k ≤ 50 ∧ FlW w w.heap.size rb ub s 1 1 3 (fun x : Int => [Value.int .i64 x]) (fun _ _ => True) es vl rk bk wr ∧ lfills lsigned n r2 b2 = (es ++ (lfills lsigned k rk bk).1, (lfills lsigned k rk bk).2)) (fun i _ => (intOf i).toNat)
  case atStart => exact ⟨n, [], .slice none 0 0, r2, b2, rfl, by simpa using hn, H1.out, by simp⟩
  case round =>
    clear H1
    obtain ⟨k, es, vl, rk, bk, rfl, hck, hfw, hT⟩ := hrel
    obtain ⟨ac, cc, rfl⟩ := lown_shape hfw.ow
    obtain ⟨z2, z3⟩ := hfw.ls.bad
    have HFW := hide hfw
    have HTT := hide hT
    clear hfw hT
    by_cases hk : 0 < k
    · obtain ⟨j, rfl⟩ : ∃ j, k = j + 1 := ⟨k - 1, by omega⟩
      cases bk with
      | true =>
        have HSE : Hid (lfill lsigned r bad = (es, rk, true)) := hide (by rw [HS.out, HTT.out, lfills, if_pos rfl]; simp)
        go_wp2_with fail
        go_end0
        rw [HSE.out]
        exact ⟨rfl, es, _, HFW.out, rfl⟩
      | false =>
        have HLX : Hid (lfills lsigned (j + 1) rk false = ((lsigned rk false).1 :: (lfills lsigned j (lsigned rk false).2.1 (lsigned rk false).2.2).1, (lfills lsigned j (lsigned rk false).2.1 (lsigned rk false).2.2).2)) := hide (by rw [lfills, if_neg (by decide)])
        have HC2 := hide (signed_ls rb s rk false wr HFW.out.ls)
        generalize lsigned rk false = L at HC2 HLX
        obtain ⟨q, r8, b8⟩ := L
        simp only at HLX
        go_wp2_with fail
        refine HC2.out.mono ?_
        rintro x w2 ⟨v2, rfl, rfl, hl, hg⟩
        simp only at hl ⊢
        have HF2 := hide (HFW.out.call hg hl)
        clear hl hg HC2 HFW
        have HOW := hide HF2.out.ow
        have hsz := HF2.out.hs
        obtain ⟨c0, c1⟩ := HF2.out.here
        go_wp2_with (at_builtin; refine wpList_append_vals _ rfl _ _ 23 3 1 8 (.int .i64 0) Tryd.infFill2 Tryd.underlying23 rfl (by decide) (by decide) rfl w.heap.size _ es.length (es.flatMap (fun x : Int => [Value.int .i64 x])) rfl HOW.out #[.int .i64 q] rfl (by intro u hu; simp at hu; subst hu; rfl) _ rfl rfl (by omega) hsz ?_; intro v3 w3 hap; have HPT := hide (HF2.out.put (e := q) hap (fun _ _ => trivial)); obtain ⟨e3, k3, rfl⟩ := lown_shape hap.own; obtain ⟨d0, d1⟩ := HPT.out.1; clear hap)
        exact ⟨⟨j, es ++ [q], _, r8, b8, by simp, by simp; omega, HPT.out.2, by rw [HTT.out, HLX.out]; simp⟩, by simp [intOf]⟩
    · obtain rfl : k = 0 := by omega
      have HSE : Hid (lfill lsigned r bad = (es, rk, bk)) := hide (by rw [HS.out, HTT.out]; simp [lfills])
      go_wp2_with fail
      go_end0
      rw [HSE.out]
      exact ⟨rfl, es, _, HFW.out, rfl⟩
theorem Tryd.infFill1 : (Tryd.prog.info? 23).map (fun i => (i.zero, i.size, i.bytes)) = some (some (.slice none 0 0), 1, 24) := by kernel_rfl
set_option maxRecDepth 100000 in
set_option maxHeartbeats 4000000 in
theorem fill1_ls (rb ub : Nat) (s : ByteArray) (r : List UInt8) (bad : Bool) (w : World) (h : LsR w rb s r bad) (hub : ub < w.heap.size) (hne : ¬ rb = ub) (hc : w.cell? ⟨ub, 0, none⟩ = some (.slice none 0 0) ∧ w.frozen? ⟨ub, 0, none⟩ = false) :
    Calls Tryd.prog 44 #[.pointer (some ⟨rb, 0, none⟩), .pointer (some ⟨ub, 0, none⟩), .int .i64 1] w fun x w' => x = .returned (.tuple #[]) ∧ ∃ (es : List (Value × List Int)) (vl : Value), FlW w w.heap.size rb ub s 0 1 23 (fun e : Value × List Int => [e.1]) (fun w e => RInts w e.1 e.2) es vl (lfill llist r bad).2.1 (lfill llist r bad).2.2 w' ∧ (lfill llist r bad).1 = es.map (·.2) := by
  have hrb := h.lt
  have HN := hide (small_ls 50 (by decide) rb s r bad w h)
  have hbd := lsmall_bound 50 r bad
  have HS : Hid (lfill llist r bad = lfills llist (lsmall 50 r bad).1.toNat (lsmall 50 r bad).2.1 (lsmall 50 r bad).2.2) := hide rfl
  have H0 : Hid (FlW w w.heap.size rb ub s 0 1 23 (fun e : Value × List Int => [e.1]) (fun w e => RInts w e.1 e.2) [] (.slice none 0 0) r bad w) := hide (FlW.new ⟨hrb, hub, hne⟩ hc h)
  generalize lsmall 50 r bad = L at HN HS hbd
  obtain ⟨n0, r2, b2⟩ := L
  simp only at HS hbd
  obtain ⟨n, rfl⟩ : ∃ n : Nat, n0 = (n : Int) := ⟨n0.toNat, by omega⟩
  have hn : n ≤ 50 := by omega
  simp only [Int.toNat_natCast] at HS
  clear h hbd hc
  go_enter Tryd.func44, Tryd.ntmps44
  go_wp2_with fail
  refine HN.out.mono ?_
  rintro x w1 ⟨v1, rfl, rfl, hl1, hg1⟩
  simp only at hl1 ⊢
  have H1 := hide (H0.out.call hg1 hl1)
  clear hl1 hg1 HN H0
  go_wp2_with fail
  go_loopw [6] (fun i wr => ∃ (k : Nat) (es : List (Value × List Int)) (vl : Value) (rk : List UInt8) (bk : Bool), i = .int .i64 (k : Int) ∧ es.length + k ≤ 50 ∧ FlW w w.heap.size rb ub s 0 1 23 (fun e : Value × List Int => [e.1]) (fun w e => RInts w e.1 e.2) es vl rk bk wr ∧ lfills llist n r2 b2 = (es.map (·.2) ++ (lfills llist k rk bk).1, (lfills llist k rk bk).2)) (fun i _ => (intOf i).toNat)
  case atStart => exact ⟨n, [], .slice none 0 0, r2, b2, rfl, by simpa using hn, H1.out, by simp⟩
  case round =>
    clear H1
    obtain ⟨k, es, vl, rk, bk, rfl, hck, hfw, hT⟩ := hrel
    obtain ⟨ac, cc, rfl⟩ := lown_shape hfw.ow
    obtain ⟨z2, z3⟩ := hfw.ls.bad
    have HFW := hide hfw
    have HTT := hide hT
    clear hfw hT
    by_cases hk : 0 < k
    · obtain ⟨j, rfl⟩ : ∃ j, k = j + 1 := ⟨k - 1, by omega⟩
      cases bk with
      | true =>
        have HSE : Hid (lfill llist r bad = (es.map (·.2), rk, true)) := hide (by rw [HS.out, HTT.out, lfills, if_pos rfl]; simp)
        go_wp2_with fail
        go_end0
        rw [HSE.out]
        exact ⟨rfl, es, _, HFW.out, rfl⟩
      | false =>
        have HLX : Hid (lfills llist (j + 1) rk false = ((llist rk false).1 :: (lfills llist j (llist rk false).2.1 (llist rk false).2.2).1, (lfills llist j (llist rk false).2.1 (llist rk false).2.2).2)) := hide (by rw [lfills, if_neg (by decide)])
        have HC2 := hide (list_ls rb s rk false wr HFW.out.ls)
        generalize llist rk false = L at HC2 HLX
        obtain ⟨q, r8, b8⟩ := L
        simp only at HLX
        go_wp2_with fail
        refine HC2.out.mono ?_
        rintro x w2 ⟨v2, rfl, hv, hl, hg⟩
        simp only at hl hv ⊢
        obtain ⟨xa, xc, rfl⟩ := lown_shape hv
        have HE2 := hide (new_ints HFW.out.ow HFW.out.hs hv)
        have HF2 := hide (HFW.out.call hg hl)
        clear hl hg hv HC2 HFW
        have HOW := hide HF2.out.ow
        have hsz := HF2.out.hs
        obtain ⟨c0, c1⟩ := HF2.out.here
        go_wp2_with (at_builtin; refine wpList_append_vals _ rfl _ _ 22 23 1 24 (.slice none 0 0) Tryd.infFill1 Tryd.underlying22 rfl (by decide) (by decide) rfl w.heap.size _ es.length (es.flatMap (fun e : Value × List Int => [e.1])) rfl HOW.out #[.slice xa q.length xc] rfl (by intro u hu; simp at hu; subst hu; rfl) _ rfl rfl (by omega) hsz ?_; intro v3 w3 hap; have HPT := hide (HF2.out.put (e := ((Value.slice xa q.length xc, q) : Value × List Int)) hap HE2.out); obtain ⟨e3, k3, rfl⟩ := lown_shape hap.own; obtain ⟨d0, d1⟩ := HPT.out.1; clear hap)
        exact ⟨⟨j, es ++ [((Value.slice xa q.length xc, q) : Value × List Int)], _, r8, b8, by simp, by simp; omega, HPT.out.2, by rw [HTT.out, HLX.out]; simp⟩, by simp [intOf]⟩
    · obtain rfl : k = 0 := by omega
      have HSE : Hid (lfill llist r bad = (es.map (·.2), rk, bk)) := hide (by rw [HS.out, HTT.out]; simp [lfills])
      go_wp2_with fail
      go_end0
      rw [HSE.out]
      exact ⟨rfl, es, _, HFW.out, rfl⟩
theorem Tryd.infFill5 : (Tryd.prog.info? 81).map (fun i => (i.zero, i.size, i.bytes)) = some (some (.agg #[.string ⟨#[]⟩, .int .i64 0]), 2, 24) := by kernel_rfl
set_option maxRecDepth 100000 in
set_option maxHeartbeats 4000000 in
theorem fill5_ls (rb ub : Nat) (s : ByteArray) (r : List UInt8) (bad : Bool) (w : World) (h : LsR w rb s r bad) (hub : ub < w.heap.size) (hne : ¬ rb = ub) (hc : w.cell? ⟨ub, 4, none⟩ = some (.slice none 0 0) ∧ w.frozen? ⟨ub, 4, none⟩ = false) :
    Calls Tryd.prog 44 #[.pointer (some ⟨rb, 0, none⟩), .pointer (some ⟨ub, 0, none⟩), .int .i64 5] w fun x w' => x = .returned (.tuple #[]) ∧ ∃ (es : List (Value × PExp)) (vl : Value), FlW w w.heap.size rb ub s 4 2 81 (fun e : Value × PExp => [e.1, Value.int .i64 e.2.func]) (fun _ e => RText e.1 e.2.name) es vl (lfill lexp r bad).2.1 (lfill lexp r bad).2.2 w' ∧ (lfill lexp r bad).1 = es.map (·.2) := by
  have hrb := h.lt
  have HN := hide (small_ls 50 (by decide) rb s r bad w h)
  have hbd := lsmall_bound 50 r bad
  have HS : Hid (lfill lexp r bad = lfills lexp (lsmall 50 r bad).1.toNat (lsmall 50 r bad).2.1 (lsmall 50 r bad).2.2) := hide rfl
  have H0 : Hid (FlW w w.heap.size rb ub s 4 2 81 (fun e : Value × PExp => [e.1, Value.int .i64 e.2.func]) (fun _ e => RText e.1 e.2.name) [] (.slice none 0 0) r bad w) := hide (FlW.new ⟨hrb, hub, hne⟩ hc h)
  generalize lsmall 50 r bad = L at HN HS hbd
  obtain ⟨n0, r2, b2⟩ := L
  simp only at HS hbd
  obtain ⟨n, rfl⟩ : ∃ n : Nat, n0 = (n : Int) := ⟨n0.toNat, by omega⟩
  have hn : n ≤ 50 := by omega
  simp only [Int.toNat_natCast] at HS
  clear h hbd hc
  go_enter Tryd.func44, Tryd.ntmps44
  go_wp2_with fail
  refine HN.out.mono ?_
  rintro x w1 ⟨v1, rfl, rfl, hl1, hg1⟩
  simp only at hl1 ⊢
  have H1 := hide (H0.out.call hg1 hl1)
  clear hl1 hg1 HN H0
  go_wp2_with fail
  go_loopw [6] (fun i wr => ∃ (k : Nat) (es : List (Value × PExp)) (vl : Value) (rk : List UInt8) (bk : Bool), i = .int .i64 (k : Int) ∧ es.length + k ≤ 50 ∧ FlW w w.heap.size rb ub s 4 2 81 (fun e : Value × PExp => [e.1, Value.int .i64 e.2.func]) (fun _ e => RText e.1 e.2.name) es vl rk bk wr ∧ lfills lexp n r2 b2 = (es.map (·.2) ++ (lfills lexp k rk bk).1, (lfills lexp k rk bk).2)) (fun i _ => (intOf i).toNat)
  case atStart => exact ⟨n, [], .slice none 0 0, r2, b2, rfl, by simpa using hn, H1.out, by simp⟩
  case round =>
    clear H1
    obtain ⟨k, es, vl, rk, bk, rfl, hck, hfw, hT⟩ := hrel
    obtain ⟨ac, cc, rfl⟩ := lown_shape hfw.ow
    obtain ⟨z2, z3⟩ := hfw.ls.bad
    have HFW := hide hfw
    have HTT := hide hT
    clear hfw hT
    by_cases hk : 0 < k
    · obtain ⟨j, rfl⟩ : ∃ j, k = j + 1 := ⟨k - 1, by omega⟩
      cases bk with
      | true =>
        have HSE : Hid (lfill lexp r bad = (es.map (·.2), rk, true)) := hide (by rw [HS.out, HTT.out, lfills, if_pos rfl]; simp)
        go_wp2_with fail
        go_end0
        rw [HSE.out]
        exact ⟨rfl, es, _, HFW.out, rfl⟩
      | false =>
        have HLX : Hid (lfills lexp (j + 1) rk false = ((lexp rk false).1 :: (lfills lexp j (lexp rk false).2.1 (lexp rk false).2.2).1, (lfills lexp j (lexp rk false).2.1 (lexp rk false).2.2).2)) := hide (by rw [lfills, if_neg (by decide)])
        have e0 : lexp rk false = (⟨(ltext rk false).1, (lsmall 65535 (ltext rk false).2.1 (ltext rk false).2.2).1⟩, (lsmall 65535 (ltext rk false).2.1 (ltext rk false).2.2).2) := rfl
        rw [e0] at HLX
        clear e0
        have HC2 := hide (text_ls rb s rk false wr HFW.out.ls)
        have HV := hide (ltext_text rk false)
        generalize ltext rk false = L at HC2 HLX HV
        obtain ⟨nm, r7, b7⟩ := L
        simp only at HLX HV
        go_wp2_with fail
        refine HC2.out.mono ?_
        rintro x w2 ⟨v2, rfl, rfl, hl, hg⟩
        simp only at hl ⊢
        have HF2 := hide (HFW.out.call hg hl)
        clear hl hg HC2 HFW
        generalize (⟨nm.toArray⟩ : ByteArray) = tx at HV ⊢
        have HC3 := hide (small_ls 65535 (by decide) rb s r7 b7 w2 HF2.out.ls)
        generalize lsmall 65535 r7 b7 = L at HC3 HLX
        obtain ⟨q, r8, b8⟩ := L
        simp only at HLX
        go_wp2_with fail
        refine HC3.out.mono ?_
        rintro x w3 ⟨v3, rfl, rfl, hl, hg⟩
        simp only at hl ⊢
        have HF3 := hide (HF2.out.call hg hl)
        clear hl hg HC3 HF2
        have HOW := hide HF3.out.ow
        have hsz := HF3.out.hs
        obtain ⟨c0, c1⟩ := HF3.out.here
        go_wp2_with (at_builtin; refine wpList_append_vals _ rfl _ _ 26 81 2 24 (.agg #[.string ⟨#[]⟩, .int .i64 0]) Tryd.infFill5 Tryd.underlying26 rfl (by decide) (by decide) rfl w.heap.size _ es.length (es.flatMap (fun e : Value × PExp => [e.1, Value.int .i64 e.2.func])) rfl HOW.out #[.string tx, .int .i64 q] rfl (by intro u hu; simp at hu; rcases hu with rfl | rfl <;> rfl) _ rfl rfl (by omega) hsz ?_; intro v3 w3 hap; have HPT := hide (HF3.out.put (e := ((Value.string tx, PExp.mk nm q) : Value × PExp)) hap (fun _ _ => HV.out)); obtain ⟨e3, k3, rfl⟩ := lown_shape hap.own; obtain ⟨d0, d1⟩ := HPT.out.1; clear hap)
        exact ⟨⟨j, es ++ [((Value.string tx, PExp.mk nm q) : Value × PExp)], _, r8, b8, by simp, by simp; omega, HPT.out.2, by rw [HTT.out, HLX.out]; simp⟩, by simp [intOf]⟩
    · obtain rfl : k = 0 := by omega
      have HSE : Hid (lfill lexp r bad = (es.map (·.2), rk, bk)) := hide (by rw [HS.out, HTT.out]; simp [lfills])
      go_wp2_with fail
      go_end0
      rw [HSE.out]
      exact ⟨rfl, es, _, HFW.out, rfl⟩
theorem Tryd.infFill4 : (Tryd.prog.info? 79).map (fun i => (i.zero, i.size, i.bytes)) = some (some (.agg #[.string ⟨#[]⟩, .slice none 0 0, .int .i64 0]), 3, 48) := by kernel_rfl
set_option maxRecDepth 100000 in
set_option maxHeartbeats 4000000 in
theorem fill4_ls (rb ub : Nat) (s : ByteArray) (r : List UInt8) (bad : Bool) (w : World) (h : LsR w rb s r bad) (hub : ub < w.heap.size) (hne : ¬ rb = ub) (hc : w.cell? ⟨ub, 3, none⟩ = some (.slice none 0 0) ∧ w.frozen? ⟨ub, 3, none⟩ = false) :
    Calls Tryd.prog 44 #[.pointer (some ⟨rb, 0, none⟩), .pointer (some ⟨ub, 0, none⟩), .int .i64 4] w fun x w' => x = .returned (.tuple #[]) ∧ ∃ (es : List ((Value × Value) × PImp)) (vl : Value), FlW w w.heap.size rb ub s 3 3 79 (fun e : (Value × Value) × PImp => [e.1.1, e.1.2, Value.int .i64 e.2.result]) (fun w e => RText e.1.1 e.2.name ∧ RInts w e.1.2 e.2.params) es vl (lfill limp r bad).2.1 (lfill limp r bad).2.2 w' ∧ (lfill limp r bad).1 = es.map (·.2) := by
  have hrb := h.lt
  have HN := hide (small_ls 50 (by decide) rb s r bad w h)
  have hbd := lsmall_bound 50 r bad
  have HS : Hid (lfill limp r bad = lfills limp (lsmall 50 r bad).1.toNat (lsmall 50 r bad).2.1 (lsmall 50 r bad).2.2) := hide rfl
  have H0 : Hid (FlW w w.heap.size rb ub s 3 3 79 (fun e : (Value × Value) × PImp => [e.1.1, e.1.2, Value.int .i64 e.2.result]) (fun w e => RText e.1.1 e.2.name ∧ RInts w e.1.2 e.2.params) [] (.slice none 0 0) r bad w) := hide (FlW.new ⟨hrb, hub, hne⟩ hc h)
  generalize lsmall 50 r bad = L at HN HS hbd
  obtain ⟨n0, r2, b2⟩ := L
  simp only at HS hbd
  obtain ⟨n, rfl⟩ : ∃ n : Nat, n0 = (n : Int) := ⟨n0.toNat, by omega⟩
  have hn : n ≤ 50 := by omega
  simp only [Int.toNat_natCast] at HS
  clear h hbd hc
  go_enter Tryd.func44, Tryd.ntmps44
  go_wp2_with fail
  refine HN.out.mono ?_
  rintro x w1 ⟨v1, rfl, rfl, hl1, hg1⟩
  simp only at hl1 ⊢
  have H1 := hide (H0.out.call hg1 hl1)
  clear hl1 hg1 HN H0
  go_wp2_with fail
  go_loopw [6] (fun i wr => ∃ (k : Nat) (es : List ((Value × Value) × PImp)) (vl : Value) (rk : List UInt8) (bk : Bool), i = .int .i64 (k : Int) ∧ es.length + k ≤ 50 ∧ FlW w w.heap.size rb ub s 3 3 79 (fun e : (Value × Value) × PImp => [e.1.1, e.1.2, Value.int .i64 e.2.result]) (fun w e => RText e.1.1 e.2.name ∧ RInts w e.1.2 e.2.params) es vl rk bk wr ∧ lfills limp n r2 b2 = (es.map (·.2) ++ (lfills limp k rk bk).1, (lfills limp k rk bk).2)) (fun i _ => (intOf i).toNat)
  case atStart => exact ⟨n, [], .slice none 0 0, r2, b2, rfl, by simpa using hn, H1.out, by simp⟩
  case round =>
    clear H1
    obtain ⟨k, es, vl, rk, bk, rfl, hck, hfw, hT⟩ := hrel
    obtain ⟨ac, cc, rfl⟩ := lown_shape hfw.ow
    obtain ⟨z2, z3⟩ := hfw.ls.bad
    have HFW := hide hfw
    have HTT := hide hT
    clear hfw hT
    by_cases hk : 0 < k
    · obtain ⟨j, rfl⟩ : ∃ j, k = j + 1 := ⟨k - 1, by omega⟩
      cases bk with
      | true =>
        have HSE : Hid (lfill limp r bad = (es.map (·.2), rk, true)) := hide (by rw [HS.out, HTT.out, lfills, if_pos rfl]; simp)
        go_wp2_with fail
        go_end0
        rw [HSE.out]
        exact ⟨rfl, es, _, HFW.out, rfl⟩
      | false =>
        have HLX : Hid (lfills limp (j + 1) rk false = ((limp rk false).1 :: (lfills limp j (limp rk false).2.1 (limp rk false).2.2).1, (lfills limp j (limp rk false).2.1 (limp rk false).2.2).2)) := hide (by rw [lfills, if_neg (by decide)])
        have e0 : limp rk false = (⟨(ltext rk false).1, (llist (ltext rk false).2.1 (ltext rk false).2.2).1, (lsmall 65535 (llist (ltext rk false).2.1 (ltext rk false).2.2).2.1 (llist (ltext rk false).2.1 (ltext rk false).2.2).2.2).1⟩, (lsmall 65535 (llist (ltext rk false).2.1 (ltext rk false).2.2).2.1 (llist (ltext rk false).2.1 (ltext rk false).2.2).2.2).2) := rfl
        rw [e0] at HLX
        clear e0
        have HC2 := hide (text_ls rb s rk false wr HFW.out.ls)
        have HV := hide (ltext_text rk false)
        generalize ltext rk false = L at HC2 HLX HV
        obtain ⟨nm, r7, b7⟩ := L
        simp only at HLX HV
        go_wp2_with fail
        refine HC2.out.mono ?_
        rintro x w2 ⟨v2, rfl, rfl, hl, hg⟩
        simp only at hl ⊢
        have HF2 := hide (HFW.out.call hg hl)
        clear hl hg HC2 HFW
        generalize (⟨nm.toArray⟩ : ByteArray) = tx at HV ⊢
        have HC4 := hide (list_ls rb s r7 b7 w2 HF2.out.ls)
        generalize llist r7 b7 = L at HC4 HLX
        obtain ⟨ps, r9, b9⟩ := L
        simp only at HLX
        go_wp2_with fail
        refine HC4.out.mono ?_
        rintro x w4 ⟨v4, rfl, hv, hl, hg⟩
        simp only at hl hv ⊢
        obtain ⟨xa, xc, rfl⟩ := lown_shape hv
        have hf4 := HF2.out.call hg hl
        have HE4 := hide (new_ints HF2.out.ow HF2.out.hs hv)
        have HF4 := hide hf4
        have HO4 := hide hv
        have hs4 := hg.size
        have HOV := hide HF2.out.ow
        have hH := HF2.out.hs
        clear hl hg hv HC4 HF2 hf4
        have HC3 := hide (small_ls 65535 (by decide) rb s r9 b9 w4 HF4.out.ls)
        generalize lsmall 65535 r9 b9 = L at HC3 HLX
        obtain ⟨q, r8, b8⟩ := L
        simp only at HLX
        go_wp2_with fail
        refine HC3.out.mono ?_
        rintro x w3 ⟨v3, rfl, rfl, hl, hg⟩
        simp only at hl ⊢
        have HE3 := hide (new_ints HOV.out hH (lown_at HO4.out fun k x hk hx => (hg.block k (Array.getElem?_eq_some_iff.1 hx).1 (by intro e; have := Option.some.inj e; have := (lown_lt HO4.out k hk).1; omega)).trans hx))
        have HF3 := hide (HF4.out.call hg hl)
        clear hl hg HC3 HF4 HE4 HO4 HOV
        have HOW := hide HF3.out.ow
        have hsz := HF3.out.hs
        obtain ⟨c0, c1⟩ := HF3.out.here
        go_wp2_with (at_builtin; refine wpList_append_vals _ rfl _ _ 25 79 3 48 (.agg #[.string ⟨#[]⟩, .slice none 0 0, .int .i64 0]) Tryd.infFill4 Tryd.underlying25 rfl (by decide) (by decide) rfl w.heap.size _ es.length (es.flatMap (fun e : (Value × Value) × PImp => [e.1.1, e.1.2, Value.int .i64 e.2.result])) rfl HOW.out #[.string tx, .slice xa ps.length xc, .int .i64 q] rfl (by intro u hu; simp at hu; rcases hu with rfl | rfl | rfl <;> rfl) _ rfl rfl (by omega) hsz ?_; intro v3 w3 hap; have HPT := hide (HF3.out.put (e := (((Value.string tx, Value.slice xa ps.length xc), PImp.mk nm ps q) : (Value × Value) × PImp)) hap (fun wq hq => ⟨HV.out, HE3.out wq hq⟩)); obtain ⟨e3, k3, rfl⟩ := lown_shape hap.own; obtain ⟨d0, d1⟩ := HPT.out.1; clear hap)
        exact ⟨⟨j, es ++ [(((Value.string tx, Value.slice xa ps.length xc), PImp.mk nm ps q) : (Value × Value) × PImp)], _, r8, b8, by simp, by simp; omega, HPT.out.2, by rw [HTT.out, HLX.out]; simp⟩, by simp [intOf]⟩
    · obtain rfl : k = 0 := by omega
      have HSE : Hid (lfill limp r bad = (es.map (·.2), rk, bk)) := hide (by rw [HS.out, HTT.out]; simp [lfills])
      go_wp2_with fail
      go_end0
      rw [HSE.out]
      exact ⟨rfl, es, _, HFW.out, rfl⟩
end Go.Proofs.YtkgncijcnlfhiaaDoor

