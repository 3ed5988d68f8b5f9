import Derived.Deep.Cut
import Derived.Deep.CutRange
import Derived.Lib.AppendZeros
import Derived.Test.YtkgncijcnlfhiaaDoorLc
import Derived.Test.YtkgncijcnlfhiaaDoorRg6
import Derived.Test.YtkgncijcnlfhiaaDoorL9
import Derived.Test.YtkgncijcnlfhiaaDoorV5
namespace Go.Proofs.YtkgncijcnlfhiaaDoor
set_option linter.unusedVariables false
set_option linter.unusedSimpArgs false
open Go.RowKit
attribute [local go_sem ↓] Go.wp_at_zero Go.wp_at_succ
theorem app_one {w : World} {base n len bytes : Nat} {v zero : Value} {xs : List Value} (t e : TypeId) (inf : (Tryd.prog.info? e).map (fun i => (i.zero, i.size, i.bytes)) = some (some zero, n, bytes)) (ht : Tryd.prog.underlying t = some (.slice e)) (hzs : zero.cells.size = n) (hn : 0 < n) (hby : bytes ≤ 1000) (hown : w.ownsRow base e n v len xs) (ys : Array Value) (hys : ys.size = n) (h1 : ∀ u ∈ ys.toList, u.oneCell' = true) (hlen : len ≤ 900000) (hbase : base ≤ w.heap.size) : ∃ v' w', (Builtin.append_ #[t, t] t #[v, .slice (some ⟨w.heap.size, 0, none⟩) 1 1]).run Tryd.prog (w.alloc (.cells ys e)) = .ok v' w' ∧ Ap base e n w v w' v' (len + 1) (xs ++ ys.toList) := by
  obtain ⟨i0, hi, hz0, hz1, hz2⟩ := info_parts inf
  obtain ⟨v', w', hr, h2, h3, _, h5⟩ := run_append_own_at (P := Tryd.prog) (w.alloc (.cells ys e)) base t t e i0 zero n bytes ht hi hz0 hz1 hz2 hzs hn v len xs (hown.alloc _) ⟨w.heap.size, 0, none⟩ 1 1 ys.toList (by rw [Array.length_toList, hys, Nat.one_mul]) (cells_new _ _ _) h1 (by unfold maxLen; omega) (Nat.le_trans (Nat.mul_le_mul (show len + 1 ≤ 1000000 by omega) hby) (by decide)) (by simp; omega)
  refine ⟨v', w', hr, h2, (World.grownBy_alloc w _ _).trans h3, fun k hk => ?_⟩
  rcases h5 with e1 | e1
  · exact .inl (e1 ▸ hk)
  · rw [hk] at e1; simp at e1; right; omega
theorem flat3 : ∀ (l : List PIns) (i r : Nat) (x : PIns), l[i]? = some x → r < 3 → (l.flatMap lC)[i * 3 + r]? = (lC x)[r]?
  | [], i, r, x, h, hr => by simp at h
  | y :: l, 0, r, x, h, hr => by
    simp at h
    subst h
    rw [List.flatMap_cons, List.getElem?_append_left (by show 0 * 3 + r < 3; omega), Nat.zero_mul, Nat.zero_add]
  | y :: l, i + 1, r, x, h, hr => by
    rw [List.flatMap_cons, List.getElem?_append_right (by show 3 ≤ (i + 1) * 3 + r; omega), show (i + 1) * 3 + r - (lC y).length = i * 3 + r by show (i + 1) * 3 + r - 3 = _; omega]
    exact flat3 l i r x (by simpa using h) hr
theorem lown_code {w : World} {B : Nat} {e : TypeId} {v : Value} {l : List PIns} (h : w.ownsRow B e 3 v l.length (l.flatMap lC)) : RCode w v l := by
  rcases h.2 with ⟨rfl, h0⟩ | ⟨k, cap, cur, rfl, h1, h2, h3, h4, h5, h6⟩
  · exact ⟨none, 0, by rw [h0], by rw [h0]; exact Nat.zero_le _, fun i x hx => by have := (List.getElem?_eq_some_iff.1 hx).1; omega⟩
  · refine ⟨_, cap, rfl, by omega, fun i x hx => ?_⟩
    have hi := (List.getElem?_eq_some_iff.1 hx).1
    have key : ∀ r, r < 3 → w.cell? ⟨k, 0 + i * 3 + r, none⟩ = (lC x)[r]? := fun r hr => by
      have e1 : (cur.toList.take (l.length * 3))[i * 3 + r]? = cur.toList[i * 3 + r]? := by rw [List.getElem?_take, if_pos (by omega)]
      rw [Nat.zero_add, lcell_ h2, ← Array.getElem?_toList, ← e1, h6]
      exact flat3 l i r x hx hr
    exact ⟨k, 0, rfl, key 0 (by omega), key 1 (by omega), key 2 (by omega)⟩
theorem new_code {wr w2 : World} {H : Nat} {vl v : Value} {q : List PIns} {t : TypeId} {n len : Nat} {xs : List Value} (ho : wr.ownsRow H t n vl len xs) (hs : H ≤ wr.heap.size) (hv : w2.ownsRow wr.heap.size 91 3 v q.length (q.flatMap lC)) : ∀ wq : World, (∀ b (x : Obj), H ≤ b → some b ≠ vl.ownBlock → w2.heap[b]? = some x → wq.heap[b]? = some x) → RCode wq v q := fun wq hq => lown_code (lown_at hv fun k x hk hx => hq k x (by have := (lown_lt hv k hk).1; omega) (fun e => by have := (lown_lt ho k e.symm).2; have := (lown_lt hv k hk).1; omega) hx)
theorem Tryd.infFill3 : (Tryd.prog.info? 76).map (fun i => (i.zero, i.size, i.bytes)) = some (some (.agg #[.slice none 0 0, .int .i64 0, .slice none 0 0, .slice none 0 0]), 4, 80) := by kernel_rfl
set_option maxRecDepth 100000 in
set_option maxHeartbeats 4000000 in
theorem fill3_ls (rb ub : Nat) (s : ByteArray) (r : List UInt8) (bad : Bool) (w : World) (h : LsR w rb s r bad) (hub : ub < w.heap.size) (hne : ¬ rb = ub) (ht : Tab w) (h0 : ¬ rb = 0) (hu0 : ¬ ub = 0) (hc : w.cell? ⟨ub, 2, none⟩ = some (.slice none 0 0) ∧ w.frozen? ⟨ub, 2, none⟩ = false) :
    Calls Tryd.prog 44 #[.pointer (some ⟨rb, 0, none⟩), .pointer (some ⟨ub, 0, none⟩), .int .i64 3] w fun x w' => x = .returned (.tuple #[]) ∧ ∃ (es : List ((Value × Value × Value) × PFunc)) (vl : Value), FlW w w.heap.size rb ub s 2 4 76 (fun e : (Value × Value × Value) × PFunc => [e.1.1, Value.int .i64 e.2.result, e.1.2.1, e.1.2.2]) (fun w e => RInts w e.1.1 e.2.params ∧ RInts w e.1.2.1 e.2.locals ∧ RCode w e.1.2.2 e.2.code) es vl (lfill lfunc r bad).2.1 (lfill lfunc r bad).2.2 w' ∧ (lfill lfunc r bad).1 = es.map (·.2) := by
  have hrb := h.lt
  have HN := hide (small_ls 50 (by decide) rb s r bad w h)
  have hbd := lsmall_bound 50 r bad
  have HS : Hid (lfill lfunc r bad = lfills lfunc (lsmall 50 r bad).1.toNat (lsmall 50 r bad).2.1 (lsmall 50 r bad).2.2) := hide rfl
  have H0 : Hid (FlW w w.heap.size rb ub s 2 4 76 (fun e : (Value × Value × Value) × PFunc => [e.1.1, Value.int .i64 e.2.result, e.1.2.1, e.1.2.2]) (fun w e => RInts w e.1.1 e.2.params ∧ RInts w e.1.2.1 e.2.locals ∧ RCode w e.1.2.2 e.2.code) [] (.slice none 0 0) r bad w) := hide (FlW.new ⟨hrb, hub, hne⟩ hc h)
  have HTA : Hid (∀ (es : List ((Value × Value × Value) × PFunc)) (vl : Value) (r' : List UInt8) (b' : Bool) (W' : World), FlW w w.heap.size rb ub s 2 4 76 (fun e : (Value × Value × Value) × PFunc => [e.1.1, Value.int .i64 e.2.result, e.1.2.1, e.1.2.2]) (fun w e => RInts w e.1.1 e.2.params ∧ RInts w e.1.2.1 e.2.locals ∧ RCode w e.1.2.2 e.2.code) es vl r' b' W' → Tab W') := hide (fun es vl r' b' W' hf j hj => (World.cell?_of_block (hf.low 0 (by omega) (fun e => h0 e.symm) (fun e => hu0 e.symm))).trans (ht j hj))
  clear ht
  generalize lsmall 50 r bad = L at HN HS hbd
  obtain ⟨n0, r2, b2⟩ := L
  simp only at HS hbd
  obtain ⟨n, rfl⟩ : ∃ n : Nat, n0 = (n : Int) := ⟨n0.toNat, by omega⟩
  have hn : n ≤ 50 := by omega
  simp only [Int.toNat_natCast] at HS
  clear h hbd hc
  go_enter Tryd.func44, Tryd.ntmps44
  go_wp2_with fail
  refine HN.out.mono ?_
  rintro x w1 ⟨v1, rfl, rfl, hl1, hg1⟩
  simp only at hl1 ⊢
  have H1 := hide (H0.out.call hg1 hl1)
  clear hl1 hg1 HN H0
  go_wp2_with fail
  go_loopw [6] (fun i wr => ∃ (k : Nat) (es : List ((Value × Value × Value) × PFunc)) (vl : Value) (rk : List UInt8) (bk : Bool), i = .int .i64 (k : Int) ∧ es.length + k ≤ 50 ∧ FlW w w.heap.size rb ub s 2 4 76 (fun e : (Value × Value × Value) × PFunc => [e.1.1, Value.int .i64 e.2.result, e.1.2.1, e.1.2.2]) (fun w e => RInts w e.1.1 e.2.params ∧ RInts w e.1.2.1 e.2.locals ∧ RCode w e.1.2.2 e.2.code) es vl rk bk wr ∧ lfills lfunc n r2 b2 = (es.map (·.2) ++ (lfills lfunc k rk bk).1, (lfills lfunc k rk bk).2)) (fun i _ => (intOf i).toNat)
  case atStart => exact ⟨n, [], .slice none 0 0, r2, b2, rfl, by simpa using hn, H1.out, by simp⟩
  case round =>
    clear H1
    obtain ⟨k, es, vl, rk, bk, rfl, hck, hfw, hT⟩ := hrel
    obtain ⟨ac, cc, rfl⟩ := lown_shape hfw.ow
    obtain ⟨z2, z3⟩ := hfw.ls.bad
    have HFW := hide hfw
    have HTT := hide hT
    clear hfw hT
    by_cases hk : 0 < k
    · obtain ⟨j, rfl⟩ : ∃ j, k = j + 1 := ⟨k - 1, by omega⟩
      cases bk with
      | true =>
        have HSE : Hid (lfill lfunc r bad = (es.map (·.2), rk, true)) := hide (by rw [HS.out, HTT.out, lfills, if_pos rfl]; simp)
        go_wp2_with fail
        go_end0
        rw [HSE.out]
        exact ⟨rfl, es, _, HFW.out, rfl⟩
      | false =>
        have HLX : Hid (lfills lfunc (j + 1) rk false = ((lfunc rk false).1 :: (lfills lfunc j (lfunc rk false).2.1 (lfunc rk false).2.2).1, (lfills lfunc j (lfunc rk false).2.1 (lfunc rk false).2.2).2)) := hide (by rw [lfills, if_neg (by decide)])
        have HC2 := hide (function_ls rb s rk false wr HFW.out.ls (HTA.out _ _ _ _ _ HFW.out) h0)
        generalize lfunc rk false = L at HC2 HLX
        obtain ⟨q, r8, b8⟩ := L
        simp only at HLX
        go_wp2_with fail
        refine HC2.out.mono ?_
        rintro x w2 ⟨v2, rfl, hv, hl, hg⟩
        simp only at hl hv ⊢
        obtain ⟨vp, vl, vk, rfl, hp, hlo, hk3⟩ := hv
        obtain ⟨ap, cp, rfl⟩ := lown_shape hp
        obtain ⟨al, cl, rfl⟩ := lown_shape hlo
        obtain ⟨ak, ck, rfl⟩ := lown_shape hk3
        have gA := (Gr.refl w2).alloc (.cells #[.slice ap q.params.length cp, .int .i64 q.result, .slice al q.locals.length cl, .slice ak q.code.length ck] 76)
        have HE2 : Hid (∀ wq : World, (∀ b (x : Obj), w.heap.size ≤ b → some b ≠ (Value.slice ac es.length cc).ownBlock → (w2.alloc (.cells #[.slice ap q.params.length cp, .int .i64 q.result, .slice al q.locals.length cl, .slice ak q.code.length ck] 76)).heap[b]? = some x → wq.heap[b]? = some x) → RInts wq (.slice ap q.params.length cp) q.params ∧ RInts wq (.slice al q.locals.length cl) q.locals ∧ RCode wq (.slice ak q.code.length ck) q.code) := hide (fun wq hq => by
          have hq2 : ∀ b (x : Obj), w.heap.size ≤ b → some b ≠ (Value.slice ac es.length cc).ownBlock → w2.heap[b]? = some x → wq.heap[b]? = some x := fun b x h1 h2 h3 => hq b x h1 h2 ((gA.block b (Array.getElem?_eq_some_iff.1 h3).1 (by simp)).trans h3)
          exact ⟨new_ints HFW.out.ow HFW.out.hs hp wq hq2, new_ints HFW.out.ow HFW.out.hs hlo wq hq2, new_code HFW.out.ow HFW.out.hs hk3 wq hq2⟩)
        have HF2 := hide ((HFW.out.call hg hl).gr gA)
        have HB2 := hide (Box4.new w2 76 (.slice ap q.params.length cp) (.int .i64 q.result) (.slice al q.locals.length cl) (.slice ak q.code.length ck))
        have hgb : w.heap.size ≤ w2.heap.size := (HFW.out.call hg hl).hs
        have HNV : Hid (¬ (Value.slice ac es.length cc).ownBlock = some w2.heap.size) := hide (fun e => by have := (lown_lt (HFW.out.call hg hl).ow _ e).2; omega)
        clear hl hg hp hlo hk3 gA HC2 HFW
        go_upto_region 12 with fail
        generalize w2.alloc (.cells #[.slice ap q.params.length cp, .int .i64 q.result, .slice al q.locals.length cl, .slice ak q.code.length ck] 76) = W2 at HE2 HF2 HB2 ⊢
        generalize w2.heap.size = gb at HB2 hgb HNV ⊢
        have HK : Hid (∀ w', Gr W2 w' → w'.cell? ⟨ub, 2, none⟩ = some (.slice ac es.length cc) ∧ w'.frozen? ⟨ub, 2, none⟩ = false ∧ w'.cell? ⟨gb, 0, none⟩ = some (.slice ap q.params.length cp) ∧ w'.cell? ⟨gb, 1, none⟩ = some (.int .i64 q.result) ∧ w'.cell? ⟨gb, 2, none⟩ = some (.slice al q.locals.length cl) ∧ w'.cell? ⟨gb, 3, none⟩ = some (.slice ak q.code.length ck)) := hide (fun w' g => by
          have a := (HF2.out.gr g).here
          obtain ⟨x0, x1, x2, x3, _, _, _, _⟩ := HB2.out.gc (cb := gb + 1) g.toGc (by omega)
          exact ⟨a.1, a.2, x0, x1, x2, x3⟩)
        obtain ⟨v3, w3, hr3, hap⟩ := app_one 24 76 Tryd.infFill3 Tryd.underlying24 (by decide) (by decide) (by decide) (HF2.out.gr (Gr.drew (Gr.refl W2))).ow #[.slice ap q.params.length cp, .int .i64 q.result, .slice al q.locals.length cl, .slice ak q.code.length ck] rfl (by intro u hu; simp at hu; rcases hu with rfl | rfl | rfl | rfl <;> rfl) (by omega) (by have := HF2.out.hs; exact this)
        have HPT := hide ((HF2.out.gr (Gr.drew (Gr.refl W2))).put (e := (((Value.slice ap q.params.length cp, Value.slice al q.locals.length cl, Value.slice ak q.code.length ck), q) : (Value × Value × Value) × PFunc)) hap (fun wq hq => HE2.out wq (fun b x h1 h2 h3 => hq b x h1 h2 h3)))
        have HR3 := hide hr3
        have hb3 : w3.heap[gb]? = W2.heap[gb]? := hap.frm.block gb (by show gb < W2.heap.size; exact World.block_lt_of_cell? _ _ HB2.out.1) (fun e => HNV.out e.symm)
        have HK3 : Hid (w3.cell? ⟨ub, 2, none⟩ = some (.slice ac es.length cc) ∧ w3.frozen? ⟨ub, 2, none⟩ = false ∧ w3.cell? ⟨gb, 0, none⟩ = some (.slice ap q.params.length cp) ∧ w3.cell? ⟨gb, 1, none⟩ = some (.int .i64 q.result) ∧ w3.cell? ⟨gb, 2, none⟩ = some (.slice al q.locals.length cl) ∧ w3.cell? ⟨gb, 3, none⟩ = some (.slice ak q.code.length ck)) := hide (by
          obtain ⟨x0, x1, x2, x3, _, _, _, _⟩ := HB2.out
          exact ⟨HPT.out.1.1, HPT.out.1.2, (World.cell?_of_block hb3).trans x0, (World.cell?_of_block hb3).trans x1, (World.cell?_of_block hb3).trans x2, (World.cell?_of_block hb3).trans x3⟩)
        obtain ⟨e3, k3, rfl⟩ := lown_shape hap.own
        obtain ⟨d0, d1⟩ := HPT.out.1
        clear hr3 hap HE2 HF2 HB2 hb3
        refine wp_region_s [10] (S := (fun w' => w'.cell? ⟨ub, 2, none⟩ = some (.slice ac es.length cc) ∧ w'.frozen? ⟨ub, 2, none⟩ = false ∧ w'.cell? ⟨gb, 0, none⟩ = some (.slice ap q.params.length cp) ∧ w'.cell? ⟨gb, 1, none⟩ = some (.int .i64 q.result) ∧ w'.cell? ⟨gb, 2, none⟩ = some (.slice al q.locals.length cl) ∧ w'.cell? ⟨gb, 3, none⟩ = some (.slice ak q.code.length ck))) (by kernel_rfl) (HK.out _ (Gr.drew (Gr.refl _))) (fun hHeld => ?_)
        refine takeS (i := 0) (v := _) rfl (by kernel_rfl) (by kernel_rfl) (by kernel_rfl) (by kernel_rfl) (by intro c a w h; exact h) (by rfl) (fun w hSw => by (try dsimp only at hSw); go_simp <;> with_reducible rfl) hHeld ?_
        simp only [Act.put, List.setIfInBounds_toArray, List.set_cons_zero, List.set_cons_succ]
        refine takeS (i := 1) (v := _) rfl (by kernel_rfl) (by kernel_rfl) (by kernel_rfl) (by kernel_rfl) (by intro c a w h; exact h) (by rfl) (fun w hSw => by (try dsimp only at hSw); go_simp <;> with_reducible rfl) hHeld ?_
        simp only [Act.put, List.setIfInBounds_toArray, List.set_cons_zero, List.set_cons_succ]
        refine takeS (i := 2) (v := _) rfl (by kernel_rfl) (by kernel_rfl) (by kernel_rfl) (by kernel_rfl) (by intro c a w h; exact h) (by rfl) (fun w hSw => by (try dsimp only at hSw); go_simp <;> with_reducible rfl) hHeld ?_
        simp only [Act.put, List.setIfInBounds_toArray, List.set_cons_zero, List.set_cons_succ]
        refine takeS (i := 3) (v := _) rfl (by kernel_rfl) (by kernel_rfl) (by kernel_rfl) (by kernel_rfl) (by intro c a w h; exact h) (by rfl) (fun w hSw => by (try dsimp only at hSw); go_simp <;> with_reducible rfl) hHeld ?_
        simp only [Act.put, List.setIfInBounds_toArray, List.set_cons_zero, List.set_cons_succ]
        refine takeS (i := 4) (v := _) rfl (by kernel_rfl) (by kernel_rfl) (by kernel_rfl) (by kernel_rfl) (by intro c a w h; exact h) (by rfl) (fun w hSw => by (try dsimp only at hSw); go_simp <;> with_reducible rfl) hHeld ?_
        simp only [Act.put, List.setIfInBounds_toArray, List.set_cons_zero, List.set_cons_succ]
        refine takeS (i := 5) (v := _) rfl (by kernel_rfl) (by kernel_rfl) (by kernel_rfl) (by kernel_rfl) (by intro c a w h; exact h) (by rfl) (fun w hSw => by (try dsimp only at hSw); go_simp <;> with_reducible rfl) hHeld ?_
        simp only [Act.put, List.setIfInBounds_toArray, List.set_cons_zero, List.set_cons_succ]
        refine aloneS (i := 6) rfl (by kernel_rfl) (fun K hK => ?_)
        refine want_yes (by rfl) ?_
        go_simp
        refine hK.out _ _ (fun _ => HK.out _ ((Gr.drew (Gr.refl _)).alloc _)) ?_
        clear hK
        try simp only [Act.put, List.setIfInBounds_toArray, List.set_cons_zero, List.set_cons_succ]
        refine aloneS (i := 7) rfl (by kernel_rfl) (fun K hK => ?_)
        refine want_yes (by rfl) (Lib.wp_append_run _ _ _ _ _ rfl (.slice ac es.length cc) (.slice (some ⟨W2.drew.heap.size, 0, none⟩) 1 1) (by simp [Act.eval]) (by simp [Act.eval]) _ _ HR3.out ?_)
        refine hK.out _ _ (fun _ => HK3.out) ?_
        clear hK
        try simp only [Act.put, List.setIfInBounds_toArray, List.set_cons_zero, List.set_cons_succ]
        refine takeS (i := 8) (v := _) rfl (by kernel_rfl) (by kernel_rfl) (by kernel_rfl) (by kernel_rfl) (by intro c a w h; exact h) (by rfl) (fun w hSw => by (try dsimp only at hSw); go_simp <;> with_reducible rfl) HK3.out ?_
        simp only [Act.put, List.setIfInBounds_toArray, List.set_cons_zero, List.set_cons_succ]
        refine takeS (i := 9) (v := _) rfl (by kernel_rfl) (by kernel_rfl) (by kernel_rfl) (by kernel_rfl) (by intro c a w h; exact h) (by rfl) (fun w hSw => by (try dsimp only at hSw); go_simp <;> with_reducible rfl) HK3.out ?_
        simp only [Act.put, List.setIfInBounds_toArray, List.set_cons_zero, List.set_cons_succ]
        refine aloneS (i := 10) rfl (by kernel_rfl) (fun K hK => ?_)
        refine want_yes (by rfl) ?_
        go_simp
        refine hK.out _ _ (fun h => absurd h (by decide)) ?_
        clear hK
        try simp only [Act.put, List.setIfInBounds_toArray, List.set_cons_zero, List.set_cons_succ]
        refine doneS (by kernel_rfl) ?_ _
        go_wp2_with fail
        exact ⟨⟨j, es ++ [(((Value.slice ap q.params.length cp, Value.slice al q.locals.length cl, Value.slice ak q.code.length ck), q) : (Value × Value × Value) × PFunc)], _, r8, b8, by simp, by simp; omega, HPT.out.2, by rw [HTT.out, HLX.out]; simp⟩, by simp [intOf]⟩
    · obtain rfl : k = 0 := by omega
      have HSE : Hid (lfill lfunc r bad = (es.map (·.2), rk, bk)) := hide (by rw [HS.out, HTT.out]; simp [lfills])
      go_wp2_with fail
      go_end0
      rw [HSE.out]
      exact ⟨rfl, es, _, HFW.out, rfl⟩
end Go.Proofs.YtkgncijcnlfhiaaDoor

namespace Go.Proofs.YtkgncijcnlfhiaaDoor
set_option linter.unusedVariables false
set_option linter.unusedSimpArgs false
open Go.RowKit
attribute [local go_sem ↓] Go.wp_at_zero Go.wp_at_succ
theorem Box4.gr {w w' : World} {b : Nat} {x0 x1 x2 x3 : Value} (h : Box4 w b x0 x1 x2 x3) (g : Gr w w') : Box4 w' b x0 x1 x2 x3 := h.gc (cb := b + 1) g.toGc (by omega)
set_option maxRecDepth 100000 in
theorem named_ref (s : ByteArray) (w : World) (hs : s.size ≤ maxLen) :
    Calls Tryd.prog 71 #[.string s] w fun x w' => x = .returned (.bool (nameOk s.data.toList)) ∧ w' = w := by
  have hl : s.data.toList.length = s.size := by rw [Array.length_toList]; rfl
  unfold maxLen at hs
  have HE : Hid (nameOk s.data.toList = decide (1 ≤ s.size ∧ s.size ≤ 20)) := hide (by unfold nameOk wB; rw [hl, Bool.eq_iff_iff]; simp; omega)
  clear hl
  by_cases h1 : 1 ≤ s.size
  · go_enter Tryd.func71, Tryd.ntmps71
    go_wp2_with fail
    go_ret
    refine ⟨?_, rfl⟩
    show Ending.returned (Value.bool _) = Ending.returned (Value.bool _)
    refine congrArg (fun t => Ending.returned (Value.bool t)) ?_
    rw [HE.out, Bool.eq_iff_iff]; simp; omega
  · go_enter Tryd.func71, Tryd.ntmps71
    go_wp2_with fail
    go_ret
    refine ⟨?_, rfl⟩
    show Ending.returned (Value.bool _) = Ending.returned (Value.bool _)
    refine congrArg (fun t => Ending.returned (Value.bool t)) ?_
    rw [HE.out, Bool.eq_iff_iff]; simp; omega

theorem len_dec (n : Nat) (m : Int) : wB (n : Int) 0 m = decide ((n : Int) ≤ m) := by unfold wB; rw [Bool.eq_iff_iff]; simp
theorem funcOk_eq (n : Int) (f : PFunc) : funcOk n f = ((f.params.all (inB n) && decide ((f.params.length : Int) ≤ 6)) && ((f.locals.all (inB n) && decide ((f.locals.length : Int) ≤ 10)) && (inB n f.result && (wB f.code.length 1 200 && f.code.all insOk)))) := by
  unfold funcOk sigOk codeOk
  rw [len_dec, len_dec]
  generalize f.params.all (inB n) = a
  generalize f.locals.all (inB n) = b
  generalize f.code.all insOk = c
  generalize decide ((f.params.length : Int) ≤ 6) = d
  generalize decide ((f.locals.length : Int) ≤ 10) = e
  generalize inB n f.result = r
  generalize wB f.code.length 1 200 = g
  cases a <;> cases b <;> cases c <;> cases d <;> cases e <;> cases r <;> cases g <;> rfl

set_option maxRecDepth 100000 in
set_option maxHeartbeats 2000000 in
theorem function_ref (f : PFunc) (vp vl vc : Value) (n : Int) (w : World) (hp : RInts w vp f.params) (hl : RInts w vl f.locals) (hc : RCode w vc f.code) (hT : Tab w) :
    Calls Tryd.prog 70 #[.agg #[vp, .int .i64 f.result, vl, vc], .int .i64 n] w fun x w' => x = .returned (.bool (funcOk n f)) ∧ Gr w w' := by
  obtain ⟨a1, c1, rfl⟩ := hp.shape
  obtain ⟨a2, c2, rfl⟩ := hl.shape
  obtain ⟨a3, c3, rfl⟩ := hc.shape
  have hm : f.code.length ≤ 9223372036854775807 := by obtain ⟨_, _, _, h, _⟩ := hc; unfold maxLen at h; omega
  have hga := Gr.alloc (Gr.refl w) (.cells #[.slice a1 f.params.length c1, .int .i64 f.result, .slice a2 f.locals.length c2, .slice a3 f.code.length c3] 76)
  have HB := hide (Box4.new w 76 (.slice a1 f.params.length c1) (.int .i64 f.result) (.slice a2 f.locals.length c2) (.slice a3 f.code.length c3))
  have HP := hide (kinds_ref _ f.params n 6 _ (hp.gr hga))
  have HL := hide (kinds_ref _ f.locals n 10 _ (hl.gr hga))
  have HC := hide hc
  have HTb := hide hT
  have HG := hide hga
  have HF := hide (funcOk_eq n f)
  clear hp hl hc hT hga
  generalize (f.params.all (inB n) && decide ((f.params.length : Int) ≤ 6)) = P at HP HF
  generalize (f.locals.all (inB n) && decide ((f.locals.length : Int) ≤ 10)) = L at HL HF
  go_enter Tryd.func70, Tryd.ntmps70
  go_wp2_with fail
  refine HP.out.mono ?_
  rintro x w1 ⟨rfl, e1⟩
  subst e1
  obtain ⟨b0, b1, b2, b3, _⟩ := HB.out
  go_wp2_with fail
  refine HL.out.mono ?_
  rintro x w1 ⟨rfl, e1⟩
  subst e1
  clear HP HL
  cases P
  · go_wp2_with fail
    go_ret
    exact ⟨by rw [HF.out]; rfl, (Gr.refl w).alloc _⟩
  cases L
  · go_wp2_with fail
    go_ret
    exact ⟨by rw [HF.out]; rfl, (Gr.refl w).alloc _⟩
  by_cases r0 : f.result < 0
  · have hr : inB n f.result = false := by simp [inB, wB]; omega
    go_wp2_with fail
    go_ret
    exact ⟨by rw [HF.out, hr]; rfl, (Gr.refl w).alloc _⟩
  by_cases r1 : n < f.result
  · have hr : inB n f.result = false := by simp [inB, wB]; omega
    go_wp2_with fail
    go_ret
    exact ⟨by rw [HF.out, hr]; rfl, (Gr.refl w).alloc _⟩
  have HR : Hid (inB n f.result = true) := hide (by simp [inB, wB]; omega)
  by_cases g0 : f.code.length < 1
  · have hr : wB f.code.length 1 200 = false := by simp [wB]; omega
    have g0' : f.code.length = 0 := by omega
    go_wp2_with fail
    go_ret
    exact ⟨by rw [HF.out, HR.out, hr]; rfl, (Gr.refl w).alloc _⟩
  by_cases g1 : 200 < f.code.length
  · have hr : wB f.code.length 1 200 = false := by simp [wB]; omega
    have g0' : ¬ f.code.length = 0 := by omega
    go_wp2_with fail
    go_ret
    exact ⟨by rw [HF.out, HR.out, hr]; rfl, (Gr.refl w).alloc _⟩
  have HOK : Hid (funcOk n f = f.code.all insOk) := hide (by rw [HF.out, HR.out, show wB f.code.length 1 200 = true by simp [wB]; omega]; rfl)
  have g0' : ¬ f.code.length = 0 := by omega
  clear HF HR
  go_wp2_with fail
  clear b0 b1 b2 b3
  generalize w.alloc (.cells #[.slice a1 f.params.length c1, .int .i64 f.result, .slice a2 f.locals.length c2, .slice a3 f.code.length c3] 76) = W at HB HG ⊢
  go_loopw [7] (fun i wr => ∃ k : Nat, i = .int .i64 k ∧ k ≤ f.code.length ∧ (f.code.take k).all insOk = true ∧ Gr W wr) (fun i _ => f.code.length - (intOf i).toNat)
  case atStart => exact ⟨0, rfl, Nat.zero_le _, by simp, Gr.refl _⟩
  case round =>
    obtain ⟨k, rfl, hk, hall, hg⟩ := hrel
    have HA := hide hall
    have HGr := hide hg
    obtain ⟨_, _, _, b3, _⟩ := HB.out.gr hg
    clear hall
    by_cases hlt : k < f.code.length
    · obtain ⟨a9, c9, h9e, _, hc9⟩ := HC.out
      simp only [Value.slice.injEq, true_and] at h9e
      have hxk : f.code[k]? = some f.code[k] := List.getElem?_eq_getElem hlt
      obtain ⟨b1', o1', rfl, hx1, hx2, hx3⟩ := hc9 k _ hxk
      obtain ⟨rfl, rfl⟩ := h9e
      have hgw := HG.out.trans hg
      have hx1' := hgw.cell hx1 (by simp)
      have hx2' := hgw.cell hx2 (by simp)
      have hx3' := hgw.cell hx3 (by simp)
      have HXk := hide hxk
      have HI := hide (ins_ref f.code[k] wr (HTb.out.gr hgw))
      generalize f.code[k] = c at hx1' hx2' hx3' HXk HI
      clear hc9 hx1 hx2 hx3 hgw hg hxk
      go_wp2_with fail
      refine HI.out.mono ?_
      rintro x w2 ⟨rfl, hg2⟩
      have HG2 := hide (HGr.out.trans hg2)
      clear hg2 hx1' hx2' hx3' b3 HI
      cases hi : insOk c
      · have HFa : Hid (f.code.all insOk = false) := hide (all_false_at HXk.out hi)
        go_wp2_with fail
        go_ret
        exact ⟨by rw [HOK.out, HFa.out]; rfl, HG.out.trans HG2.out⟩
      · have HTk : Hid ((f.code.take (k + 1)).all insOk = true) := hide (by rw [all_take_succ HXk.out, HA.out, hi]; rfl)
        go_wp2_with fail
        exact ⟨⟨k + 1, by simp, hlt, HTk.out, HG2.out⟩, by simp [intOf]; omega⟩
    · have hkk : k = f.code.length := by omega
      subst hkk
      have HE : Hid (f.code.all insOk = true) := hide (by have h := HA.out; rwa [List.take_length] at h)
      clear hg
      go_wp2_with fail
      go_ret
      exact ⟨by rw [HOK.out, HE.out]; rfl, HG.out.trans HGr.out⟩
end Go.Proofs.YtkgncijcnlfhiaaDoor

