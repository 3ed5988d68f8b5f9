import Derived.Test.YtkgncijcnlfhiaaGreatNm
namespace Go.Proofs.YtkgncijcnlfhiaaGreat
set_option maxRecDepth 100000
set_option maxHeartbeats 2000000
set_option linter.unusedVariables false
set_option linter.unusedSimpArgs false
open Go.RowKit
attribute [local go_sem ↓] Go.wp_at_zero Go.wp_at_succ
structure OU(B:Nat)(w:World)(v1 v2 v3 v5:Value)(es1:List (Value×List Int))(cs:List Int)(es3:List LF)(es5:List LX)(ρ:Nat→Rl):Prop where
 bs:B≤w.heap.size
 o1:Ow ρ .sh w B 22 1 v1 es1.length (es1.map (·.1))
 o1i:∀i e,es1[i]? =some e→Ow ρ (.sI i) w B 3 1 e.1 e.2.length (ivL e.2)
 o2:Ow ρ .co w B 3 1 v2 cs.length (ivL cs)
 o3:Ow ρ .fu w B 48 4 v3 es3.length (es3.flatMap cF)
 o3i:∀i e,es3[i]? =some e→Ow ρ (.fp i) w B 3 1 e.vp e.f.params.length (ivL e.f.params)∧Ow ρ (.fl i) w B 3 1 e.vl e.f.locals.length (ivL e.f.locals)∧Ow ρ (.fc i) w B 26 3 e.vc e.f.code.length (e.f.code.flatMap cC)
 o5:Ow ρ .ex w B 50 2 v5 es5.length (es5.flatMap cX)
theorem JA.ou{B ab:Nat}{w:World}{v1 v2 v3 v5:Value}{es1:List (Value×List Int)}{cs:List Int}{es3:List LF}{es5:List LX}{ρ:Nat→Rl}(h:JA B ab w v1 v2 v3 v5 es1 cs es3 es5 ρ):OU B w v1 v2 v3 v5 es1 cs es3 es5 ρ:=⟨h.bs,h.o1,h.o1i,h.o2,h.o3,h.o3i,h.o5⟩
theorem OU.mv{B:Nat}{w w':World}{v1 v2 v3 v5:Value}{es1:List (Value×List Int)}{cs:List Int}{es3:List LF}{es5:List LX}{ρ:Nat→Rl}(h:OU B w v1 v2 v3 v5 es1 cs es3 es5 ρ)(hs:w.heap.size≤w'.heap.size)(g:∀k,B≤k→k < w.heap.size→w'.heap[k]? =w.heap[k]?):OU B w' v1 v2 v3 v5 es1 cs es3 es5 ρ:=by
 have m:Mv B .bx w w' ρ ρ:=⟨hs,fun k hk hB=>⟨rfl,fun _=>g k hB hk⟩⟩;exact ⟨Nat.le_trans h.bs hs,h.o1.mv m nofun,fun i e he=>(h.o1i i e he).mv m nofun,h.o2.mv m nofun,h.o3.mv m nofun,fun i e he=>⟨(h.o3i i e he).1.mv m nofun,(h.o3i i e he).2.1.mv m nofun,(h.o3i i e he).2.2.mv m nofun⟩,h.o5.mv m nofun⟩
theorem own_len{w:World}{B:Nat}{e:TypeId}{n len:Nat}{v:Value}{xs:List Value}(h:w.ownsRow B e n v len xs):len≤maxLen:=by
 rcases h.2 with ⟨_,rfl⟩|⟨g,cap,cur,_,_,_,h1,h2,_⟩
 · exact Nat.zero_le _
 · exact Nat.le_trans h1 h2
theorem own_cell{w:World}{B:Nat}{e:TypeId}{n len:Nat}{v:Value}{xs:List Value}(h:w.ownsRow B e n v len xs){j:Nat}(hj:j < len * n):∃b cap,v=.slice (some ⟨b,0,none⟩) len cap∧w.cell? ⟨b,j,none⟩=xs[j]? :=by
 rcases h.2 with ⟨_,h0⟩|⟨g,cap,cur,e1,e2,e3,e4,e5,e6,e7⟩
 · subst h0;omega
 · refine ⟨g,cap,e1,?_⟩;rw [hcell_ e3,←e7,List.getElem?_take,if_pos hj,Array.getElem?_toList]
theorem rints_of{w:World}{B:Nat}{e:TypeId}{v:Value}{l:List Int}(h:w.ownsRow B e 1 v l.length (ivL l)):RInts w v l:=by
 obtain ⟨ao,cap,rfl⟩:=own_shape_ h;refine ⟨ao,cap,rfl,own_len h,fun i hi=>?_⟩;obtain ⟨b,cp,e1,e2⟩:=own_cell h (j:=i) (by omega);simp only [Value.slice.injEq,true_and] at e1;exact ⟨b,0,e1.1,by rw [Nat.zero_add,e2];simp [ivL,hi,List.getD_eq_getElem?_getD]⟩
theorem rcode_of{w:World}{B:Nat}{e:TypeId}{v:Value}{l:List PIns}(h:w.ownsRow B e 3 v l.length (l.flatMap cC)):RCode w v l:=by
 obtain ⟨ao,cap,rfl⟩:=own_shape_ h;refine ⟨ao,cap,rfl,own_len h,fun i x hx=>?_⟩;have hi:i < l.length:=(List.getElem?_eq_some_iff.1 hx).1;obtain ⟨b,cp,e1,e2⟩:=own_cell h (j:=i * 3) (by omega);obtain ⟨b',cp',e1',e2'⟩:=own_cell h (j:=i * 3+1) (by omega);obtain ⟨b'',cp'',e1'',e2''⟩:=own_cell h (j:=i * 3+2) (by omega);simp only [Value.slice.injEq,true_and] at e1 e1' e1'';obtain ⟨rfl,rfl⟩:=e1;simp only [Option.some.injEq,Addr.mk.injEq,and_true] at e1' e1'';obtain ⟨rfl,-⟩:=e1';obtain ⟨rfl,-⟩:=e1'';refine ⟨b,0,rfl,?_,?_,?_⟩
 · rw [Nat.zero_add,e2];exact flat_put cC_len l i 0 x hx (by omega)
 · rw [Nat.zero_add,e2'];exact flat_put cC_len l i 1 x hx (by omega)
 · rw [Nat.zero_add,e2''];exact flat_put cC_len l i 2 x hx (by omega)
theorem OU.runit{B:Nat}{w:World}{v1 v2 v3 v5:Value}{es1:List (Value×List Int)}{cs:List Int}{es3:List LF}{es5:List LX}{ρ:Nat→Rl}(h:OU B w v1 v2 v3 v5 es1 cs es3 es5 ρ)(hx:∀e∈es5,e.s.size≤maxLen):RUnit w (.agg #[v1,v2,v3,.slice none 0 0,v5]) ⟨es1.map (·.2),cs,es3.map (·.f),[],es5.map (·.p)⟩:=by
 refine ⟨v1,v2,v3,.slice none 0 0,v5,rfl,?_,rints_of h.o2.1,?_,⟨none,0,rfl,Nat.zero_le _,fun i x hi=>by simp at hi⟩,?_⟩
 · obtain ⟨ao,cap,rfl⟩:=own_shape_ h.o1.1;refine ⟨ao,cap,by simp,by simpa using own_len h.o1.1,fun i x hi=>?_⟩;simp only [List.getElem?_map,Option.map_eq_some_iff] at hi;obtain ⟨e,he,rfl⟩:=hi;have hl:i < es1.length:=(List.getElem?_eq_some_iff.1 he).1;obtain ⟨b,cp,e1,e2⟩:=own_cell h.o1.1 (j:=i) (by omega);simp only [Value.slice.injEq,true_and] at e1;exact ⟨b,0,e.1,e1.1,by rw [Nat.zero_add,e2];simp [he],rints_of (h.o1i i e he).1⟩
 · obtain ⟨ao,cap,rfl⟩:=own_shape_ h.o3.1;refine ⟨ao,cap,by simp,by simpa using own_len h.o3.1,fun i x hi=>?_⟩;simp only [List.getElem?_map,Option.map_eq_some_iff] at hi;obtain ⟨e,he,rfl⟩:=hi;have hl:i < es3.length:=(List.getElem?_eq_some_iff.1 he).1;obtain ⟨b,cp,e1,e2⟩:=own_cell h.o3.1 (j:=i * 4) (by omega);simp only [Value.slice.injEq,true_and] at e1;obtain ⟨rfl,rfl⟩:=e1;have hc:∀r,r < 4→w.cell? ⟨b,0+i * 4+r,none⟩=(cF e)[r]? :=fun r hr=>by
    obtain ⟨b',cp',e1',e2'⟩:=own_cell h.o3.1 (j:=i * 4+r) (by omega);simp only [Value.slice.injEq,Option.some.injEq,Addr.mk.injEq,and_true,true_and] at e1';obtain ⟨rfl,-⟩:=e1';rw [Nat.zero_add,e2'];exact flat_put cF_len es3 i r e he hr
   obtain ⟨p1,p2,p3⟩:=h.o3i i e he;exact ⟨b,0,e.vp,e.vl,e.vc,rfl,hc 0 (by omega),hc 1 (by omega),hc 2 (by omega),hc 3 (by omega),rints_of p1.1,rints_of p2.1,rcode_of p3.1⟩
 · obtain ⟨ao,cap,rfl⟩:=own_shape_ h.o5.1;refine ⟨ao,cap,by simp,by simpa using own_len h.o5.1,fun i x hi=>?_⟩;simp only [List.getElem?_map,Option.map_eq_some_iff] at hi;obtain ⟨e,he,rfl⟩:=hi;have hl:i < es5.length:=(List.getElem?_eq_some_iff.1 he).1;obtain ⟨b,cp,e1,e2⟩:=own_cell h.o5.1 (j:=i * 2) (by omega);simp only [Value.slice.injEq,true_and] at e1;obtain ⟨rfl,rfl⟩:=e1;have hc:∀r,r < 2→w.cell? ⟨b,0+i * 2+r,none⟩=(cX e)[r]? :=fun r hr=>by
    obtain ⟨b',cp',e1',e2'⟩:=own_cell h.o5.1 (j:=i * 2+r) (by omega);simp only [Value.slice.injEq,Option.some.injEq,Addr.mk.injEq,and_true,true_and] at e1';obtain ⟨rfl,-⟩:=e1';rw [Nat.zero_add,e2'];exact flat_put cX_len es5 i r e he hr
   exact ⟨b,0,.string e.s,rfl,hc 0 (by omega),hc 1 (by omega),e.s,rfl,rfl,hx e (List.mem_of_getElem? he)⟩
theorem joinF_len(N:List UInt8→Int):∀(l:List PUnit) (c f:Nat),(joinF N c f l).1.length=(l.map fun u=>u.consts.length).sum∧(joinF N c f l).2.1.length=(l.map fun u=>u.funcs.length).sum∧(joinF N c f l).2.2.length=(l.map fun u=>u.exports.length).sum
 | [],c,f=>⟨rfl,rfl,rfl⟩
 | u :: l,c,f=>by
  obtain ⟨h1,h2,h3⟩:=joinF_len N l (c+u.consts.length) (f+u.funcs.length);simp only [joinF,List.length_append,List.length_map,List.map_cons,List.sum_cons,h1,h2,h3,and_self]
theorem few_join(N:List UInt8→Int)(l:List PUnit):fewL l=!decide (30 < (joinF N 0 0 l).2.1.length∨50 < (joinF N 0 0 l).1.length∨20 < (joinF N 0 0 l).2.2.length):=by
 obtain ⟨h1,h2,h3⟩:=joinF_len N l 0 0;rw [h1,h2,h3];unfold fewL aheadF aheadC aheadE;rw [List.take_length];rw [Bool.eq_iff_iff];simp
theorem numN_tgt(l:List PUnit):numN (tgtL 0 l fun _=>none)=tgtN l:=by funext n;rfl
open Go.RowKit
attribute [local go_sem ↓] Go.wp_at_zero Go.wp_at_succ
theorem Tryz.infVal:(Tryz.prog.info? 183).map (fun i=>(i.zero,i.size,i.bytes))=some (some (.agg #[.int .i64 0,.pointer none]),2,16):=by kernel_rfl
theorem Tryz.uVal:Tryz.prog.underlying 177=some (.slice 183):=by kernel_rfl
def FrAt(w:World)(fb:Nat)(vc:Value)(pos:Int)(vs vk:Value):Prop:=w.heap[fb]? =some (.cells #[vc,.int .i64 pos,vs,vk] 180 (0,0))
structure Two(w w':World)(a:Nat)(o:Option Nat):Prop where
 os:w'.os=w.os
 tape:w'.tape=w.tape
 output:w'.output=w.output
 size:w.heap.size≤w'.heap.size
 blk:∀b,b < w.heap.size→¬b=a→¬o=some b→w'.heap[b]? =w.heap[b]?
def PsR(w:World)(fb:Nat)(vc:Value)(pos:Int)(vs vk:Value)(n:Nat)(xs:List Value)(num:Int)(ptr:Value)(x:Ending)(w':World):Prop:=∃vk',x=.returned (.tuple #[])∧FrAt w' fb vc pos vs vk'∧w'.ownsRow 0 183 2 vk' (n+1) (xs++ [.int .i64 num,ptr])∧(vk'.ownBlock=vk.ownBlock∨∃k,vk'.ownBlock=some k∧w.heap.size≤k)∧Two w w' fb vk.ownBlock
theorem push_any(w:World)(fb:Nat)(vc:Value)(pos:Int)(vs vk:Value)(n:Nat)(xs:List Value)(num:Int)(p:Option Addr)(hF:FrAt w fb vc pos vs vk)(ho:w.ownsRow 0 183 2 vk n xs)(hne:¬vk.ownBlock=some fb)(hn:n≤100000):
 Calls Tryz.prog 103 #[.pointer (some ⟨fb,0,none⟩),.agg #[.int .i64 num,.pointer p]] w (PsR w fb vc pos vs vk n xs num (.pointer p)):=by
 obtain ⟨ka,kc,rfl⟩:=own_shape_ ho;have hfb:fb < w.heap.size:=(Array.getElem?_eq_some_iff.1 hF).1;have HF:=hide hF;have HO:=hide ho;have g1:=(Gr.refl w).alloc (.cells #[.int .i64 num,.pointer p] 183);have HG1:=hide g1;have hb1:=heap_alloc_new w (.cells #[.int .i64 num,.pointer p] 183);have KS:Hid (∀w',Gr (w.alloc (.cells #[.int .i64 num,.pointer p] 183)) w'→w'.cell? ⟨fb,3,none⟩=some (.slice ka n kc)∧w'.cell? ⟨w.heap.size,0,none⟩=some (.int .i64 num)∧w'.cell? ⟨w.heap.size,1,none⟩=some (.pointer p)):=hide (fun w' g=>by
  have e0:=((g1.trans g).block fb hfb (by simp)).trans hF;have e1:w'.heap[w.heap.size]? =_:=(g.block w.heap.size (by simp) (by simp)).trans hb1;exact ⟨by rw [hcell_ e0];rfl,by rw [hcell_ e1];rfl,by rw [hcell_ e1];rfl⟩)
 clear hF ho g1 hb1;go_enter Tryz.func103,Tryz.ntmps103
 go_upto_region 1 with fail
 generalize hW1:w.alloc (.cells #[.int .i64 num,.pointer p] 183)=W1 at KS HG1 ⊢;have HS1:Hid (W1.heap.size=w.heap.size+1):=hide (by rw [←hW1];simp);clear hW1;refine wp_region_z 10 (S:=(fun w'=>w'.cell? ⟨fb,3,none⟩=some (.slice ka n kc)∧w'.cell? ⟨w.heap.size,0,none⟩=some (.int .i64 num)∧w'.cell? ⟨w.heap.size,1,none⟩=some (.pointer p))) (by kernel_rfl) (KS.out _ (Gr.drew (Gr.refl _))) (fun hH=>?_);refine tZ 0 _ rfl (fun w hS=>by go_simp<;>rfl) hH ?_
 simp only [Act.put,sA,s0,s1];refine tZ 1 _ rfl (fun w hS=>by go_simp<;>rfl) hH ?_
 simp only [Act.put,sA,s0,s1];refine tZ 2 _ rfl (fun w hS=>by go_simp<;>rfl) hH ?_
 simp only [Act.put,sA,s0,s1];refine tZ 3 _ rfl (fun w hS=>by go_simp<;>rfl) hH ?_
 simp only [Act.put,sA,s0,s1];refine tZ 4 _ rfl (fun w hS=>by go_simp<;>rfl) hH ?_
 simp only [Act.put,sA,s0,s1];refine tZ 5 _ rfl (fun w hS=>by go_simp<;>rfl) hH ?_
 simp only [Act.put,sA,s0,s1];refine aloneZ (i:=6) rfl (by kernel_rfl) (fun K hK=>?_);refine want_yes (by rfl) ?_;have HK:=hide hK;clear hK;go_simp
 refine HK.out _ _ (fun _=>KS.out _ ((Gr.drew (Gr.refl _)).alloc _)) (fun hH=>?_);replace hH:=hH (by decide);clear HK;try simp only [Act.put,sA,s0,s1]
 obtain ⟨v6,w6,hr6,ho6,hg6,hl6⟩:=app_rows (ty:=177) 177 183 _ Tryz.infVal Tryz.uVal rfl (by decide) (by decide) (own_gr HO.out (HG1.out.trans ((Gr.drew (Gr.refl W1)).alloc (.cells #[.int .i64 num,.pointer p] 183)))) (rrow_new W1.drew #[.int .i64 num,.pointer p] 183 1) rfl (by intro q hq;simp at hq;rcases hq with rfl|rfl<;>rfl) (by omega) (Nat.zero_le _)
 obtain ⟨ka6,kc6,rfl⟩:=own_shape_ ho6;have gA:=HG1.out.trans ((Gr.drew (Gr.refl W1)).alloc (.cells #[.int .i64 num,.pointer p] 183));have hB6:∀b,b < w.heap.size→¬(Value.slice ka n kc).ownBlock=some b→w6.heap[b]? =w.heap[b]? :=fun b hb h2=>(hg6.block b (Nat.lt_of_lt_of_le hb gA.size) (fun e=>h2 e.symm)).trans (gA.block b hb (by simp))
 have hfb6:=(hB6 fb hfb hne).trans HF.out;have hc6:w6.cell? ⟨fb,3,none⟩=some (.slice ka n kc):=by rw [hcell_ hfb6];rfl
 have hz6:w6.frozen? ⟨fb,3,none⟩=false:=hfrozen_ hfb6;have HB6:=hide hB6;have HFB:=hide hfb6;have HO6:=hide ho6;have HL6:=hide hl6;have HE6:=hide (And.intro (hg6.os.trans gA.os) (And.intro (hg6.tape.trans gA.tape) (hg6.output.trans gA.output)));have HS6:=hide hg6.size;have HS6b:Hid ((W1.drew.alloc (.cells #[.int .i64 num,.pointer p] 183)).heap.size=W1.heap.size+1):=hide (by show (W1.heap.push _).size=_;simp);have HN6:Hid (¬(Value.slice ka6 (n+1) kc6).ownBlock=some fb):=hide (fun e=>by
  rcases hl6 with h|h
  · exact hne (h.symm.trans e)
  · rw [e] at h;have:=Option.some.inj h;have:=HS6b.out;have:=HS1.out;omega)
 have KS6:Hid (w6.cell? ⟨fb,3,none⟩=some (.slice ka n kc)∧w6.cell? ⟨w.heap.size,0,none⟩=some (.int .i64 num)∧w6.cell? ⟨w.heap.size,1,none⟩=some (.pointer p)):=hide (by
  obtain ⟨s0,s1,s2⟩:=KS.out _ ((Gr.drew (Gr.refl W1)).alloc (.cells #[.int .i64 num,.pointer p] 183));have hq:¬(Value.slice ka n kc).ownBlock=some w.heap.size:=fun e=>by have:=(HO.out.lt _ e).2;omega
  exact ⟨hc6,hg6.cell s1 (fun e=>hq e.symm),hg6.cell s2 (fun e=>hq e.symm)⟩)
 refine aloneZ (i:=7) rfl (by kernel_rfl) (fun K hK=>?_);refine want_yes (by rfl) (Lib.wp_append_run _ _ _ _ _ rfl (.slice ka n kc) (.slice (some ⟨W1.heap.size,0,none⟩) 1 1) (by simp [Act.eval]) (by simp [Act.eval]) _ _ hr6 ?_);refine hK.out _ _ (fun _=>KS6.out) (fun hH=>?_);replace hH:=hH (by decide);clear hK;try simp only [Act.put,sA,s0,s1]
 refine aloneZ (i:=8) rfl (by kernel_rfl) (fun K hK=>?_);refine want_yes (by rfl) ?_;have HK:=hide hK;clear hK;go_simp
 refine HK.out _ _ (fun _=>KS6.out) (fun hH=>?_);replace hH:=hH (by decide);clear HK;try simp only [Act.put,sA,s0,s1]
 refine tZ 9 _ rfl (fun w hS=>by go_simp<;>rfl) hH ?_
 simp only [Act.put,sA,s0,s1];refine aloneZ (i:=10) rfl (by kernel_rfl) (fun K hK=>?_);refine want_yes (by rfl) ?_;have HK:=hide hK;clear hK;go_simp
 refine HK.out _ _ (fun h=>absurd rfl h) (fun _=>?_);clear HK;try simp only [Act.put,sA,s0,s1]
 refine doneZ (by kernel_rfl) ?_ _;clear hH KS;go_wp2_with fail
 go_end0
 refine ⟨.slice ka6 (n+1) kc6,rfl,?_,?_,?_,⟨HE6.out.1,HE6.out.2.1,HE6.out.2.2,by have:=HS6.out;have:=HS1.out;have:=HS6b.out;simp;omega,fun b hb h1 h2=>?_⟩⟩
 · exact (heap_setCell_same w6 fb 3 _ _ _ HFB.out).trans (by simp)
 · exact own_at_ HO6.out (fun q hq=>Below.heap_setCell _ _ _ _ (by show q≠fb;exact fun e=>HN6.out (e▸hq)))
 · rcases HL6.out with e|e
   · exact .inl e
   · exact .inr ⟨_,e,by have:=HS6b.out;have:=HS1.out;omega⟩
 · rw [Below.heap_setCell _ _ _ _ (by show b≠fb;exact h1)];exact HB6.out b hb h2
def PpR(w:World)(fb:Nat)(vc:Value)(pos:Int)(vs:Value)(g n cap:Nat)(xs:List Value)(num:Int)(ptr:Value)(x:Ending)(w':World):Prop:=x=.returned (.agg #[.int .i64 num,ptr])∧FrAt w' fb vc pos vs (.slice (some ⟨g,0,none⟩) n cap)∧w'.ownsRow 0 183 2 (.slice (some ⟨g,0,none⟩) n cap) n xs∧Two w w' fb none
theorem pop_any(w:World)(fb:Nat)(vc:Value)(pos:Int)(vs:Value)(g n cap:Nat)(xs:List Value)(num:Int)(p:Option Addr)(hF:FrAt w fb vc pos vs (.slice (some ⟨g,0,none⟩) (n+1) cap))(ho:w.ownsRow 0 183 2 (.slice (some ⟨g,0,none⟩) (n+1) cap) (n+1) (xs++ [.int .i64 num,.pointer p]))(hx:xs.length=n * 2)(hne:¬g=fb)(hn:n≤100000):
 Calls Tryz.prog 100 #[.pointer (some ⟨fb,0,none⟩)] w (PpR w fb vc pos vs g n cap xs num (.pointer p)):=by
 have hfb:fb < w.heap.size:=(Array.getElem?_eq_some_iff.1 hF).1;have hcap:n+1≤cap:=by
  rcases ho.2 with ⟨h,_⟩|⟨g',cap',cur,e,_,_,h,_⟩
  · cases h
  · simp only [Value.slice.injEq,true_and] at e;omega
 have c0:w.cell? ⟨g,n * 2,none⟩=some (.int .i64 num):=by rw [ho.cellAt _ (by omega),List.getElem?_append_right (by omega),hx,Nat.sub_self];rfl
 have c1:w.cell? ⟨g,n * 2+1,none⟩=some (.pointer p):=by rw [ho.cellAt _ (by omega),List.getElem?_append_right (by omega),hx,show n * 2+1 - n * 2=1 by omega];rfl
 have f3:w.cell? ⟨fb,3,none⟩=some (.slice (some ⟨g,0,none⟩) (n+1) cap):=by rw [hcell_ hF];rfl
 have z3:w.frozen? ⟨fb,3,none⟩=false:=hfrozen_ hF;have HF:=hide hF;have HO:=hide (ownsRow_pop hx ho);have HX:=hide hx;have hw1:IntKind.i64.wrap ((n:Int)+1 - 1)=(n:Int):=by rw [Go.IntWalk.i64_in _ (by omega)];omega
 have hw2:IntKind.i64.wrap (((n+1:Nat):Int) - 1)=(n:Int):=by rw [Go.IntWalk.i64_in _ (by omega)];omega
 have hw3:IntKind.i64.wrap (n:Int)=(n:Int):=Go.IntWalk.i64_in _ (by omega);have hni:(n:Int) < (n:Int)+1:=by omega
 have hnc:(n:Int)≤(cap:Int):=by omega
 have hncn:n≤cap:=by omega
 clear hF ho hx;have g1:=(Gr.refl w).alloc (.cells #[.int .i64 0,.pointer none] 183);have hb1:=heap_alloc_new w (.cells #[.int .i64 0,.pointer none] 183);have g2:Gr (w.alloc (.cells #[.int .i64 0,.pointer none] 183)) ((w.alloc (.cells #[.int .i64 0,.pointer none] 183)).alloc (.cells #[.int .i64 num,.pointer p] 183)):=(Gr.refl _).alloc _;have hb2:((w.alloc (.cells #[.int .i64 0,.pointer none] 183)).alloc (.cells #[.int .i64 num,.pointer p] 183)).heap[w.heap.size+1]? =some (.cells #[.int .i64 num,.pointer p] 183 (0,0)):=by
  have h:=heap_alloc_new (w.alloc (.cells #[.int .i64 0,.pointer none] 183)) (.cells #[.int .i64 num,.pointer p] 183);have e:(w.alloc (.cells #[.int .i64 0,.pointer none] 183)).heap.size=w.heap.size+1:=by simp
  rw [e] at h;exact h
 have k0:=g1.cell c0 (by simp);have k1:=g1.cell c1 (by simp);have k3:=g1.cell f3 (by simp);have HG2:=hide (g1.trans g2);have HB1:=hide ((g2.block w.heap.size (by simp) (by simp)).trans hb1);have HB2:=hide hb2;have HF2:=hide (((g1.trans g2).block fb hfb (by simp)).trans HF.out);clear g1 hb1 g2 hb2 c0 c1 f3 z3;go_enter Tryz.func100,Tryz.ntmps100
 go_upto_region 1 with fail
 generalize hW1:w.alloc (.cells #[.int .i64 0,.pointer none] 183)=W1 at k0 k1 k3 HG2 HB1 HB2 HF2 ⊢;have hs1:W1.heap.size=w.heap.size+1:=by rw [←hW1];simp
 clear hW1;go_upto_region 3 with fail
 generalize W1.alloc (.cells #[.int .i64 num,.pointer p] 183)=W2 at HG2 HB1 HB2 HF2 ⊢;have m3:W2.cell? ⟨fb,3,none⟩=some (.slice (some ⟨g,0,none⟩) (n+1) cap):=by rw [hcell_ HF2.out];rfl
 have mz:W2.frozen? ⟨fb,3,none⟩=false:=hfrozen_ HF2.out;have r0:W2.cell? ⟨w.heap.size,0,none⟩=some (.int .i64 0):=by rw [hcell_ HB1.out];rfl
 have r1:W2.cell? ⟨w.heap.size,1,none⟩=some (.pointer none):=by rw [hcell_ HB1.out];rfl
 have q0:W2.frozen? ⟨w.heap.size,0,none⟩=false:=hfrozen_ HB1.out;have q1:W2.frozen? ⟨w.heap.size,1,none⟩=false:=hfrozen_ HB1.out;have v0:W2.cell? ⟨w.heap.size+1,0,none⟩=some (.int .i64 num):=by rw [hcell_ HB2.out];rfl
 have v1:W2.cell? ⟨w.heap.size+1,1,none⟩=some (.pointer p):=by rw [hcell_ HB2.out];rfl
 have hd1:¬fb=w.heap.size:=by omega
 have hd2:¬w.heap.size=fb:=by omega
 have hd3:¬fb=w.heap.size+1:=by omega
 have hd4:¬w.heap.size+1=fb:=by omega
 clear k0 k1 k3 hs1;go_wp2_with fail
 have e0:=heap_setCell_same W2 fb 3 _ _ (.slice (some ⟨g,0,none⟩) n cap) HF2.out;have hoth:∀b,¬b=w.heap.size→(((W2.setCell ⟨fb,3,none⟩ (.slice (some ⟨g,0,none⟩) n cap)).setCell ⟨w.heap.size,0,none⟩ (.int .i64 num)).setCell ⟨w.heap.size,1,none⟩ (.pointer p)).heap[b]? =(W2.setCell ⟨fb,3,none⟩ (.slice (some ⟨g,0,none⟩) n cap)).heap[b]? :=fun b hb=>(Below.heap_setCell _ _ _ _ hb).trans (Below.heap_setCell _ _ _ _ hb)
 have e1:(W2.setCell ⟨fb,3,none⟩ (.slice (some ⟨g,0,none⟩) n cap)).heap[w.heap.size]? =_:=(Below.heap_setCell _ _ _ _ hd2).trans HB1.out;have e2:=heap_setCell_same _ w.heap.size 1 _ _ (.pointer p) (heap_setCell_same _ w.heap.size 0 _ _ (.int .i64 num) e1);have t0:(((W2.setCell ⟨fb,3,none⟩ (.slice (some ⟨g,0,none⟩) n cap)).setCell ⟨w.heap.size,0,none⟩ (.int .i64 num)).setCell ⟨w.heap.size,1,none⟩ (.pointer p)).cell? ⟨w.heap.size,0,none⟩=some (.int .i64 num):=by rw [hcell_ e2];rfl
 have t1:(((W2.setCell ⟨fb,3,none⟩ (.slice (some ⟨g,0,none⟩) n cap)).setCell ⟨w.heap.size,0,none⟩ (.int .i64 num)).setCell ⟨w.heap.size,1,none⟩ (.pointer p)).cell? ⟨w.heap.size,1,none⟩=some (.pointer p):=by rw [hcell_ e2];rfl
 have hgl:g < w.heap.size:=(HO.out.lt g rfl).2;refine bodyPost_ret (v:=.agg #[.int .i64 num,.pointer p]) (by simp [results,Tryz.results100,go_sem,t0,t1]) rfl ?_;refine ⟨rfl,?_,?_,⟨HG2.out.os,HG2.out.tape,HG2.out.output,by have:=HG2.out.size;simp;omega,fun b hb h1 _=>?_⟩⟩
 · exact (hoth fb hd1).trans (e0.trans (by simp))
 · refine own_at_ HO.out (fun q hq=>?_);have hqg:g=q:=by simpa [Value.ownBlock] using hq
   subst hqg;exact (hoth g (by omega)).trans ((Below.heap_setCell _ _ _ _ hne).trans (HG2.out.block g hgl (by simp)))
 · exact (hoth b (by omega)).trans ((Below.heap_setCell _ _ _ _ h1).trans (HG2.out.block b hb (by simp)))
end Go.Proofs.YtkgncijcnlfhiaaGreat
