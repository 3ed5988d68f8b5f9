import Derived.Test.YtkgncijcnlfhiaaGreatV1
import Derived.Test.YtkgncijcnlfhiaaGreatMa
namespace Go.Proofs.YtkgncijcnlfhiaaGreat
set_option maxRecDepth 100000
set_option maxHeartbeats 2000000
set_option linter.unusedVariables false
set_option linter.unusedSimpArgs false
open Go.RowKit
attribute [local go_sem ↓] Go.wp_at_zero Go.wp_at_succ
theorem Tryz.infVal:(Tryz.prog.info? 183).map (fun i=>(i.zero,i.size,i.bytes))=some (some (.agg #[.int .i64 0,.pointer none]),2,16):=by kernel_rfl
theorem Tryz.uVal:Tryz.prog.underlying 177=some (.slice 183):=by kernel_rfl
def kd(w:World)(fb:Nat)(vc:Value)(pos:Int)(vs vk:Value):Prop:=w.heap[fb]? =some (.cells #[vc,.int .i64 pos,vs,vk] 180 (0,0))
structure zH(w w':World)(a:Nat)(o:Option Nat):Prop where
 os:w'.os=w.os
 tape:w'.tape=w.tape
 output:w'.output=w.output
 size:w.heap.size≤w'.heap.size
 blk:∀b,b < w.heap.size→¬b=a→¬o=some b→w'.heap[b]? =w.heap[b]?
def Al(w:World)(fb:Nat)(vc:Value)(pos:Int)(vs vk:Value)(n:Nat)(xs:List Value)(num:Int)(ptr:Value)(x:Ending)(w':World):Prop:=∃vk',x=.returned (.tuple #[])∧kd w' fb vc pos vs vk'∧w'.ownsRow 0 183 2 vk' (n+1) (xs++ [.int .i64 num,ptr])∧(vk'.ownBlock=vk.ownBlock∨∃k,vk'.ownBlock=some k∧w.heap.size≤k)∧zH w w' fb vk.ownBlock
theorem wT(w:World)(fb:Nat)(vc:Value)(pos:Int)(vs vk:Value)(n:Nat)(xs:List Value)(num:Int)(p:Option Addr)(hF:kd w fb vc pos vs vk)(ho:w.ownsRow 0 183 2 vk n xs)(hne:¬vk.ownBlock=some fb)(hn:n≤100000):
 Calls Tryz.prog 103 #[.pointer (some ⟨fb,0,none⟩),.agg #[.int .i64 num,.pointer p]] w (Al w fb vc pos vs vk n xs num (.pointer p)):=by
 obtain ⟨ka,kc,rfl⟩:=aL ho;have hfb:fb < w.heap.size:=(Array.getElem?_eq_some_iff.1 hF).1;have HF:=aH hF;have HO:=aH ho;have g1:=(Gr.refl w).alloc (.cells #[.int .i64 num,.pointer p] 183);have HG1:=aH g1;have hb1:=heap_alloc_new w (.cells #[.int .i64 num,.pointer p] 183);have KS:Hid (∀w',Gr (w.alloc (.cells #[.int .i64 num,.pointer p] 183)) w'→w'.cell? ⟨fb,3,none⟩=some (.slice ka n kc)∧w'.cell? ⟨w.heap.size,0,none⟩=some (.int .i64 num)∧w'.cell? ⟨w.heap.size,1,none⟩=some (.pointer p)):=aH (fun w' g=>by
  have e0:=((g1.trans g).block fb hfb (by simp)).trans hF;have e1:w'.heap[w.heap.size]? =_:=(g.block w.heap.size (by simp) (by simp)).trans hb1;exact ⟨by rw [aI e0];rfl,by rw [aI e1];rfl,by rw [aI e1];rfl⟩)
 clear hF ho g1 hb1;go_enter Tryz.func103,Tryz.ntmps103
 go_upto_region 1 with fail
 generalize hW1:w.alloc (.cells #[.int .i64 num,.pointer p] 183)=W1 at KS HG1 ⊢;have HS1:Hid (W1.heap.size=w.heap.size+1):=aH (by rw [←hW1];simp);clear hW1;refine cH 10 (S:=(fun w'=>w'.cell? ⟨fb,3,none⟩=some (.slice ka n kc)∧w'.cell? ⟨w.heap.size,0,none⟩=some (.int .i64 num)∧w'.cell? ⟨w.heap.size,1,none⟩=some (.pointer p))) (by kernel_rfl) (KS.out _ (Gr.drew (Gr.refl _))) (fun hH=>?_);refine tZ 0 ?_;simp only [Act.put,sA,s0,s1];refine tZ 1 ?_;simp only [Act.put,sA,s0,s1];refine tZ 2 ?_;simp only [Act.put,sA,s0,s1];refine tZ 3 ?_;simp only [Act.put,sA,s0,s1];refine tZ 4 ?_;simp only [Act.put,sA,s0,s1];refine tZ 5 ?_;simp only [Act.put,sA,s0,s1];refine cT (i:=6) rfl (by kernel_rfl) (fun K hK=>?_);refine ae (by rfl) ?_;have HK:=aH hK;clear hK;go_simp
 refine HK.out _ _ (fun _=>KS.out _ ((Gr.drew (Gr.refl _)).alloc _)) (fun hH=>?_);replace hH:=hH (by decide);clear HK;try simp only [Act.put,sA,s0,s1]
 obtain ⟨v6,w6,hr6,ho6,hg6,hl6⟩:=dC (ty:=177) 177 183 _ Tryz.infVal Tryz.uVal rfl (by decide) (by decide) (cY HO.out (HG1.out.trans ((Gr.drew (Gr.refl W1)).alloc (.cells #[.int .i64 num,.pointer p] 183)))) (eD W1.drew #[.int .i64 num,.pointer p] 183 1) rfl (by intro q hq;simp at hq;rcases hq with rfl|rfl<;>rfl) (by omega) (Nat.zero_le _)
 obtain ⟨ka6,kc6,rfl⟩:=aL ho6;have gA:=HG1.out.trans ((Gr.drew (Gr.refl W1)).alloc (.cells #[.int .i64 num,.pointer p] 183));have hB6:∀b,b < w.heap.size→¬(Value.slice ka n kc).ownBlock=some b→w6.heap[b]? =w.heap[b]? :=fun b hb h2=>(hg6.block b (Nat.lt_of_lt_of_le hb gA.size) (fun e=>h2 e.symm)).trans (gA.block b hb (by simp))
 have hfb6:=(hB6 fb hfb hne).trans HF.out;have hc6:w6.cell? ⟨fb,3,none⟩=some (.slice ka n kc):=by rw [aI hfb6];rfl
 have hz6:w6.frozen? ⟨fb,3,none⟩=false:=aR hfb6;have HB6:=aH hB6;have HFB:=aH hfb6;have HO6:=aH ho6;have HL6:=aH hl6;have HE6:=aH (And.intro (hg6.os.trans gA.os) (And.intro (hg6.tape.trans gA.tape) (hg6.output.trans gA.output)));have HS6:=aH hg6.size;have HS6b:Hid ((W1.drew.alloc (.cells #[.int .i64 num,.pointer p] 183)).heap.size=W1.heap.size+1):=aH (by show (W1.heap.push _).size=_;simp);have HN6:Hid (¬(Value.slice ka6 (n+1) kc6).ownBlock=some fb):=aH (fun e=>by
  rcases hl6 with h|h
  · exact hne (h.symm.trans e)
  · rw [e] at h;have:=Option.some.inj h;have:=HS6b.out;have:=HS1.out;omega)
 have KS6:Hid (w6.cell? ⟨fb,3,none⟩=some (.slice ka n kc)∧w6.cell? ⟨w.heap.size,0,none⟩=some (.int .i64 num)∧w6.cell? ⟨w.heap.size,1,none⟩=some (.pointer p)):=aH (by
  obtain ⟨s0,s1,s2⟩:=KS.out _ ((Gr.drew (Gr.refl W1)).alloc (.cells #[.int .i64 num,.pointer p] 183));have hq:¬(Value.slice ka n kc).ownBlock=some w.heap.size:=fun e=>by have:=(HO.out.lt _ e).2;omega
  exact ⟨hc6,hg6.cell s1 (fun e=>hq e.symm),hg6.cell s2 (fun e=>hq e.symm)⟩)
 refine cT (i:=7) rfl (by kernel_rfl) (fun K hK=>?_);refine ae (by rfl) (Lib.wp_append_run _ _ _ _ _ rfl (.slice ka n kc) (.slice (some ⟨W1.heap.size,0,none⟩) 1 1) (by simp [Act.eval]) (by simp [Act.eval]) _ _ hr6 ?_);refine hK.out _ _ (fun _=>KS6.out) (fun hH=>?_);replace hH:=hH (by decide);clear hK;try simp only [Act.put,sA,s0,s1]
 refine cT (i:=8) rfl (by kernel_rfl) (fun K hK=>?_);refine ae (by rfl) ?_;have HK:=aH hK;clear hK;go_simp
 refine HK.out _ _ (fun _=>KS6.out) (fun hH=>?_);replace hH:=hH (by decide);clear HK;try simp only [Act.put,sA,s0,s1]
 refine tZ 9 ?_;simp only [Act.put,sA,s0,s1];refine cT (i:=10) rfl (by kernel_rfl) (fun K hK=>?_);refine ae (by rfl) ?_;have HK:=aH hK;clear hK;go_simp
 refine HK.out _ _ (fun h=>absurd rfl h) (fun _=>?_);clear HK;try simp only [Act.put,sA,s0,s1]
 refine iR (by kernel_rfl) ?_ _;clear hH KS;go_wp2_with fail
 go_end0
 refine ⟨.slice ka6 (n+1) kc6,rfl,?_,?_,?_,⟨HE6.out.1,HE6.out.2.1,HE6.out.2.2,by have:=HS6.out;have:=HS1.out;have:=HS6b.out;simp;omega,fun b hb h1 h2=>?_⟩⟩
 · exact (heap_setCell_same w6 fb 3 _ _ _ HFB.out).trans (by simp)
 · exact bX HO6.out (fun q hq=>Below.heap_setCell _ _ _ _ (by show q≠fb;exact fun e=>HN6.out (e▸hq)))
 · rcases HL6.out with e|e
   · exact .inl e
   · exact .inr ⟨_,e,by have:=HS6b.out;have:=HS1.out;omega⟩
 · rw [Below.heap_setCell _ _ _ _ (by show b≠fb;exact h1)];exact HB6.out b hb h2
def Ao(w:World)(fb:Nat)(vc:Value)(pos:Int)(vs:Value)(g n cap:Nat)(xs:List Value)(num:Int)(ptr:Value)(x:Ending)(w':World):Prop:=x=.returned (.agg #[.int .i64 num,ptr])∧kd w' fb vc pos vs (.slice (some ⟨g,0,none⟩) n cap)∧w'.ownsRow 0 183 2 (.slice (some ⟨g,0,none⟩) n cap) n xs∧zH w w' fb none
theorem xk(w:World)(fb:Nat)(vc:Value)(pos:Int)(vs:Value)(g n cap:Nat)(xs:List Value)(num:Int)(p:Option Addr)(hF:kd w fb vc pos vs (.slice (some ⟨g,0,none⟩) (n+1) cap))(ho:w.ownsRow 0 183 2 (.slice (some ⟨g,0,none⟩) (n+1) cap) (n+1) (xs++ [.int .i64 num,.pointer p]))(hx:xs.length=n * 2)(hne:¬g=fb)(hn:n≤100000):
 Calls Tryz.prog 100 #[.pointer (some ⟨fb,0,none⟩)] w (Ao w fb vc pos vs g n cap xs num (.pointer p)):=by
 have hfb:fb < w.heap.size:=(Array.getElem?_eq_some_iff.1 hF).1;have hcap:n+1≤cap:=by
  rcases ho.2 with ⟨h,_⟩|⟨g',cap',cur,e,_,_,h,_⟩
  · cases h
  · simp only [Value.slice.injEq,true_and] at e;omega
 have c0:w.cell? ⟨g,n * 2,none⟩=some (.int .i64 num):=by rw [ho.cellAt _ (by omega),List.getElem?_append_right (by omega),hx,Nat.sub_self];rfl
 have c1:w.cell? ⟨g,n * 2+1,none⟩=some (.pointer p):=by rw [ho.cellAt _ (by omega),List.getElem?_append_right (by omega),hx,show n * 2+1 - n * 2=1 by omega];rfl
 have f3:w.cell? ⟨fb,3,none⟩=some (.slice (some ⟨g,0,none⟩) (n+1) cap):=by rw [aI hF];rfl
 have z3:w.frozen? ⟨fb,3,none⟩=false:=aR hF;have HF:=aH hF;have HO:=aH (ownsRow_pop hx ho);have HX:=aH hx;have hw1:IntKind.i64.wrap ((n:Int)+1 - 1)=(n:Int):=by rw [Go.IntWalk.i64_in _ (by omega)];omega
 have hw2:IntKind.i64.wrap (((n+1:Nat):Int) - 1)=(n:Int):=by rw [Go.IntWalk.i64_in _ (by omega)];omega
 have hw3:IntKind.i64.wrap (n:Int)=(n:Int):=Go.IntWalk.i64_in _ (by omega);have hni:(n:Int) < (n:Int)+1:=by omega
 have hnc:(n:Int)≤(cap:Int):=by omega
 have hncn:n≤cap:=by omega
 clear hF ho hx;have g1:=(Gr.refl w).alloc (.cells #[.int .i64 0,.pointer none] 183);have hb1:=heap_alloc_new w (.cells #[.int .i64 0,.pointer none] 183);have g2:Gr (w.alloc (.cells #[.int .i64 0,.pointer none] 183)) ((w.alloc (.cells #[.int .i64 0,.pointer none] 183)).alloc (.cells #[.int .i64 num,.pointer p] 183)):=(Gr.refl _).alloc _;have hb2:((w.alloc (.cells #[.int .i64 0,.pointer none] 183)).alloc (.cells #[.int .i64 num,.pointer p] 183)).heap[w.heap.size+1]? =some (.cells #[.int .i64 num,.pointer p] 183 (0,0)):=by
  have h:=heap_alloc_new (w.alloc (.cells #[.int .i64 0,.pointer none] 183)) (.cells #[.int .i64 num,.pointer p] 183);have e:(w.alloc (.cells #[.int .i64 0,.pointer none] 183)).heap.size=w.heap.size+1:=by simp
  rw [e] at h;exact h
 have k0:=g1.cell c0 (by simp);have k1:=g1.cell c1 (by simp);have k3:=g1.cell f3 (by simp);have HG2:=aH (g1.trans g2);have HB1:=aH ((g2.block w.heap.size (by simp) (by simp)).trans hb1);have HB2:=aH hb2;have HF2:=aH (((g1.trans g2).block fb hfb (by simp)).trans HF.out);clear g1 hb1 g2 hb2 c0 c1 f3 z3;go_enter Tryz.func100,Tryz.ntmps100
 go_upto_region 1 with fail
 generalize hW1:w.alloc (.cells #[.int .i64 0,.pointer none] 183)=W1 at k0 k1 k3 HG2 HB1 HB2 HF2 ⊢;have hs1:W1.heap.size=w.heap.size+1:=by rw [←hW1];simp
 clear hW1;go_upto_region 3 with fail
 generalize W1.alloc (.cells #[.int .i64 num,.pointer p] 183)=W2 at HG2 HB1 HB2 HF2 ⊢;have m3:W2.cell? ⟨fb,3,none⟩=some (.slice (some ⟨g,0,none⟩) (n+1) cap):=by rw [aI HF2.out];rfl
 have mz:W2.frozen? ⟨fb,3,none⟩=false:=aR HF2.out;have r0:W2.cell? ⟨w.heap.size,0,none⟩=some (.int .i64 0):=by rw [aI HB1.out];rfl
 have r1:W2.cell? ⟨w.heap.size,1,none⟩=some (.pointer none):=by rw [aI HB1.out];rfl
 have q0:W2.frozen? ⟨w.heap.size,0,none⟩=false:=aR HB1.out;have q1:W2.frozen? ⟨w.heap.size,1,none⟩=false:=aR HB1.out;have v0:W2.cell? ⟨w.heap.size+1,0,none⟩=some (.int .i64 num):=by rw [aI HB2.out];rfl
 have v1:W2.cell? ⟨w.heap.size+1,1,none⟩=some (.pointer p):=by rw [aI HB2.out];rfl
 have hd1:¬fb=w.heap.size:=by omega
 have hd2:¬w.heap.size=fb:=by omega
 have hd3:¬fb=w.heap.size+1:=by omega
 have hd4:¬w.heap.size+1=fb:=by omega
 clear k0 k1 k3 hs1;go_wp2_with fail
 have e0:=heap_setCell_same W2 fb 3 _ _ (.slice (some ⟨g,0,none⟩) n cap) HF2.out;have hoth:∀b,¬b=w.heap.size→(((W2.setCell ⟨fb,3,none⟩ (.slice (some ⟨g,0,none⟩) n cap)).setCell ⟨w.heap.size,0,none⟩ (.int .i64 num)).setCell ⟨w.heap.size,1,none⟩ (.pointer p)).heap[b]? =(W2.setCell ⟨fb,3,none⟩ (.slice (some ⟨g,0,none⟩) n cap)).heap[b]? :=fun b hb=>(Below.heap_setCell _ _ _ _ hb).trans (Below.heap_setCell _ _ _ _ hb)
 have e1:(W2.setCell ⟨fb,3,none⟩ (.slice (some ⟨g,0,none⟩) n cap)).heap[w.heap.size]? =_:=(Below.heap_setCell _ _ _ _ hd2).trans HB1.out;have e2:=heap_setCell_same _ w.heap.size 1 _ _ (.pointer p) (heap_setCell_same _ w.heap.size 0 _ _ (.int .i64 num) e1);have t0:(((W2.setCell ⟨fb,3,none⟩ (.slice (some ⟨g,0,none⟩) n cap)).setCell ⟨w.heap.size,0,none⟩ (.int .i64 num)).setCell ⟨w.heap.size,1,none⟩ (.pointer p)).cell? ⟨w.heap.size,0,none⟩=some (.int .i64 num):=by rw [aI e2];rfl
 have t1:(((W2.setCell ⟨fb,3,none⟩ (.slice (some ⟨g,0,none⟩) n cap)).setCell ⟨w.heap.size,0,none⟩ (.int .i64 num)).setCell ⟨w.heap.size,1,none⟩ (.pointer p)).cell? ⟨w.heap.size,1,none⟩=some (.pointer p):=by rw [aI e2];rfl
 have hgl:g < w.heap.size:=(HO.out.lt g rfl).2;refine bodyPost_ret (v:=.agg #[.int .i64 num,.pointer p]) (by simp [results,Tryz.results100,go_sem,t0,t1]) rfl ?_;refine ⟨rfl,?_,?_,⟨HG2.out.os,HG2.out.tape,HG2.out.output,by have:=HG2.out.size;simp;omega,fun b hb h1 _=>?_⟩⟩
 · exact (hoth fb hd1).trans (e0.trans (by simp))
 · refine bX HO.out (fun q hq=>?_);have hqg:g=q:=by simpa [Value.ownBlock] using hq
   subst hqg;exact (hoth g (by omega)).trans ((Below.heap_setCell _ _ _ _ hne).trans (HG2.out.block g hgl (by simp)))
 · exact (hoth b (by omega)).trans ((Below.heap_setCell _ _ _ _ h1).trans (HG2.out.block b hb (by simp)))
open Go.RowKit
attribute [local go_sem ↓] Go.wp_at_zero Go.wp_at_succ
def eJ(b:Bool):Int:=if b then 1 else 0
theorem kU(b:Bool)(w:World):Calls Tryz.prog 137 #[.bool b] w fun x w'=>x=.returned (.agg #[.int .i64 (eJ b),.pointer none])∧Gr w w':=by
 cases b
 · go_enter Tryz.func137,Tryz.ntmps137
   go_wp2_with fail
   exact bodyPost_ret (v:=.agg #[.int .i64 0,.pointer none]) (by simp [results,Tryz.results137,go_sem]) rfl ⟨rfl,(Gr.refl _).alloc _⟩
 · go_enter Tryz.func137,Tryz.ntmps137
   go_wp2_with fail
   exact bodyPost_ret (v:=.agg #[.int .i64 1,.pointer none]) (by simp [results,Tryz.results137,go_sem]) rfl ⟨rfl,(Gr.refl _).alloc _⟩
def gh(op x y:Int):Int:=if op=6 then wrap64 (x+y) else if op=7 then wrap64 (x - y) else if op=8 then wrap64 (x * y) else if op=9 then eJ (decide (x < y)) else eJ (decide (x=y))
theorem fi(n:Nat)(w:World)(hn:n≤100000):Calls Tryz.prog 135 #[.int .i64 (n:Int)] w fun x w'=>x=.returned (.int .i64 ((n:Int)+1))∧w'=w:=by
 have hw:IntKind.i64.wrap ((n:Int)+1)=(n:Int)+1:=Go.IntWalk.i64_in _ (by omega);go_enter Tryz.func135,Tryz.ntmps135
 go_wp2_with fail
 go_ret
 exact ⟨rfl,rfl⟩
theorem nY(op x y:Int)(w:World):Calls Tryz.prog 138 #[.int .i64 op,.int .i64 x,.int .i64 y] w fun r w'=>r=.returned (.agg #[.int .i64 (gh op x y),.pointer none])∧Gr w w':=by
 by_cases h6:op=6
 · subst h6;go_enter Tryz.func138,Tryz.ntmps138
   go_wp2_with fail
   exact bodyPost_ret (v:=.agg #[.int .i64 (wrap64 (x+y)),.pointer none]) (by simp [results,Tryz.results138,go_sem]) rfl ⟨by simp [gh],(Gr.refl _).alloc _⟩
 · have d6:(op == 6)=false:=by simpa using h6
   by_cases h7:op=7
   · subst h7;go_enter Tryz.func138,Tryz.ntmps138
     go_wp2_with fail
     exact bodyPost_ret (v:=.agg #[.int .i64 (wrap64 (x - y)),.pointer none]) (by simp [results,Tryz.results138,go_sem]) rfl ⟨by simp [gh],(Gr.refl _).alloc _⟩
   · have d7:(op == 7)=false:=by simpa using h7
     by_cases h8:op=8
     · subst h8;go_enter Tryz.func138,Tryz.ntmps138
       go_wp2_with fail
       exact bodyPost_ret (v:=.agg #[.int .i64 (wrap64 (x * y)),.pointer none]) (by simp [results,Tryz.results138,go_sem]) rfl ⟨by simp [gh],(Gr.refl _).alloc _⟩
     · have d8:(op == 8)=false:=by simpa using h8
       by_cases h9:op=9
       · subst h9;have HE:Hid (gh 9 x y=eJ (decide (x < y))):=aH (by simp [gh]);go_enter Tryz.func138,Tryz.ntmps138
         go_wp2_with fail
         refine (kU _ _).mono ?_;rintro z w1 ⟨rfl,hg1⟩;have hb:=(hg1.block w.heap.size (by simp) (by simp)).trans (heap_alloc_new w (.cells #[.int .i64 0,.pointer none] 183));have r0:w1.cell? ⟨w.heap.size,0,none⟩=some (.int .i64 0):=by rw [aI hb];rfl
         have r1:w1.cell? ⟨w.heap.size,1,none⟩=some (.pointer none):=by rw [aI hb];rfl
         have q0:w1.frozen? ⟨w.heap.size,0,none⟩=false:=aR hb;have q1:w1.frozen? ⟨w.heap.size,1,none⟩=false:=aR hb;have HGG:=aH (((Gr.refl w).alloc _).trans hg1);have e2:=heap_setCell_same _ w.heap.size 1 _ _ (.pointer none) (heap_setCell_same _ w.heap.size 0 _ _ (.int .i64 (eJ (decide (x < y)))) hb);have HE2:=aH e2;clear hb hg1 e2;generalize eJ (decide (x < y))=tv at HE HE2 ⊢;go_wp2_with fail
         have t0:((w1.setCell ⟨w.heap.size,0,none⟩ (.int .i64 tv)).setCell ⟨w.heap.size,1,none⟩ (.pointer none)).cell? ⟨w.heap.size,0,none⟩=some (.int .i64 tv):=by rw [aI HE2.out];rfl
         have t1:((w1.setCell ⟨w.heap.size,0,none⟩ (.int .i64 tv)).setCell ⟨w.heap.size,1,none⟩ (.pointer none)).cell? ⟨w.heap.size,1,none⟩=some (.pointer none):=by rw [aI HE2.out];rfl
         refine bodyPost_ret (v:=.agg #[.int .i64 tv,.pointer none]) (by simp [results,Tryz.results138,go_sem,t0,t1]) rfl ⟨by rw [HE.out],?_⟩;exact kQ (kQ HGG.out (Nat.le_refl _)) (Nat.le_refl _)
       · have d9:(op == 9)=false:=by simpa using h9
         have HE:Hid (gh op x y=eJ (decide (x=y))):=aH (by simp [gh,h6,h7,h8,h9]);have hbe:(x == y)=decide (x=y):=by cases h:decide (x=y)<;>simp_all
         go_enter Tryz.func138,Tryz.ntmps138
         go_wp2_with fail
         refine (kU _ _).mono ?_;rintro z w1 ⟨rfl,hg1⟩;have hb:=(hg1.block w.heap.size (by simp) (by simp)).trans (heap_alloc_new w (.cells #[.int .i64 0,.pointer none] 183));have r0:w1.cell? ⟨w.heap.size,0,none⟩=some (.int .i64 0):=by rw [aI hb];rfl
         have r1:w1.cell? ⟨w.heap.size,1,none⟩=some (.pointer none):=by rw [aI hb];rfl
         have q0:w1.frozen? ⟨w.heap.size,0,none⟩=false:=aR hb;have q1:w1.frozen? ⟨w.heap.size,1,none⟩=false:=aR hb;have HGG:=aH (((Gr.refl w).alloc _).trans hg1);have e2:=heap_setCell_same _ w.heap.size 1 _ _ (.pointer none) (heap_setCell_same _ w.heap.size 0 _ _ (.int .i64 (eJ (decide (x=y)))) hb);have HE2:=aH e2;clear hb hg1 e2;generalize eJ (decide (x=y))=tv at HE HE2 ⊢;go_wp2_with fail
         have t0:((w1.setCell ⟨w.heap.size,0,none⟩ (.int .i64 tv)).setCell ⟨w.heap.size,1,none⟩ (.pointer none)).cell? ⟨w.heap.size,0,none⟩=some (.int .i64 tv):=by rw [aI HE2.out];rfl
         have t1:((w1.setCell ⟨w.heap.size,0,none⟩ (.int .i64 tv)).setCell ⟨w.heap.size,1,none⟩ (.pointer none)).cell? ⟨w.heap.size,1,none⟩=some (.pointer none):=by rw [aI HE2.out];rfl
         refine bodyPost_ret (v:=.agg #[.int .i64 tv,.pointer none]) (by simp [results,Tryz.results138,go_sem,t0,t1]) rfl ⟨by rw [HE.out],?_⟩;exact kQ (kQ HGG.out (Nat.le_refl _)) (Nat.le_refl _)
structure PV where
 num:Int
 blk:Option Nat
structure dA where
 fn:Nat
 pos:Nat
 slots:List PV
 stack:List PV
structure PM where
 top:dA
 low:List dA
 blks:List (List PV)
 taken:Nat
 told:List Int
def i_:PV:=⟨0,none⟩
def fS(n:Nat):List PV:=List.replicate n i_
def fx:List dA→List (List PV)
 | []=> []
 | f :: l=>fx l++ [f.slots,f.stack]
structure sC where
 mark:Nat→Bool
 all:Nat
 wt:List (List PV)
def cr(bs:List (List PV)):List PV→sC→sC
 | [],st=>st
 | v :: vs,st=>
  match v.blk with
  | none=>cr bs vs st
  | some j=>if st.mark j then cr bs vs st else cr bs vs ⟨fun k=>decide (k=j) || st.mark k,st.all+((bs.getD j []).length+1),st.wt++ [bs.getD j []]⟩
def cK(bs:List (List PV)):Nat→sC→sC
 | 0,st=>st
 | n+1,st=>
  match st.wt.getLast? with
  | none=>st
  | some r=>cK bs n (cr bs r ⟨st.mark,st.all,st.wt.dropLast⟩)
def oM(m:PM):Nat:=(cK m.blks (m.blks.length+(fx (m.top :: m.low)).length+1) ⟨fun _=>false,0,fx (m.top :: m.low)⟩).all
inductive vS where
 | go (m:PM)
 | stop (why res:Int) (m:PM)
def dA.behind(x:dA)(s:List PV):dA:=⟨x.fn,x.pos+1,x.slots,s⟩
def PM.on(m:PM)(s:List PV):vS:=.go ⟨m.top.behind s,m.low,m.blks,m.taken,m.told⟩
def fP(u:aK)(heap:Nat)(m:PM)(i:aw):vS:=
 let x:=m.top
 let s:=x.stack
 let n:=s.length
 let t:=s.getD (n - 1) i_
 let o:=s.take (n - 1)
 if i.op=0 then m.on (s++ [⟨u.aD.getD i.a.toNat 0,none⟩])
 else if i.op=1 then m.on (s++ [⟨i.a,none⟩])
 else if i.op=2 then m.on (s++ [x.slots.getD i.a.toNat i_])
 else if i.op=3 then .go ⟨⟨x.fn,x.pos+1,x.slots.set i.a.toNat t,o⟩,m.low,m.blks,m.taken,m.told⟩
 else if i.op=4 then m.on o
 else if i.op=5 then m.on (s++ [t])
 else if i.op=11 then .go ⟨⟨x.fn,i.a.toNat,x.slots,s⟩,m.low,m.blks,m.taken,m.told⟩
 else if i.op=12 then (if t.num=0 then .go ⟨⟨x.fn,i.a.toNat,x.slots,o⟩,m.low,m.blks,m.taken,m.told⟩ else m.on o)
 else if i.op=13 then
  (if m.low.length=99 then .stop 9 0 m
  else match u.aE[i.a.toNat]? with
   | none=>.stop 0 0 m
   | some g=>.go ⟨⟨i.a.toNat,0,s.drop (n - g.aF.length)++fS g.aG.length,[]⟩,⟨x.fn,x.pos,x.slots,s.take (n - g.aF.length)⟩ :: m.low,m.blks,m.taken,m.told⟩)
 else if i.op=14 then
  (match m.low with
  | []=>.stop 6 t.num m
  | y :: l=>.go ⟨y.behind (y.stack++ [t]),l,m.blks,m.taken,m.told⟩)
 else if i.op=15 then
  (let k:=(u.aA.getD (i.a - 1).toNat []).length
  let tk:=if m.taken+(k+1) > heap then oM m else m.taken
  if tk+(k+1)≤heap then .go ⟨x.behind (s.take (n - k)++ [⟨0,some m.blks.length⟩]),m.low,m.blks++ [s.drop (n - k)],tk+(k+1),m.told⟩ else .stop 8 0 m)
 else if i.op=16 then
  (match t.blk with
  | none=>.stop 10 0 m
  | some j=>m.on (o++ [(m.blks.getD j []).getD i.b.toNat i_]))
 else if i.op=17 then
  (match (s.getD (n - 2) i_).blk with
  | none=>.stop 10 0 m
  | some j=>.go ⟨x.behind (s.take (n - 2)),m.low,m.blks.set j ((m.blks.getD j []).set i.b.toNat t),m.taken,m.told⟩)
 else if i.op=18 then m.on (s++ [i_])
 else if i.op=19 then m.on (o++ [⟨eJ t.blk.isNone,none⟩])
 else if i.op=20 then .go ⟨x.behind o,m.low,m.blks,m.taken,if m.told.length < 1000 then m.told++ [t.num] else m.told⟩
 else m.on (s.take (n - 2)++ [⟨gh i.op (s.getD (n - 2) i_).num t.num,none⟩])
def oa(u:aK)(x:dA):Option aw:=match u.aE[x.fn]? with
 | none=>none
 | some f=>f.code[x.pos]?
def dI(u:aK)(heap:Nat)(m:PM):vS:=match oa u m.top with
 | none=>.stop 0 0 m
 | some i=>fP u heap m i
def qG(σ:List Int)(k:Int)(v:PV):Prop:=∀j,v.blk=some j→k≠0∧σ[j]? =some k
def e_(σ:List Int)(ks:List Int)(vs:List PV):Prop:=ks.length=vs.length∧∀(i:Nat) (k:Int) (v:PV),ks[i]? =some k→vs[i]? =some v→qG σ k v
theorem qG.zero(σ:List Int)(k:Int):qG σ k i_:=fun j h=>by cases h
theorem qG.num(σ:List Int)(k n:Int):qG σ k ⟨n,none⟩:=fun j h=>by cases h
theorem qG.more{σ:List Int}{k:Int}{v:PV}(h:qG σ k v)(a:Int):qG (σ++ [a]) k v:=fun j hj=>by
 obtain ⟨h1,h2⟩:=h j hj;exact ⟨h1,by rw [List.getElem?_append_left (List.getElem?_eq_some_iff.1 h2).1];exact h2⟩
theorem e_.more{σ:List Int}{ks:List Int}{vs:List PV}(h:e_ σ ks vs)(a:Int):e_ (σ++ [a]) ks vs:=⟨h.1,fun i k v h1 h2=>(h.2 i k v h1 h2).more a⟩
theorem e_.nil(σ:List Int):e_ σ [] []:=⟨rfl,fun i k v h=>by simp at h⟩
theorem e_.app{σ:List Int}{ks ks':List Int}{vs vs':List PV}(h:e_ σ ks vs)(h':e_ σ ks' vs'):e_ σ (ks++ks') (vs++vs'):=by
 refine ⟨by simp [h.1,h'.1],fun i k v h1 h2=>?_⟩;by_cases hi:i < ks.length
 · rw [List.getElem?_append_left hi] at h1;rw [List.getElem?_append_left (h.1▸hi)] at h2;exact h.2 i k v h1 h2
 · rw [List.getElem?_append_right (by omega)] at h1;rw [List.getElem?_append_right (by rw [←h.1];omega),←h.1] at h2;exact h'.2 _ k v h1 h2
theorem e_.one{σ:List Int}{k:Int}{v:PV}(h:qG σ k v):e_ σ [k] [v]:=⟨rfl,fun i k' v' h1 h2=>by
 cases i with
 | zero=>simp at h1 h2;subst h1 h2;exact h
 | succ i=>simp at h1⟩
theorem e_.push{σ:List Int}{ks:List Int}{vs:List PV}{k:Int}{v:PV}(h:e_ σ ks vs)(hv:qG σ k v):e_ σ (ks++ [k]) (vs++ [v]):=h.app (.one hv)
theorem e_.take{σ:List Int}{ks:List Int}{vs:List PV}(h:e_ σ ks vs)(n:Nat):e_ σ (ks.take n) (vs.take n):=by
 refine ⟨by simp [h.1],fun i k v h1 h2=>?_⟩;rw [List.getElem?_take] at h1 h2;by_cases hi:i < n
 · rw [if_pos hi] at h1 h2;exact h.2 i k v h1 h2
 · rw [if_neg hi] at h1;cases h1
theorem e_.drop{σ:List Int}{ks:List Int}{vs:List PV}(h:e_ σ ks vs)(n:Nat):e_ σ (ks.drop n) (vs.drop n):=by
 refine ⟨by simp [h.1],fun i k v h1 h2=>?_⟩;rw [List.getElem?_drop] at h1 h2;exact h.2 _ k v h1 h2
theorem e_.get{σ:List Int}{ks:List Int}{vs:List PV}(h:e_ σ ks vs){i:Nat}{k:Int}(hk:ks[i]? =some k):∃v,vs[i]? =some v∧qG σ k v:=by
 have hl:=(List.getElem?_eq_some_iff.1 hk).1;have:i < vs.length:=h.1▸hl
 exact ⟨vs[i],List.getElem?_eq_getElem this,h.2 i k _ hk (List.getElem?_eq_getElem this)⟩
theorem e_.getD{σ:List Int}{ks:List Int}{vs:List PV}(h:e_ σ ks vs){i:Nat}{k:Int}(hk:ks[i]? =some k):qG σ k (vs.getD i i_):=by
 obtain ⟨v,hv,ho⟩:=h.get hk;rw [List.getD_eq_getElem?_getD,hv];exact ho
theorem e_.set{σ:List Int}{ks:List Int}{vs:List PV}(h:e_ σ ks vs){i:Nat}{k:Int}(hk:ks[i]? =some k){v:PV}(hv:qG σ k v):e_ σ ks (vs.set i v):=by
 refine ⟨by simp [h.1],fun j k' v' h1 h2=>?_⟩;rw [List.getElem?_set] at h2;by_cases e:i=j
 · subst e;rw [if_pos rfl] at h2;split at h2
   · rw [hk] at h1;cases h1;cases h2;exact hv
   · cases h2
 · rw [if_neg e] at h2;exact h.2 j k' v' h1 h2
theorem e_.zeros(σ:List Int)(ks:List Int):e_ σ ks (fS ks.length):=by
 refine ⟨by simp [fS],fun i k v h1 h2=>?_⟩;rw [fS,List.getElem?_replicate] at h2;split at h2
 · cases h2;exact .zero σ k
 · cases h2
structure pS(u:aK)(Ts:Nat→Nat→Option (List Int))(σ:List Int)(x:dA):Prop where
 fn:∃f s,u.aE[x.fn]? =some f∧Ts x.fn x.pos=some s∧e_ σ (f.aF++f.aG) x.slots∧e_ σ s x.stack∧s.length≤20
def nR(u:aK)(Ts:Nat→Nat→Option (List Int))(σ:List Int)(c:Nat)(x:dA):Prop:=∃f i g s,u.aE[x.fn]? =some f∧f.code[x.pos]? =some i∧i.op=13∧i.a.toNat=c∧u.aE[c]? =some g∧Ts x.fn x.pos=some s∧e_ σ (f.aF++f.aG) x.slots∧e_ σ (s.take (s.length - g.aF.length)) x.stack∧s.length≤20
def rI:Nat→List dA→Nat
 | c,[]=>c
 | _,y :: l=>rI y.fn l
def jv(u:aK)(Ts:Nat→Nat→Option (List Int))(σ:List Int):Nat→List dA→Prop
 | _,[]=>True
 | c,x :: l=>nR u Ts σ c x∧jv u Ts σ x.fn l
structure wq(u:aK)(Ts:Nat→Nat→Option (List Int))(σ:List Int)(m:PM):Prop where
 top:pS u Ts σ m.top
 low:jv u Ts σ m.top.fn m.low
 main:∃f,u.aE[rI m.top.fn m.low]? =some f∧f.result=0
 deep:m.low.length≤99
 aA:σ.length=m.blks.length
 blks:∀(j:Nat) (k:Int) (fs:List PV),σ[j]? =some k→m.blks[j]? =some fs→∃s,1≤k∧u.aA[(k - 1).toNat]? =some s∧e_ σ s fs
 told:m.told.length≤1000
theorem nR.more{u:aK}{Ts:Nat→Nat→Option (List Int)}{σ:List Int}{c:Nat}{x:dA}(h:nR u Ts σ c x)(a:Int):nR u Ts (σ++ [a]) c x:=by
 obtain ⟨f,i,g,s,h1,h2,h3,h4,h5,h6,h7,h8,h9⟩:=h;exact ⟨f,i,g,s,h1,h2,h3,h4,h5,h6,h7.more a,h8.more a,h9⟩
theorem jv.more{u:aK}{Ts:Nat→Nat→Option (List Int)}{σ:List Int}(a:Int):∀{l:List dA} {c:Nat},jv u Ts σ c l→jv u Ts (σ++ [a]) c l
 | [],_,_=>trivial
 | _ :: _,_,h=>⟨h.1.more a,jv.more a h.2⟩
structure vL(u:aK):Prop where
 func:∀f∈u.aE,f.aF.length≤6∧f.aG.length≤10∧1≤f.code.length∧f.code.length≤200∧(∀k∈f.aF,0≤k)∧(∀k∈f.aG,0≤k)∧0≤f.result∧∀i∈f.code,bH i=true
 shape:∀s∈u.aA,1≤s.length∧s.length≤8∧∀k∈s,0≤k
 few:u.aA.length≤20∧u.aD.length≤50∧u.aE.length≤30
 exps:u.aC.length≤20∧∀e∈u.aC,0≤e.func∧e.func < u.aE.length
theorem vL.of{u:aK}(h:ak u=true):vL u:=by
 unfold ak A9 dE cL b_ at h;simp only [Bool.and_eq_true,wB,decide_eq_true_eq] at h;obtain ⟨⟨hs1,hs2⟩,hc,⟨hf1,hf2⟩,_,⟨he1,he2⟩⟩:=h;refine ⟨fun f hf=>?_,fun s hs=>?_,by omega,by omega,fun e he=>?_⟩
 · have h:=List.all_eq_true.1 hf2 f hf;unfold c_ fG gI at h;simp only [Bool.and_eq_true,wB,decide_eq_true_eq,jT] at h;obtain ⟨⟨h1,h2,h3⟩,h4,h5,h6,h7⟩:=h;refine ⟨by omega,by omega,by omega,by omega,fun k hk=>?_,fun k hk=>?_,by omega,fun i hi=>List.all_eq_true.1 h7 i hi⟩
   · have:=List.all_eq_true.1 h2 k hk;simp [jT,wB] at this;omega
   · have:=List.all_eq_true.1 h5 k hk;simp [jT,wB] at this;omega
 · have h:=List.all_eq_true.1 hs2 s hs;unfold dj at h;simp only [Bool.and_eq_true,wB,decide_eq_true_eq] at h;refine ⟨by omega,by omega,fun k hk=>?_⟩;have:=List.all_eq_true.1 h.2 k hk;simp [jT,wB] at this;omega
 · have h:=List.all_eq_true.1 he2 e he;unfold gi at h;simp only [Bool.and_eq_true,wB,decide_eq_true_eq] at h;omega
theorem ra:∀{ts ss:List Int},(∀t∈ts,0≤t)→iN ts ss=true→ts=ss
 | [],[],_,_=>rfl
 | [],_ :: _,_,h=>by cases h
 | _ :: _,[],_,h=>by cases h
 | t :: ts,s :: ss,hn,h=>by
  rw [iN] at h;simp only [Bool.and_eq_true,Bool.or_eq_true,decide_eq_true_eq] at h;have h0:=hn t List.mem_cons_self;have e1:t=s:=by rcases h.1 with h|h<;>omega
  rw [e1,ra (fun k hk=>hn k (List.mem_cons_of_mem _ hk)) h.2]
inductive gn(u:aK)(f:aO)(i:aw):List Int→List Int→Prop
 | const:i.op=0→0≤i.a→i.a.toNat < u.aD.length→gn u f i [] [0]
 | small:i.op=1→gn u f i [] [0]
 | load (k:Int):i.op=2→0≤i.a→(f.aF++f.aG)[i.a.toNat]? =some k→gn u f i [] [k]
 | store (k:Int):i.op=3→0≤i.a→(f.aF++f.aG)[i.a.toNat]? =some k→gn u f i [k] []
 | pop (k:Int):i.op=4→gn u f i [k] []
 | dup (k:Int):i.op=5→gn u f i [k] [k,k]
 | reck:6≤i.op→i.op≤10→gn u f i [0,0] [0]
 | jump:i.op=11→0≤i.a→i.a.toNat < f.code.length→gn u f i [] []
 | zero:i.op=12→0≤i.a→i.a.toNat < f.code.length→gn u f i [0] []
 | call (g:aO):i.op=13→0≤i.a→u.aE[i.a.toNat]? =some g→gn u f i g.aF [g.result]
 | ret:i.op=14→gn u f i [f.result] []
 | new (s:List Int):i.op=15→1≤i.a→u.aA[(i.a - 1).toNat]? =some s→gn u f i s [i.a]
 | get (s:List Int) (k:Int):i.op=16→1≤i.a→0≤i.b→u.aA[(i.a - 1).toNat]? =some s→s[i.b.toNat]? =some k→gn u f i [i.a] [k]
 | set (s:List Int) (k:Int):i.op=17→1≤i.a→0≤i.b→u.aA[(i.a - 1).toNat]? =some s→s[i.b.toNat]? =some k→gn u f i [i.a,k] []
 | nil:i.op=18→1≤i.a→gn u f i [] [i.a]
 | isnil:i.op=19→1≤i.a→gn u f i [i.a] [0]
 | out:i.op=20→gn u f i [0] []
theorem lU{α:Type}{l:List α}(h:l.length=1):∃x,l= [x]:=by
 match l,h with
 | [x],_=>exact ⟨x,rfl⟩
theorem sT{u:aK}{f:aO}{i:aw}{s s':List Int}(hu:vL u)(him:u.aB= [])(hf:f∈u.aE)(hi:i∈f.code)(h:gE u f i s=some s'):
 ∃base ts ps,gn u f i ts ps∧s=base++ts∧s'=base++ps∧s'.length≤20∧(i.op=14→base= []):=by
 have hio:=(hu.func f hf).2.2.2.2.2.2.2 i hi;have hff:=hu.func f hf;have hsl:∀k∈f.aF++f.aG,0≤k:=fun k hk=>by
  rcases List.mem_append.1 hk with hk|hk
  · exact hff.2.2.2.2.1 k hk
  · exact hff.2.2.2.2.2.1 k hk
 unfold bH a9 at hio;simp only [Bool.and_eq_true,wB,decide_eq_true_eq] at hio;unfold gE at h;cases he:dJ u f i with
 | none=>rw [he] at h;cases h
 | some tp=>
  obtain ⟨ts,ps⟩:=tp;rw [he] at h;simp only at h;split at h
  · cases h
  · rename_i hl
    split at h
    · cases h
    · rename_i hfit
      have hfit:iN ts (s.drop (s.length - ts.length))=true:=by simpa using hfit
      split at h
      · rename_i hout
        have h:=Option.some.inj h;have hgen:(∀t∈ts,0≤t)→(∀p∈ps,0≤p)→gn u f i ts ps→∃base ts ps,gn u f i ts ps∧s=base++ts∧s'=base++ps∧s'.length≤20∧(i.op=14→base= []):=fun h1 h2 h3=>by
         have e1:=ra h1 hfit;have e2:(ps.map fun p=>if p < 0 then vX ts (s.drop (s.length - ts.length)) else p)=ps:=by
          conv=>rhs;rw [←List.map_id ps]
          exact List.map_congr_left (fun p hp=>by have:=h2 p hp;rw [if_neg (by omega)];rfl)
         rw [e2] at h hout;refine ⟨s.take (s.length - ts.length),ts,ps,h3,?_,h.symm,by rw [←h];exact hout.1,fun e=>?_⟩
         · conv=>lhs;rw [←List.take_append_drop (s.length - ts.length) s]
           rw [←e1]
         · rcases hout.2 with h|h
           · exact absurd e h
           · rw [h,Nat.sub_self,List.take_zero]
        have hop:i.op=0∨i.op=1∨i.op=2∨i.op=3∨i.op=4∨i.op=5∨(6≤i.op∧i.op≤10)∨i.op=11∨i.op=12∨i.op=13∨i.op=14∨i.op=15∨i.op=16∨i.op=17∨i.op=18∨i.op=19∨i.op=20:=by omega
        have hsk:∀(a:Nat) (k:Int),(f.aF++f.aG)[a]? =some k→0≤k:=fun a k e=>hsl k (List.mem_of_getElem? e)
        have hshp:∀(a:Nat) (sh:List Int),u.aA[a]? =some sh→∀k∈sh,0≤k:=fun a sh e=>(hu.shape sh (List.mem_of_getElem? e)).2.2
        unfold dJ at he;rcases hop with e|e|e|e|e|e|e|e|e|e|e|e|e|e|e|e|e
        · simp [e] at he
          simp [e,ah] at hio
          obtain ⟨h1,rfl,rfl⟩:=he;exact hgen (by simp) (by simp) (.const e (by omega) (by omega))
        · simp [e] at he
          obtain ⟨rfl,rfl⟩:=he;exact hgen (by simp) (by simp) (.small e)
        · simp [e] at he
          simp [e,ah] at hio
          obtain ⟨k,h1,rfl,rfl⟩:=he;exact hgen (by simp) (by simpa using hsk _ _ h1) (.load k e (by omega) h1)
        · simp [e] at he
          simp [e,ah] at hio
          obtain ⟨k,h1,rfl,rfl⟩:=he;exact hgen (by simpa using hsk _ _ h1) (by simp) (.store k e (by omega) h1)
        · simp [e] at he
          obtain ⟨rfl,rfl⟩:=he;simp only [List.length_cons,List.length_nil] at hl h hout hfit;obtain ⟨k,hk⟩:=lU (l:=s.drop (s.length - 1)) (by simp;omega);refine ⟨s.take (s.length - 1),[k],[],.pop k e,?_,by simpa using h.symm,by rw [←h];exact hout.1,fun e2=>by omega⟩;conv=>lhs;rw [←List.take_append_drop (s.length - 1) s]
          rw [hk]
        · simp [e] at he
          obtain ⟨rfl,rfl⟩:=he;simp only [List.length_cons,List.length_nil] at hl h hout hfit;obtain ⟨k,hk⟩:=lU (l:=s.drop (s.length - 1)) (by simp;omega);refine ⟨s.take (s.length - 1),[k],[k,k],.dup k e,?_,?_,by rw [←h];exact hout.1,fun e2=>by omega⟩
          · conv=>lhs;rw [←List.take_append_drop (s.length - 1) s]
            rw [hk]
          · rw [←h];simp [hk,vX]
        · have n0:¬i.op=0:=by omega
          have n1:¬i.op=1:=by omega
          have n2:¬i.op=2:=by omega
          have n3:¬i.op=3:=by omega
          have n4:¬i.op=4:=by omega
          have n5:¬i.op=5:=by omega
          have n6:i.op=6∨i.op=7∨i.op=8∨i.op=9∨i.op=10:=by omega
          simp only [n0,n1,n2,n3,n4,n5,n6,if_false,if_true,Option.some.injEq,Prod.mk.injEq] at he;obtain ⟨rfl,rfl⟩:=he;exact hgen (by simp) (by simp) (.reck e.1 e.2)
        · simp [e] at he
          simp [e,ah] at hio
          obtain ⟨h1,rfl,rfl⟩:=he;exact hgen (by simp) (by simp) (.jump e (by omega) (by omega))
        · simp [e] at he
          simp [e,ah] at hio
          obtain ⟨h1,rfl,rfl⟩:=he;exact hgen (by simp) (by simp) (.zero e (by omega) (by omega))
        · simp [e,him] at he
          simp [e,ah] at hio
          cases hg:u.aE[i.a.toNat]? with
          | none=>rw [hg] at he;simp at he
          | some g=>
           rw [hg] at he;simp at he
           obtain ⟨rfl,rfl⟩:=he;have hgg:=hu.func g (List.mem_of_getElem? hg);exact hgen hgg.2.2.2.2.1 (by simpa using hgg.2.2.2.2.2.2.1) (.call g e (by omega) hg)
        · simp [e] at he
          obtain ⟨rfl,rfl⟩:=he;exact hgen (by simpa using hff.2.2.2.2.2.2.1) (by simp) (.ret e)
        · generalize hq:(i.a - 1).toNat=q at he;by_cases h1:1≤i.a
          · cases h2:u.aA[q]? with
            | none=>simp [e,h2] at he
            | some sh=>
             simp [e,h1,h2] at he
             obtain ⟨rfl,rfl⟩:=he;exact hgen (hshp _ _ h2) (by simp;omega) (.new sh e h1 (hq▸h2))
          · simp [e,h1] at he
        · generalize hq:(i.a - 1).toNat=q at he;by_cases h1:1≤i.a
          · cases h2:u.aA[q]? with
            | none=>simp [e,h2] at he
            | some sh=>
             simp [e,h1,h2] at he
             simp [e,ah] at hio
             obtain ⟨k,h3,rfl,rfl⟩:=he;exact hgen (by simp;omega) (by simpa using hshp _ _ h2 k (List.mem_of_getElem? h3)) (.get sh k e h1 (by omega) (hq▸h2) h3)
          · simp [e,h1] at he
        · generalize hq:(i.a - 1).toNat=q at he;by_cases h1:1≤i.a
          · cases h2:u.aA[q]? with
            | none=>simp [e,h2] at he
            | some sh=>
             simp [e,h1,h2] at he
             simp [e,ah] at hio
             obtain ⟨k,h3,rfl,rfl⟩:=he;exact hgen (by have:=hshp _ _ h2 k (List.mem_of_getElem? h3);simp;omega) (by simp) (.set sh k e h1 (by omega) (hq▸h2) h3)
          · simp [e,h1] at he
        · generalize hq:(i.a - 1).toNat=q at he;by_cases h1:1≤i.a
          · cases h2:u.aA[q]? with
            | none=>simp [e,h2] at he
            | some sh=>
             simp [e,h1,h2] at he
             obtain ⟨rfl,rfl⟩:=he;exact hgen (by simp) (by simp;omega) (.nil e h1)
          · simp [e,h1] at he
        · generalize hq:(i.a - 1).toNat=q at he;by_cases h1:1≤i.a
          · cases h2:u.aA[q]? with
            | none=>simp [e,h2] at he
            | some sh=>
             simp [e,h1,h2] at he
             obtain ⟨rfl,rfl⟩:=he;exact hgen (by simp;omega) (by simp) (.isnil e h1)
          · simp [e,h1] at he
        · simp [e] at he
          obtain ⟨rfl,rfl⟩:=he;exact hgen (by simp) (by simp) (.out e)
      · cases h
end Go.Proofs.YtkgncijcnlfhiaaGreat
