import Derived.Test.YtkgncijcnlfhiabGreatV1
import Derived.Test.YtkgncijcnlfhiabGreatMa
namespace Go.Proofs.YtkgncijcnlfhiabGreat
set_option maxRecDepth 100000
set_option maxHeartbeats 2000000
set_option linter.unusedVariables false
set_option linter.unusedSimpArgs false
open Go.RowKit
attribute [local go_sem ↓] Go.wp_at_zero Go.wp_at_succ
theorem Tryz.infVal:(Tryz.prog.info? 166).map (fun i=>(i.zero,i.size,i.bytes))=some (some (.agg #[.int .i64 0,.pointer none]),2,16):=Q7
theorem Tryz.uVal:Tryz.prog.underlying 160=some (.slice 166):=Q7
def lW(w:World)(fb:Nat)(vc:Value)(pos:Int)(vs vk:Value):Prop:=w.heap[fb]? =some (.cells #[vc,.int .i64 pos,vs,vk] 163 (0,0))
structure At(w w':World)(a:Nat)(o:Option Nat):Prop where
 os:w'.os=w.os
 tape:w'.tape=w.tape
 output:w'.output=w.output
 size:w.heap.size<=w'.heap.size
 blk:∀b,b < w.heap.size->¬b=a->¬o=some b->w'.heap[b]? =w.heap[b]?
def CU(w:World)(fb:Nat)(vc:Value)(pos:Int)(vs vk:Value)(n:Nat)(xs:List Value)(num:Int)(ptr:Value)(x:Ending)(w':World):Prop:=∃vk',x=.returned (.tuple #[])/\lW w' fb vc pos vs vk'/\w'.ownsRow 0 166 2 vk' (n+1) (xs++ [.int .i64 num,ptr])/\(vk'.ownBlock=vk.ownBlock\/∃k,vk'.ownBlock=some k/\w.heap.size<=k)/\At w w' fb vk.ownBlock
theorem xo(w:World)(fb:Nat)(vc:Value)(pos:Int)(vs vk:Value)(n:Nat)(xs:List Value)(num:Int)(p:Option Addr)(hF:lW w fb vc pos vs vk)(ho:w.ownsRow 0 166 2 vk n xs)(hne:¬vk.ownBlock=some fb)(hn:n<=100000):
 Calls Tryz.prog 93 #[.pointer (some ⟨fb,0,none⟩),.agg #[.int .i64 num,.pointer p]] w (CU w fb vc pos vs vk n xs num (.pointer p)):=by
 obtain ⟨ka,kc,rfl⟩:=aL ho;have I_:fb < w.heap.size:=(Array.getElem?_eq_some_iff.1 hF).1;have HF:=aH hF;have HO:=aH ho;have g1:=(Gr.refl w).alloc (.cells #[.int .i64 num,.pointer p] 166);have I1:=aH g1;have Y0:=heap_alloc_new w (.cells #[.int .i64 num,.pointer p] 166);have KS:Hid (∀w',Gr (w.alloc (.cells #[.int .i64 num,.pointer p] 166)) w'->w'.cell? ⟨fb,3,none⟩=some (.slice ka n kc)/\w'.cell? ⟨w.heap.size,0,none⟩=some (.int .i64 num)/\w'.cell? ⟨w.heap.size,1,none⟩=some (.pointer p)):=aH (fun w' g=>by
  have e0:=((g1.trans g).block fb I_ Q6).trans hF;have e1:w'.heap[w.heap.size]? =_:=(g.block w.heap.size Q6 Q6).trans Y0;exact ⟨by rw [aJ e0];rfl,by rw [aJ e1];rfl,by rw [aJ e1];rfl⟩)
 clear hF ho g1 Y0;go_enter Tryz.func93,Tryz.ntmps93
 go_upto_region 1 with fail
 generalize Lm:w.alloc (.cells #[.int .i64 num,.pointer p] 166)=W1 at KS I1 |-;have W_:Hid (W1.heap.size=w.heap.size+1):=aH (by rw [<-Lm];simp);clear Lm;refine cJ 10 (S:=(fun w'=>w'.cell? ⟨fb,3,none⟩=some (.slice ka n kc)/\w'.cell? ⟨w.heap.size,0,none⟩=some (.int .i64 num)/\w'.cell? ⟨w.heap.size,1,none⟩=some (.pointer p))) Q7 (KS.out _ (Gr.drew (Gr.refl _))) (fun hH=>?_);refine tZ 0 ?_;simp only [Act.put,sA,s0,s1];refine tZ 1 ?_;simp only [Act.put,sA,s0,s1];refine tZ 2 ?_;simp only [Act.put,sA,s0,s1];refine tZ 3 ?_;simp only [Act.put,sA,s0,s1];refine tZ 4 ?_;simp only [Act.put,sA,s0,s1];refine tZ 5 ?_;simp only [Act.put,sA,s0,s1];refine cg (i:=6) rfl Q7 (fun K hK=>?_);refine ae cw ?_;have HK:=aH hK;clear hK;go_simp
 refine HK.out _ _ (fun _=>KS.out _ ((Gr.drew (Gr.refl _)).alloc _)) (fun hH=>?_);replace hH:=hH Q9;clear HK;try simp only [Act.put,sA,s0,s1]
 obtain ⟨v6,w6,Ma,T9,P2,G9⟩:=dK (ty:=160) 160 166 _ Tryz.infVal Tryz.uVal rfl Q9 Q9 (dA HO.out (I1.out.trans ((Gr.drew (Gr.refl W1)).alloc (.cells #[.int .i64 num,.pointer p] 166)))) (dx W1.drew #[.int .i64 num,.pointer p] 166 1) rfl (by intro q hq;simp at hq;rcases hq with rfl|rfl<;>rfl) Q5 (Nat.zero_le _)
 obtain ⟨MK,NK,rfl⟩:=aL T9;have gA:=I1.out.trans ((Gr.drew (Gr.refl W1)).alloc (.cells #[.int .i64 num,.pointer p] 166));have hB6:∀b,b < w.heap.size->¬(Value.slice ka n kc).ownBlock=some b->w6.heap[b]? =w.heap[b]? :=fun b hb h2=>(P2.block b (Nat.lt_of_lt_of_le hb gA.size) (fun e=>h2 e.symm)).trans (gA.block b hb Q6)
 have Sz:=(hB6 fb I_ hne).trans HF.out;have hc6:w6.cell? ⟨fb,3,none⟩=some (.slice ka n kc):=by rw [aJ Sz];rfl
 have hz6:w6.frozen? ⟨fb,3,none⟩=false:=aS Sz;have Sr:=aH hB6;have NR:=aH Sz;have Sf:=aH T9;have Zq:=aH G9;have Nl:=aH (And.intro (P2.os.trans gA.os) (And.intro (P2.tape.trans gA.tape) (P2.output.trans gA.output)));have Dl:=aH P2.size;have Tz:Hid ((W1.drew.alloc (.cells #[.int .i64 num,.pointer p] 166)).heap.size=W1.heap.size+1):=aH (by show (W1.heap.push _).size=_;simp);have HN6:Hid (¬(Value.slice MK (n+1) NK).ownBlock=some fb):=aH (fun e=>by
  rcases G9 with h|h
  · exact hne (h.symm.trans e)
  · rw [e] at h;have:=Option.some.inj h;have:=Tz.out;have:=W_.out;omega)
 have KS6:Hid (w6.cell? ⟨fb,3,none⟩=some (.slice ka n kc)/\w6.cell? ⟨w.heap.size,0,none⟩=some (.int .i64 num)/\w6.cell? ⟨w.heap.size,1,none⟩=some (.pointer p)):=aH (by
  obtain ⟨s0,s1,s2⟩:=KS.out _ ((Gr.drew (Gr.refl W1)).alloc (.cells #[.int .i64 num,.pointer p] 166));have hq:¬(Value.slice ka n kc).ownBlock=some w.heap.size:=fun e=>by have:=(HO.out.lt _ e).2;omega
  exact ⟨hc6,P2.cell s1 (fun e=>hq e.symm),P2.cell s2 (fun e=>hq e.symm)⟩)
 refine cg (i:=7) rfl Q7 (fun K hK=>?_);refine ae cw (Lib.wp_append_run _ _ _ _ _ rfl (.slice ka n kc) (.slice (some ⟨W1.heap.size,0,none⟩) 1 1) fk fk _ _ Ma ?_);refine hK.out _ _ (fun _=>KS6.out) (fun hH=>?_);replace hH:=hH Q9;clear hK;try simp only [Act.put,sA,s0,s1]
 refine cg (i:=8) rfl Q7 (fun K hK=>?_);refine ae cw ?_;have HK:=aH hK;clear hK;go_simp
 refine HK.out _ _ (fun _=>KS6.out) (fun hH=>?_);replace hH:=hH Q9;clear HK;try simp only [Act.put,sA,s0,s1]
 refine tZ 9 ?_;simp only [Act.put,sA,s0,s1];refine cg (i:=10) rfl Q7 (fun K hK=>?_);refine ae cw ?_;have HK:=aH hK;clear hK;go_simp
 refine HK.out _ _ (fun h=>absurd rfl h) (fun _=>?_);clear HK;try simp only [Act.put,sA,s0,s1]
 refine jJ Q7 ?_ _;clear hH KS;go_wp2_with fail
 go_end0
 refine ⟨.slice MK (n+1) NK,rfl,?_,?_,?_,⟨Nl.out.1,Nl.out.2.1,Nl.out.2.2,by have:=Dl.out;have:=W_.out;have:=Tz.out;simp;omega,fun b hb h1 h2=>?_⟩⟩
 · exact (heap_setCell_same w6 fb 3 _ _ _ NR.out).trans Q6
 · exact bS Sf.out (fun q hq=>Below.heap_setCell _ _ _ _ (by show q≠fb;exact fun e=>HN6.out (e▸hq)))
 · rcases Zq.out with e|e
   · exact .inl e
   · exact .inr ⟨_,e,by have:=Tz.out;have:=W_.out;omega⟩
 · rw [Below.heap_setCell _ _ _ _ (by show b≠fb;exact h1)];exact Sr.out b hb h2
def CX(w:World)(fb:Nat)(vc:Value)(pos:Int)(vs:Value)(g n cap:Nat)(xs:List Value)(num:Int)(ptr:Value)(x:Ending)(w':World):Prop:=x=.returned (.agg #[.int .i64 num,ptr])/\lW w' fb vc pos vs (.slice (some ⟨g,0,none⟩) n cap)/\w'.ownsRow 0 166 2 (.slice (some ⟨g,0,none⟩) n cap) n xs/\At w w' fb none
theorem zD(w:World)(fb:Nat)(vc:Value)(pos:Int)(vs:Value)(g n cap:Nat)(xs:List Value)(num:Int)(p:Option Addr)(hF:lW w fb vc pos vs (.slice (some ⟨g,0,none⟩) (n+1) cap))(ho:w.ownsRow 0 166 2 (.slice (some ⟨g,0,none⟩) (n+1) cap) (n+1) (xs++ [.int .i64 num,.pointer p]))(hx:xs.length=n * 2)(hne:¬g=fb)(hn:n<=100000):
 Calls Tryz.prog 90 #[.pointer (some ⟨fb,0,none⟩)] w (CX w fb vc pos vs g n cap xs num (.pointer p)):=by
 have I_:fb < w.heap.size:=(Array.getElem?_eq_some_iff.1 hF).1;have Il:n+1<=cap:=by
  rcases ho.2 with ⟨h,_⟩|⟨g',Se,cur,e,_,_,h,_⟩
  · cases h
  · simp only [Value.slice.injEq,true_and] at e;omega
 have c0:w.cell? ⟨g,n * 2,none⟩=some (.int .i64 num):=by rw [ho.cellAt _ Q5,List.getElem?_append_right Q5,hx,Nat.sub_self];rfl
 have c1:w.cell? ⟨g,n * 2+1,none⟩=some (.pointer p):=by rw [ho.cellAt _ Q5,List.getElem?_append_right Q5,hx,show n * 2+1 - n * 2=1 by omega];rfl
 have f3:w.cell? ⟨fb,3,none⟩=some (.slice (some ⟨g,0,none⟩) (n+1) cap):=by rw [aJ hF];rfl
 have z3:w.frozen? ⟨fb,3,none⟩=false:=aS hF;have HF:=aH hF;have HO:=aH (ownsRow_pop hx ho);have HX:=aH hx;have D2:IntKind.i64.wrap ((n:Int)+1 - 1)=(n:Int):=by rw [Q_];omega
 have D3:IntKind.i64.wrap (((n+1:Nat):Int) - 1)=(n:Int):=by rw [Q_];omega
 have V5:IntKind.i64.wrap (n:Int)=(n:Int):=Q_;have hni:(n:Int) < (n:Int)+1:=Q5
 have Gt:(n:Int)<=(cap:Int):=Q5
 have hncn:n<=cap:=Q5
 clear hF ho hx;have g1:=(Gr.refl w).alloc (.cells #[.int .i64 0,.pointer none] 166);have Y0:=heap_alloc_new w (.cells #[.int .i64 0,.pointer none] 166);have g2:Gr (w.alloc (.cells #[.int .i64 0,.pointer none] 166)) ((w.alloc (.cells #[.int .i64 0,.pointer none] 166)).alloc (.cells #[.int .i64 num,.pointer p] 166)):=(Gr.refl _).alloc _;have E5:((w.alloc (.cells #[.int .i64 0,.pointer none] 166)).alloc (.cells #[.int .i64 num,.pointer p] 166)).heap[w.heap.size+1]? =some (.cells #[.int .i64 num,.pointer p] 166 (0,0)):=by
  have h:=heap_alloc_new (w.alloc (.cells #[.int .i64 0,.pointer none] 166)) (.cells #[.int .i64 num,.pointer p] 166);have e:(w.alloc (.cells #[.int .i64 0,.pointer none] 166)).heap.size=w.heap.size+1:=Q6
  rw [e] at h;exact h
 have k0:=g1.cell c0 Q6;have k1:=g1.cell c1 Q6;have k3:=g1.cell f3 Q6;have O0:=aH (g1.trans g2);have S6:=aH ((g2.block w.heap.size Q6 Q6).trans Y0);have H9:=aH E5;have Dc:=aH (((g1.trans g2).block fb I_ Q6).trans HF.out);clear g1 Y0 g2 E5 c0 c1 f3 z3;go_enter Tryz.func90,Tryz.ntmps90
 go_upto_region 1 with fail
 generalize Lm:w.alloc (.cells #[.int .i64 0,.pointer none] 166)=W1 at k0 k1 k3 O0 S6 H9 Dc |-;have I6:W1.heap.size=w.heap.size+1:=by rw [<-Lm];simp
 clear Lm;go_upto_region 3 with fail
 generalize W1.alloc (.cells #[.int .i64 num,.pointer p] 166)=W2 at O0 S6 H9 Dc |-;have m3:W2.cell? ⟨fb,3,none⟩=some (.slice (some ⟨g,0,none⟩) (n+1) cap):=by rw [aJ Dc.out];rfl
 have mz:W2.frozen? ⟨fb,3,none⟩=false:=aS Dc.out;have r0:W2.cell? ⟨w.heap.size,0,none⟩=some (.int .i64 0):=by rw [aJ S6.out];rfl
 have r1:W2.cell? ⟨w.heap.size,1,none⟩=some (.pointer none):=by rw [aJ S6.out];rfl
 have q0:W2.frozen? ⟨w.heap.size,0,none⟩=false:=aS S6.out;have q1:W2.frozen? ⟨w.heap.size,1,none⟩=false:=aS S6.out;have v0:W2.cell? ⟨w.heap.size+1,0,none⟩=some (.int .i64 num):=by rw [aJ H9.out];rfl
 have v1:W2.cell? ⟨w.heap.size+1,1,none⟩=some (.pointer p):=by rw [aJ H9.out];rfl
 have JP:¬fb=w.heap.size:=Q5
 have Lf:¬w.heap.size=fb:=Q5
 have Iz:¬fb=w.heap.size+1:=Q5
 have hd4:¬w.heap.size+1=fb:=Q5
 clear k0 k1 k3 I6;go_wp2_with fail
 have e0:=heap_setCell_same W2 fb 3 _ _ (.slice (some ⟨g,0,none⟩) n cap) Dc.out;have hoth:∀b,¬b=w.heap.size->(((W2.setCell ⟨fb,3,none⟩ (.slice (some ⟨g,0,none⟩) n cap)).setCell ⟨w.heap.size,0,none⟩ (.int .i64 num)).setCell ⟨w.heap.size,1,none⟩ (.pointer p)).heap[b]? =(W2.setCell ⟨fb,3,none⟩ (.slice (some ⟨g,0,none⟩) n cap)).heap[b]? :=fun b hb=>(Below.heap_setCell _ _ _ _ hb).trans (Below.heap_setCell _ _ _ _ hb)
 have e1:(W2.setCell ⟨fb,3,none⟩ (.slice (some ⟨g,0,none⟩) n cap)).heap[w.heap.size]? =_:=(Below.heap_setCell _ _ _ _ Lf).trans S6.out;have e2:=heap_setCell_same _ w.heap.size 1 _ _ (.pointer p) (heap_setCell_same _ w.heap.size 0 _ _ (.int .i64 num) e1);have t0:(((W2.setCell ⟨fb,3,none⟩ (.slice (some ⟨g,0,none⟩) n cap)).setCell ⟨w.heap.size,0,none⟩ (.int .i64 num)).setCell ⟨w.heap.size,1,none⟩ (.pointer p)).cell? ⟨w.heap.size,0,none⟩=some (.int .i64 num):=by rw [aJ e2];rfl
 have t1:(((W2.setCell ⟨fb,3,none⟩ (.slice (some ⟨g,0,none⟩) n cap)).setCell ⟨w.heap.size,0,none⟩ (.int .i64 num)).setCell ⟨w.heap.size,1,none⟩ (.pointer p)).cell? ⟨w.heap.size,1,none⟩=some (.pointer p):=by rw [aJ e2];rfl
 have Gd:g < w.heap.size:=(HO.out.lt g rfl).2;refine bodyPost_ret (v:=.agg #[.int .i64 num,.pointer p]) (by simp [results,Tryz.results90,go_sem,t0,t1]) rfl ?_;refine ⟨rfl,?_,?_,⟨O0.out.os,O0.out.tape,O0.out.output,by have:=O0.out.size;simp;omega,fun b hb h1 _=>?_⟩⟩
 · exact (hoth fb JP).trans (e0.trans Q6)
 · refine bS HO.out (fun q hq=>?_);have OK:g=q:=by simpa [Value.ownBlock] using hq
   subst OK;exact (hoth g Q5).trans ((Below.heap_setCell _ _ _ _ hne).trans (O0.out.block g Gd Q6))
 · exact (hoth b Q5).trans ((Below.heap_setCell _ _ _ _ h1).trans (O0.out.block b hb Q6))
open Go.RowKit
attribute [local go_sem ↓] Go.wp_at_zero Go.wp_at_succ
def eg(b:Bool):Int:=if b then 1 else 0
theorem lk(b:Bool)(w:World):Calls Tryz.prog 129 #[.bool b] w fun x w'=>x=.returned (.agg #[.int .i64 (eg b),.pointer none])/\Gr w w':=by
 cases b
 · go_enter Tryz.func129,Tryz.ntmps129
   go_wp2_with fail
   exact bodyPost_ret (v:=.agg #[.int .i64 0,.pointer none]) (by simp [results,Tryz.results129,go_sem]) rfl ⟨rfl,(Gr.refl _).alloc _⟩
 · go_enter Tryz.func129,Tryz.ntmps129
   go_wp2_with fail
   exact bodyPost_ret (v:=.agg #[.int .i64 1,.pointer none]) (by simp [results,Tryz.results129,go_sem]) rfl ⟨rfl,(Gr.refl _).alloc _⟩
def iF(op x y:Int):Int:=if op=6 then wrap64 (x+y) else if op=7 then wrap64 (x - y) else if op=8 then wrap64 (x * y) else if op=9 then eg (decide (x < y)) else eg (decide (x=y))
theorem gY(n:Nat)(w:World)(hn:n<=100000):Calls Tryz.prog 127 #[.int .i64 (n:Int)] w fun x w'=>x=.returned (.int .i64 ((n:Int)+1))/\w'=w:=by
 have hw:IntKind.i64.wrap ((n:Int)+1)=(n:Int)+1:=Q_;go_enter Tryz.func127,Tryz.ntmps127
 go_wp2_with fail
 go_ret
 exact ⟨rfl,rfl⟩
theorem pL(op x y:Int)(w:World):Calls Tryz.prog 130 #[.int .i64 op,.int .i64 x,.int .i64 y] w fun r w'=>r=.returned (.agg #[.int .i64 (iF op x y),.pointer none])/\Gr w w':=by
 by_cases h6:op=6
 · subst h6;go_enter Tryz.func130,Tryz.ntmps130
   go_wp2_with fail
   exact bodyPost_ret (v:=.agg #[.int .i64 (wrap64 (x+y)),.pointer none]) (by simp [results,Tryz.results130,go_sem]) rfl ⟨by simp [iF],(Gr.refl _).alloc _⟩
 · have d6:(op == 6)=false:=by simpa using h6
   by_cases h7:op=7
   · subst h7;go_enter Tryz.func130,Tryz.ntmps130
     go_wp2_with fail
     exact bodyPost_ret (v:=.agg #[.int .i64 (wrap64 (x - y)),.pointer none]) (by simp [results,Tryz.results130,go_sem]) rfl ⟨by simp [iF],(Gr.refl _).alloc _⟩
   · have d7:(op == 7)=false:=by simpa using h7
     by_cases h8:op=8
     · subst h8;go_enter Tryz.func130,Tryz.ntmps130
       go_wp2_with fail
       exact bodyPost_ret (v:=.agg #[.int .i64 (wrap64 (x * y)),.pointer none]) (by simp [results,Tryz.results130,go_sem]) rfl ⟨by simp [iF],(Gr.refl _).alloc _⟩
     · have d8:(op == 8)=false:=by simpa using h8
       by_cases h9:op=9
       · subst h9;have HE:Hid (iF 9 x y=eg (decide (x < y))):=aH (by simp [iF]);go_enter Tryz.func130,Tryz.ntmps130
         go_wp2_with fail
         refine (lk _ _).mono ?_;rintro z w1 ⟨rfl,hg1⟩;have hb:=(hg1.block w.heap.size Q6 Q6).trans (heap_alloc_new w (.cells #[.int .i64 0,.pointer none] 166));have r0:w1.cell? ⟨w.heap.size,0,none⟩=some (.int .i64 0):=by rw [aJ hb];rfl
         have r1:w1.cell? ⟨w.heap.size,1,none⟩=some (.pointer none):=by rw [aJ hb];rfl
         have q0:w1.frozen? ⟨w.heap.size,0,none⟩=false:=aS hb;have q1:w1.frozen? ⟨w.heap.size,1,none⟩=false:=aS hb;have YG:=aH (((Gr.refl w).alloc _).trans hg1);have e2:=heap_setCell_same _ w.heap.size 1 _ _ (.pointer none) (heap_setCell_same _ w.heap.size 0 _ _ (.int .i64 (eg (decide (x < y)))) hb);have Jf:=aH e2;clear hb hg1 e2;generalize eg (decide (x < y))=tv at HE Jf |-;go_wp2_with fail
         have t0:((w1.setCell ⟨w.heap.size,0,none⟩ (.int .i64 tv)).setCell ⟨w.heap.size,1,none⟩ (.pointer none)).cell? ⟨w.heap.size,0,none⟩=some (.int .i64 tv):=by rw [aJ Jf.out];rfl
         have t1:((w1.setCell ⟨w.heap.size,0,none⟩ (.int .i64 tv)).setCell ⟨w.heap.size,1,none⟩ (.pointer none)).cell? ⟨w.heap.size,1,none⟩=some (.pointer none):=by rw [aJ Jf.out];rfl
         refine bodyPost_ret (v:=.agg #[.int .i64 tv,.pointer none]) (by simp [results,Tryz.results130,go_sem,t0,t1]) rfl ⟨by rw [HE.out],?_⟩;exact lP (lP YG.out (Nat.le_refl _)) (Nat.le_refl _)
       · have d9:(op == 9)=false:=by simpa using h9
         have HE:Hid (iF op x y=eg (decide (x=y))):=aH (by simp [iF,h6,h7,h8,h9]);have hbe:(x == y)=decide (x=y):=by cases h:decide (x=y)<;>simp_all
         go_enter Tryz.func130,Tryz.ntmps130
         go_wp2_with fail
         refine (lk _ _).mono ?_;rintro z w1 ⟨rfl,hg1⟩;have hb:=(hg1.block w.heap.size Q6 Q6).trans (heap_alloc_new w (.cells #[.int .i64 0,.pointer none] 166));have r0:w1.cell? ⟨w.heap.size,0,none⟩=some (.int .i64 0):=by rw [aJ hb];rfl
         have r1:w1.cell? ⟨w.heap.size,1,none⟩=some (.pointer none):=by rw [aJ hb];rfl
         have q0:w1.frozen? ⟨w.heap.size,0,none⟩=false:=aS hb;have q1:w1.frozen? ⟨w.heap.size,1,none⟩=false:=aS hb;have YG:=aH (((Gr.refl w).alloc _).trans hg1);have e2:=heap_setCell_same _ w.heap.size 1 _ _ (.pointer none) (heap_setCell_same _ w.heap.size 0 _ _ (.int .i64 (eg (decide (x=y)))) hb);have Jf:=aH e2;clear hb hg1 e2;generalize eg (decide (x=y))=tv at HE Jf |-;go_wp2_with fail
         have t0:((w1.setCell ⟨w.heap.size,0,none⟩ (.int .i64 tv)).setCell ⟨w.heap.size,1,none⟩ (.pointer none)).cell? ⟨w.heap.size,0,none⟩=some (.int .i64 tv):=by rw [aJ Jf.out];rfl
         have t1:((w1.setCell ⟨w.heap.size,0,none⟩ (.int .i64 tv)).setCell ⟨w.heap.size,1,none⟩ (.pointer none)).cell? ⟨w.heap.size,1,none⟩=some (.pointer none):=by rw [aJ Jf.out];rfl
         refine bodyPost_ret (v:=.agg #[.int .i64 tv,.pointer none]) (by simp [results,Tryz.results130,go_sem,t0,t1]) rfl ⟨by rw [HE.out],?_⟩;exact lP (lP YG.out (Nat.le_refl _)) (Nat.le_refl _)
structure PV where
 num:Int
 blk:Option Nat
structure ch where
 fn:Nat
 pos:Nat
 slots:List PV
 stack:List PV
structure PM where
 top:ch
 low:List ch
 blks:List (List PV)
 taken:Nat
 told:List Int
def oQ:PV:=⟨0,none⟩
def fQ(n:Nat):List PV:=List.replicate n oQ
def cA:List ch->List (List PV)
 | []=> []
 | f :: l=>cA l++ [f.slots,f.stack]
structure pT where
 mark:Nat->Bool
 all:Nat
 wt:List (List PV)
def cK(bs:List (List PV)):List PV->pT->pT
 | [],st=>st
 | v :: vs,st=>
  match v.blk with
  | none=>cK bs vs st
  | some j=>if st.mark j then cK bs vs st else cK bs vs ⟨fun k=>decide (k=j) || st.mark k,st.all+((bs.getD j []).length+1),st.wt++ [bs.getD j []]⟩
def fV(bs:List (List PV)):Nat->pT->pT
 | 0,st=>st
 | n+1,st=>
  match st.wt.getLast? with
  | none=>st
  | some r=>fV bs n (cK bs r ⟨st.mark,st.all,st.wt.dropLast⟩)
def bR(m:PM):Nat:=(fV m.blks (m.blks.length+(cA (m.top :: m.low)).length+1) ⟨fun _=>false,0,cA (m.top :: m.low)⟩).all
inductive fZ where
 | go (m:PM)
 | stop (why res:Int) (m:PM)
def ch.behind(x:ch)(s:List PV):ch:=⟨x.fn,x.pos+1,x.slots,s⟩
def PM.on(m:PM)(s:List PV):fZ:=.go ⟨m.top.behind s,m.low,m.blks,m.taken,m.told⟩
def eB(u:aK)(heap:Nat)(m:PM)(i:aw):fZ:=
 let x:=m.top
 let s:=x.stack
 let n:=s.length
 let t:=s.getD (n - 1) oQ
 let o:=s.take (n - 1)
 if i.op=0 then m.on (s++ [⟨u.aD.getD i.a.toNat 0,none⟩])
 else if i.op=1 then m.on (s++ [⟨i.a,none⟩])
 else if i.op=2 then m.on (s++ [x.slots.getD i.a.toNat oQ])
 else if i.op=3 then .go ⟨⟨x.fn,x.pos+1,x.slots.set i.a.toNat t,o⟩,m.low,m.blks,m.taken,m.told⟩
 else if i.op=4 then m.on o
 else if i.op=5 then m.on (s++ [t])
 else if i.op=11 then .go ⟨⟨x.fn,i.a.toNat,x.slots,s⟩,m.low,m.blks,m.taken,m.told⟩
 else if i.op=12 then (if t.num=0 then .go ⟨⟨x.fn,i.a.toNat,x.slots,o⟩,m.low,m.blks,m.taken,m.told⟩ else m.on o)
 else if i.op=13 then
  (if m.low.length=99 then .stop 9 0 m
  else match u.aE[i.a.toNat]? with
   | none=>.stop 0 0 m
   | some g=>.go ⟨⟨i.a.toNat,0,s.drop (n - g.aF.length)++fQ g.aG.length,[]⟩,⟨x.fn,x.pos,x.slots,s.take (n - g.aF.length)⟩ :: m.low,m.blks,m.taken,m.told⟩)
 else if i.op=14 then
  (match m.low with
  | []=>.stop 6 t.num m
  | y :: l=>.go ⟨y.behind (y.stack++ [t]),l,m.blks,m.taken,m.told⟩)
 else if i.op=15 then
  (let k:=(u.aA.getD (i.a - 1).toNat []).length
  let tk:=if m.taken+(k+1) > heap then bR m else m.taken
  if tk+(k+1)<=heap then .go ⟨x.behind (s.take (n - k)++ [⟨0,some m.blks.length⟩]),m.low,m.blks++ [s.drop (n - k)],tk+(k+1),m.told⟩ else .stop 8 0 m)
 else if i.op=16 then
  (match t.blk with
  | none=>.stop 10 0 m
  | some j=>m.on (o++ [(m.blks.getD j []).getD i.b.toNat oQ]))
 else if i.op=17 then
  (match (s.getD (n - 2) oQ).blk with
  | none=>.stop 10 0 m
  | some j=>.go ⟨x.behind (s.take (n - 2)),m.low,m.blks.set j ((m.blks.getD j []).set i.b.toNat t),m.taken,m.told⟩)
 else if i.op=18 then m.on (s++ [oQ])
 else if i.op=19 then m.on (o++ [⟨eg t.blk.isNone,none⟩])
 else if i.op=20 then .go ⟨x.behind o,m.low,m.blks,m.taken,if m.told.length < 1000 then m.told++ [t.num] else m.told⟩
 else m.on (s.take (n - 2)++ [⟨iF i.op (s.getD (n - 2) oQ).num t.num,none⟩])
def kD(u:aK)(x:ch):Option aw:=match u.aE[x.fn]? with
 | none=>none
 | some f=>f.code[x.pos]?
def bh(u:aK)(heap:Nat)(m:PM):fZ:=match kD u m.top with
 | none=>.stop 0 0 m
 | some i=>eB u heap m i
def re(σ:List Int)(k:Int)(v:PV):Prop:=∀j,v.blk=some j->k≠0/\σ[j]? =some k
def fJ(σ:List Int)(ks:List Int)(vs:List PV):Prop:=ks.length=vs.length/\∀(i:Nat) (k:Int) (v:PV),ks[i]? =some k->vs[i]? =some v->re σ k v
theorem re.zero(σ:List Int)(k:Int):re σ k oQ:=fun j h=>by cases h
theorem re.num(σ:List Int)(k n:Int):re σ k ⟨n,none⟩:=fun j h=>by cases h
theorem re.more{σ:List Int}{k:Int}{v:PV}(h:re σ k v)(a:Int):re (σ++ [a]) k v:=fun j hj=>by
 obtain ⟨h1,h2⟩:=h j hj;exact ⟨h1,by rw [List.getElem?_append_left (List.getElem?_eq_some_iff.1 h2).1];exact h2⟩
theorem fJ.more{σ:List Int}{ks:List Int}{vs:List PV}(h:fJ σ ks vs)(a:Int):fJ (σ++ [a]) ks vs:=⟨h.1,fun i k v h1 h2=>(h.2 i k v h1 h2).more a⟩
theorem fJ.nil(σ:List Int):fJ σ [] []:=⟨rfl,fun i k v h=>by simp at h⟩
theorem fJ.app{σ:List Int}{ks ks':List Int}{vs vs':List PV}(h:fJ σ ks vs)(h':fJ σ ks' vs'):fJ σ (ks++ks') (vs++vs'):=by
 refine ⟨by simp [h.1,h'.1],fun i k v h1 h2=>?_⟩;by_cases hi:i < ks.length
 · rw [List.getElem?_append_left hi] at h1;rw [List.getElem?_append_left (h.1▸hi)] at h2;exact h.2 i k v h1 h2
 · rw [List.getElem?_append_right Q5] at h1;rw [List.getElem?_append_right (by rw [<-h.1];omega),<-h.1] at h2;exact h'.2 _ k v h1 h2
theorem fJ.one{σ:List Int}{k:Int}{v:PV}(h:re σ k v):fJ σ [k] [v]:=⟨rfl,fun i k' v' h1 h2=>by
 cases i with
 | zero=>simp at h1 h2;subst h1 h2;exact h
 | succ i=>simp at h1⟩
theorem fJ.push{σ:List Int}{ks:List Int}{vs:List PV}{k:Int}{v:PV}(h:fJ σ ks vs)(hv:re σ k v):fJ σ (ks++ [k]) (vs++ [v]):=h.app (.one hv)
theorem fJ.take{σ:List Int}{ks:List Int}{vs:List PV}(h:fJ σ ks vs)(n:Nat):fJ σ (ks.take n) (vs.take n):=by
 refine ⟨by simp [h.1],fun i k v h1 h2=>?_⟩;rw [List.getElem?_take] at h1 h2;by_cases hi:i < n
 · rw [if_pos hi] at h1 h2;exact h.2 i k v h1 h2
 · rw [if_neg hi] at h1;cases h1
theorem fJ.drop{σ:List Int}{ks:List Int}{vs:List PV}(h:fJ σ ks vs)(n:Nat):fJ σ (ks.drop n) (vs.drop n):=by
 refine ⟨by simp [h.1],fun i k v h1 h2=>?_⟩;rw [List.getElem?_drop] at h1 h2;exact h.2 _ k v h1 h2
theorem fJ.get{σ:List Int}{ks:List Int}{vs:List PV}(h:fJ σ ks vs){i:Nat}{k:Int}(hk:ks[i]? =some k):∃v,vs[i]? =some v/\re σ k v:=by
 have hl:=(List.getElem?_eq_some_iff.1 hk).1;have:i < vs.length:=h.1▸hl
 exact ⟨vs[i],List.getElem?_eq_getElem this,h.2 i k _ hk (List.getElem?_eq_getElem this)⟩
theorem fJ.getD{σ:List Int}{ks:List Int}{vs:List PV}(h:fJ σ ks vs){i:Nat}{k:Int}(hk:ks[i]? =some k):re σ k (vs.getD i oQ):=by
 obtain ⟨v,hv,ho⟩:=h.get hk;rw [List.getD_eq_getElem?_getD,hv];exact ho
theorem fJ.set{σ:List Int}{ks:List Int}{vs:List PV}(h:fJ σ ks vs){i:Nat}{k:Int}(hk:ks[i]? =some k){v:PV}(hv:re σ k v):fJ σ ks (vs.set i v):=by
 refine ⟨by simp [h.1],fun j k' v' h1 h2=>?_⟩;rw [List.getElem?_set] at h2;by_cases e:i=j
 · subst e;rw [if_pos rfl] at h2;split at h2
   · rw [hk] at h1;cases h1;cases h2;exact hv
   · cases h2
 · rw [if_neg e] at h2;exact h.2 j k' v' h1 h2
theorem fJ.zeros(σ:List Int)(ks:List Int):fJ σ ks (fQ ks.length):=by
 refine ⟨by simp [fQ],fun i k v h1 h2=>?_⟩;rw [fQ,List.getElem?_replicate] at h2;split at h2
 · cases h2;exact .zero σ k
 · cases h2
structure pn(u:aK)(Ts:Nat->Nat->Option (List Int))(σ:List Int)(x:ch):Prop where
 fn:∃f s,u.aE[x.fn]? =some f/\Ts x.fn x.pos=some s/\fJ σ (f.aF++f.aG) x.slots/\fJ σ s x.stack/\s.length<=20
def ol(u:aK)(Ts:Nat->Nat->Option (List Int))(σ:List Int)(c:Nat)(x:ch):Prop:=∃f i g s,u.aE[x.fn]? =some f/\f.code[x.pos]? =some i/\i.op=13/\i.a.toNat=c/\u.aE[c]? =some g/\Ts x.fn x.pos=some s/\fJ σ (f.aF++f.aG) x.slots/\fJ σ (s.take (s.length - g.aF.length)) x.stack/\s.length<=20
def rn:Nat->List ch->Nat
 | c,[]=>c
 | _,y :: l=>rn y.fn l
def kE(u:aK)(Ts:Nat->Nat->Option (List Int))(σ:List Int):Nat->List ch->Prop
 | _,[]=>True
 | c,x :: l=>ol u Ts σ c x/\kE u Ts σ x.fn l
structure oD(u:aK)(Ts:Nat->Nat->Option (List Int))(σ:List Int)(m:PM):Prop where
 top:pn u Ts σ m.top
 low:kE u Ts σ m.top.fn m.low
 main:∃f,u.aE[rn m.top.fn m.low]? =some f/\f.result=0
 deep:m.low.length<=99
 aA:σ.length=m.blks.length
 blks:∀(j:Nat) (k:Int) (fs:List PV),σ[j]? =some k->m.blks[j]? =some fs->∃s,1<=k/\u.aA[(k - 1).toNat]? =some s/\fJ σ s fs
 told:m.told.length<=1000
theorem ol.more{u:aK}{Ts:Nat->Nat->Option (List Int)}{σ:List Int}{c:Nat}{x:ch}(h:ol u Ts σ c x)(a:Int):ol u Ts (σ++ [a]) c x:=by
 obtain ⟨f,i,g,s,h1,h2,h3,h4,h5,h6,h7,h8,h9⟩:=h;exact ⟨f,i,g,s,h1,h2,h3,h4,h5,h6,h7.more a,h8.more a,h9⟩
theorem kE.more{u:aK}{Ts:Nat->Nat->Option (List Int)}{σ:List Int}(a:Int):∀{l:List ch} {c:Nat},kE u Ts σ c l->kE u Ts (σ++ [a]) c l
 | [],_,_=>trivial
 | _ :: _,_,h=>⟨h.1.more a,kE.more a h.2⟩
structure rZ(u:aK):Prop where
 func:∀f∈u.aE,f.aF.length<=6/\f.aG.length<=10/\1<=f.code.length/\f.code.length<=200/\(∀k∈f.aF,0<=k)/\(∀k∈f.aG,0<=k)/\0<=f.result/\∀i∈f.code,a_ i=true
 shape:∀s∈u.aA,1<=s.length/\s.length<=8/\∀k∈s,0<=k
 few:u.aA.length<=20/\u.aD.length<=50/\u.aE.length<=30
 exps:u.aC.length<=20/\∀e∈u.aC,0<=e.func/\e.func < u.aE.length
theorem rZ.of{u:aK}(h:ai u=true):rZ u:=by
 unfold ai cL cV b9 bm at h;simp only [Bool.and_eq_true,wB,decide_eq_true_eq] at h;obtain ⟨⟨I6,E8⟩,hc,⟨Ro,Qk⟩,_,⟨N4,D9⟩⟩:=h;refine ⟨fun f hf=>?_,fun s hs=>?_,Q5,Q5,fun e he=>?_⟩
 · have h:=List.all_eq_true.1 Qk f hf;unfold dD fL gG at h;simp only [Bool.and_eq_true,wB,decide_eq_true_eq,gD] at h;obtain ⟨⟨h1,h2,h3⟩,h4,h5,h6,h7⟩:=h;refine ⟨Q5,Q5,Q5,Q5,fun k hk=>?_,fun k hk=>?_,Q5,fun i hi=>List.all_eq_true.1 h7 i hi⟩
   · have:=List.all_eq_true.1 h2 k hk;simp [gD,wB] at this;omega
   · have:=List.all_eq_true.1 h5 k hk;simp [gD,wB] at this;omega
 · have h:=List.all_eq_true.1 E8 s hs;unfold dY at h;simp only [Bool.and_eq_true,wB,decide_eq_true_eq] at h;refine ⟨Q5,Q5,fun k hk=>?_⟩;have:=List.all_eq_true.1 h.2 k hk;simp [gD,wB] at this;omega
 · have h:=List.all_eq_true.1 D9 e he;unfold hO at h;simp only [Bool.and_eq_true,wB,decide_eq_true_eq] at h;omega
theorem uB:∀{ts ss:List Int},(∀t∈ts,0<=t)->i8 ts ss=true->ts=ss
 | [],[],_,_=>rfl
 | [],_ :: _,_,h=>by cases h
 | _ :: _,[],_,h=>by cases h
 | t :: ts,s :: ss,hn,h=>by
  rw [i8] at h;simp only [Bool.and_eq_true,Bool.or_eq_true,decide_eq_true_eq] at h;have h0:=hn t List.mem_cons_self;have e1:t=s:=by rcases h.1 with h|h<;>omega
  rw [e1,uB (fun k hk=>hn k (List.mem_cons_of_mem _ hk)) h.2]
inductive iS(u:aK)(f:aO)(i:aw):List Int->List Int->Prop
 | const:i.op=0->0<=i.a->i.a.toNat < u.aD.length->iS u f i [] [0]
 | small:i.op=1->iS u f i [] [0]
 | load (k:Int):i.op=2->0<=i.a->(f.aF++f.aG)[i.a.toNat]? =some k->iS u f i [] [k]
 | store (k:Int):i.op=3->0<=i.a->(f.aF++f.aG)[i.a.toNat]? =some k->iS u f i [k] []
 | pop (k:Int):i.op=4->iS u f i [k] []
 | dup (k:Int):i.op=5->iS u f i [k] [k,k]
 | reck:6<=i.op->i.op<=10->iS u f i [0,0] [0]
 | jump:i.op=11->0<=i.a->i.a.toNat < f.code.length->iS u f i [] []
 | zero:i.op=12->0<=i.a->i.a.toNat < f.code.length->iS u f i [0] []
 | call (g:aO):i.op=13->0<=i.a->u.aE[i.a.toNat]? =some g->iS u f i g.aF [g.result]
 | ret:i.op=14->iS u f i [f.result] []
 | new (s:List Int):i.op=15->1<=i.a->u.aA[(i.a - 1).toNat]? =some s->iS u f i s [i.a]
 | get (s:List Int) (k:Int):i.op=16->1<=i.a->0<=i.b->u.aA[(i.a - 1).toNat]? =some s->s[i.b.toNat]? =some k->iS u f i [i.a] [k]
 | set (s:List Int) (k:Int):i.op=17->1<=i.a->0<=i.b->u.aA[(i.a - 1).toNat]? =some s->s[i.b.toNat]? =some k->iS u f i [i.a,k] []
 | nil:i.op=18->1<=i.a->iS u f i [] [i.a]
 | isnil:i.op=19->1<=i.a->iS u f i [i.a] [0]
 | out:i.op=20->iS u f i [0] []
theorem m8{α:Type}{l:List α}(h:l.length=1):∃x,l= [x]:=by
 match l,h with
 | [x],_=>exact ⟨x,rfl⟩
theorem tM{u:aK}{f:aO}{i:aw}{s s':List Int}(hu:rZ u)(P9:u.aB= [])(hf:f∈u.aE)(hi:i∈f.code)(h:g8 u f i s=some s'):
 ∃base ts ps,iS u f i ts ps/\s=base++ts/\s'=base++ps/\s'.length<=20/\(i.op=14->base= []):=by
 have Tr:=(hu.func f hf).2.2.2.2.2.2.2 i hi;have LC:=hu.func f hf;have hsl:∀k∈f.aF++f.aG,0<=k:=fun k hk=>by
  rcases List.mem_append.1 hk with hk|hk
  · exact LC.2.2.2.2.1 k hk
  · exact LC.2.2.2.2.2.1 k hk
 unfold a_ ah at Tr;simp only [Bool.and_eq_true,wB,decide_eq_true_eq] at Tr;unfold g8 at h;cases he:dQ u f i with
 | none=>rw [he] at h;cases h
 | some tp=>
  obtain ⟨ts,ps⟩:=tp;rw [he] at h;simp only at h;split at h
  · cases h
  · rename_i hl
    split at h
    · cases h
    · rename_i G3
      have G3:i8 ts (s.drop (s.length - ts.length))=true:=by simpa using G3
      split at h
      · rename_i Wi
        have h:=Option.some.inj h;have J':(∀t∈ts,0<=t)->(∀p∈ps,0<=p)->iS u f i ts ps->∃base ts ps,iS u f i ts ps/\s=base++ts/\s'=base++ps/\s'.length<=20/\(i.op=14->base= []):=fun h1 h2 h3=>by
         have e1:=uB h1 G3;have e2:(ps.map fun p=>if p < 0 then we ts (s.drop (s.length - ts.length)) else p)=ps:=by
          conv=>rhs;rw [<-List.map_id ps]
          exact List.map_congr_left (fun p hp=>by have:=h2 p hp;rw [if_neg Q5];rfl)
         rw [e2] at h Wi;refine ⟨s.take (s.length - ts.length),ts,ps,h3,?_,h.symm,by rw [<-h];exact Wi.1,fun e=>?_⟩
         · conv=>lhs;rw [<-List.take_append_drop (s.length - ts.length) s]
           rw [<-e1]
         · rcases Wi.2 with h|h
           · exact absurd e h
           · rw [h,Nat.sub_self,List.take_zero]
        have Da:i.op=0\/i.op=1\/i.op=2\/i.op=3\/i.op=4\/i.op=5\/(6<=i.op/\i.op<=10)\/i.op=11\/i.op=12\/i.op=13\/i.op=14\/i.op=15\/i.op=16\/i.op=17\/i.op=18\/i.op=19\/i.op=20:=Q5
        have hsk:∀(a:Nat) (k:Int),(f.aF++f.aG)[a]? =some k->0<=k:=fun a k e=>hsl k (List.mem_of_getElem? e)
        have Vz:∀(a:Nat) (sh:List Int),u.aA[a]? =some sh->∀k∈sh,0<=k:=fun a sh e=>(hu.shape sh (List.mem_of_getElem? e)).2.2
        unfold dQ at he;rcases Da with e|e|e|e|e|e|e|e|e|e|e|e|e|e|e|e|e
        · simp [e] at he
          simp [e,aa] at Tr
          obtain ⟨h1,rfl,rfl⟩:=he;exact J' Q6 Q6 (.const e Q5 Q5)
        · simp [e] at he
          obtain ⟨rfl,rfl⟩:=he;exact J' Q6 Q6 (.small e)
        · simp [e] at he
          simp [e,aa] at Tr
          obtain ⟨k,h1,rfl,rfl⟩:=he;exact J' Q6 (by simpa using hsk _ _ h1) (.load k e Q5 h1)
        · simp [e] at he
          simp [e,aa] at Tr
          obtain ⟨k,h1,rfl,rfl⟩:=he;exact J' (by simpa using hsk _ _ h1) Q6 (.store k e Q5 h1)
        · simp [e] at he
          obtain ⟨rfl,rfl⟩:=he;simp only [List.length_cons,List.length_nil] at hl h Wi G3;obtain ⟨k,hk⟩:=m8 (l:=s.drop (s.length - 1)) gS;refine ⟨s.take (s.length - 1),[k],[],.pop k e,?_,by simpa using h.symm,by rw [<-h];exact Wi.1,fun e2=>by omega⟩;conv=>lhs;rw [<-List.take_append_drop (s.length - 1) s]
          rw [hk]
        · simp [e] at he
          obtain ⟨rfl,rfl⟩:=he;simp only [List.length_cons,List.length_nil] at hl h Wi G3;obtain ⟨k,hk⟩:=m8 (l:=s.drop (s.length - 1)) gS;refine ⟨s.take (s.length - 1),[k],[k,k],.dup k e,?_,?_,by rw [<-h];exact Wi.1,fun e2=>by omega⟩
          · conv=>lhs;rw [<-List.take_append_drop (s.length - 1) s]
            rw [hk]
          · rw [<-h];simp [hk,we]
        · have n0:¬i.op=0:=by omega
          have n1:¬i.op=1:=Q5
          have n2:¬i.op=2:=Q5
          have n3:¬i.op=3:=Q5
          have n4:¬i.op=4:=Q5
          have n5:¬i.op=5:=Q5
          have n6:i.op=6\/i.op=7\/i.op=8\/i.op=9\/i.op=10:=Q5
          simp only [n0,n1,n2,n3,n4,n5,n6,if_false,if_true,Option.some.injEq,Prod.mk.injEq] at he;obtain ⟨rfl,rfl⟩:=he;exact J' Q6 Q6 (.reck e.1 e.2)
        · simp [e] at he
          simp [e,aa] at Tr
          obtain ⟨h1,rfl,rfl⟩:=he;exact J' Q6 Q6 (.jump e Q5 Q5)
        · simp [e] at he
          simp [e,aa] at Tr
          obtain ⟨h1,rfl,rfl⟩:=he;exact J' Q6 Q6 (.zero e Q5 Q5)
        · simp [e,P9] at he
          simp [e,aa] at Tr
          cases hg:u.aE[i.a.toNat]? with
          | none=>rw [hg] at he;simp at he
          | some g=>
           rw [hg] at he;simp at he
           obtain ⟨rfl,rfl⟩:=he;have hgg:=hu.func g (List.mem_of_getElem? hg);exact J' hgg.2.2.2.2.1 (by simpa using hgg.2.2.2.2.2.2.1) (.call g e Q5 hg)
        · simp [e] at he
          obtain ⟨rfl,rfl⟩:=he;exact J' (by simpa using LC.2.2.2.2.2.2.1) Q6 (.ret e)
        · generalize hq:(i.a - 1).toNat=q at he;by_cases h1:1<=i.a
          · cases h2:u.aA[q]? with
            | none=>simp [e,h2] at he
            | some sh=>
             simp [e,h1,h2] at he
             obtain ⟨rfl,rfl⟩:=he;exact J' (Vz _ _ h2) gS (.new sh e h1 (hq▸h2))
          · simp [e,h1] at he
        · generalize hq:(i.a - 1).toNat=q at he;by_cases h1:1<=i.a
          · cases h2:u.aA[q]? with
            | none=>simp [e,h2] at he
            | some sh=>
             simp [e,h1,h2] at he
             simp [e,aa] at Tr
             obtain ⟨k,h3,rfl,rfl⟩:=he;exact J' gS (by simpa using Vz _ _ h2 k (List.mem_of_getElem? h3)) (.get sh k e h1 Q5 (hq▸h2) h3)
          · simp [e,h1] at he
        · generalize hq:(i.a - 1).toNat=q at he;by_cases h1:1<=i.a
          · cases h2:u.aA[q]? with
            | none=>simp [e,h2] at he
            | some sh=>
             simp [e,h1,h2] at he
             simp [e,aa] at Tr
             obtain ⟨k,h3,rfl,rfl⟩:=he;exact J' (by have:=Vz _ _ h2 k (List.mem_of_getElem? h3);simp;omega) Q6 (.set sh k e h1 Q5 (hq▸h2) h3)
          · simp [e,h1] at he
        · generalize hq:(i.a - 1).toNat=q at he;by_cases h1:1<=i.a
          · cases h2:u.aA[q]? with
            | none=>simp [e,h2] at he
            | some sh=>
             simp [e,h1,h2] at he
             obtain ⟨rfl,rfl⟩:=he;exact J' Q6 gS (.nil e h1)
          · simp [e,h1] at he
        · generalize hq:(i.a - 1).toNat=q at he;by_cases h1:1<=i.a
          · cases h2:u.aA[q]? with
            | none=>simp [e,h2] at he
            | some sh=>
             simp [e,h1,h2] at he
             obtain ⟨rfl,rfl⟩:=he;exact J' gS Q6 (.isnil e h1)
          · simp [e,h1] at he
        · simp [e] at he
          obtain ⟨rfl,rfl⟩:=he;exact J' Q6 Q6 (.out e)
      · cases h
end Go.Proofs.YtkgncijcnlfhiabGreat
