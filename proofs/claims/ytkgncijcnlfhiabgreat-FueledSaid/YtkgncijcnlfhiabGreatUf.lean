import Derived.Deep.CutBlock
import Derived.Test.YtkgncijcnlfhiabGreatUd
import Derived.Test.YtkgncijcnlfhiabGreatUe
import Derived.Test.YtkgncijcnlfhiabGreatN1
namespace Go.Proofs.YtkgncijcnlfhiabGreat
set_option linter.unusedVariables false
set_option linter.unusedSimpArgs false
open Go.RowKit
attribute [local go_sem ↓] Go.wp_at_zero Go.wp_at_succ
def Bw(V:World)(L:Nat)(v9 i:Value)(wr:World):Prop:=∃(k:Nat) (es:List UE),i=.int .i64 (k:Int)/\k<=5/\k<=L/\es.length=k/\(∃a c,v9=.slice a es.length c)/\UL V v9 es wr
def CI(V:World)(v9:Value)(wr:World):Prop:=∃es:List UE,es.length<=5/\(∃a c,v9=.slice a es.length c)/\UL V v9 es wr
theorem kM.list{X:Option Nat}{w w1:World}{v:Value}{u:aK}(h:∀wq,(∀b (o:Obj),w.heap.size<=b->w1.heap[b]? =some o->wq.heap[b]? =some o)->cO wq v u)(hX:∀k,X=some k->k < w.heap.size):kM X w1 v u:=fun wq hk=>h wq fun b o hb ho=>hk b o (fun e=>by have:=hX b e.symm;omega) ho
theorem Tryz.callSameF(M0:Array Value)(w:World):(callFunc 9 M0).run Tryz.prog w=.ok (.enter 9 M0) w:=Q7
theorem yA{w:World}{a:Option Addr}{c:Nat}{l r:List Int}(h:aW w (.slice a (l++r).length c) (l++r)):aW w (.slice a l.length c) l:=by
 obtain ⟨a',c',e,hm,hc⟩:=h;rw [Value.slice.injEq] at e;obtain ⟨rfl,_,rfl⟩:=e;rw [List.length_append] at hm hc;refine ⟨a,c,rfl,Q5,fun i hi=>?_⟩;obtain ⟨b,off,h1,h2⟩:=hc i Q5;refine ⟨b,off,h1,h2.trans ?_⟩;rw [List.getD_eq_getElem?_getD,List.getD_eq_getElem?_getD,List.getElem?_append_left hi]
set_option maxRecDepth 100000 in
set_option maxHeartbeats 4000000 in
theorem pz(v0:Value)(ll:List (List Int))(fuel heap more:Int)(W:World)(hR:bM W v0 ll)(hf:∀l∈ll,∀x∈l,gM x)(h1:gM fuel)(h2:gM heap)(h3:gM more):
 Calls Tryz.prog 3 #[v0,.int .i64 fuel,.int .i64 heap,.int .i64 more] W fun x w'=>x=.returned (.bool true)/\Gr W w':=by
 obtain ⟨f,hf5,QK⟩:=jp fuel 500 h1 Q5 Q5;obtain ⟨h,hh6,hph⟩:=jp heap 60 h2 Q5 Q5;obtain ⟨a,ha3,XL⟩:=jp more 300 h3 Q5 Q5;obtain ⟨b,O',QD⟩:=jp more 30 h3 Q5 Q5;obtain ⟨a0,c0,rfl,Km,I5⟩:=hR;have Tt:=aH I5;have HF:=aH hf;have HPF:=aH QK;have HPH:=aH hph;have HPA:=aH XL;have Xp:=aH QD;clear I5 hf Km QK hph XL QD h1 h2 h3;have J7:Hid (Bw W ll.length (.slice none 0 0) (.int .i64 0) W):=aH ⟨0,[],rfl,Q5,Q5,rfl,⟨none,0,rfl⟩,⟨rfl,.inl ⟨rfl,rfl⟩⟩,fun e he=>by simp at he,fun e he=>by simp at he,Gr.refl W⟩;go_enter Tryz.func3,Tryz.ntmps3
 go_upto_block 0 with fail
 go_cut [9,10] from 11 (fun v9 i wy=>CI W v9 wy)
 case first=>
  go_wp2_with fail
  go_loopw [9,10] (fun v9 i wr=>Bw W ll.length v9 i wr) (fun _ i _=>5 - (intOf i).toNat)
  case atStart=>exact J7.out
  case round=>
   clear J7 HPF HPH HPA Xp;obtain ⟨k,es,rfl,hk,hkL,Yd,⟨a9,c9,rfl⟩,Rh⟩:=hrel;obtain rfl:=Yd;by_cases J0:es.length < ll.length/\es.length < 5
   · obtain ⟨h1,h2⟩:=J0;have i1:(es.length:Int) < (ll.length:Int):=by omega
     have i2:(es.length:Int) < 5:=Q5
     have D2:IntKind.i64.wrap ((es.length:Int)+1)=(es.length:Int)+1:=Q_;obtain ⟨l,hl⟩:∃l,ll[es.length]? =some l:=⟨_,List.getElem?_eq_getElem h1⟩;obtain ⟨b0,off,vx,rfl,hc,Ym⟩:=Tt.out es.length l hl;obtain ⟨xa,xc,rfl⟩:=Ym.shape;have cx:wr.cell? ⟨b0,off+es.length,none⟩=some (.slice xa l.length xc):=Rh.gr.cell hc Q6;have HU:=aH (zP _ l wr (Ym.gr Rh.gr) (HF.out l (List.mem_of_getElem? hl)));have Jr:=aH Rh;clear Rh Ym hc hl Tt HF;go_wp2_with fail
     refine HU.out.mono ?_;rintro x1 w1 ⟨v,u,rfl,hF,N2,Y9⟩;obtain ⟨a1,a2,a3,a4,a5,c1,c2,c3,c4,c5,rfl,_⟩:=hF.to.parts;obtain ⟨n1,e1⟩:∃n,n=u.aA.length:=⟨_,rfl⟩;obtain ⟨n2,e2⟩:∃n,n=u.aD.length:=⟨_,rfl⟩;obtain ⟨n3,e3⟩:∃n,n=u.aE.length:=⟨_,rfl⟩;obtain ⟨n4,e4⟩:∃n,n=u.aB.length:=⟨_,rfl⟩;obtain ⟨n5,e5⟩:∃n,n=u.aC.length:=⟨_,rfl⟩;rw [<-e1,<-e2,<-e3,<-e4,<-e5] at hF |-;clear e1 e2 e3 e4 e5;have hg1:=ju Y9;have gU:=(Gr.refl w1).alloc (.cells #[.slice a1 n1 c1,.slice a2 n2 c2,.slice a3 n3 c3,.slice a4 n4 c4,.slice a5 n5 c5] 29);have hS:kM (Value.slice a9 es.length c9).ownBlock (w1.alloc (.cells #[.slice a1 n1 c1,.slice a2 n2 c2,.slice a3 n3 c3,.slice a4 n4 c4,.slice a5 n5 c5] 29)) (.agg #[.slice a1 n1 c1,.slice a2 n2 c2,.slice a3 n3 c3,.slice a4 n4 c4,.slice a5 n5 c5]) u:=(kM.new hF (fun k hk=>(Jr.out.o.lt k hk).2)).gr gU;have HB:=aH (heap_alloc_new w1 (.cells #[.slice a1 n1 c1,.slice a2 n2 c2,.slice a3 n3 c3,.slice a4 n4 c4,.slice a5 n5 c5] 29));have HS:=aH hS;have Za:=aH (Jr.out.mv (hg1.trans gU));have M8:=aH N2;clear hF N2 Y9 hg1 gU hS HU Jr cx;go_upto_region 6 with fail
     generalize w1.alloc (.cells #[.slice a1 n1 c1,.slice a2 n2 c2,.slice a3 n3 c3,.slice a4 n4 c4,.slice a5 n5 c5] 29)=W1 at HB HS Za |-;generalize w1.heap.size=ub at HB |-;obtain ⟨v0,v1,v2,v3,v4⟩:=cells5 HB.out;have gN:=(Gr.refl W1).alloc (.cells #[.slice a1 n1 c1,.slice a2 n2 c2,.slice a3 n3 c3,.slice a4 n4 c4,.slice a5 n5 c5] 29);obtain ⟨a',c',w4,hr,Zw⟩:=(Za.out.mv gN).put (e:=⟨.slice a1 n1 c1,.slice a2 n2 c2,.slice a3 n3 c3,.slice a4 n4 c4,.slice a5 n5 c5,u⟩) (HS.out.gr gN) ⟨M8.out.1,M8.out.2.1,Nat.le_trans M8.out.2.2 Q5⟩ (by intro y hy;simp [zH] at hy;rcases hy with rfl|rfl|rfl|rfl|rfl<;>rfl) (dx W1 #[.slice a1 n1 c1,.slice a2 n2 c2,.slice a3 n3 c3,.slice a4 n4 c4,.slice a5 n5 c5] 29 1) Q5
     have HR:=aH hr;have HCE:Hid (Bw W ll.length (.slice a' (es.length+1) c') (.int .i64 ((es.length+1:Nat):Int)) w4):=aH ⟨es.length+1,es++ [_],rfl,Q5,Q5,Q6,⟨a',c',Q6⟩,Zw⟩;clear gN hr Zw HB HS Za M8;go_wp2_with (first|(at_builtin;refine Lib.wpList_append_run _ rfl _ _ _ _ rfl _ _ rfl rfl _ _ HR.out ?_))
     exact ⟨HCE.out,by simp [intOf];omega⟩
   · have HX:Hid (CI W (.slice a9 es.length c9) wr):=aH ⟨es,hk,⟨a9,c9,rfl⟩,Rh⟩;have hex:ll.length<=es.length\/(es.length < ll.length/\5<=es.length):=by omega
     clear Rh hkL J0 Tt HF;rcases hex with he|he
     · have i1:¬(es.length:Int) < (ll.length:Int):=by omega
       clear he;go_wp2_with fail
       go_meet
       exact HX.out
     · have i1:(es.length:Int) < (ll.length:Int):=by omega
       have i2:¬(es.length:Int) < 5:=Q5
       clear he;go_wp2_with fail
       go_meet
       exact HX.out
 case rest=>
  clear J7 Tt HF;obtain ⟨es,Yd,⟨a9,c9,rfl⟩,Rh⟩:=hcut;have Jr:=aH Rh;clear Rh;go_wp2_with fail
  refine (vK 3 _).mono ?_;rintro x1 w1 ⟨v,rfl,hS,hg1⟩;have Nc:=hS w1 (fun b o _ h=>h);obtain ⟨a1,a2,a3,a4,a5,c1,c2,c3,c4,c5,rfl,_⟩:=Nc.parts;obtain ⟨n1,e1⟩:∃n,n=(fD 3).aA.length:=⟨_,rfl⟩;obtain ⟨n2,e2⟩:∃n,n=(fD 3).aD.length:=⟨_,rfl⟩;obtain ⟨n3,e3⟩:∃n,n=(fD 3).aE.length:=⟨_,rfl⟩;obtain ⟨n4,e4⟩:∃n,n=(fD 3).aB.length:=⟨_,rfl⟩;obtain ⟨n5,e5⟩:∃n,n=(fD 3).aC.length:=⟨_,rfl⟩;rw [<-e1,<-e2,<-e3,<-e4,<-e5] at hS |-;clear e1 e2 e3 e4 e5 Nc;have gN:=(Gr.refl w1).alloc (.cells #[.slice a1 n1 c1,.slice a2 n2 c2,.slice a3 n3 c3,.slice a4 n4 c4,.slice a5 n5 c5] 29);obtain ⟨a',c',w4,hr,Zw⟩:=(Jr.out.mv (hg1.trans gN)).put (e:=⟨.slice a1 n1 c1,.slice a2 n2 c2,.slice a3 n3 c3,.slice a4 n4 c4,.slice a5 n5 c5,fD 3⟩) ((kM.list hS (fun k hk=>(Jr.out.o.lt k hk).2)).gr gN) (xP (n:=3) Q5) (by intro y hy;simp [zH] at hy;rcases hy with rfl|rfl|rfl|rfl|rfl<;>rfl) (dx w1 #[.slice a1 n1 c1,.slice a2 n2 c2,.slice a3 n3 c3,.slice a4 n4 c4,.slice a5 n5 c5] 29 1) Q5
  have HR:=aH hr;have HRN:Hid (∀w' (f h:Nat),Gr w4 w'->f<=200000->h<=5000->Calls Tryz.prog 8 #[.slice a' (es.length+1) c',.int .i64 (f:Int),.int .i64 (h:Int)] w' (CJ w' (fB ((es++ [(⟨.slice a1 n1 c1,.slice a2 n2 c2,.slice a3 n3 c3,.slice a4 n4 c4,.slice a5 n5 c5,fD 3⟩:UE)]).map (fun e:UE=>e.u)) f h))):=aH (fun w' f h g hf hh=>xS (gL f h) f h _ _ w' (Zw.units.gr g) (fun u hu=>by
   obtain ⟨e,he,rfl⟩:=List.mem_map.1 hu;exact Zw.wr e he) (AK f h hf Q5 _) gS)
  have Zt:Hid (∀u∈(es++ [(⟨.slice a1 n1 c1,.slice a2 n2 c2,.slice a3 n3 c3,.slice a4 n4 c4,.slice a5 n5 c5,fD 3⟩:UE)]).map (fun e:UE=>e.u),sS u):=aH (fun u hu=>by
   obtain ⟨e,he,rfl⟩:=List.mem_map.1 hu;exact Zw.wr e he)
  have O1:=aH Zw.gr;clear gN hr Zw hS hg1 Jr;go_upto_region 8 with (first|(at_builtin;refine Lib.wpList_append_run _ rfl _ _ _ _ rfl _ _ rfl rfl _ _ HR.out ?_))
  clear HR;generalize (es++ [(⟨.slice a1 n1 c1,.slice a2 n2 c2,.slice a3 n3 c3,.slice a4 n4 c4,.slice a5 n5 c5,fD 3⟩:UE)]).map (fun e:UE=>e.u)=us at HRN Zt;generalize es.length+1=k9 at HRN |-;have H3:=tG Zt.out (f:=f) (h:=h) (a:=a) (b:=b) Q5 Q5;have E6:=aH (fun w' g=>HRN.out w' f h g Q5 Q5);have O3:=aH (fun w' g=>HRN.out w' (f+a) (h+b) g Q5 Q5);have P6:=aH (fun w' g=>HRN.out w' (f / 2) h g Q5 Q5);clear HRN Zt;generalize fB us f h=o at H3 E6;generalize fB us (f+a) (h+b)=p at H3 O3;generalize fB us (f / 2) h=q at H3 P6;have hwa:IntKind.i64.wrap ((f:Int)+(a:Int))=((f+a:Nat):Int):=(Q_).trans Q5;have M1:IntKind.i64.wrap ((h:Int)+(b:Int))=((h+b:Nat):Int):=(Q_).trans Q5;have hdv:Int.tdiv (f:Int) 2=((f / 2:Nat):Int):=rfl;have hwd:IntKind.i64.wrap ((f / 2:Nat):Int)=((f / 2:Nat):Int):=Q_;generalize hfa:f+a=fa at *;generalize hhb:h+b=hb at *;generalize Qk:f / 2=f2 at *;clear hfa hhb Qk;have H3':=aH H3;clear H3;go_wp2_with fail
  refine (HPF.out _).mono ?_;rintro x1 w0 ⟨rfl,J_⟩;obtain rfl:=J_.symm;clear J_;go_wp2_with fail
  refine (HPH.out _).mono ?_;rintro x1 w0 ⟨rfl,J_⟩;obtain rfl:=J_.symm;clear J_;clear HPF HPH;go_wp2_with fail
  refine (E6.out _ (Gr.refl _)).mono ?_;rintro x1 w5 ⟨vo,rfl,⟨vt,rfl,⟨t1,Ef,rfl,Nq,ht⟩⟩,P1⟩;have HT1:Hid (∀w',Gr w5 w'->aW w' (.slice t1 o.told.length Ef) o.told):=aH (fun w' g=>(dP.f ⟨t1,Ef,rfl,Nq,ht⟩).to.gr g);have VB:=aH Nq.2;have S6:=aH (heap_alloc_new w5 (.cells #[.int .i64 o.why,.int .i64 o.unit,.int .i64 o.at_,.int .i64 o.e,.int .i64 o.result,.slice t1 o.told.length Ef,.int .i64 o.steps] 35));have gV:=(Gr.refl w5).alloc (.cells #[.int .i64 o.why,.int .i64 o.unit,.int .i64 o.at_,.int .i64 o.e,.int .i64 o.result,.slice t1 o.told.length Ef,.int .i64 o.steps] 35);have En:=aH gV;have MI:=aH (P1.trans gV);have I1:=aH (Gr.trans ((Gr.refl _)) (P1.trans gV));clear P1 Nq ht gV;go_upto_region 11 with fail
  generalize w5.alloc (.cells #[.int .i64 o.why,.int .i64 o.unit,.int .i64 o.at_,.int .i64 o.e,.int .i64 o.result,.slice t1 o.told.length Ef,.int .i64 o.steps] 35)=W1 at S6 En MI I1 |-;generalize w5.heap.size=Yl at S6 |-;go_wp2_with fail
  refine (HPA.out _).mono ?_;rintro x1 w0 ⟨rfl,J_⟩;obtain rfl:=J_.symm;clear J_;go_wp2_with fail
  refine (Xp.out _).mono ?_;rintro x1 w0 ⟨rfl,J_⟩;obtain rfl:=J_.symm;clear J_;go_wp2_with fail
  refine (O3.out _ I1.out).mono ?_;rintro x1 w5 ⟨vo,rfl,⟨vt,rfl,⟨t2,Cx,rfl,Nq,ht⟩⟩,P1⟩;have HT2:Hid (∀w',Gr w5 w'->aW w' (.slice t2 p.told.length Cx) p.told):=aH (fun w' g=>(dP.f ⟨t2,Cx,rfl,Nq,ht⟩).to.gr g);have MN:=aH Nq.2;have H9:=aH (heap_alloc_new w5 (.cells #[.int .i64 p.why,.int .i64 p.unit,.int .i64 p.at_,.int .i64 p.e,.int .i64 p.result,.slice t2 p.told.length Cx,.int .i64 p.steps] 35));have gV:=(Gr.refl w5).alloc (.cells #[.int .i64 p.why,.int .i64 p.unit,.int .i64 p.at_,.int .i64 p.e,.int .i64 p.result,.slice t2 p.told.length Cx,.int .i64 p.steps] 35);have Qz:=aH gV;have Ir:=aH (P1.trans gV);have O0:=aH (Gr.trans (I1.out) (P1.trans gV));clear P1 Nq ht gV;go_upto_region 12 with fail
  generalize w5.alloc (.cells #[.int .i64 p.why,.int .i64 p.unit,.int .i64 p.at_,.int .i64 p.e,.int .i64 p.result,.slice t2 p.told.length Cx,.int .i64 p.steps] 35)=W2 at H9 Qz Ir O0 |-;generalize w5.heap.size=Dx at H9 |-;go_wp2_with fail
  refine (P6.out _ O0.out).mono ?_;rintro x1 w5 ⟨vo,rfl,⟨vt,rfl,⟨t3,Jj,rfl,Nq,ht⟩⟩,P1⟩;have HT3:Hid (∀w',Gr w5 w'->aW w' (.slice t3 q.told.length Jj) q.told):=aH (fun w' g=>(dP.f ⟨t3,Jj,rfl,Nq,ht⟩).to.gr g);have NN:=aH Nq.2;have Oj:=aH (heap_alloc_new w5 (.cells #[.int .i64 q.why,.int .i64 q.unit,.int .i64 q.at_,.int .i64 q.e,.int .i64 q.result,.slice t3 q.told.length Jj,.int .i64 q.steps] 35));have gV:=(Gr.refl w5).alloc (.cells #[.int .i64 q.why,.int .i64 q.unit,.int .i64 q.at_,.int .i64 q.e,.int .i64 q.result,.slice t3 q.told.length Jj,.int .i64 q.steps] 35);have Yw:=aH gV;have Pm:=aH (P1.trans gV);have HG3:=aH (Gr.trans (O0.out) (P1.trans gV));clear P1 Nq ht gV;go_upto_region 13 with fail
  generalize w5.alloc (.cells #[.int .i64 q.why,.int .i64 q.unit,.int .i64 q.at_,.int .i64 q.e,.int .i64 q.result,.slice t3 q.told.length Jj,.int .i64 q.steps] 35)=W3 at Oj Yw Pm HG3 |-;generalize w5.heap.size=Zl at Oj |-;clear HPA Xp E6 O3 P6 hwa M1;have JT:=aH (O1.out.trans HG3.out);have Su:Hid (∀w',Gr W3 w'->aW w' (.slice t1 o.told.length Ef) o.told):=aH (fun w' g=>HT1.out w' (En.out.trans (Ir.out.trans (Pm.out.trans g))));have WB:Hid (∀w',Gr W3 w'->aW w' (.slice t2 p.told.length Cx) p.told):=aH (fun w' g=>HT2.out w' (Qz.out.trans (Pm.out.trans g)));have XB:Hid (∀w',Gr W3 w'->aW w' (.slice t3 q.told.length Jj) q.told):=aH (fun w' g=>HT3.out w' (Yw.out.trans g));clear HT1 HT2 HT3 En Qz Yw I1 O0 HG3 O1;have HKA:Hid (∀w',Gr W3 w'->(w'.cell? ⟨Yl,0,none⟩=some (.int .i64 o.why)/\w'.cell? ⟨Yl,1,none⟩=some (.int .i64 o.unit)/\w'.cell? ⟨Yl,2,none⟩=some (.int .i64 o.at_)/\w'.cell? ⟨Yl,3,none⟩=some (.int .i64 o.e)/\w'.cell? ⟨Yl,4,none⟩=some (.int .i64 o.result)/\w'.cell? ⟨Yl,5,none⟩=some (.slice t1 o.told.length Ef)/\w'.cell? ⟨Yl,6,none⟩=some (.int .i64 o.steps))/\(w'.cell? ⟨Dx,0,none⟩=some (.int .i64 p.why)/\w'.cell? ⟨Dx,1,none⟩=some (.int .i64 p.unit)/\w'.cell? ⟨Dx,2,none⟩=some (.int .i64 p.at_)/\w'.cell? ⟨Dx,3,none⟩=some (.int .i64 p.e)/\w'.cell? ⟨Dx,4,none⟩=some (.int .i64 p.result)/\w'.cell? ⟨Dx,5,none⟩=some (.slice t2 p.told.length Cx)/\w'.cell? ⟨Dx,6,none⟩=some (.int .i64 p.steps))/\(w'.cell? ⟨Zl,0,none⟩=some (.int .i64 q.why)/\w'.cell? ⟨Zl,1,none⟩=some (.int .i64 q.unit)/\w'.cell? ⟨Zl,2,none⟩=some (.int .i64 q.at_)/\w'.cell? ⟨Zl,3,none⟩=some (.int .i64 q.e)/\w'.cell? ⟨Zl,4,none⟩=some (.int .i64 q.result)/\w'.cell? ⟨Zl,5,none⟩=some (.slice t3 q.told.length Jj)/\w'.cell? ⟨Zl,6,none⟩=some (.int .i64 q.steps))):=aH (fun w' g=>⟨(fA (((Ir.out.trans (Pm.out.trans g)).block Yl (Array.getElem?_eq_some_iff.1 S6.out).1 Q6).trans S6.out)).1,(fA (((Pm.out.trans g).block Dx (Array.getElem?_eq_some_iff.1 H9.out).1 Q6).trans H9.out)).1,(fA ((g.block Zl (Array.getElem?_eq_some_iff.1 Oj.out).1 Q6).trans Oj.out)).1⟩)
  obtain ⟨⟨Jp,Lp,Mp,Np,ON,PN,QN⟩,⟨SN,TN,VN,WN,XN,YN,ZN⟩,⟨DO,EO,FO,GO,JO,KO,LO⟩⟩:=HKA.out _ (Gr.refl _);rcases H3'.out with ⟨h1,h2,h3,h4,rfl,rfl⟩|⟨h1,h2,h3,h4,h5,h6,h7⟩
  · clear H3' Su WB XB S6 H9 Oj Ir Pm VB MN NN HKA;cases q with
    | mk ow ou oa oe og ot os=>
     dsimp only at *
     subst h3 h4;have k1:¬ow < 3:=Q5
     have k2:¬ow > 10:=Q5
     have k3:¬10 < ow:=Q5
     clear h1;go_wp2_with fail
     go_ret
     exact ⟨rfl,JT.out⟩
  · clear H3';have Cm:Hid (∀w',Gr W3 w'->w'.cell? ⟨Zl,5,none⟩=some (.slice t3 q.told.length Jj)/\w'.cell? ⟨Yl,5,none⟩=some (.slice t1 o.told.length Ef)):=aH (fun w' g=>⟨(fA ((g.block Zl (Array.getElem?_eq_some_iff.1 Oj.out).1 Q6).trans Oj.out)).1.2.2.2.2.2.1,(fA (((Ir.out.trans (Pm.out.trans g)).block Yl (Array.getElem?_eq_some_iff.1 S6.out).1 Q6).trans S6.out)).1.2.2.2.2.2.1⟩);have HSM:Hid (∀w',Gr W3 w'->Calls Tryz.prog 9 #[.slice t3 q.told.length Jj,.slice t1 q.told.length Ef] w' fun x Fm=>x=.returned (.bool true)/\Gr w' Fm):=aH (fun w' g=>oZ _ _ q.told w' (XB.out w' g) (by
     obtain ⟨r,hr⟩:=h7;have:=Su.out w' g
     rw [<-hr] at this;exact yA this))
    have HSA:Hid (∀w',Gr W3 w'->p=o->Calls Tryz.prog 9 #[.slice t1 o.told.length Ef,.slice t2 o.told.length Cx] w' fun x Fm=>x=.returned (.bool true)/\Gr w' Fm):=aH (fun w' g e=>oZ _ _ o.told w' (Su.out w' g) (by
     have:=WB.out w' g
     rw [e] at this;exact this))
    have jl0:q.told.length<=o.told.length:=h7.length_le;have jc0:o.told.length<=Ef:=VB.out;clear Su WB XB S6 H9 Oj Ir Pm VB MN NN h7;cases o with
    | mk ow ou oa oe og ot os=>
    cases q with
    | mk qw qu qa qe qg qt qs=>
     dsimp only at *
     have jl:¬(qt.length:Int) > (ot.length:Int):=Q5
     have jl2:¬(ot.length:Int) < (qt.length:Int):=Q5
     have jc:qt.length<=Ef:=Q5
     have jc2:(qt.length:Int)<=(Ef:Int):=Q5
     have k1:¬ow < 3:=Q5
     have k2:¬ow > 10:=Q5
     have k3:¬10 < ow:=Q5
     have k4:¬ow<=5:=Q5
     have k5:¬os > (f:Int):=Q5
     have k6:¬(f:Int) < os:=Q5
     have k7:¬qs > (f2:Int):=Q5
     have k8:¬(f2:Int) < qs:=Q5
     clear jl0 jc0 h1 h2;by_cases w7:ow=7
     · subst w7;have Gn:=h4 rfl;subst Gn;clear h3 h4 h5 h6 HSA k1 k2 k3 k4 k5 k6;go_upto_region 26 with fail
       clear Jp Lp Mp Np ON PN QN SN TN VN WN XN YN ZN DO EO FO GO JO KO LO;refine wp_region_held_drew (S:=(fun w'=>w'.cell? ⟨Zl,5,none⟩=some (.slice t3 qt.length Jj)/\w'.cell? ⟨Yl,5,none⟩=some (.slice t1 ot.length Ef))) Q7 (Cm.out _ (Gr.drew (Gr.refl W3))) (fun hH=>?_);refine dF (i:=0) (v:=_) rfl Q7 Q7 Q7 (fun _ _ _ h=>h) cw (fun w M5=>by (try dsimp only at M5);go_simp<;>with_reducible rfl) hH ?_
       simp only [Act.put,sA,s0,s1];refine dF (i:=1) (v:=_) rfl Q7 Q7 Q7 (fun _ _ _ h=>h) cw (fun w M5=>by (try dsimp only at M5);go_simp<;>with_reducible rfl) hH ?_
       simp only [Act.put,sA,s0,s1];refine dF (i:=2) (v:=_) rfl Q7 Q7 Q7 (fun _ _ _ h=>h) cw (fun w M5=>by (try dsimp only at M5);go_simp<;>with_reducible rfl) hH ?_
       simp only [Act.put,sA,s0,s1];refine dF (i:=3) (v:=_) rfl Q7 Q7 Q7 (fun _ _ _ h=>h) cw (fun w M5=>by (try dsimp only at M5);go_simp<;>with_reducible rfl) hH ?_
       simp only [Act.put,sA,s0,s1];refine dF (i:=4) (v:=_) rfl Q7 Q7 Q7 (fun _ _ _ h=>h) cw (fun w M5=>by (try dsimp only at M5);go_simp<;>with_reducible rfl) hH ?_
       simp only [Act.put,sA,s0,s1];refine dF (i:=5) (v:=_) rfl Q7 Q7 Q7 (fun _ _ _ h=>h) cw (fun w M5=>by (try dsimp only at M5);go_simp<;>with_reducible rfl) hH ?_
       simp only [Act.put,sA,s0,s1];refine dF (i:=6) (v:=_) rfl Q7 Q7 Q7 (fun _ _ _ h=>h) cw (fun w M5=>by (try dsimp only at M5);go_simp<;>with_reducible rfl) hH ?_
       simp only [Act.put,sA,s0,s1];refine dF (i:=7) (v:=_) rfl Q7 Q7 Q7 (fun _ _ _ h=>h) cw (fun w M5=>by (try dsimp only at M5);go_simp<;>with_reducible rfl) hH ?_
       simp only [Act.put,sA,s0,s1];refine aq (i:=8) rfl Q7 (fun K hK=>?_);refine aQ rfl 9 _ _ rfl #[.slice t3 qt.length Jj,.slice t1 qt.length Ef] fk (Tryz.callSameF _ _) ((HSM.out _ (Gr.drew (Gr.refl W3))).mono ?_);rintro x1 w6 ⟨rfl,P2⟩;refine .inl ⟨_,rfl,?_⟩;have Wa:=aH (Gr.trans (Gr.drew (Gr.refl W3)) P2);clear P2;refine hK.out _ _ (Cm.out _ Wa.out) (fun hH=>?_);clear hK;try simp only [Act.put,sA,s0,s1]
       refine dF (i:=9) (v:=_) rfl Q7 Q7 Q7 (fun _ _ _ h=>h) cw (fun w M5=>by (try dsimp only at M5);go_simp<;>with_reducible rfl) hH ?_
       simp only [Act.put,sA,s0,s1];refine wpAnyH_done Q7 ?_ _;go_wp2_with fail
       go_ret
       exact ⟨rfl,JT.out.trans Wa.out⟩
     · clear h4 h3 h5;have w7b:(ow == 7)=false:=by simpa using w7
       have R':os=(f:Int)\/((os == (f:Int))=false/\¬os=(f:Int)):=by
        by_cases c:os=(f:Int)
        · exact .inl c
        · exact .inr ⟨by simpa using c,c⟩
       by_cases w8:ow=8
       · subst w8;clear h6 HSA k1 k2 k3 k4 w7 w7b;rcases R' with rfl|⟨Gn,hos2⟩
         all_goals (
          go_upto_region 26 with fail
          clear Jp Lp Mp Np ON PN QN SN TN VN WN XN YN ZN DO EO FO GO JO KO LO;refine wp_region_held_drew (S:=(fun w'=>w'.cell? ⟨Zl,5,none⟩=some (.slice t3 qt.length Jj)/\w'.cell? ⟨Yl,5,none⟩=some (.slice t1 ot.length Ef))) Q7 (Cm.out _ (Gr.drew (Gr.refl W3))) (fun hH=>?_);refine dF (i:=0) (v:=_) rfl Q7 Q7 Q7 (fun _ _ _ h=>h) cw (fun w M5=>by (try dsimp only at M5);go_simp<;>with_reducible rfl) hH ?_
          simp only [Act.put,sA,s0,s1];refine dF (i:=1) (v:=_) rfl Q7 Q7 Q7 (fun _ _ _ h=>h) cw (fun w M5=>by (try dsimp only at M5);go_simp<;>with_reducible rfl) hH ?_
          simp only [Act.put,sA,s0,s1];refine dF (i:=2) (v:=_) rfl Q7 Q7 Q7 (fun _ _ _ h=>h) cw (fun w M5=>by (try dsimp only at M5);go_simp<;>with_reducible rfl) hH ?_
          simp only [Act.put,sA,s0,s1];refine dF (i:=3) (v:=_) rfl Q7 Q7 Q7 (fun _ _ _ h=>h) cw (fun w M5=>by (try dsimp only at M5);go_simp<;>with_reducible rfl) hH ?_
          simp only [Act.put,sA,s0,s1];refine dF (i:=4) (v:=_) rfl Q7 Q7 Q7 (fun _ _ _ h=>h) cw (fun w M5=>by (try dsimp only at M5);go_simp<;>with_reducible rfl) hH ?_
          simp only [Act.put,sA,s0,s1];refine dF (i:=5) (v:=_) rfl Q7 Q7 Q7 (fun _ _ _ h=>h) cw (fun w M5=>by (try dsimp only at M5);go_simp<;>with_reducible rfl) hH ?_
          simp only [Act.put,sA,s0,s1];refine dF (i:=6) (v:=_) rfl Q7 Q7 Q7 (fun _ _ _ h=>h) cw (fun w M5=>by (try dsimp only at M5);go_simp<;>with_reducible rfl) hH ?_
          simp only [Act.put,sA,s0,s1];refine dF (i:=7) (v:=_) rfl Q7 Q7 Q7 (fun _ _ _ h=>h) cw (fun w M5=>by (try dsimp only at M5);go_simp<;>with_reducible rfl) hH ?_
          simp only [Act.put,sA,s0,s1];refine aq (i:=8) rfl Q7 (fun K hK=>?_);refine aQ rfl 9 _ _ rfl #[.slice t3 qt.length Jj,.slice t1 qt.length Ef] fk (Tryz.callSameF _ _) ((HSM.out _ (Gr.drew (Gr.refl W3))).mono ?_);rintro x1 w6 ⟨rfl,P2⟩;refine .inl ⟨_,rfl,?_⟩;have Wa:=aH (Gr.trans (Gr.drew (Gr.refl W3)) P2);clear P2;refine hK.out _ _ (Cm.out _ Wa.out) (fun hH=>?_);clear hK;try simp only [Act.put,sA,s0,s1]
          refine dF (i:=9) (v:=_) rfl Q7 Q7 Q7 (fun _ _ _ h=>h) cw (fun w M5=>by (try dsimp only at M5);go_simp<;>with_reducible rfl) hH ?_
          simp only [Act.put,sA,s0,s1];refine wpAnyH_done Q7 ?_ _;go_wp2_with fail
          go_ret
          exact ⟨rfl,JT.out.trans Wa.out⟩
          )
       · have w8b:(ow == 8)=false:=by simpa using w8
         have DA:=h6 w7 w8;subst DA;have HSB:=aH (fun w' g=>HSA.out w' g rfl);clear HSA h6;dsimp only at *
         have w7c:(ow != 7)=true:=by simpa using w7
         have w8c:(ow != 8)=true:=by simpa using w8
         rcases R' with rfl|⟨Gn,hos2⟩
         all_goals (
          go_upto_region 21 with fail
          go_wp2_with fail
          refine (HSB.out _ (Gr.refl _)).mono ?_;rintro x1 w7 ⟨rfl,Qv⟩;have Rv:=aH Qv;clear Qv;clear Jp Lp Mp Np ON PN QN SN TN VN WN XN YN ZN DO EO FO GO JO KO LO;obtain ⟨⟨Jp,Lp,Mp,Np,ON,PN,QN⟩,⟨SN,TN,VN,WN,XN,YN,ZN⟩,⟨DO,EO,FO,GO,JO,KO,LO⟩⟩:=HKA.out _ (Rv.out);go_upto_region 26 with fail
          clear Jp Lp Mp Np ON PN QN SN TN VN WN XN YN ZN DO EO FO GO JO KO LO;refine wp_region_held_drew (S:=(fun w'=>w'.cell? ⟨Zl,5,none⟩=some (.slice t3 qt.length Jj)/\w'.cell? ⟨Yl,5,none⟩=some (.slice t1 ot.length Ef))) Q7 (Cm.out _ (Gr.drew (Rv.out))) (fun hH=>?_);refine dF (i:=0) (v:=_) rfl Q7 Q7 Q7 (fun _ _ _ h=>h) cw (fun w M5=>by (try dsimp only at M5);go_simp<;>with_reducible rfl) hH ?_
          simp only [Act.put,sA,s0,s1];refine dF (i:=1) (v:=_) rfl Q7 Q7 Q7 (fun _ _ _ h=>h) cw (fun w M5=>by (try dsimp only at M5);go_simp<;>with_reducible rfl) hH ?_
          simp only [Act.put,sA,s0,s1];refine dF (i:=2) (v:=_) rfl Q7 Q7 Q7 (fun _ _ _ h=>h) cw (fun w M5=>by (try dsimp only at M5);go_simp<;>with_reducible rfl) hH ?_
          simp only [Act.put,sA,s0,s1];refine dF (i:=3) (v:=_) rfl Q7 Q7 Q7 (fun _ _ _ h=>h) cw (fun w M5=>by (try dsimp only at M5);go_simp<;>with_reducible rfl) hH ?_
          simp only [Act.put,sA,s0,s1];refine dF (i:=4) (v:=_) rfl Q7 Q7 Q7 (fun _ _ _ h=>h) cw (fun w M5=>by (try dsimp only at M5);go_simp<;>with_reducible rfl) hH ?_
          simp only [Act.put,sA,s0,s1];refine dF (i:=5) (v:=_) rfl Q7 Q7 Q7 (fun _ _ _ h=>h) cw (fun w M5=>by (try dsimp only at M5);go_simp<;>with_reducible rfl) hH ?_
          simp only [Act.put,sA,s0,s1];refine dF (i:=6) (v:=_) rfl Q7 Q7 Q7 (fun _ _ _ h=>h) cw (fun w M5=>by (try dsimp only at M5);go_simp<;>with_reducible rfl) hH ?_
          simp only [Act.put,sA,s0,s1];refine dF (i:=7) (v:=_) rfl Q7 Q7 Q7 (fun _ _ _ h=>h) cw (fun w M5=>by (try dsimp only at M5);go_simp<;>with_reducible rfl) hH ?_
          simp only [Act.put,sA,s0,s1];refine aq (i:=8) rfl Q7 (fun K hK=>?_);refine aQ rfl 9 _ _ rfl #[.slice t3 qt.length Jj,.slice t1 qt.length Ef] fk (Tryz.callSameF _ _) ((HSM.out _ (Gr.drew (Rv.out))).mono ?_);rintro x1 w6 ⟨rfl,P2⟩;refine .inl ⟨_,rfl,?_⟩;have Wa:=aH (Gr.trans (Gr.drew (Rv.out)) P2);clear P2;refine hK.out _ _ (Cm.out _ Wa.out) (fun hH=>?_);clear hK;try simp only [Act.put,sA,s0,s1]
          refine dF (i:=9) (v:=_) rfl Q7 Q7 Q7 (fun _ _ _ h=>h) cw (fun w M5=>by (try dsimp only at M5);go_simp<;>with_reducible rfl) hH ?_
          simp only [Act.put,sA,s0,s1];refine wpAnyH_done Q7 ?_ _;go_wp2_with fail
          go_ret
          exact ⟨rfl,JT.out.trans Wa.out⟩
          )
end Go.Proofs.YtkgncijcnlfhiabGreat
