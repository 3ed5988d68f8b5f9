import Derived.Test.YtkgncijcnlfhiabGreatR2
import Derived.Test.YtkgncijcnlfhiabGreatQ3
import Derived.Test.YtkgncijcnlfhiabGreatE1
import Derived.Test.YtkgncijcnlfhiabGreatZ3
namespace Go.Proofs.YtkgncijcnlfhiabGreat
set_option maxRecDepth 100000
set_option maxHeartbeats 2000000
set_option linter.unusedVariables false
set_option linter.unusedSimpArgs false
open Go.RowKit
def put5(w:World)(b:Nat)(x0 x1 x2 x3 x4:Value):World:=((((w.setCell ⟨b,0,none⟩ x0).setCell ⟨b,1,none⟩ x1).setCell ⟨b,2,none⟩ x2).setCell ⟨b,3,none⟩ x3).setCell ⟨b,4,none⟩ x4
theorem jy(w:World)(b:Nat)(x0 x1 x2 x3 x4:Value):((((w.setCell ⟨b,0,none⟩ x0).setCell ⟨b,1,none⟩ x1).setCell ⟨b,2,none⟩ x2).setCell ⟨b,3,none⟩ x3).setCell ⟨b,4,none⟩ x4=put5 w b x0 x1 x2 x3 x4:=rfl
theorem ip{w:World}{b:Nat}{x0 x1 x2 x3 x4:Value}(y0 y1 y2 y3 y4:Value)(h:cI w b x0 x1 x2 x3 x4):cI (put5 w b y0 y1 y2 y3 y4) b y0 y1 y2 y3 y4:=((((h.set0 y0).set1 y1).set2 y2).set3 y3).set4 y4
theorem o9{w w1:World}{b:Nat}{y0 y1 y2 y3 y4:Value}(h:Gr w w1)(hb:w.heap.size<=b):Gr w (put5 w1 b y0 y1 y2 y3 y4):=br (br (br (br (br h hb) hb) hb) hb) hb
theorem lf{B b:Nat}{w:World}{v:Value}{u:aK}{y0 y1 y2 y3 y4:Value}(h:dX B w v u)(hb:b < B):dX B (put5 w b y0 y1 y2 y3 y4) v u:=((((h.kp (aN hb)).kp (aN hb)).kp (aN hb)).kp (aN hb)).kp (aN hb)
theorem uR{w:World}{b g:Nat}{x0 x1 x2 y0 y1 y2 y3 y4:Value}(h:¬b=g)(hb:bV w g x0 x1 x2):bV (put5 w b y0 y1 y2 y3 y4) g x0 x1 x2:=((((hb.other h).other h).other h).other h).other h
theorem vN{w:World}{b g:Nat}{x0 x1 x2 x3 x4 y0 y1 y2 y3 y4:Value}(h:¬b=g)(hb:cI w g x0 x1 x2 x3 x4):cI (put5 w b y0 y1 y2 y3 y4) g x0 x1 x2 x3 x4:=((((hb.other h).other h).other h).other h).other h
def A1(w:World)(ub:Nat):aK ⊕ (Int×Nat)->Ending->World->Prop
 | .inl u,x,w'=>∃v1 v2 v3 v4 v5 B w1,x=.returned (.tuple #[])/\w.heap.size<=B/\dX B w1 (.agg #[v1,v2,v3,v4,v5]) u/\Gr w w1/\w'=put5 w1 ub v1 v2 v3 v4 v5
 | .inr (e,p),x,w'=>x=.panicked (dM e p)/\Gr w w'
theorem xR(s:ByteArray)(tb ub:Nat)(x0 x1 x2 x3 x4:Value)(w:World)(ht:w.cell? ⟨tb,0,none⟩=some (.string s))(hs:s.size<=maxLen)(X':cI w ub x0 x1 x2 x3 x4):
 Calls Tryz.prog 45 #[.pointer (some ⟨tb,0,none⟩),.pointer (some ⟨ub,0,none⟩)] w (A1 w ub (dec s.data.toList)):=by
 have HB:=aH X';clear X';generalize hT:dec s.data.toList=D;go_enter Tryz.func45,Tryz.ntmps45
 go_wp2_with fail
 refine (xQ wX s _ hs).mono ?_;rw [hT];clear hT;intro x w1 h;cases D with
 | inl u=>
  obtain ⟨v,B,rfl,hB,hu,hg1⟩:=h;obtain ⟨v1,v2,v3,v4,v5,rfl,k1,k2,k3,k4,k5⟩:=hu;obtain ⟨a1,c1,rfl⟩:=k1.shape;obtain ⟨a2,c2,rfl⟩:=k2.shape;obtain ⟨a3,c3,rfl⟩:=k3.shape;obtain ⟨a4,c4,rfl⟩:=k4.shape;obtain ⟨a5,c5,rfl⟩:=k5.shape;have HU:Hid (dX B w1 (.agg #[.slice a1 u.aA.length c1,.slice a2 u.aD.length c2,.slice a3 u.aE.length c3,.slice a4 u.aB.length c4,.slice a5 u.aC.length c5]) u):=aH ⟨_,_,_,_,_,rfl,k1,k2,k3,k4,k5⟩;have HG:=aH hg1;have Kd:=aH hB;obtain ⟨b0,b1,b2,b3,b4,d0,d1,d2,d3,d4⟩:=HB.out.gr hg1;clear k1 k2 k3 k4 k5 hg1 HB hB;go_wp2
  rw [jy];go_end0
  exact ⟨_,_,_,_,_,B,w1,rfl,Kd.out,HU.out,HG.out,rfl⟩
 | inr q=>
  obtain ⟨e,p⟩:=q;obtain ⟨rfl,hg1⟩:=h;exact ⟨rfl,rfl,hg1⟩
open Go.RowKit
def CC(w:World):aK ⊕ (Int×Nat)->Ending->World->Prop
 | .inl u,x,w'=>∃v B,x=.returned (.tuple #[v,.int .i64 0,.int .i64 0])/\w.heap.size<=B/\dX B w' v u/\Gr w w'
 | .inr (e,p),x,w'=>x=.returned (.tuple #[.agg #[.slice none 0 0,.slice none 0 0,.slice none 0 0,.slice none 0 0,.slice none 0 0],.int .i64 e,.int .i64 p])/\Gr w w'
def BO(w:World):aK ⊕ (Int×Nat)->World->Prop
 | .inl u,w1=>∃v1 v2 v3 v4 v5 B,w.heap.size+4<=B/\dX B w1 (.agg #[v1,v2,v3,v4,v5]) u/\Gr w w1/\cI w1 (w.heap.size+2) v1 v2 v3 v4 v5/\cI w1 (w.heap.size+1) (.slice none 0 0) (.slice none 0 0) (.slice none 0 0) (.slice none 0 0) (.slice none 0 0)
 | .inr _,_=>False
def Af(w:World):aK ⊕ (Int×Nat)->Int->Int->Int->World->Prop
 | .inl _,_,_,_,_=>False
 | .inr (e,p),e',_,p',w1=>e'=e/\p'=p/\Gr w w1/\cI w1 (w.heap.size+2) (.slice none 0 0) (.slice none 0 0) (.slice none 0 0) (.slice none 0 0) (.slice none 0 0)/\cI w1 (w.heap.size+1) (.slice none 0 0) (.slice none 0 0) (.slice none 0 0) (.slice none 0 0) (.slice none 0 0)
def qP(w:World)(s:ByteArray):World:=((((w.alloc (.cells #[.string s] 9)).alloc (.cells #[.slice none 0 0,.slice none 0 0,.slice none 0 0,.slice none 0 0,.slice none 0 0] 29)).alloc (.cells #[.slice none 0 0,.slice none 0 0,.slice none 0 0,.slice none 0 0,.slice none 0 0] 29)))
theorem y_(w:World)(s:ByteArray):((((w.alloc (.cells #[.string s] 9)).alloc (.cells #[.slice none 0 0,.slice none 0 0,.slice none 0 0,.slice none 0 0,.slice none 0 0] 29)).alloc (.cells #[.slice none 0 0,.slice none 0 0,.slice none 0 0,.slice none 0 0,.slice none 0 0] 29)))=qP w s:=rfl
theorem tF(w:World)(s:ByteArray):(qP w s).cell? ⟨w.heap.size,0,none⟩=some (.string s)/\cI (qP w s) (w.heap.size+1) (.slice none 0 0) (.slice none 0 0) (.slice none 0 0) (.slice none 0 0) (.slice none 0 0)/\cI (qP w s) (w.heap.size+2) (.slice none 0 0) (.slice none 0 0) (.slice none 0 0) (.slice none 0 0) (.slice none 0 0)/\Gr w (qP w s)/\(qP w s).heap.size=w.heap.size+3:=by
 unfold qP;refine ⟨by simp [go_sem],⟨?_,?_,?_,?_,?_,?_,?_,?_,?_,?_⟩,⟨?_,?_,?_,?_,?_,?_,?_,?_,?_,?_⟩,(((Gr.refl _).alloc _).alloc _).alloc _,Q6⟩<;>simp [go_sem]
theorem sd(s:ByteArray)(w:World)(hs:s.size<=maxLen):
 Calls Tryz.prog 26 #[.string s] w (CC w (dec s.data.toList)):=by
 have Kf:∀(fn:Fn) (first cap:Array Value) (w:World),(Instr.makeFunc fn first cap).run Tryz.prog w=.ok (.func fn first cap) w:=fun _ _ _ _=>rfl
 have HF:=aH (tF w s);generalize hD:dec s.data.toList=D;go_enter Tryz.func26,Tryz.ntmps26
 go_wp2_with fail
 rw [y_];obtain ⟨ht,T3,X',Qm,R0⟩:=HF.out;clear HF;generalize qP w s=V at ht T3 X' Qm R0 |-;have M1:bV (V.alloc (.cells #[.int .i64 0,.int .i64 0,.int .i64 0] 62)) V.heap.size (.int .i64 0) (.int .i64 0) (.int .i64 0):=bV.new V 62 (.int .i64 0) (.int .i64 0) (.int .i64 0);have M3:=Gr.alloc (Gr.refl V) (.cells #[.int .i64 0,.int .i64 0,.int .i64 0] 62);have Rg:(V.alloc (.cells #[.int .i64 0,.int .i64 0,.int .i64 0] 62)).heap.size=V.heap.size+1:=Q6
 refine (iN 45 #[.pointer (some ⟨w.heap.size,0,none⟩),.pointer (some ⟨w.heap.size+2,0,none⟩)] V (BO w D) (Af w D) (fun w=>rfl)
  ((xR s w.heap.size (w.heap.size+2) _ _ _ _ _ _ (M3.cell ht Q6) hs (X'.gr M3)).mono ?_)).mono ?_
 · rw [hD];clear hD;intro x w' h;cases D with
   | inl u=>
    obtain ⟨v1,v2,v3,v4,v5,B,w1,rfl,hB,hu,hg,rfl⟩:=h;refine ⟨?_,.inl ⟨rfl,v1,v2,v3,v4,v5,B,Q5,lf hu Q5,o9 ((Qm.trans M3).trans hg) Q5,ip _ _ _ _ _ ((X'.gr M3).gr hg),vN Q5 ((T3.gr M3).gr hg)⟩⟩;exact uR Q5 (M1.gr hg)
   | inr q=>
    obtain ⟨e,p⟩:=q;obtain ⟨rfl,hg⟩:=h;exact ⟨M1.gr hg,.inr ⟨e,0,p,rfl,rfl,rfl,(Qm.trans M3).trans hg,(X'.gr M3).gr hg,(T3.gr M3).gr hg⟩⟩
 · clear M1 M3 Rg ht Qm X' T3 hD hs;rintro x w2 ⟨w1,hgc,hbS,h⟩;cases D with
   | inl u=>
    rcases h with ⟨rfl,h⟩|⟨e,n,a,rfl,h⟩
    · obtain ⟨v1,v2,v3,v4,v5,B,hB,hu,hg,P4,T3⟩:=h;have HU:=aH (hu.kp (hgc.kp Q5));have HG:=aH (eR hg hgc Q5);have Kd:=aH hB;have Ep:=P4.gc hgc Q5;have Fp:=T3.gc hgc Q5;have E8:w.heap.size+3 < w2.heap.size:=by have h1:=hbS;have h2:=hgc.size;omega
      clear hu hg P4 T3 hgc Kf hB R0;obtain ⟨v1',v2',v3',v4',v5',he,k1,k2,k3,k4,k5⟩:=HU.out;simp only [Value.agg.injEq,Array.mk.injEq,List.cons.injEq,and_true] at he;obtain ⟨rfl,rfl,rfl,rfl,rfl⟩:=he;obtain ⟨a1,c1,rfl⟩:=k1.shape;obtain ⟨a2,c2,rfl⟩:=k2.shape;obtain ⟨a3,c3,rfl⟩:=k3.shape;obtain ⟨a4,c4,rfl⟩:=k4.shape;obtain ⟨a5,c5,rfl⟩:=k5.shape;clear k1 k2 k3 k4 k5;have E0:=Gr.alloc (Gr.refl w2) (.cells #[.int .i64 0,.int .i64 0,.int .i64 0] 62);have E5:=bV.new w2 62 (.int .i64 0) (.int .i64 0) (.int .i64 0);have O0:=aH (HG.out.trans E0);have Za:=aH (HU.out.kp E0.kp);obtain ⟨b0,b1,b2,b3,b4,d0,d1,d2,d3,d4⟩:=Ep.gr E0;have Dm:=aH (Fp.gr E0);obtain ⟨r0,r1,r2,r3,r4,s0,s1,s2,s3,s4⟩:=Dm.out;have Yy:=E5.1;have D9:=E5.2.2.1;have C4:¬w2.heap.size=w.heap.size+1:=Q5
      have T6:¬w.heap.size+1=w2.heap.size:=Q5
      clear Ep Fp E0 E5 HG d0 d1 d2 d3 d4 HU;go_wp2
      generalize w2.alloc (.cells #[.int .i64 0,.int .i64 0,.int .i64 0] 62)=W3 at b0 b1 b2 b3 b4 r0 r1 r2 r3 r4 s0 s1 s2 s3 s4 Yy D9 O0 Dm Za |-;go_region_held3 (fun w'=>w'.cell? ⟨w2.heap.size,0,none⟩=some (.int .i64 0)/\w'.cell? ⟨w2.heap.size,2,none⟩=some (.int .i64 0)/\w'.cell? ⟨w.heap.size+2,0,none⟩=some (.slice a1 u.aA.length c1)/\w'.cell? ⟨w.heap.size+2,1,none⟩=some (.slice a2 u.aD.length c2)/\w'.cell? ⟨w.heap.size+2,2,none⟩=some (.slice a3 u.aE.length c3)/\w'.cell? ⟨w.heap.size+2,3,none⟩=some (.slice a4 u.aB.length c4)/\w'.cell? ⟨w.heap.size+2,4,none⟩=some (.slice a5 u.aC.length c5)) (go_keep) (fail)
      rw [jy];have Xs:=ip (.slice a1 u.aA.length c1) (.slice a2 u.aD.length c2) (.slice a3 u.aE.length c3) (.slice a4 u.aB.length c4) (.slice a5 u.aC.length c5) Dm.out;have HG3:=aH (o9 (b:=w.heap.size+1) (y0:=.slice a1 u.aA.length c1) (y1:=.slice a2 u.aD.length c2) (y2:=.slice a3 u.aE.length c3) (y3:=.slice a4 u.aB.length c4) (y4:=.slice a5 u.aC.length c5) O0.out Q5);have Md:=aH (lf (b:=w.heap.size+1) (y0:=.slice a1 u.aA.length c1) (y1:=.slice a2 u.aD.length c2) (y2:=.slice a3 u.aE.length c3) (y3:=.slice a4 u.aB.length c4) (y4:=.slice a5 u.aC.length c5) Za.out (by have:=Kd.out;omega));clear b0 b1 b2 b3 b4 r0 r1 r2 r3 r4 s0 s1 s2 s3 s4 Yy D9 C4 T6 O0 Za Dm;generalize put5 W3 (w.heap.size+1) (.slice a1 u.aA.length c1) (.slice a2 u.aD.length c2) (.slice a3 u.aE.length c3) (.slice a4 u.aB.length c4) (.slice a5 u.aC.length c5)=W4 at Xs HG3 Md |-;obtain ⟨r0,r1,r2,r3,r4,s0,s1,s2,s3,s4⟩:=(show cI W4.drew _ _ _ _ _ _ from Xs);go_wp2
      exact bodyPost_ret (v:=.tuple #[.agg #[.slice a1 u.aA.length c1,.slice a2 u.aD.length c2,.slice a3 u.aE.length c3,.slice a4 u.aB.length c4,.slice a5 u.aC.length c5],.int .i64 0,.int .i64 0]) (by simp [results,Tryz.results26,go_sem,r0,r1,r2,r3,r4]) rfl ⟨_,B,rfl,by have:=Kd.out;omega,Md.out.kp (Gr.drew (Gr.refl _)).kp,HG3.out.drew⟩
    · exact h.elim
   | inr q=>
    obtain ⟨e,p⟩:=q;rcases h with ⟨rfl,h⟩|⟨e',n,a,rfl,h⟩
    · exact h.elim
    · obtain ⟨rfl,rfl,hg,P4,T3⟩:=h;have HG:=aH (eR hg hgc Q5);have Ep:=P4.gc hgc Q5;have Fp:=T3.gc hgc Q5;have E8:w.heap.size+3 < w2.heap.size:=by have h1:=hbS;have h2:=hgc.size;omega
      clear hg P4 T3 hgc Kf R0;have E0:=Gr.alloc (Gr.refl w2) (.cells #[.int .i64 e',.int .i64 n,.int .i64 (p:Int)] 62);have E5:=bV.new w2 62 (.int .i64 e') (.int .i64 n) (.int .i64 (p:Int));have O0:=aH (HG.out.trans E0);obtain ⟨b0,b1,b2,b3,b4,d0,d1,d2,d3,d4⟩:=Ep.gr E0;have Dm:=aH (Fp.gr E0);obtain ⟨r0,r1,r2,r3,r4,s0,s1,s2,s3,s4⟩:=Dm.out;have Yy:=E5.1;have D9:=E5.2.2.1;have C4:¬w2.heap.size=w.heap.size+1:=Q5
      have T6:¬w.heap.size+1=w2.heap.size:=Q5
      clear Ep Fp E0 E5 HG d0 d1 d2 d3 d4;go_wp2
      generalize w2.alloc (.cells #[.int .i64 e',.int .i64 n,.int .i64 (p:Int)] 62)=W3 at b0 b1 b2 b3 b4 r0 r1 r2 r3 r4 s0 s1 s2 s3 s4 Yy D9 O0 Dm |-;go_region_held3 (fun w'=>w'.cell? ⟨w2.heap.size,0,none⟩=some (.int .i64 e')/\w'.cell? ⟨w2.heap.size,2,none⟩=some (.int .i64 (p:Int))/\w'.cell? ⟨w.heap.size+2,0,none⟩=some (.slice none 0 0)/\w'.cell? ⟨w.heap.size+2,1,none⟩=some (.slice none 0 0)/\w'.cell? ⟨w.heap.size+2,2,none⟩=some (.slice none 0 0)/\w'.cell? ⟨w.heap.size+2,3,none⟩=some (.slice none 0 0)/\w'.cell? ⟨w.heap.size+2,4,none⟩=some (.slice none 0 0)) (go_keep) (fail)
      rw [jy];have Xs:=ip (.slice none 0 0) (.slice none 0 0) (.slice none 0 0) (.slice none 0 0) (.slice none 0 0) Dm.out;have HG3:=aH (o9 (b:=w.heap.size+1) (y0:=.slice none 0 0) (y1:=.slice none 0 0) (y2:=.slice none 0 0) (y3:=.slice none 0 0) (y4:=.slice none 0 0) O0.out Q5);clear b0 b1 b2 b3 b4 r0 r1 r2 r3 r4 s0 s1 s2 s3 s4 Yy D9 C4 T6 O0 Dm;generalize put5 W3 (w.heap.size+1) (.slice none 0 0) (.slice none 0 0) (.slice none 0 0) (.slice none 0 0) (.slice none 0 0)=W4 at Xs HG3 |-;obtain ⟨r0,r1,r2,r3,r4,s0,s1,s2,s3,s4⟩:=(show cI W4.drew _ _ _ _ _ _ from Xs);go_wp2
      exact bodyPost_ret (v:=.tuple #[.agg #[.slice none 0 0,.slice none 0 0,.slice none 0 0,.slice none 0 0,.slice none 0 0],.int .i64 e',.int .i64 p]) (by simp [results,Tryz.results26,go_sem,r0,r1,r2,r3,r4]) rfl ⟨rfl,HG3.out.drew⟩
open Go.RowKit
def Kc(w w':World):Prop:=∀(a:Addr) (x:Value),w.cell? a=some x->w'.cell? a=some x
theorem aW.kc{w w':World}{v:Value}{l:List Int}(h:aW w v l)(g:Kc w w'):aW w' v l:=by
 obtain ⟨ao,cap,hv,hm,hc⟩:=h;refine ⟨ao,cap,hv,hm,fun i hi=>?_⟩;obtain ⟨b,off,h1,h2⟩:=hc i hi;exact ⟨b,off,h1,g _ _ h2⟩
theorem eH.kc{w w':World}{v:Value}{l:List aw}(h:eH w v l)(g:Kc w w'):eH w' v l:=by
 obtain ⟨ao,cap,hv,hm,hc⟩:=h;refine ⟨ao,cap,hv,hm,fun i x hi=>?_⟩;obtain ⟨b,off,h1,h2,h3,h4⟩:=hc i x hi;exact ⟨b,off,h1,g _ _ h2,g _ _ h3,g _ _ h4⟩
theorem bM.kc{w w':World}{v:Value}{l:List (List Int)}(h:bM w v l)(g:Kc w w'):bM w' v l:=by
 obtain ⟨ao,cap,hv,hm,hc⟩:=h;refine ⟨ao,cap,hv,hm,fun i x hi=>?_⟩;obtain ⟨b,off,vx,h1,h2,h3⟩:=hc i x hi;exact ⟨b,off,vx,h1,g _ _ h2,h3.kc g⟩
theorem dH.kc{w w':World}{v:Value}{l:List aO}(h:dH w v l)(g:Kc w w'):dH w' v l:=by
 obtain ⟨ao,cap,hv,hm,hc⟩:=h;refine ⟨ao,cap,hv,hm,fun i x hi=>?_⟩;obtain ⟨b,off,vp,vl,vc,h1,h2,h3,h4,h5,h6,h7,h8⟩:=hc i x hi;exact ⟨b,off,vp,vl,vc,h1,g _ _ h2,g _ _ h3,g _ _ h4,g _ _ h5,h6.kc g,h7.kc g,h8.kc g⟩
theorem bo.kc{w w':World}{v:Value}{l:List fK}(h:bo w v l)(g:Kc w w'):bo w' v l:=by
 obtain ⟨ao,cap,hv,hm,hc⟩:=h;refine ⟨ao,cap,hv,hm,fun i x hi=>?_⟩;obtain ⟨b,off,vs,vp,h1,h2,h3,h4,h5,h6⟩:=hc i x hi;exact ⟨b,off,vs,vp,h1,g _ _ h2,g _ _ h3,g _ _ h4,h5,h6.kc g⟩
theorem dJ.kc{w w':World}{v:Value}{l:List dq}(h:dJ w v l)(g:Kc w w'):dJ w' v l:=by
 obtain ⟨ao,cap,hv,hm,hc⟩:=h;refine ⟨ao,cap,hv,hm,fun i x hi=>?_⟩;obtain ⟨b,off,vs,h1,h2,h3,h4⟩:=hc i x hi;exact ⟨b,off,vs,h1,g _ _ h2,g _ _ h3,h4⟩
theorem cO.kc{w w':World}{v:Value}{u:aK}(h:cO w v u)(g:Kc w w'):cO w' v u:=by
 obtain ⟨v1,v2,v3,v4,v5,e,h1,h2,h3,h4,h5⟩:=h;exact ⟨v1,v2,v3,v4,v5,e,h1.kc g,h2.kc g,h3.kc g,h4.kc g,h5.kc g⟩
def kW(w:World)(o:Option Nat):World:=match o with
 | some b=>w.setRow b #[]
 | none=>w
theorem jr(w:World)(o:Option Nat)(k:Nat)(h:¬o=some k):(kW w o).heap[k]? =w.heap[k]? :=by
 cases o with
 | none=>rfl
 | some b=>exact setRow_other w b k _ (fun e=>h (by rw [e]))
theorem iU(w:World)(o:Option Nat):(kW w o).heap.size=w.heap.size:=by cases o<;>simp [kW]
theorem uA{w w3:World}{o o':Option Nat}{base:Nat}{e:TypeId}{n len:Nat}{v:Value}{xs:List Value}(hv:w.ownsRow base e n v len xs)(ho:v.ownBlock=o)(g:w.grownBy w3 o)(hl:o'=o\/o'=some w.heap.size):Kc (kW w o) (kW w3 o'):=by
 intro a x h;have J0:=World.block_lt_of_cell? _ _ h;rw [iU] at J0;by_cases hb:o=some a.block
 · exfalso
   subst hb;rcases hv.2 with ⟨rfl,_⟩|⟨g',cap,cur,rfl,_,hh,_⟩
   · simp [Value.ownBlock] at ho
   · simp only [Value.ownBlock,Option.some.injEq] at ho;rw [ho] at hh;have h2:=setRow_heap w a.block cur #[] e (0,0) hh;have h3:(kW w (some a.block)).heap[a.block]? =some (.cells #[] e (0,0)):=h2;have h4:(kW w (some a.block)).cell? a=none:=by
      unfold World.cell?;rw [h3];simp
     rw [h4] at h;cases h
 · have Er:¬o'=some a.block:=by
    rcases hl with rfl|rfl
    · exact hb
    · intro e;have:=Option.some.inj e;omega
   have e1:(kW w3 o').heap[a.block]? =(kW w o).heap[a.block]? :=by
    rw [jr _ _ _ Er,jr _ _ _ hb];exact g.block a.block J0 (fun e=>hb e.symm)
   exact (World.cell?_of_block e1).trans h
theorem tO{w w':World}{o:Option Nat}(g:Gr w w')(ho:∀b,o=some b->b < w.heap.size):Gr (kW w o) (kW w' o):=by
 refine ⟨?_,?_,?_,by rw [iU,iU];exact g.size,fun k hk hne=>?_⟩
 · cases o<;>exact g.os
 · cases o<;>exact g.tape
 · cases o<;>exact g.output
 · rw [iU] at hk;cases o with
   | none=>exact g.block k hk hne
   | some b=>
    by_cases hb:k=b
    · subst hb;have e:=g.block k hk Q6;have Of:k < w'.heap.size:=Nat.lt_of_lt_of_le hk g.size;unfold kW World.setRow;simp only [Array.getElem?_modify,if_true,e]
    · show (w'.setRow b #[]).heap[k]? =(w.setRow b #[]).heap[k]?
      rw [setRow_other _ _ _ _ hb,setRow_other _ _ _ _ hb];exact g.block k hk hne
theorem zT{w:World}{o:Option Nat}{base:Nat}{e:TypeId}{n len:Nat}{v:Value}{xs:List Value}(hv:w.ownsRow base e n v len xs)(ho:v.ownBlock=o):Kc (kW w o) w:=by
 have:=uA (o':=some w.heap.size) hv ho (World.grownBy.refl w o) (.inr rfl)
 intro a x h;have h2:=this a x h;have J0:=World.block_lt_of_cell? _ _ h;rw [iU] at J0;have e:=jr w (some w.heap.size) a.block (by intro e;have:=Option.some.inj e;omega);exact (World.cell?_of_block e).symm.trans h2
def dZ:Nat->List (List UInt8)->List aK ⊕ (Int×Nat×Nat)
 | _,[]=>.inl []
 | k,s :: l=>match dec s with
  | .inr (e,p)=>.inr (e,k,p)
  | .inl u=>match dZ (k+1) l with
   | .inl us=>.inl (u :: us)
   | .inr r=>.inr r
def l8(us:List aK):List aK ⊕ (Int×Nat×Nat)->List aK ⊕ (Int×Nat×Nat)
 | .inl vs=>.inl (us++vs)
 | .inr r=>.inr r
theorem sN{us:List aK}{k:Nat}{s:List UInt8}{l:List (List UInt8)}{u:aK}(h:dec s=.inl u):l8 us (dZ k (s :: l))=l8 (us++ [u]) (dZ (k+1) l):=by
 rw [dZ,h];cases dZ (k+1) l with
 | inl vs=>simp [l8]
 | inr r=>rfl
theorem tE{us:List aK}{k:Nat}{s:List UInt8}{l:List (List UInt8)}{e:Int}{p:Nat}(h:dec s=.inr (e,p)):l8 us (dZ k (s :: l))=.inr (e,k,p):=by
 rw [dZ,h];rfl
theorem nz(us:List aK):cR (us.take 7)=cR us:=by
 by_cases h:us.length<=7
 · rw [List.take_of_length_le h]
 · cases us with
   | nil=>rfl
   | cons a t=>
    have e:(a :: t).take 7=a :: t.take 6:=rfl;rw [e,cR,cR,if_pos (by simp at h |-;omega),if_pos (by simp at h |-;omega)]
structure i9 where
 why:Int
 unit:Int
 at_:Int
 e:Int
 result:Int
 told:List Int
 steps:Int
def li(M:aK->i9)(ss:List (List UInt8))(fuel heap:Int):i9:=
 if fuel < 0\/200000 < fuel\/heap < 0\/5000 < heap then ⟨1,0,0,0,0,[],0⟩ else match dZ 0 ss with
 | .inr (e,k,p)=>⟨2,(k:Int),(p:Int),e,0,[],0⟩
 | .inl us=>match cR us with
  | .inr (e,k)=>⟨3,(k:Int),0,e,0,[],0⟩
  | .inl u=>if (aY u).1≠0 then ⟨4,((aY u).2.1:Int),((aY u).2.2:Int),(aY u).1,0,[],0⟩ else M u
def yO(w:World)(v:Value)(l:List (List UInt8)):Prop:=∃ao cap,v=.slice ao l.length cap/\l.length<=maxLen/\∀(i:Nat) (x:List UInt8),l[i]? =some x->∃(b off:Nat) (s:ByteArray),ao=some ⟨b,off,none⟩/\w.cell? ⟨b,off+i,none⟩=some (.string s)/\s.data.toList=x/\s.size<=maxLen
open Go.RowKit
def rM(u:aK)(w:World)(x:Ending)(w':World):Prop:=Below w.heap.size w w'/\((x=.returned (.tuple #[])/\aY u=(0,0,0))\/(x=.panicked (t_ (aY u).1 ((aY u).2.1:Int) ((aY u).2.2:Int))))
def B7(u:aK)(w:World)(x:Ending)(w':World):Prop:=x=.returned (.tuple #[.int .i64 (aY u).1,.int .i64 ((aY u).2.1:Int),.int .i64 ((aY u).2.2:Int)])/\Below w.heap.size w w'
def lF(u:aK):Prop:=∀(V:World) (vu:Value),cO V vu u->Calls Tryz.prog 18 #[vu] V (rM u V)
theorem yV(u:aK)(HT:lF u)(ub:Nat)(x0 x1 x2 x3 x4:Value)(W:World)(hb:cI W ub x0 x1 x2 x3 x4)(hR:cO W (.agg #[x0,x1,x2,x3,x4]) u):
 Calls Tryz.prog 17 #[.pointer (some ⟨ub,0,none⟩)] W (rM u W):=by
 obtain ⟨v1,v2,v3,v4,v5,he,k1,k2,k3,k4,k5⟩:=hR;have HR:Hid (cO W (.agg #[x0,x1,x2,x3,x4]) u):=aH ⟨v1,v2,v3,v4,v5,he,k1,k2,k3,k4,k5⟩;simp only [Value.agg.injEq,Array.mk.injEq,List.cons.injEq,and_true] at he;obtain ⟨rfl,rfl,rfl,rfl,rfl⟩:=he;obtain ⟨a1,c1,rfl⟩:=k1.shape;obtain ⟨a2,c2,rfl⟩:=k2.shape;obtain ⟨a3,c3,rfl⟩:=k3.shape;obtain ⟨a4,c4,rfl⟩:=k4.shape;obtain ⟨a5,c5,rfl⟩:=k5.shape;obtain ⟨l0,l1,l2,l3,l4,n0,n1,n2,n3,n4⟩:=hb;have ID:=aH HT;clear k1 k2 k3 k4 k5 n0 n1 n2 n3 n4 HT;go_enter Tryz.func17,Tryz.ntmps17
 go_wp2_with fail
 refine (ID.out W _ HR.out).mono ?_;rintro x w1 ⟨D1,⟨rfl,hv⟩|rfl⟩
 · have Yx:=aH D1;have HV:=aH hv;clear D1 hv;go_wp2_with fail
   go_end0
   exact ⟨Yx.out,.inl ⟨rfl,HV.out⟩⟩
 · exact ⟨rfl,D1,.inr rfl⟩
theorem xg(W:World)(v1 v2 v3 v4 v5:Value):cI ((W.alloc (.cells #[v1,v2,v3,v4,v5] 29)).alloc (.cells #[.int .i64 0,.int .i64 0,.int .i64 0] 62)) W.heap.size v1 v2 v3 v4 v5:=(cI.new W 29 v1 v2 v3 v4 v5).gr ((Gr.refl _).alloc _)
theorem ug(u:aK)(HT:lF u)(vu:Value)(W:World)(hR:cO W vu u):
 Calls Tryz.prog 12 #[vu] W (B7 u W):=by
 have Kf:∀(fn:Fn) (first cap:Array Value) (w:World),(Instr.makeFunc fn first cap).run Tryz.prog w=.ok (.func fn first cap) w:=fun _ _ _ _=>rfl
 have HRU:=aH hR;obtain ⟨v1,v2,v3,v4,v5,rfl,h1,h2,h3,h4,h5⟩:=hR;obtain ⟨a1,c1,rfl⟩:=h1.shape;obtain ⟨a2,c2,rfl⟩:=h2.shape;obtain ⟨a3,c3,rfl⟩:=h3.shape;obtain ⟨a4,c4,rfl⟩:=h4.shape;obtain ⟨a5,c5,rfl⟩:=h5.shape;have ID:=aH HT;clear h1 h2 h3 h4 h5 HT;have Rm:=aH (xg W (.slice a1 u.aA.length c1) (.slice a2 u.aD.length c2) (.slice a3 u.aE.length c3) (.slice a4 u.aB.length c4) (.slice a5 u.aC.length c5));have hga:=Gr.alloc (Gr.refl W) (.cells #[.slice a1 u.aA.length c1,.slice a2 u.aD.length c2,.slice a3 u.aE.length c3,.slice a4 u.aB.length c4,.slice a5 u.aC.length c5] 29);have S7:=aH hga;have Sg:(W.alloc (.cells #[.slice a1 u.aA.length c1,.slice a2 u.aD.length c2,.slice a3 u.aE.length c3,.slice a4 u.aB.length c4,.slice a5 u.aC.length c5] 29)).heap.size=W.heap.size+1:=Q6
 have Ig:=aH Sg;clear hga Sg;go_enter Tryz.func12,Tryz.ntmps12
 go_wp2_with fail
 generalize W.alloc (.cells #[.slice a1 u.aA.length c1,.slice a2 u.aD.length c2,.slice a3 u.aE.length c3,.slice a4 u.aB.length c4,.slice a5 u.aC.length c5] 29)=V at Rm S7 Ig |-;have M1:bV (V.alloc (.cells #[.int .i64 0,.int .i64 0,.int .i64 0] 62)) V.heap.size (.int .i64 0) (.int .i64 0) (.int .i64 0):=bV.new V 62 (.int .i64 0) (.int .i64 0) (.int .i64 0);have Qm:=S7.out.alloc (.cells #[.int .i64 0,.int .i64 0,.int .i64 0] 62);refine (iN 17 #[.pointer (some ⟨W.heap.size,0,none⟩)] V
  (fun w1=>aY u=(0,0,0)/\Below W.heap.size W w1)
  (fun e n a w1=>e=(aY u).1/\n=((aY u).2.1:Int)/\a=((aY u).2.2:Int)/\Below W.heap.size W w1) (fun w=>rfl)
  ((yV u ID.out W.heap.size _ _ _ _ _ _ Rm.out (HRU.out.gr Qm)).mono ?_)).mono ?_
 · rintro x w' ⟨D1,⟨rfl,hv⟩|rfl⟩
   · exact ⟨M1.below D1,.inl ⟨rfl,hv,lI Qm D1⟩⟩
   · exact ⟨M1.below D1,.inr ⟨_,_,_,rfl,rfl,rfl,rfl,lI Qm D1⟩⟩
 · rintro x w2 ⟨w1,hgc,_,hx⟩;have hy:∃e n a:Int,x=.returned (.agg #[.int .i64 e,.int .i64 n,.int .i64 a])/\e=(aY u).1/\n=((aY u).2.1:Int)/\a=((aY u).2.2:Int)/\Below W.heap.size W w1:=by
    rcases hx with ⟨rfl,hv,hb⟩|⟨e,n,a,rfl,e1,e2,e3,hb⟩
    · exact ⟨0,0,0,rfl,by rw [hv],by rw [hv];rfl,by rw [hv];rfl,hb⟩
    · exact ⟨e,n,a,rfl,e1,e2,e3,hb⟩
   obtain ⟨e,n,a,rfl,e1,e2,e3,D1⟩:=hy;have HE:=aH (And.intro e1 (And.intro e2 e3));have HB:=aH (D1.grown hgc D1.size (by intro k hk;simp only [Option.some.injEq] at hk;have:=Ig.out;omega));clear hx e1 e2 e3 D1 hgc Kf M1 Qm Rm HRU ID S7 Ig;have E5:=bV.new w2 62 (.int .i64 e) (.int .i64 n) (.int .i64 a);have E0:=Gr.alloc (Gr.refl w2) (.cells #[.int .i64 e,.int .i64 n,.int .i64 a] 62);have H9:=aH (HB.out.grown E0 HB.out.size Q6);obtain ⟨p0,p1,p2,_⟩:=E5;clear E0 HB;go_wp2
   generalize w2.alloc (.cells #[.int .i64 e,.int .i64 n,.int .i64 a] 62)=W3 at p0 p1 p2 H9 |-;go_quiet (fail)
   go_wp2_with fail
   go_ret3
   obtain ⟨e1,e2,e3⟩:=HE.out;subst e1 e2 e3;exact ⟨rfl,by first|exact H9.out|exact ⟨H9.out.os,H9.out.tape,H9.out.output,H9.out.size,H9.out.block⟩⟩
end Go.Proofs.YtkgncijcnlfhiabGreat
