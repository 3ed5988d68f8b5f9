import Derived.Test.YtghjmnlapcpbiaaGreatDoorK7
import Derived.Test.YtghjmnlapcpbiaaGreatDoorF9
namespace Go.Proofs.YtghjmnlapcpbiaaGreatDoor
open _root_ renaming Option.some->Y,Option.none->G,Go.Value.int->O,Go.IntKind.i64->Z,Go.Value.slice->J,List->I,Nat->R,Int->A,Go.World.cell?->H,List.length->D,Go.Obj.cells->X,Go.Value->M,Go.World->T,Go.Addr.mk->Q,Go.RowKit.Hid->U,UInt8->AI,Bool.false->AS,Bool.true->AT,Option->By
open Go.Proofs.Tryz
open Go.RowKit
set_option linter.defProp false
variable{v1 v2 v3 v4 v5:M}{w:T}{u:aK}
def L4:=@List.mem_iff_getElem?.{0}
set_option maxRecDepth 100000
set_option maxHeartbeats 8000000
set_option linter.unusedVariables false
set_option linter.unusedSimpArgs false
open Go.RowKit
attribute [local go_sem ↓] Go.wp_at_zero Go.wp_at_succ
theorem yr(l:I AI)(t:ByteArray):(ByteArray.mk l.toArray++t)=ByteArray.mk (l++t.data.toList).toArray:=by
 apply ByteArray.ext;rw[ByteArray.data_append];simp
theorem C7(u:aK)(v:M)(w:T)(hR:bV w v u)(hT:lR w)(Tb:bG u=AT)(hF:tm u):
 Calls prog 100 #[v,O Z 4] w λx w'=>x=.returned (.string ⟨(rh u).toArray⟩)/\Gr w w':=by
 obtain⟨v1,v2,v3,v4,v5,rfl,h1,h2,h3,h4,h5⟩:=hR;obtain⟨a1,c1,rfl⟩:=h1.shape;obtain⟨a2,c2,rfl⟩:=h2.shape;obtain⟨a3,c3,rfl⟩:=h3.shape;obtain⟨a4,c4,rfl⟩:=h4.shape;obtain⟨a5,c5,rfl⟩:=h5.shape;have ad:=jA Tb;have bt:=λk=>wz (lr _ _ k) ad.b4
 have bB:=aJ ad;have bC:=aJ Tb;have b3:D u.aC<=50:=by
  exact OQ
 have al:=λV=>aJ (dr (D u.aC) Q5 Q5 V)
 simp only[A7]at al;have a7:=Gr.alloc (Gr.refl w) (X (yE u a1 c1 a2 c2 a3 c3 a4 c4 a5 c5) 58);have ay:=aJ a7;have HB:=aJ (da.new w 58 (J a1 (D u.aA) c1) (J a2 (D u.aE) c2) (J a3 (D u.aG) c3) (J a4 (D u.aC) c4) (J a5 (D u.aD) c5));have HH:=aJ h4;clear h1 h2 h3 h4 h5 ad Tb hF hT a7;obtain⟨p0,p1,p2,p3,p4,_⟩:=HB.j;go_enter func100,ntmps100
 go_wp2_with fail;clear p0 p1 p2 p3 p4;refine(al _).j.mono ?_;generalize w.alloc _=W at HB ay |-;rintro x w1 ⟨rfl,S5⟩;have Td:=aJ S5;clear S5 al;go_wp2_with fail;go_loopw[5,10] (λs i wr=>∃k:R,i=O Z k/\k<=D u.aC/\s=.string ⟨(eA (fQ) u.aC k).toArray⟩/\Gr W wr) λ_ i _=>D u.aC-(intOf i).toNat
 case atStart=>exact QN
 obtain⟨k,rfl,hk,rfl,hg⟩:=hrel;have HG:=aJ hg;obtain⟨p0,p1,p2,p3,p4,_⟩:=HB.gr hg;by_cases IN:k<D u.aC
 · obtain⟨a9,c9,bk,_,bj⟩:=HH.j;simp only[jj,Bt]at bk;have ai:=ay.trans hg;have bF:=bt k;have af:=dW IN;obtain⟨b1,o1,y1,y2,rfl,a',Tx,bo,bg,T2⟩:=bj k _ af;obtain⟨rfl,rfl⟩:=bk;have aM:=ai.cell a' Q6;have a0:=ai.cell Tx Q6;have ak:=ai.cell bo Q6;have HS:=aJ (ie (f:=fQ) af);have d:=bB.f4 _ (dL af);have aB:=by
    have:=bC.j
    rw[gl]at this;simp only[sQ]at this;exact zl.1 this.2.2.2.1 _ (dL af)
   have az:u.aC[k].aH.length<=6/\u.aC[k].name.length<=20:=by
    unfold gC iG fC at aB;simp only[sQ,xw,wB]at aB;omega
   have R2:=T2.gr ai;have s2:=T2.shape;generalize bL:eA _ _ k=Tq at bF HS |-;generalize u.aC[k]=i at HS d az R2 s2 bg ak;obtain⟨pa,pc,rfl⟩:=s2;obtain⟨nm,rfl,Ti,T9⟩:=bg;have a8:nm.size=D i.name:=by rw[<-Ti,Aj];rfl
   have aL:=Gr.alloc (Gr.refl wr) (X #[.string nm,J pa (D i.aH) pc,O Z i.result] 89);have aF:=aJ (eQ.new wr 89 (.string nm) (J pa (D i.aH) pc) (O Z i.result));have hP:=λV g=>aJ (qB _ _ V ((R2.gr aL).gr g) Q5 d.2.1)
   have hC:=λV=>aJ (dr _ d.2.2.1 d.2.2.2 V)
   have hN:=λV=>aJ (by
    have h:=dr nm.size Q5 Q5 V;simp only[A7]at h;exact h)
   have q1:=dJ nm.size;have q2:=fw az.1;have q3:=dJ i.result.toNat;have F:U (eA _ _ _=(((Tq++num nm.size)++nm.data.toList)++bu i.aH)++num i.result.toNat):=aJ (by rw[HS];unfold fQ h_;rw[Ti,a8];simp);have a6:=aJ (HG.trans aL);generalize num _=U1 at hN q1 F;generalize bu _=U2 at hP q2 F;generalize num _=U3 at hC q3 F;obtain⟨X1,aI⟩:∃Xq,Xq=Tq++U1:=⟨_,rfl⟩;obtain⟨X2,av⟩:∃Xq,Xq=X1++nm.data.toList:=⟨_,rfl⟩;obtain⟨X3,ax⟩:∃Xq,Xq=X2++U2:=⟨_,rfl⟩;obtain⟨X4,bp⟩:∃Xq,Xq=X3++U3:=⟨_,rfl⟩;have t1:=dv Tq U1;have t2:=yr X1 nm;have t3:=dv X2 U2;have t4:=dv X3 U3;rw[<-aI]at t1 F;rw[<-av]at t2 F;rw[<-ax]at t3 F;rw[<-bp]at t4 F;have z0:nm.size<=20:=Q5;have z1:D U1<=5000:=Q5;have z2:D U2<=5000:=Q5;have z3:D U3<=5000:=Q5;have x1:D X1<=1010000:=by rw[aI,fe];omega
   have x2:D X2<=1020000:=by rw[av,fe,Ti];omega
   have x3:D X3<=1030000:=by rw[ax,fe];omega
   clear aI av ax bp q1 q2 q3 a8 Ti T9;clear bj a' Tx bo hg af d aB az T2 bL ai p0 p1 p2 p4 aL;go_wp2_with fail;clear aM a0 ak p3;have TA:Gr (wr.alloc (X #[.string nm,J pa (D i.aH) pc,O Z i.result] 89)) _:=Gr.drew G0;obtain⟨f0,f1,f2,_⟩:=aF.j;generalize b2:wr.heap.size=fb at f0 f1 f2 aF |-;generalize wr.alloc _=W2 at a6 aF hP TA f0 f1 f2 |-;go_region_held (λw'=>H w' (Q fb 0 G)=Y (.string nm)/\H w' (Q fb 1 G)=Y (J pa (D i.aH) pc)/\H w' (Q fb 2 G)=Y (O Z i.result)) (first|exact⟨ae.cell f0 Q6,ae.cell f1 Q6,ae.cell f2 Q6⟩|go_keep) (first|(go_at_call 140;refine(hP _ ?_).j.mono ?_;assumption;rintro y w' ⟨rfl,BY⟩;have ae:=Gr.trans Q8 BY)|(go_at_call_of 101 (O Z i.result);refine(hC _).j.mono ?_;rintro y w' ⟨rfl,BY⟩;have ae:=Gr.trans Q8 BY)|(go_at_call 101;refine(hN _).j.mono ?_;rintro y w' ⟨rfl,BY⟩;have ae:=Gr.trans Q8 BY))
   all_goals go_wp2_with fail
   all_goals exact⟨⟨k+1,Q6,IN,by rw[F.j],a6.j.trans ae⟩,Qh⟩
 · have b0:k=D u.aC:=by omega
   subst b0;have HE:=aJ (kl (f:=fQ) Q5);clear hg;go_wp2_with fail;go_ret
   exact⟨by unfold rh;rw[HE];rfl,ay.trans HG⟩
theorem CL(u:aK)(v:M)(w:T)(hR:bV w v u)(hT:lR w)(Tb:bG u=AT)(hF:tm u):
 Calls prog 100 #[v,O Z 5] w λx w'=>x=.returned (.string ⟨(sH u).toArray⟩)/\Gr w w':=by
 obtain⟨v1,v2,v3,v4,v5,rfl,h1,h2,h3,h4,h5⟩:=hR;obtain⟨a1,c1,rfl⟩:=h1.shape;obtain⟨a2,c2,rfl⟩:=h2.shape;obtain⟨a3,c3,rfl⟩:=h3.shape;obtain⟨a4,c4,rfl⟩:=h4.shape;obtain⟨a5,c5,rfl⟩:=h5.shape;have d:=jA Tb;have bj:=λk=>wz (lr _ _ k) d.b5
 have bk:=aJ d;have bo:=aJ Tb;have bF:D u.aD<=50:=by
  exact OQ
 have ak:=λV=>aJ (dr (D u.aD) Q5 Q5 V)
 simp only[A7]at ak;have bg:=Gr.alloc (Gr.refl w) (X (yE u a1 c1 a2 c2 a3 c3 a4 c4 a5 c5) 58);have av:=aJ bg;have HB:=aJ (da.new w 58 (J a1 (D u.aA) c1) (J a2 (D u.aE) c2) (J a3 (D u.aG) c3) (J a4 (D u.aC) c4) (J a5 (D u.aD) c5));have HH:=aJ h5;clear h1 h2 h3 h4 h5 d Tb hF hT bg;obtain⟨p0,p1,p2,p3,p4,_⟩:=HB.j;go_enter func100,ntmps100
 go_wp2_with fail;clear p0 p1 p2 p3 p4;refine(ak _).j.mono ?_;generalize w.alloc _=W at HB av |-;rintro x w1 ⟨rfl,S5⟩;have Td:=aJ S5;clear S5 ak;go_wp2_with fail;go_loopw[5,12] (λs i wr=>∃k:R,i=O Z k/\k<=D u.aD/\s=.string ⟨(eA (fU) u.aD k).toArray⟩/\Gr W wr) λ_ i _=>D u.aD-(intOf i).toNat
 case atStart=>exact QN
 obtain⟨k,rfl,hk,rfl,hg⟩:=hrel;have HG:=aJ hg;obtain⟨p0,p1,p2,p3,p4,_⟩:=HB.gr hg;by_cases IN:k<D u.aD
 · obtain⟨a9,c9,a8,_,a6⟩:=HH.j;simp only[jj,Bt]at a8;have ay:=av.trans hg;have bp:=bj k;have ae:=dW IN;obtain⟨b1,o1,y1,rfl,aM,Tx,a0⟩:=a6 k _ ae;obtain⟨rfl,rfl⟩:=a8;have aF:=ay.cell aM Q6;have af:=ay.cell Tx Q6;have HS:=aJ (ie (f:=fU) ae);have F:=bk.f5 _ (dL ae);have ax:=by
    have:=bo.j
    rw[gl]at this;simp only[sQ]at this;exact zl.1 this.2.2.2.2 _ (dL ae)
   have a7:u.aD[k].name.length<=20:=by
    unfold fi fC at ax;simp only[sQ,xw,wB]at ax;omega
   generalize bt:eA _ _ k=Tq at bp HS |-;generalize u.aD[k]=i at HS F a7 a0 af;obtain⟨nm,rfl,Ti,T9⟩:=a0;have aL:nm.size=D i.name:=by rw[<-Ti,Aj];rfl
   have a':=Gr.alloc (Gr.refl wr) (X #[.string nm,O Z i.func] 71);have az:=aJ (ld.new wr 71 (.string nm) (O Z i.func));have hC:=λV=>aJ (dr _ F.2.1 F.2.2 V)
   have hN:=λV=>aJ (by
    have h:=dr nm.size Q5 Q5 V;simp only[A7]at h;exact h)
   have q1:=dJ nm.size;have q3:=dJ i.func.toNat;have ad:U (eA _ _ _=((Tq++num nm.size)++nm.data.toList)++num i.func.toNat):=aJ (by rw[HS];unfold fU h_;rw[Ti,aL];simp);have aH:=aJ (HG.trans a');generalize num _=U1 at hN q1 ad;generalize num _=U3 at hC q3 ad;obtain⟨X1,aB⟩:∃Xq,Xq=Tq++U1:=⟨_,rfl⟩;obtain⟨X2,al⟩:∃Xq,Xq=X1++nm.data.toList:=⟨_,rfl⟩;obtain⟨X3,aI⟩:∃Xq,Xq=X2++U3:=⟨_,rfl⟩;have t1:=dv Tq U1;have t2:=yr X1 nm;have t3:=dv X2 U3;rw[<-aB]at t1 ad;rw[<-al]at t2 ad;rw[<-aI]at t3 ad;have z0:nm.size<=20:=Q5;have z1:D U1<=5000:=Q5;have z3:D U3<=5000:=Q5;have x1:D X1<=1010000:=by rw[aB,fe];omega
   have x2:D X2<=1020000:=by rw[al,fe,Ti];omega
   clear aB al aI q1 q3 aL Ti T9;clear a6 aM Tx hg ae F ax a7 bt ay p0 p1 p2 p3 a';go_wp2_with fail;clear aF af p4;have TA:Gr (wr.alloc (X #[.string nm,O Z i.func] 71)) _:=Gr.drew G0;obtain⟨f0,f1,_⟩:=az.j;generalize bC:wr.heap.size=fb at f0 f1 az |-;generalize wr.alloc _=W2 at aH az TA f0 f1 |-;go_region_held (λw'=>H w' (Q fb 0 G)=Y (.string nm)/\H w' (Q fb 1 G)=Y (O Z i.func)) (first|exact⟨ai.cell f0 Q6,ai.cell f1 Q6⟩|go_keep) (first|(go_at_call_of 101 (O Z i.func);refine(hC _).j.mono ?_;rintro y w' ⟨rfl,BY⟩;have ai:=Gr.trans Q8 BY)|(go_at_call 101;refine(hN _).j.mono ?_;rintro y w' ⟨rfl,BY⟩;have ai:=Gr.trans Q8 BY))
   all_goals go_wp2_with fail
   all_goals exact⟨⟨k+1,Q6,IN,by rw[ad.j],aH.j.trans ai⟩,Qh⟩
 · have bB:k=D u.aD:=by omega
   subst bB;have HE:=aJ (kl (f:=fU) Q5);clear hg;go_wp2_with fail;go_ret
   exact⟨by unfold sH;rw[HE];rfl,av.trans HG⟩
theorem yf(n:R)(hn:n<256)(B:I AI)(hB:D B<=1000000)(a1 a2 a3 a4 a5:By Addr)(l1 l2 l3 l4 l5 c1 c2 c3 c4 c5:R)(w:T)
 (d:∀V:T,Gr w V->Calls prog 100 #[.agg #[J a1 l1 c1,J a2 l2 c2,J a3 l3 c3,J a4 l4 c4,J a5 l5 c5],O Z (n:A)] V λx w'=>x=.returned (.string ⟨B.toArray⟩)/\Gr V w'):
 Calls prog 41 #[.agg #[J a1 l1 c1,J a2 l2 c2,J a3 l3 c3,J a4 l4 c4,J a5 l5 c5],O Z (n:A)] w λx w'=>x=.returned (.string ⟨(iY n B).toArray⟩)/\Gr w w':=by
 have ai:=Gr.alloc (Gr.refl w) (X #[J a1 l1 c1,J a2 l2 c2,J a3 l3 c3,J a4 l4 c4,J a5 l5 c5] 58);have HB:=aJ (da.new w 58 (J a1 l1 c1) (J a2 l2 c2) (J a3 l3 c3) (J a4 l4 c4) (J a5 l5 c5));have HG:=aJ ai;have av:=aJ (d _ ai);have hN:=λV=>aJ (by
  have h:=dr (D B) Q5 Q5 V;simp only[A7]at h;exact h)
 have hK:∀V,U (Calls _ _ _ V λx w'=>x=.returned (.string ⟨(vP (ri B) 4).toArray⟩)/\Gr V _):=λV=>aJ (De ⟨B.toArray⟩ V (by show B.toArray.size<=_;rw[M9];omega))
 have q1:=dJ (D B);have q2:=B9 (ri B) 4;have HE:U (iY n B=(([UInt8.ofNat n]++num _)++B)++vP _ 4):=aJ rfl;generalize num _=U1 at hN q1 HE;generalize vP _ 4=U2 at hK q2 HE;obtain⟨X1,ae⟩:∃Xq,Xq=[UInt8.ofNat n]++U1:=⟨_,rfl⟩;obtain⟨X2,af⟩:∃Xq,Xq=X1++B:=⟨_,rfl⟩;obtain⟨X3,al⟩:∃Xq,Xq=X2++U2:=⟨_,rfl⟩;have t1:(ByteArray.mk #[UInt8.ofNat n]++ByteArray.mk U1.toArray)=ByteArray.mk X1.toArray:=by rw[ae];exact dv _ _
 have t2:=dv X1 B;have t3:=dv X2 U2;rw[<-ae]at HE;rw[<-af]at t2 HE;rw[<-al]at t3 HE;have z1:D U1<=5000:=Q5;have z2:D U2<=5000:=Q5;have x1:D X1<=10000:=by rw[ae,fe];simp;omega
 have x2:D X2<=1020000:=by rw[af,fe];omega
 clear ae af al q1 q2 d ai;have aA:IntKind.u8.wrap n=n:=Sh
 obtain⟨p0,p1,p2,p3,p4,_⟩:=HB.j;go_enter func41,ntmps41
 go_wp2_with fail;clear p0 p1 p2 p3 p4;refine av.mono ?_;rintro x w1 ⟨rfl,S5⟩;have Td:=aJ (HG.trans S5);clear S5;generalize w.alloc _=W0 at *;have ay:(convert _ 9 (J (Y ⟨w1.heap.size,0,_⟩) 1 1)).run _ (w1.alloc _).drew=.ok _ (w1.alloc _).drew:=lB w1.drew n hn;have az:=λV=>lB V n hn
 go_wp2_with fail;go_region_with (first|(go_at_call 101;refine(hN _).j.mono ?_;rintro y wq ⟨rfl,ad⟩;(first|(have hq:=ad.cell (show(w1.alloc (X #[.int .u8 (n:A)] 5)).drew.cell? (Q w1.heap.size 0 G)=Y (.int .u8 (n:A)) by simp[go_sem]) Q6;have ax:=lJ wq w1.heap.size n hn hq)|skip))|(go_at_call 102;refine(hK _).j.mono ?_;rintro y wc ⟨rfl,F⟩;(first|(have ak:=lJ wc w1.heap.size n hn (F.cell hq Q6))|(have ak:=lJ wc wq.heap.size n hn (F.cell (show H (wq.alloc (X #[.int .u8 (n:A)] 5)) (Q wq.heap.size 0 G)=Y (.int .u8 (n:A)) by simp[go_sem]) Q6))|skip)))
 all_goals go_wp2_with fail
 all_goals go_ret
 all_goals refine⟨by rw[HE.j];rfl,Td.j.trans ?_⟩
 all_goals first|exact(Gr.trans (Gr.drew ((Gr.refl w1).alloc _)) ad).trans F|exact(Gr.trans (Gr.trans (Gr.drew (Gr.refl w1)) ad) (Gr.alloc G0 _)).trans F|exact((Gr.trans (Gr.drew (Gr.refl w1)) ad).trans F).alloc _
def oQ(u:aK):R->I AI
 | 1=>tT u
 | 2=>rq u
 | 3=>tH u
 | 4=>rh u
 | _=>sH u
theorem Ci(u:aK)(v:M)(w:T)(hR:bV w v u)(d:lR w)(F:bG u=AT)(hF:tm u)(n:R)(h1:1<=n)(h5:n<=5):
 Calls prog 100 #[v,O Z (n:A)] w λx w'=>x=.returned (.string ⟨(oQ u n).toArray⟩)/\Gr w w':=by
 have hc:n=1\/n=2\/n=3\/n=4\/n=5:=Q5;rcases hc with rfl|rfl|rfl|rfl|rfl
 · exact Cq u v w hR d F hF
 · exact DR u v w hR d F hF
 · exact Ck u v w hR d F hF
 · exact C7 u v w hR d F hF
 exact CL u v w hR d F hF
theorem uk(h:bG u=AT)(n:R)(h1:1<=n)(h5:n<=5):D (oQ u n)<=1000000:=by
 have d:=jA h;have F:n=1\/n=2\/n=3\/n=4\/n=5:=Q5;rcases F with rfl|rfl|rfl|rfl|rfl
 · exact d.b1
 · exact d.b2
 · exact d.b3
 · exact d.b4
 exact d.b5
theorem AN(n:R)(b:I AI):D (iY n b)<=16+D b:=by
 have:=dJ (D b)
 unfold iY;simp only[fe,B9,Jk,LW];omega
theorem BL(e:A)(w:T):Calls prog 12 #[O Z e] w λx w'=>x=.returned (O Z e)/\w'=w:=by
 go_enter func12,ntmps12
 go_wp2;go_ret
 exact⟨rfl,rfl⟩
theorem jc{b:R}{t:TypeId}(h:w.heap[b]? =Y (X #[v1,v2,v3,v4,v5] t (0,0))):H w (Q b 0 G)=Y v1/\H w (Q b 1 G)=Y v2/\H w (Q b 2 G)=Y v3/\H w (Q b 3 G)=Y v4/\H w (Q b 4 G)=Y v5:=by
 refine⟨?_,?_,?_,?_,?_⟩<;>rw[aN h]<;>rfl
theorem Cr(l:I aK)(vl:M)(k:R)(u u0:aK)(w:T)(hR:dH w vl l)(hu:l[k]? =Y u)(ai:l[0]? =Y u0):
 Calls prog 42 #[vl,O Z (k:A),O Z 5] w (Hd (!decide (u.aA=u0.aA)) w):=by
 have ay:=(dm.1 hu).1;obtain⟨b,off,cap,a1,c1,a2,c2,a3,c3,a4,c4,a5,c5,rfl,x1,x2,x3,x4,x5,hr⟩:=hR.at_all hu;have ax:(0:A)<=k:=Q5;have TH:(k:A)<D l:=Q5;have HR:=aJ hr;have ae:=aJ hR;have HG:=aJ ((Gr.refl w).alloc (X (yE u a1 c1 a2 c2 a3 c3 a4 c4 a5 c5) 58));have ad:=aJ (jZ w (X (yE u a1 c1 a2 c2 a3 c3 a4 c4 a5 c5) 58));obtain⟨b',av,Un,z1,z2,_,_,_,_,_,_,_,_,hv,y1,_,_,_,_,ak⟩:=ae.at_all ai;simp only[jj,qN,Ij,I7,Bt]at hv;obtain⟨⟨rfl,rfl⟩,rfl⟩:=hv;have y1:H w ⟨b,off,_⟩=Y _:=y1;have af:=aJ ak;have az:(0:A)<D l:=Q5;have al:0<D l:=Q5;have HY:=aJ y1;go_enter func42,ntmps42
 go_upto_region 6 with fail
 obtain⟨e0,e1,e2,e3,e4⟩:=jc ad;generalize (w.alloc _)=W at HG ad e0 e1 e2 e3 e4 |-;have KS:U (∀w',Gr W w'->(λw':T=>H w' _=Y _/\H w' _=Y _) _):=aJ λw' g=>⟨g.cell e0 Q6,(HG.trans g).cell HY Q6⟩;go_wp2_with fail;refine xE (S:=(λw'=>H w' _=Y _/\H w' _=Y _)) Q7 (KS _ Gy) λhH=>?_;refine tL 0 ?_;refine tL 1 ?_;refine tL 2 ?_;refine tL 3 ?_;refine tL 4 ?_;refine tL 5 ?_;refine bQ (i:=6) rfl Q7 λK hK=>?_;obtain⟨_,_,_,_,_,d,k1,_⟩:=HR.j;simp only[Ch,FL,Bk,I7]at d;obtain⟨rfl,rfl,rfl,rfl,rfl⟩:=d;obtain⟨_,_,_,_,_,d,j1,_⟩:=af.j;simp only[Ch,FL,Bk,I7]at d;obtain⟨rfl,_⟩:=d;have F:=aJ (HG.trans Gy);refine am rfl _ _ _ rfl _ fZ (Tryz.callSs _ _) ((rB _ _ _ _ _ (k1.gr F) (j1.gr F)).mono ?_);rintro x w1 ⟨rfl,hg⟩;have Td:=aJ ((Gr.drew (Gr.refl W)).trans hg);refine .inl ⟨_,rfl,?_⟩;refine hK _ _ (KS _ Td) λhH=>?_;try simp only[Act.put,sA,s0,s1]
 refine tL 7 ?_;refine Ev Q7 ?_ _;go_wp2_with fail;go_ret
 exact⟨rfl,HG.trans Td⟩
def Gh(P:Prop)(w:T)(x:Ending)(w':T):Prop:=∃p:Bool,x=.returned (.bool p)/\(p=AT↔P)/\Gr w w'
theorem bV.expAt{a5:By Addr}{c5:R}(h:bV w (.agg #[v1,v2,v3,v4,J a5 (D u.aD) c5]) u){i:R}{e:cJ}(he:u.aD[i]? =Y e):∃d F s,a5=Y (Q d F G)/\H w ⟨d,F+i*2,G⟩=Y (.string s)/\s.data.toList=e.name:=by
 obtain⟨y1,y2,y3,y4,y5,hv,k1,k2,k3,k4,k5⟩:=h;simp only[Ch,FL,Bk,I7]at hv;obtain⟨rfl,rfl,rfl,rfl,rfl⟩:=hv;obtain⟨ao,cp,hv,hm,hx⟩:=k5;simp only[jj,Bt]at hv;obtain⟨rfl,rfl⟩:=hv;obtain⟨d,F,vs,q1,q2,q3,s,rfl,q5,_⟩:=hx i e he;exact⟨_,_,s,q1,q2,q5⟩
theorem bV.impAt{a4:By Addr}{c4:R}(h:bV w (.agg #[v1,v2,v3,J a4 (D u.aC) c4,v5]) u){i:R}{e:eL}(he:u.aC[i]? =Y e):∃d F s pa pc,a4=Y (Q d F G)/\H w ⟨d,F+i*3,G⟩=Y (.string s)/\s.data.toList=e.name/\H w ⟨d,F+i*3+1,G⟩=Y (J pa (D e.aH) pc)/\aY w (J pa (D e.aH) pc) e.aH/\H w ⟨d,F+i*3+2,G⟩=Y (O Z e.result):=by
 obtain⟨y1,y2,y3,y4,y5,hv,k1,k2,k3,k4,k5⟩:=h;simp only[Ch,FL,Bk,I7]at hv;obtain⟨rfl,rfl,rfl,rfl,rfl⟩:=hv;obtain⟨ao,cp,hv,hm,hx⟩:=k4;simp only[jj,Bt]at hv;obtain⟨rfl,rfl⟩:=hv;obtain⟨d,F,vs,vp,q1,q2,q3,q4,⟨s,rfl,q5,_⟩,q6⟩:=hx i e he;obtain⟨pa,pc,rfl⟩:=q6.shape;exact⟨_,_,s,_,_,q1,q2,q5,q3,q6,q4⟩
theorem PB{p:Prop}(h:p:=by
 go_wp2_with fail;go_ret
 exact⟨_,rfl,⟨λh=>(by cases h),λh=>absurd h HP⟩,HG⟩):p:=h
theorem C1(l:I aK)(vl:M)(k:R)(u:aK)(w:T)(hR:dH w vl l)(hu:l[k]? =Y u)(hl:D l<=6)(hE:∀u∈l,D u.aD<=20):
 Calls prog 42 #[vl,O Z (k:A),O Z 6] w (Gh (∃i e,u.aD[i]? =Y e/\0<(gY e.name k i 0 l (0,0,0)).1) w):=by
 have az:=(dm.1 hu).1;obtain⟨b,off,cap,a1,c1,a2,c2,a3,c3,a4,c4,a5,c5,rfl,x1,x2,x3,x4,x5,hr⟩:=hR.at_all hu;have ay:(0:A)<=k:=Q5;have TH:(k:A)<D l:=Q5;have HR:=aJ hr;have ae:=aJ hR;have HG:=aJ ((Gr.refl w).alloc (X (yE u a1 c1 a2 c2 a3 c3 a4 c4 a5 c5) 58));have ad:=aJ (jZ w (X (yE u a1 c1 a2 c2 a3 c3 a4 c4 a5 c5) 58));have al:=hE u (dL hu);go_enter func42,ntmps42
 go_upto_region 9 with fail
 obtain⟨e0,e1,e2,e3,e4⟩:=jc ad;generalize (w.alloc _)=W at HG ad e0 e1 e2 e3 e4 |-;go_wp2_with fail;go_loopw[10] (λiv wr=>∃i:R,i<=D u.aD/\iv=O Z (i:A)/\U (∀j e,j<i->u.aD[j]? =Y e->(gY e.name k j 0 l (0,0,0)).1=0)/\W=wr) λiv _=>D u.aD-(intOf iv).toNat
 case atStart=>exact⟨0,Lz,rfl,aJ (λj e hj=>by omega),rfl⟩
 obtain⟨i,hi,rfl,HN,rfl⟩:=hrel;by_cases IN:i<D u.aD
 · obtain⟨e,he⟩:∃e,u.aD[i]? =Y e:=⟨_,dW IN⟩;obtain⟨xb,xo,s,rfl,US,af⟩:=(HR.gr HG).expAt he;have ax:(0:A)<=i:=by omega
   have av:(i:A)<D u.aD:=Q5;have HE:=aJ he;have HC:=aJ (kP l _ s k i W (ae.gr HG) Q5 Q5 Q5 hE);rw[af]at HC;go_wp2_with fail;refine HC.mono ?_;rintro x w1 ⟨rfl,ai⟩;obtain rfl:=ai.symm;generalize hn:(gY _ k i 0 l _).1=nn;have F:=aJ hn;generalize (gY _ k i 0 l _).2.1=n2;generalize (gY _ k i 0 l _).2.2=n3;by_cases hz:nn=0
   · subst hz;go_wp2_with fail;go_roundw
     case rel=>exact⟨i+1,Q5,QZ,aJ (λj e' hj d=>by
      by_cases e0:j=i
      · subst e0;rw[HE]at d;obtain rfl:=tz d;exact F
      exact HN j _ Q5 d),QE⟩
     case measure=>exact Qh
   have TO:(0:A)<nn:=by omega
   have HP:U (∃i e,u.aD[i]? =Y e/\0<(gY e.name k i 0 l _).1):=aJ ⟨i,e,HE,by rw[F];omega⟩;go_wp2_with fail;go_ret
   exact⟨_,rfl,⟨λ_=>HP,λ_=>rfl⟩,HG⟩
 have ak:i=D u.aD:=by omega
 subst ak;have HP:U (¬∃i e,u.aD[i]? =Y e/\0<(gY e.name k i 0 l (0,0,0)).1):=aJ (λ⟨i,e,h1,h2⟩=>by
  have:=HN i e (dm.1 h1).1 h1
  omega)
 exact PB
theorem DI(l:I aK)(vl:M)(k:R)(u:aK)(w:T)(hR:dH w vl l)(hu:l[k]? =Y u)(hl:D l<=6)(hE:∀u∈l,D u.aD<=20)(hI:D u.aC<=20):
 Calls prog 42 #[vl,O Z (k:A),O Z 7] w (Gh (∃i∈u.aC,(eB i.name 0 l (0,0,0)).1=0) w):=by
 have az:=(dm.1 hu).1;obtain⟨b,off,cap,a1,c1,a2,c2,a3,c3,a4,c4,a5,c5,rfl,x1,x2,x3,x4,x5,hr⟩:=hR.at_all hu;have ay:(0:A)<=k:=Q5;have TH:(k:A)<D l:=Q5;have HR:=aJ hr;have ae:=aJ hR;have HG:=aJ ((Gr.refl w).alloc (X (yE u a1 c1 a2 c2 a3 c3 a4 c4 a5 c5) 58));have ad:=aJ (jZ w (X (yE u a1 c1 a2 c2 a3 c3 a4 c4 a5 c5) 58));go_enter func42,ntmps42
 go_upto_region 17 with fail
 obtain⟨e0,e1,e2,e3,e4⟩:=jc ad;generalize (w.alloc _)=W at HG ad e0 e1 e2 e3 e4 |-;go_wp2_with fail;go_loopw[14] (λiv wr=>∃i:R,i<=D u.aC/\iv=O Z (i:A)/\U (∀j e,j<i->u.aC[j]? =Y e->(eB e.name 0 l (0,0,0)).1≠0)/\W=wr) λiv _=>D u.aC-(intOf iv).toNat
 case atStart=>exact⟨0,Lz,rfl,aJ (λj e hj=>by omega),rfl⟩
 obtain⟨i,hi,rfl,HN,rfl⟩:=hrel;by_cases IN:i<D u.aC
 · obtain⟨e,he⟩:∃e,u.aC[i]? =Y e:=⟨_,dW IN⟩;obtain⟨xb,xo,s,pa,pc,rfl,US,af,al,_,Tx⟩:=(HR.gr HG).impAt he;have ax:(0:A)<=i:=by omega
   have av:(i:A)<D u.aC:=Q5;have HE:=aJ he;have HC:=aJ (kP l _ s (D l) 0 W (ae.gr HG) Q5 Q5 Q5 hE);rw[af,oC _ _ _ _ _ Q5]at HC;go_wp2_with fail;refine HC.mono ?_;rintro x w1 ⟨rfl,ai⟩;obtain rfl:=ai.symm;generalize hn:(eB _ 0 l _).1=nn;have F:=aJ hn;generalize (eB _ 0 l _).2.1=n2;generalize (eB _ 0 l _).2.2=n3;by_cases hz:nn=0
   · subst hz;have HP:U (∃i∈u.aC,(eB _ 0 l _).1=0):=aJ ⟨e,dL HE,F⟩;go_wp2_with fail;go_ret
     exact⟨_,rfl,⟨λ_=>HP,λ_=>rfl⟩,HG⟩
   have TO:((nn:A)==0)=AS:=Rp
   have HZ:=aJ hz;go_wp2_with fail;go_roundw
   case rel=>exact⟨i+1,Q5,QZ,aJ (λj e' hj d=>by
    by_cases e0:j=i
    · subst e0;rw[HE]at d;obtain rfl:=tz d;rw[F];exact HZ
    exact HN j _ Q5 d),QE⟩
   case measure=>exact Qh
 have ak:i=D u.aC:=by omega
 subst ak;have HP:U (¬∃i∈u.aC,(eB i.name 0 l (0,0,0)).1=0):=aJ (λ⟨e,h1,h2⟩=>by
  obtain⟨j,hj⟩:=L4.1 h1;exact HN j e (dm.1 hj).1 hj h2)
 exact PB
def xF(l:I aK)(i:eL)(v:aK)(g:aQ):Prop:=l[(eB i.name 0 l (0,0,0)).2.1]? =Y v/\∃f:R,(eB i.name 0 l (0,0,0)).2.2=(f:A)/\v.aG[f]? =Y g
theorem xF.same{l:I aK}{i:eL}{v v':aK}{g g':aQ}(h:xF l i v g)(h':xF l i v' g'):v=v'/\g=g':=by
 obtain⟨h1,f,h2,h3⟩:=h;obtain⟨F,f',k2,d⟩:=h';rw[h1]at F;obtain rfl:=tz F;have:f=f':=by have:=h2.symm.trans k2;omega
 subst this;rw[h3]at d;exact⟨rfl,tz d⟩
theorem bV.funcAt{a3:By Addr}{c3:R}(h:bV w (.agg #[v1,v2,J a3 (D u.aG) c3,v4,v5]) u){i:R}{g:aQ}(hg:u.aG[i]? =Y g):∃fb d F pc,a3=Y (Q fb d G)/\H w ⟨fb,d+i*4,G⟩=Y (J F (D g.aH) pc)/\aY w (J F (D g.aH) pc) g.aH/\H w ⟨fb,d+i*4+1,G⟩=Y (O Z g.result):=by
 obtain⟨y1,y2,y3,y4,y5,hv,k1,k2,k3,k4,k5⟩:=h;simp only[Ch,FL,Bk,I7]at hv;obtain⟨rfl,rfl,rfl,rfl,rfl⟩:=hv;obtain⟨ao,cp,hv,hm,hx⟩:=k3;simp only[jj,Bt]at hv;obtain⟨rfl,rfl⟩:=hv;obtain⟨fb,d,vp,vl,vc,q1,q2,q3,q4,q5,q6,q7,q8⟩:=hx i g hg;obtain⟨F,pc,rfl⟩:=q6.shape;exact⟨_,_,_,_,q1,q2,q6,q3⟩
theorem Tryz.callSi(vals:Array M)(w:T):(callFunc 105 vals).run Tryz.prog w=.ok (.enter 105 vals) w:=Q7
theorem Pb{p:Prop}(h:p:=by
 refine tL 19 ?_;refine Ev Q7 ?_ _;go_wp2_with fail;go_ret
 exact⟨_,rfl,⟨λ_=>HP,λ_=>rfl⟩,HG.trans (Te.trans Gy)⟩):p:=h
theorem C8(l:I aK)(vl:M)(k:R)(u:aK)(w:T)(hR:dH w vl l)(hu:l[k]? =Y u)(hl:D l<=6)(hE:∀u∈l,D u.aD<=20)(hI:D u.aC<=20)(hF:∀i∈u.aC,∃v g,xF l i v g)(a8:∀u∈l,D u.aG<=30):
 Calls prog 42 #[vl,O Z (k:A),O Z 8] w (Gh (∃i∈u.aC,∃v g,xF l i v g/\¬(g.aH=i.aH/\g.result=i.result)) w):=by
 have bo:=(dm.1 hu).1;obtain⟨b,off,cap,a1,c1,a2,c2,a3,c3,a4,c4,a5,c5,rfl,x1,x2,x3,x4,x5,hr⟩:=hR.at_all hu;have bk:(0:A)<=k:=Q5;have TH:(k:A)<D l:=Q5;have HR:=aJ hr;have ak:=aJ hR;have HG:=aJ ((Gr.refl w).alloc (X (yE u a1 c1 a2 c2 a3 c3 a4 c4 a5 c5) 58));have ax:=aJ (jZ w (X (yE u a1 c1 a2 c2 a3 c3 a4 c4 a5 c5) 58));have HF:=aJ hF;go_enter func42,ntmps42
 go_upto_region 17 with fail
 obtain⟨e0,e1,e2,e3,e4⟩:=jc ax;generalize (w.alloc _)=W at HG ax e0 e1 e2 e3 e4 |-;have UY:=aJ e3;go_wp2_with fail;go_loopw[14] (λiv wr=>∃i:R,i<=D u.aC/\iv=O Z (i:A)/\U (∀j e,j<i->u.aC[j]? =Y e->∀v g,xF l e v g->g.aH=e.aH/\g.result=e.result)/\U (Gr W wr)) λiv _=>D u.aC-(intOf iv).toNat
 case atStart=>exact⟨0,Lz,rfl,aJ (λj e hj=>by omega),aJ (Gr.refl W)⟩
 obtain⟨i,hi,rfl,HN,Um⟩:=hrel;have e3:=Um.cell UY Q6;by_cases IN:i<D u.aC
 · obtain⟨e,he⟩:∃e,u.aC[i]? =Y e:=⟨_,dW IN⟩;have ai:=aJ (HG.trans Um);obtain⟨xb,xo,s,qa,qc,rfl,US,ay,aF,a0,Tx⟩:=(HR.gr ai).impAt he;have bt:(0:A)<=i:=by omega
   have a':(i:A)<D u.aC:=Q5;have HE:=aJ he;obtain⟨v,g,al⟩:=HF e (dL he);have ad:=aJ al;have HC:=aJ (kP l _ s (D l) 0 _ (ak.gr ai) Q5 Q5 Q5 hE);rw[ay,oC _ _ _ _ _ Q5]at HC;obtain⟨av,f,a7,S5⟩:=al;have aM:=(dm.1 av).1;obtain⟨b',a9,Un,_,_,_,_,bg,fc,_,_,_,_,hv,_,_,y3,_,_,aI⟩:=(ak.gr ai).at_all av;simp only[jj,qN,Ij,I7,Bt]at hv;obtain⟨⟨rfl,rfl⟩,rfl⟩:=hv;obtain⟨fb,fo,pa,pc,rfl,Vx,aL,Uz⟩:=aI.funcAt S5;have U9:=(dm.1 S5).1;rw[a7]at HC;generalize (eB _ 0 l _).2.1=a at HC aM y3;generalize (eB _ 0 l _).1=nn at HC;have WK:(0:A)<=a:=Q5;have Tl:(a:A)<D l:=Q5;have bp:(0:A)<=f:=Q5;have bj:(f:A)<D v.aG:=Q5;have KS:U (∀w',Gr _ _->(λw':T=>H w' _=Y _/\H w' _=Y _/\H w' _=Y _/\H w' _=Y _/\H w' _=Y _/\H w' _=Y _) w'):=aJ λw' g=>⟨g.cell y3 Q6,g.cell Vx Q6,g.cell e3 Q6,g.cell aF Q6,g.cell Uz Q6,g.cell Tx Q6⟩;have aA:=aJ aL;have aB:=aJ a0;go_wp2_with fail;refine HC.mono ?_;rintro x w1 ⟨rfl,az⟩;obtain rfl:=az.symm;go_wp2_with fail;refine xE (S:=(λw'=>H w' _=Y _/\H w' _=Y _/\H w' _=Y _/\H w' _=Y _/\H w' _=Y _/\H w' _=Y _)) Q7 (KS _ Gy) λhH=>?_;refine tL 0 ?_;refine tL 1 ?_;refine tL 2 ?_;refine tL 3 ?_;refine tL 4 ?_;refine tL 5 ?_;refine tL 6 ?_;refine tL 7 ?_;refine tL 8 ?_;refine tL 9 ?_;refine tL 10 ?_;refine tL 11 ?_;refine tL 12 ?_;refine tL 13 ?_;refine tL 14 ?_;refine bQ (i:=15) rfl Q7 λK hK=>?_;refine am rfl _ _ _ rfl _ fZ (Tryz.callSi _ _) ((iX _ _ _ _ _ (aA.gr Gy) (aB.gr Gy)).mono ?_);rintro x w2 ⟨rfl,IT⟩;have OF:=aJ ((Gy).trans IT);refine .inl ⟨_,rfl,?_⟩;refine hK _ _ (KS _ OF) λhH=>?_;try simp only[Act.put,sA,s0,s1]
   refine tL 16 ?_;refine Ev Q7 ?_ _;have Te:=aJ (Um.trans OF);by_cases d:g.aH=e.aH
   · have ae:=L9 d;rw[ae];have a6:=aJ d;by_cases F:g.result=e.result
     · have Vt:U (∀j e,j<i+1->u.aC[j]? =Y e->∀v g,xF l e v g->g.aH=e.aH/\g.result=e.result):=aJ (λj e' hj af v' g' ht=>by
        by_cases e0:j=i
        · subst e0;rw[HE]at af;obtain rfl:=tz af;obtain⟨rfl,rfl⟩:=ad.same ht;exact⟨a6,F⟩
        exact HN j _ Q5 af _ _ ht)
       rw[F]at KS;go_wp2_with fail;refine xE (S:=(λw'=>H w' _=Y _/\H w' _=Y _/\H w' _=Y _/\H w' _=Y _/\H w' _=Y _/\H w' _=Y _)) Q7 (KS _ (OF.trans Gy)) λhH=>?_;refine tL 0 ?_;refine tL 1 ?_;refine tL 2 ?_;refine tL 3 ?_;refine tL 4 ?_;refine tL 5 ?_;refine tL 6 ?_;refine tL 7 ?_;refine tL 8 ?_;refine tL 9 ?_;refine tL 10 ?_;refine tL 11 ?_;refine tL 12 ?_;refine tL 13 ?_;refine tL 14 ?_;refine tL 15 ?_;refine tL 16 ?_;refine tL 17 ?_;refine tL 18 ?_;refine tL 19 ?_;refine Ev Q7 ?_ _;go_wp2_with fail;go_roundw
       case rel=>exact⟨_,Q5,QZ,Vt,aJ (Te.trans Gy)⟩
       case measure=>exact Qh
     · have HP:U (∃i∈u.aC,∃v g,xF l i v g/\¬(g.aH=i.aH/\g.result=i.result)):=aJ ⟨e,dL HE,v,g,ad,λh=>F h.2⟩;have hrb:(g.result !=e.result)=AT:=by simp[F]
       go_wp2_with fail;refine xE (S:=(λw'=>H w' _=Y _/\H w' _=Y _/\H w' _=Y _/\H w' _=Y _/\H w' _=Y _/\H w' _=Y _)) Q7 (KS _ (OF.trans Gy)) λhH=>?_;refine tL 0 ?_;refine tL 1 ?_;refine tL 2 ?_;refine tL 3 ?_;refine tL 4 ?_;refine tL 5 ?_;refine tL 6 ?_;refine tL 7 ?_;refine tL 8 ?_;refine tL 9 ?_;refine tL 10 ?_;refine tL 11 ?_;refine tL 12 ?_;refine tL 13 ?_;refine tL 14 ?_;refine tL 15 ?_;refine tL 16 ?_;refine tL 17 ?_;refine tL 18 ?_;exact Pb
   have HP:U (∃i∈u.aC,∃v g,xF l i v g/\¬(g.aH=i.aH/\g.result=i.result)):=aJ ⟨e,dL HE,v,g,ad,λh=>d h.1⟩;have ae:=decide_eq_false d;rw[ae];skip
   go_wp2_with fail;refine xE (S:=(λw'=>H w' _=Y _/\H w' _=Y _/\H w' _=Y _/\H w' _=Y _/\H w' _=Y _/\H w' _=Y _)) Q7 (KS _ (OF.trans Gy)) λhH=>?_;refine tL 0 ?_;refine tL 1 ?_;refine tL 2 ?_;refine eH (i:=3) rfl Q7 Q7 Q7 (λ_ _ _ h=>h) bZ hH ?_;simp only[Act.put,sA,s0,s1];refine eH (i:=4) rfl Q7 Q7 Q7 (λ_ _ _ h=>h) bZ hH ?_;simp only[Act.put,sA,s0,s1];refine eH (i:=5) rfl Q7 Q7 Q7 (λ_ _ _ h=>h) bZ hH ?_;simp only[Act.put,sA,s0,s1];refine eH (i:=6) rfl Q7 Q7 Q7 (λ_ _ _ h=>h) bZ hH ?_;simp only[Act.put,sA,s0,s1];refine eH (i:=7) rfl Q7 Q7 Q7 (λ_ _ _ h=>h) bZ hH ?_;simp only[Act.put,sA,s0,s1];refine eH (i:=8) rfl Q7 Q7 Q7 (λ_ _ _ h=>h) bZ hH ?_;simp only[Act.put,sA,s0,s1];refine eH (i:=9) rfl Q7 Q7 Q7 (λ_ _ _ h=>h) bZ hH ?_;simp only[Act.put,sA,s0,s1];refine eH (i:=10) rfl Q7 Q7 Q7 (λ_ _ _ h=>h) bZ hH ?_;simp only[Act.put,sA,s0,s1];refine eH (i:=11) rfl Q7 Q7 Q7 (λ_ _ _ h=>h) bZ hH ?_;simp only[Act.put,sA,s0,s1];refine eH (i:=12) rfl Q7 Q7 Q7 (λ_ _ _ h=>h) bZ hH ?_;simp only[Act.put,sA,s0,s1];refine eH (i:=13) rfl Q7 Q7 Q7 (λ_ _ _ h=>h) bZ hH ?_;simp only[Act.put,sA,s0,s1];refine eH (i:=14) rfl Q7 Q7 Q7 (λ_ _ _ h=>h) bZ hH ?_;simp only[Act.put,sA,s0,s1];refine eH (i:=15) rfl Q7 Q7 Q7 (λ_ _ _ h=>h) bZ hH ?_;simp only[Act.put,sA,s0,s1];refine eH (i:=16) rfl Q7 Q7 Q7 (λ_ _ _ h=>h) bZ hH ?_;simp only[Act.put,sA,s0,s1];refine eH (i:=17) rfl Q7 Q7 Q7 (λ_ _ _ h=>h) bZ hH ?_;simp only[Act.put,sA,s0,s1];refine eH (i:=18) rfl Q7 Q7 Q7 (λ_ _ _ h=>h) bZ hH ?_;simp only[Act.put,sA,s0,s1];exact Pb
 have aE:i=D u.aC:=by omega
 subst aE;have HP:U (¬∃i∈u.aC,∃v g,xF l i v g/\¬(g.aH=i.aH/\g.result=i.result)):=aJ (λ⟨e,h1,v,g,h2,h3⟩=>by
  obtain⟨j,hj⟩:=L4.1 h1;exact h3 (HN j e (dm.1 hj).1 hj v g h2))
 go_wp2_with fail;go_ret
 exact⟨_,rfl,⟨λh=>(by cases h),λh=>absurd h HP⟩,HG.trans Um⟩
end Go.Proofs.YtghjmnlapcpbiaaGreatDoor
