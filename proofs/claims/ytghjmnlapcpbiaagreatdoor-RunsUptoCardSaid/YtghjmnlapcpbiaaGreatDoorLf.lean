import Derived.Test.YtghjmnlapcpbiaaGreatDoorZk
import Derived.Test.YtghjmnlapcpbiaaGreatDoorZo
namespace Go.Proofs.YtghjmnlapcpbiaaGreatDoor
open _root_ renaming Option.some->Y,Option.none->G,Go.Value.int->O,Go.IntKind.i64->Z,Go.Value.slice->J,List->I,Nat->R,Int->A,Go.World.cell?->H,List.length->D,Go.Obj.cells->X,Go.Value->M,Go.World->T,Go.Addr.mk->Q,Go.RowKit.Hid->U,UInt8->AI,Bool.false->AS,Bool.true->AT,Option->By
open Go.Proofs.Tryz
open Go.RowKit
set_option linter.defProp false
variable{s:ByteArray}{r r':I AI}{b k n o rb ub:R}{vl x1 x2 x3 x4 x5:M}{W W0 w':T}{u:aK}
def MD:=@Bool.true_eq_false
set_option maxRecDepth 100000
set_option maxHeartbeats 4000000
set_option linter.unusedVariables false
set_option linter.unusedSimpArgs false
open Go.RowKit
attribute [local go_sem ↓] Go.wp_at_zero Go.wp_at_succ
theorem Tryz.callScope(vals:Array M)(w:T):(callFunc 80 vals).run Tryz.prog w=.ok (.enter 80 vals) w:=Q7
theorem Tryz.infLooker:(Tryz.prog.info? 176).map (·.size)=Y 12:=Q7
theorem D9{w:T}{g:R}{cs:Array M}(h:Gr W w)(d:W.heap.size<=g):Gr W (w.setRow g cs):=
 ⟨h.os,h.tape,h.output,Rh,λi hi No=>by rw[Kk w g i _ Q5];exact h.block i hi No⟩
theorem Dj.gr{w:T}(h:Dj w b)(g:Gr w w'):Dj w' b:=by
 obtain⟨arr,e⟩:=h;exact⟨_,(g.block b (eJ.1 e).1 Q6).trans e⟩
def Jz(W0:T)(v1 v2 v3 v4 v5:M)(N:R)(res:A)(sl:I A)(v:M)(w:T):Prop:=∃vs,v=.agg #[v1,v2,v3,v4,v5,vs,O Z (N:A),O Z res]/\dY (λb=>W0.heap.size<=b/\Dj w b) w vs sl
def J1(W0:T)(v:M)(w:T):Prop:=∃mb,v=.map (Y mb)/\W0.heap.size<=mb/\w.heap[mb]? =Y (.map #[] 0)
def J0(W0:T)(v:M)(w:T):Prop:=∃lb,v=.pointer (Y (Q lb 0 G))/\W0.heap.size<=lb/\w.heap[lb]? =Y (X #[J G 0 0,J G 0 0,J G 0 0,J G 0 0,J G 0 0,J G 0 0,O Z 0,O Z 0,O Z 0,J G 0 0,.map G,J G 0 0] 176 (0,0))
def LB(k:R)(vc vx vy vt:M):Prop:=∃x1 x2 x3 x4 x5 x6 x7 x8 mb,vx=.agg #[x1,x2,x3,x4,x5,x6,x7,x8]/\vy=.map (Y mb)/\vt=.agg #[x1,x2,x3,x4,x5,x6,x7,x8,O Z (k:A),vc,.map (Y mb),J G 0 0]
theorem Jz.gr{w:T}{v1 v2 v3 v4 v5 v:M}{N:R}{res:A}{sl:I A}(h:Jz W0 v1 v2 v3 v4 v5 N res sl v w)(g:Gr w w'):Jz W0 v1 v2 v3 v4 v5 N res sl v w':=by
 obtain⟨vs,e,r⟩:=h;exact⟨_,e,r.mono λb d F=>⟨g.block b F Q6,d.1,d.2.gr g⟩⟩
theorem PL{p:Prop}(h:p:=by obtain⟨mb,e,h1,h2⟩:=h;exact⟨_,e,h1,(g.block _ (eJ.1 h2).1 Q6).trans h2⟩):p:=h
theorem J1.gr{w:T}{v:M}(h:J1 W0 v w)(g:Gr w w'):J1 W0 v w':=by
 exact PL
theorem J0.gr{w:T}{v:M}(h:J0 W0 v w)(g:Gr w w'):J0 W0 v w':=by
 exact PL
theorem jD.empty{w:T}(h:w.heap[b]? =Y (.map #[] 0)):jD w b 0 (λ_=>G):=by
 obtain⟨DDq,⟨es,clock,d,r⟩,h2⟩:=(jD.made w).is;rw[jZ]at d;simp only[qN,Obj.map.injEq]at d;obtain⟨rfl,rfl⟩:=d;exact⟨DDq,⟨_,_,h,r⟩,h2⟩
theorem C0(n:R):dh n (λ_=>(G:By (I A)).isSome)=n:=iz n
theorem tV(h:bG u=AT):D u.aE<=50/\D u.aG<=30/\D u.aC<=20/\∀f∈u.aG,D f.aH<=6/\D f.aI<=10/\1<=D f.code/\D f.code<=200/\f.code.all bl=AT:=by
 unfold bG cm cO cG wB at h;simp only[sQ,xw]at h;obtain⟨-,h2,⟨h3,d⟩,⟨h5,-⟩,-⟩:=h;refine⟨Q5,Q5,Q5,λf F=>?_⟩;have:=zl.1 d f F
 unfold dA iG ir wB at this;simp only[sQ,xw]at this;obtain⟨⟨p1,-⟩,q1,-,⟨c1,c2⟩⟩:=this;exact⟨Q5,Q5,Q5,Q5,c2⟩
theorem Pa{p:Prop}(h:p:=by
 intro w' j K hK;have HK:=aJ hK;go_simp
 exact HK _ _ ⟨j.alloc _,⟨_,rfl,j.size,jZ _ _⟩,λu h=>h.gr G5,λu h=>h.gr G5⟩):p:=h
theorem zK(u:aK):pZ u:=by
 intro V vu hR;have VP:=aJ hR;obtain⟨v1,v2,v3,v4,v5,rfl,h1,h2,h3,h4,h5⟩:=hR;obtain⟨a1,c1,rfl⟩:=h1.shape;obtain⟨a2,c2,rfl⟩:=h2.shape;obtain⟨a4,c4,rfl⟩:=h4.shape;obtain⟨a5,c5,rfl⟩:=h5.shape;have H3:=aJ h3;have H1:=aJ h1;have H4:=aJ h4;obtain⟨a3,c3,rfl,b7,b'⟩:=h3;have T6:=aJ b';unfold maxLen at b7;have Tt:=aJ (Gr.alloc (Gr.refl V) (X (yE u a1 c1 a2 c2 a3 c3 a4 c4 a5 c5) 58));have ay:=aJ (zD u _ 1 0 _ (VP.gr Tt));cases Tb:bG u with
 | false=>
  have HV:U (ar u=(1,0,0)):=aJ SB;rw[Tb,E5]at ay;go_enter func33,ntmps33
  go_wp2_with fail;refine ay.mono ?_;rintro x w1 ⟨rfl,S5⟩;refine⟨rfl,?_,.inr ?_⟩
  · exact(Mt _ V).grown (Tt.trans S5) lj Q6
  rw[HV];rfl
 | true=>
  have HV:U (ar u=iC u 0 _):=aJ SB;have UF:=aJ Tb;rw[Tb,D6]at ay;go_enter func33,ntmps33
  go_wp2_with fail;refine ay.mono ?_;rintro x w1 ⟨rfl,S5⟩;have Td:=aJ S5;have KB:U (∀w',Gr (V.alloc (X #[J _ _ _,J _ (D u.aE) _,J _ _ c3,J a4 (D u.aC) c4,J _ _ _] 58)) w'->H w' ⟨_,0,_⟩=Y (J a1 (D u.aA) c1)/\H w' ⟨_,1,_⟩=Y (J a2 _ c2)/\H w' ⟨_,2,_⟩=Y (J a3 (D u.aG) _)/\H w' ⟨_,3,_⟩=Y (J _ _ _)/\H w' ⟨_,4,_⟩=Y (J a5 (D u.aD) c5)):=aJ (λw' g=>by
   have e0:=(g.block _ Q6 Q6).trans (jZ V _);refine⟨?_,?_,?_,?_,?_⟩<;>(rw[aS e0];rfl))
  obtain⟨s9,s8,s2,s3,s4⟩:=KB _ S5;go_wp2_with fail;go_loopw[11] (λi wr=>∃k:R,i=O Z (k:A)/\k<=D u.aG/\ar u=iC u k (u.aG.drop k)/\Gr (V.alloc (X (yE u a1 c1 a2 c2 a3 c3 a4 c4 a5 c5) 58)) wr) λi _=>D u.aG-(intOf i).toNat
  case atStart=>exact⟨0,rfl,Lz,HV,Td⟩
  obtain⟨k,rfl,hk,hv,hg⟩:=hrel;have bg:=aJ hv;have aB:=aJ hg;obtain⟨e0,e1,e2,e3,e4⟩:=KB _ hg;by_cases IN:k<D u.aG
  · obtain⟨f,hf⟩:=aU IN;have bk:=dL hf;obtain⟨b,off,vp,vl,vc,rfl,f0,f1,f2,f3,a',bt,bF⟩:=T6 k f hf;obtain⟨ap,cp,rfl⟩:=a'.shape;obtain⟨al,cl,rfl⟩:=bt.shape;obtain⟨ac,cc,rfl⟩:=bF.shape;have ae:=Tt.trans aB;have f0:=ae.cell f0 Q6;have f1:=ae.cell f1 Q6;have f2:=ae.cell f2 Q6;have f3:=ae.cell f3 Q6;have UB:(k:A)<D u.aG:=by omega
    have hw:Z.wrap _=k+1:=Q_;obtain⟨cv,cu,cy,ca⟩:=tV UF;obtain⟨bC,a8,cn,ck,Tc⟩:=ca f bk;have bC:D f.aH<=10000:=Q5;have a8:D f.aI<=10000:=Q5;have Tv:U (ar u=match fj u f with|some q=>(10,k,q)|none=>iC u _ (u.aG.drop (k+1))):=aJ (by
     rw[bg,Be IN];have:=by rw[dW IN]at hf;exact tz hf
     rw[this,iC];cases fj u f<;>rfl)
    have a7:=Gr.alloc (Gr.refl wr) (X #[J ap (D f.aH) cp,O Z f.result,J al (D f.aI) cl,J ac (D f.code) cc] 74);have ai:=aJ a7;have b1:=aJ (jZ wr (X #[J ap (D f.aH) cp,O Z f.result,J al (D f.aI) cl,J ac (D f.code) cc] 74));have UX:U ((wr.alloc (X #[J ap (D f.aH) cp,O Z f.result,J al (D f.aI) cl,J ac (D f.code) cc] 74)).heap.size=wr.heap.size+1):=aJ Q6;go_upto_region 5 with fail
    generalize wr.alloc _=W0 at ai b1 UX |-;have b3:=aJ ((a'.gr ae).gr ai);have b2:=aJ ((bt.gr ae).gr ai);have Uf:=aJ (ae.trans ai);have b0:=aJ (aB.trans ai);have b8:=aJ ((bF.gr ae).gr ai);have b5:U (Ky _ u f _ (J a2 _ c2) _ _ (J a5 (D u.aD) c5) _):=aJ ⟨H1.gr Uf,⟨_,_,rfl⟩,H3.gr Uf,H4.gr Uf,⟨_,_,_,rfl⟩,Q5,Q5,Q5,b8,Tc⟩;have KS:U (∀w',Gr _ w'->H w' _=Y _/\H w' _=Y _/\H w' _=Y _/\H w' _=Y _/\H w' _=Y _/\H w' ⟨_,0,_⟩=Y (J _ _ _)/\H w' ⟨_,1,_⟩=Y (.int _ _)/\H w' ⟨_,2,_⟩=Y (J _ _ _)/\H w' ⟨_,3,_⟩=Y (J _ _ _)):=aJ (λw' g=>by
     obtain⟨x0,x1,x2,x3,x4⟩:=KB _ (b0.trans g);have S7:=UX.j;have ef:=(g.block _ Q5 Q6).trans b1;refine⟨x0,x1,x2,x3,x4,?_,?_,?_,?_⟩<;>(rw[aS ef];rfl))
    refine xE (S:=(λw'=>H w' _=Y _/\H w' _=Y _/\H w' _=Y _/\H w' _=Y _/\H w' _=Y _/\H w' _=Y _/\H w' _=Y _/\H w' _=Y _/\H w' _=Y _)) Q7 (KS _ Gy) (λhH=>?_);refine tL 0 ?_;refine tL 1 ?_;refine tL 3 ?_;refine tL 4 ?_;refine tL 5 ?_;refine Gn (x:=2) (y:=6) (z:=8) (t:=7) rfl rfl rfl rfl Q7 Q7 Q7 Q7 Q7 Q9 Q9 Q9 Q9 Q7 Q7 Q7 Q7 Q7 Q7 Q7 Q7 Q7 Q7 Q7 bZ bZ bZ (λc a d v w h=>by cases d<;>exact h) (λc a d v w h=>by cases d<;>exact h) (λw'=>Gr W0 w') (Jz W0 (J a1 (D u.aA) c1) (J a2 (D u.aE) c2) (J (Y (Q b off G)) (D u.aG) c3) (J a4 (D u.aC) c4) (J a5 (D u.aD) c5) (D f.code) f.result (f.aH++f.aI)) (J1 W0) (J0 W0) (LB k (J ac (D f.code) cc)) (λw' g=>KS.j w' g) Gy ?stX ?stY ?stZ ?stT ?stR
    case stX=>
     intro w' j K hK;have HK:=aJ hK;refine pi _ _ _ rfl #[.agg #[J a1 (D u.aA) c1,J a2 (D u.aE) c2,J (Y (Q b off G)) (D u.aG) c3,J a4 (D u.aC) c4,J a5 (D u.aD) c5],.agg #[J _ _ _,.int _ _,J _ _ _,J ac _ cc]] fZ (Tryz.callScope _ _) ((CQ _ _ _ _ _ _ _ _ f _ Q6 (b3.gr j) (b2.gr j) ⟨_,_,rfl⟩ bC a8).mono ?_);rintro x w2 ⟨vs,rfl,hg,ak⟩;exact .inl ⟨_,rfl,HK _ _ ⟨j.trans hg,⟨_,rfl,ak.mono λb hb hl=>⟨rfl,wz j.size hb.1,hb.2⟩⟩,λu h=>h.gr hg,λu h=>h.gr hg⟩⟩
    case stY=>
     exact Pa
    case stZ=>
     exact Pa
    case stT=>
     rintro vx vy w' j ⟨vs,rfl,ak⟩ ⟨mb,rfl,bL,bo⟩;obtain⟨af,cs,rfl⟩:=ak.to.shape;refine⟨_,⟨_,_,_,_,_,_,_,_,_,rfl,rfl,rfl⟩,bZ,?_⟩;intro w TP;simp only[Act.put,sA,s0,s1];go_simp
    case stR=>
     rintro vx vy vz vt w2 j ⟨vs,rfl,ak⟩ ⟨mb,rfl,bL,bo⟩ ⟨lb,rfl,aF,b9⟩ ⟨x1,x2,x3,x4,x5,x6,x7,x8,cx,e1,e2,rfl⟩;simp only[Ch,FL,Bk,I7,Value.map.injEq,qN]at e1 e2;obtain⟨rfl,rfl,rfl,rfl,rfl,rfl,rfl,rfl⟩:=e1;obtain rfl:=e2;obtain⟨af,cs,rfl⟩:=ak.to.shape;have hH:=KS _ j;have HJ:=aJ j;have b4:=aJ ak;have aM:=aJ bo;have az:=aJ b9;simp only[Act.put,sA,s0,s1];refine bQ (i:=9) rfl Q7 λK hK=>?_;refine aW bZ (Lc 176 _ _ rfl lb #[J a1 (D u.aA) c1,J a2 (D u.aE) c2,J (Y (Q b off G)) (D u.aG) c3,J a4 (D u.aC) c4,J a5 (D u.aD) c5,J af (D (f.aH++f.aI)) cs,O Z (D f.code:A),O Z f.result,O Z (k:A),J ac (D f.code) cc,.map (Y mb),J G 0 0] bZ fZ 176 _ az.j Tryz.infLooker rfl Qr ?_);refine hK _ _ (KS _ (D9 HJ aF)) λhH=>?_;try simp only[Act.put,sA,s0,s1]
     refine Ev Q7 ?_ _;have bp:(w2.setRow _ #[J a1 (D u.aA) c1,J a2 (D u.aE) c2,J (Y (Q b off G)) (D u.aG) c3,J a4 (D u.aC) c4,J a5 (D u.aD) c5,J af (D (f.aH++f.aI)) cs,O Z (D f.code),O Z f.result,O Z k,J ac (D f.code) cc,.map (Y mb),J G 0 0]).heap[lb]? =Y _:=Kg _ _ _ _ _ _ az;have bB:¬mb=lb:=λe=>by have h1:=aM.j;rw[e,az]at h1;cases h1
     have bj:(w2.setRow _ #[J a1 (D u.aA) c1,J a2 (D u.aE) c2,J (Y (Q b off G)) (D u.aG) c3,J a4 (D u.aC) c4,J a5 (D u.aD) c5,J af (D (f.aH++f.aI)) cs,O Z (D f.code),O Z f.result,O Z k,J ac (D f.code) cc,.map (Y mb),J G 0 0]).heap[mb]? =Y _:=(Kk _ _ _ _ bB).trans aM;have ax:=(eJ.1 bp).1;have av:=(eJ.1 bj).1;have a0:Gr _ (w2.setRow _ #[J a1 (D u.aA) c1,J a2 (D u.aE) c2,J (Y (Q b off G)) (D u.aG) c3,J a4 (D u.aC) c4,J a5 (D u.aD) c5,J af (D (f.aH++f.aI)) cs,O Z (D f.code),O Z f.result,O Z k,J ac (D f.code) cc,.map (Y mb),J G 0 0]):=D9 HJ aF;have b6:dY (λbb=>¬bb=lb/\¬bb=mb/\bb<(w2.setRow lb #[J a1 (D u.aA) c1,J a2 (D u.aE) c2,J (Y (Q b off G)) (D u.aG) c3,J a4 (D u.aC) c4,J a5 (D u.aD) c5,J af (D (f.aH++f.aI)) cs,O Z (D f.code),O Z f.result,O Z k,J ac (D f.code) cc,.map (Y mb),J G 0 0]).heap.size) (w2.setRow _ #[J a1 (D u.aA) c1,J a2 (D u.aE) c2,J (Y (Q b off G)) (D u.aG) c3,J a4 (D u.aC) c4,J a5 (D u.aD) c5,J af (D (f.aH++f.aI)) cs,O Z (D f.code),O Z f.result,O Z k,J ac (D f.code) cc,.map (Y mb),J G 0 0]) _ _:=b4.mono λbb hb hl=>by
      obtain⟨arr,ad⟩:=hb.2;have n1:¬bb=lb:=λe=>by rw[e,az]at ad;cases ad
      have n2:¬bb=mb:=λe=>by rw[e,aM]at ad;cases ad
      exact⟨Kk _ _ _ _ n1,n1,n2,by rw[setRow_size];exact hl⟩
     have cj:U (oh _ _ _ _ _ _ _ _ _ _ _ _ _ _ k _ _ _ _ _ [] 0):=aJ
      ⟨bp,B5 _ _ _ _,ax,lj,jD.empty bj,av,bB,(λj s h=>by cases h),(λj s h=>by cases h),(λj h=>rfl),pX.empty _ _,by rw[C0];omega,Q5,Q6,b6,(Mt _ _).grown a0 lj Q6,aF,bL⟩
     have a9:=aJ (Af _ _ _ _ _ _ _ _ _ _ _ _ u f k _ (Fc _ _ _ _ _ _ _ _ _ _ u f k _ b5) UF bk Q5 cj);generalize w2.setRow _ _=wf at a9 ax av |-;go_wp2_with fail;refine a9.mono ?_;intro x w3 h3;unfold Hn at h3;obtain⟨a6,F⟩:=h3;have UT:=qK a6;have Te:=aJ UT;cases Vj:fj u f with
     | some q=>
      rw[Vj]at F;simp only[]at F;subst F;refine⟨rfl,(Mt _ V).grown (Uf.trans UT) lj Q6,.inr ?_⟩;have e:ar u=(10,k,q):=by rw[Tv,Vj]
      rw[e];rfl
     | none=>
      rw[Vj]at F;simp only[]at F;subst F;have aL:U (ar u=iC u _ _):=aJ (by rw[Tv,Vj]);go_wp2_with fail;exact⟨⟨_,Q6,IN,aL,b0.trans Te⟩,Qh⟩
  have cf:k=D u.aG:=by omega
  subst cf;have aL:U (ar u=(0,0,0)):=aJ (by rw[bg,Ln];rfl);go_wp2_with fail;go_end0
  exact⟨(Mt _ V).grown (Tt.trans aB) lj Q6,.inl ⟨rfl,aL⟩⟩
theorem xj(h:bG u=AT):D u.aA<=20/\(∀s∈u.aA,D s<=8)/\∀g∈u.aC,D g.aH<=6:=by
 unfold bG bh cG wB at h;simp only[sQ,xw]at h;obtain⟨⟨h1,F⟩,-,-,⟨-,d⟩,-⟩:=h;refine⟨Q5,λs hs=>?_,λg hg=>?_⟩
 · have:=zl.1 F s hs
   unfold dM wB at this;simp only[sQ,xw]at this;omega
 have:=zl.1 d g hg
 unfold gC iG wB at this;simp only[sQ,xw]at this;omega
theorem AO(u:aK)(vu:M)(w:T)(hU:bV w vu u)(hT:lR w):Calls prog 21 #[vu] w (I3 u w):=by
 have d:=hU;obtain⟨v1,v2,v3,v4,v5,rfl,h1,h2,h3,h4,h5⟩:=hU;obtain⟨a1,c1,rfl⟩:=h1.shape;obtain⟨a2,c2,rfl⟩:=h2.shape;obtain⟨a3,c3,rfl⟩:=h3.shape;obtain⟨a4,c4,rfl⟩:=h4.shape;obtain⟨a5,c5,rfl⟩:=h5.shape;refine ti u _ _ _ _ _ w d Q6 (λV g=>qT u _ V (d.gr g) (hT.gr g)) λTb f hf vp vl vc V hp hl hc g=>?_;obtain⟨ay,al,ax,F⟩:=tV Tb;obtain⟨ak,ai,af⟩:=xj Tb;obtain⟨az,av,ad,ae,Tc⟩:=F f hf;refine D0 u f Tb hf _ _ _ _ _ _ _ _ V (d.gr g) (hp.gr g) (hl.gr g) (hc.gr g) ad ae Tc λi hi V2 g2=>?_;have gg:=g.trans g2;exact tP u f i hi _ _ _ _ _ _ _ _ _ (d.gr gg) (hp.gr gg) (hl.gr gg) (by obtain⟨a,c,h⟩:=hc.shape;exact⟨a,c,h⟩) Q5 Q5 Q5 ⟨Q5,Q5,Q5,Q5⟩ (λs hs=>by have:=ai s hs;omega) (λg hg=>by have:=(F g hg).1;omega) λg hg=>by have:=af g hg;omega
def GJ(fuel heap:R)(us:I aK):kB:=match dK us with
 | .inr (e,k)=>⟨3,(k:A),0,e,0,[],0⟩
 | .inl u=>if (ar u).1≠0 then ⟨4,((ar u).2.1:A),((ar u).2.2:A),(ar u).1,0,[],0⟩ else ft fuel heap u
theorem IH{w:T}{us:I aK}{vr:M}{fuel heap ob:R}{c0 c3 c4 c5 c8 c9 c10 c11 c12 c13 c14 c15 c16 c17 c18 c19 c20 c21 c22 c23 c24 c25 c26 c27 c28 c29 c30 c31 c32 c33 c34 c35 c36 c37 c38 c39 c40 c41 c42 c43 c44 c45 c46 c47 c48 c49 c50 c51 c52 c53 c54 c55 c56 c57 c58 c59 c60 c61 c62 c63 c64 c65 c66 c67 c68 c69 c70 c71 c72 c73 c74 c75 c76 c77 c78 c79 c80 c81 c82 c83 c84 c85 c86 c87 c88 c89 c90 c91 c92 c93 c94 c95 c96 c97 c98 c99 c100 c101 c102 c103 c104 c105 c106 c107 c108 c109 c110 c111 c112 c113 c114 c115 c116 c117 c118 c119 c120 c121 c122 c123 c124 c125 c126 c127 c128 c129 c130 c131 c132 c133 c134 c135 c136 c137 c138 c139 c140 c141 c142 c143 c144 c145 c146 c147 c148 c149 c150 c151 c152 c153 c154 c155 c156 c157 c158 c159 c160 c161 c162 c163 c164 c165 c166 c167 c168 c169 c170 c171:M}(hR:dH w vr us)(ai:lR w)(ho:w.heap[ob]? =Y (X yI 47 (0,0)))(av:Gr W w)(ad:W.heap.size<=ob)(aB:fuel<=200000)(al:heap<=5000):
 Code.wp prog (kw 4 (rS 4 (eU f8)) (kw 3 (rS 8 (eU f8)) (kw 3 (rS 11 (eU f8)) (tr (eU f8))))) (EQ (RQ W ob (GJ fuel heap us))) ⟨#[c0,O Z (fuel:A),O Z (heap:A),c3,c4,c5,.pointer (Y (Q ob 0 G)),vr,c8,c9,c10,c11,c12,c13,c14,c15,c16,c17,c18,c19,c20,c21,c22,c23,c24,c25,c26,c27,c28,c29,c30,c31,c32,c33,c34,c35,c36,c37,c38,c39,c40,c41,c42,c43,c44,c45,c46,c47,c48,c49,c50,c51,c52,c53,c54,c55,c56,c57,c58,c59,c60,c61,c62,c63,c64,c65,c66,c67,c68,c69,c70,c71,c72,c73,c74,c75,c76,c77,c78,c79,c80,c81,c82,c83,c84,c85,c86,c87,c88,c89,c90,c91,c92,c93,c94,c95,c96,c97,c98,c99,c100,c101,c102,c103,c104,c105,c106,c107,c108,c109,c110,c111,c112,c113,c114,c115,c116,c117,c118,c119,c120,c121,c122,c123,c124,c125,c126,c127,c128,c129,c130,c131,c132,c133,c134,c135,c136,c137,c138,c139,c140,c141,c142,c143,c144,c145,c146,c147,c148,c149,c150,c151,c152,c153,c154,c155,c156,c157,c158,c159,c160,c161,c162,c163,c164,c165,c166,c167,c168,c169,c170,c171],[]⟩ w:=by
 have ak:=aJ (D3 _ _ w w hR (Mt _ _) ai);obtain⟨ra,rc,rfl⟩:=hR.shape;have Vi:=aJ ho;have ay:=aJ ai;have TS:=aJ av;generalize hX:(kw 3 _ _)=Xq;have az:=aJ hX;simp only[eU,f8,La,rS,kw];go_wp2_with fail;refine ak.mono ?_;intro z w2 hz;cases hl:dK us with
 | inr q=>
  obtain⟨e,kk⟩:=q;rw[hl]at hz;obtain⟨rfl,IT⟩:=hz;have No:=zC hl;have VO:(e !=0)=AT:=by simpa using No
  have HF:U (GJ fuel heap _=⟨3,_,0,e,0,_,0⟩):=aJ (by unfold GJ;rw[hl]);have HG:=aJ (IT.alloc (X yF 58));have Vc:=aJ ((HG.block _ (eJ.1 Vi).1 Q6).trans Vi);obtain⟨⟨o0,o1,o2,o3,o4,o5,o6⟩,g0,g1,g2,g3,g4,g5,g6⟩:=fq Vc;go_wp2_with fail;rw[jG];exact⟨rfl,by rw[HF];exact wn (TS.trans HG) Vc ad rfl⟩
 | inl u=>
  rw[hl]at hz;obtain⟨v,rfl,hv,IT⟩:=hz;have hU:=hv _ (λb hb=>IT.block b hb Q6) λ_ _ _=>rfl;obtain⟨a1,a2,a3,a4,a5,d1,d2,d3,d4,d5,rfl,-⟩:=hU.parts;have HU:=aJ (hU.gr ((G0).alloc (X (yE u a1 d1 a2 d2 a3 d3 a4 d4 a5 d5) 58)));have TT:=aJ (jZ w2 (X (yE u a1 d1 a2 d2 a3 d3 a4 d4 a5 d5) 58));have HG:=aJ (IT.alloc (X (yE u a1 d1 a2 d2 a3 d3 a4 d4 a5 d5) 58));have af:=aJ (AO u _ _ HU (ay.gr HG));have HL:=aJ hl;go_wp2_with fail;generalize w2.alloc _=w3 at HU TT HG af |-;generalize w2.heap.size=ub at TT |-;refine af.mono ?_;rintro z w4 ⟨rfl,ae⟩;have Tg:=aJ (HG.trans ae);have ax:=aJ (HU.gr ae);have VH:=aJ ((ae.block _ (eJ.1 TT).1 Q6).trans TT);by_cases d:(ar u).1=0
  · have F:=mx d;have HF:U (GJ _ heap _=ft fuel _ u):=aJ (by unfold GJ;rw[HL];exact eP (by simp[d]));have UF:=aJ (rD.of (qW F));have aA:U (∃Ts:R->R->By _,∀n f,u.aG[n]? =Y f->lf u f (Ts n)):=aJ (by
     have h:=pA (qW F) F;refine⟨λn=>if hn:n<D u.aG then (h _ (L2 hn)).choose else λ_=>G,λn f hf=>?_⟩;obtain⟨hn,rfl⟩:=dm.1 hf;simp only[hn,dif_pos];exact(h _ (L2 hn)).choose_spec)
    rw[F];go_wp2_with fail;obtain rfl:=az.j;obtain⟨Ts,aC⟩:=aA.j;rw[HF];exact EP ax VH ((Tg.block _ (eJ.1 Vi).1 Q6).trans Vi) (TS.trans Tg) ad (zh HL) aB al UF (qZ HL) aC
  · have VO:((ar u).1 !=0)=AT:=by simpa using d
    have HF:U (GJ fuel heap _=⟨4,_,_,_,0,_,0⟩):=aJ (by unfold GJ;rw[HL];exact mI d);have Vc:=aJ ((Tg.block _ (eJ.1 Vi).1 Q6).trans Vi);obtain⟨⟨o0,o1,o2,o3,o4,o5,o6⟩,g0,g1,g2,g3,g4,g5,g6⟩:=fq Vc;generalize (ar u).1=ve at d VO HF |-;generalize (ar u).2.1=vf at HF |-;generalize (ar u).2.2=vi at HF |-;go_wp2_with fail;rw[jG];exact⟨rfl,by rw[HF];exact wn (TS.trans Tg) Vc ad rfl⟩
def BT(t:I AI)(sh:I (I A))(cs:I A)(fs:I aQ)(im:I eL)(r4:I AI):aK ⊕ (A×R):=match dz 5 jN fU (λy=>cH y (D fs)) r4 with
 | none=>.inr (2,pl t r4)
 | some (ex,r5)=>if r5=[] then .inl ⟨sh,cs,fs,im,ex⟩ else .inr (2,pl t r5)
def B7(t:I AI)(sh:I (I A))(cs:I A)(fs:I aQ)(r3:I AI):aK ⊕ (A×R):=match dz 4 jQ fQ (λy=>cG y (D sh)) r3 with
 | none=>.inr (2,pl t r3)
 | some (im,r4)=>BT t sh cs fs im r4
def BQ(t:I AI)(sh:I (I A))(cs:I A)(r2:I AI):aK ⊕ (A×R):=match dz 3 fL d_ (λy=>cO y (D sh)) r2 with
 | none=>.inr (2,pl t r2)
 | some (fs,r3)=>B7 t sh cs fs r3
def BN(t:I AI)(sh:I (I A))(r1:I AI):aK ⊕ (A×R):=match dz 2 b_ dE cm r1 with
 | none=>.inr (2,pl t r1)
 | some (cs,r2)=>BQ t sh cs r2
def qG(t:I AI):aK ⊕ (A×R):=
 if 20000<D t then .inr (3,0)
 else if t.take 5≠jS then .inr (2,0)
 else match dz 1 au bu bh (t.drop 5) with
  | none=>.inr (2,5)
  | some (sh,r1)=>BN t sh r1
theorem kQ{α:Type}{f:I AI->By (I α×I AI)}{y:I α}(h:bW n f r=Y (y,r')){m:R}(d:D r<=m):D r'<=m:=by
 obtain⟨x,e⟩:=gu h;rw[e,fe]at d;omega
theorem ES(t:I AI){sh:I (I A)}(cs:I A){fs:I aQ}(im:I eL)(d:bh sh=AT)(F:cO fs (D sh)=AT)(r:I AI)(hr:D r<=20000):BT t sh cs fs im r=A0 t sh cs fs im r:=by
 unfold BT A0;rw[Ff d F r hr];cases h:bW 5 (aV fH) r with
 | none=>rfl
 | some p=>
  obtain⟨y,r'⟩:=p;cases hy:cH y (D fs) with
  | false=>simp only[ym,hy,KA]
  | true=>
   simp only[ym,hy,MD,L3]
theorem EK(t:I AI){sh:I (I A)}(cs:I A){fs:I aQ}(d:bh sh=AT)(F:cO fs (D sh)=AT)(r:I AI)(hr:D r<=20000):B7 t sh cs fs r=A_ t sh cs fs r:=by
 unfold B7 A_;rw[Dt d r hr];cases h:bW 4 (aV er) r with
 | none=>rfl
 | some p=>
  obtain⟨y,r'⟩:=p;cases hy:cG y (D sh) with
  | false=>simp only[ym,hy,KA]
  | true=>
   simp only[ym,hy,MD,L3];exact ES t _ y d F _ (kQ h hr)
theorem Eh(t:I AI){sh:I (I A)}(cs:I A)(d:bh sh=AT)(r:I AI)(F:D r<=20000):BQ t sh cs r=z' t sh cs r:=by
 unfold BQ z';rw[DO d r F];cases h:bW 3 (aV dR) r with
 | none=>rfl
 | some p=>
  obtain⟨y,r'⟩:=p;cases hy:cO y (D sh) with
  | false=>simp only[ym,hy,KA]
  | true=>
   simp only[ym,hy,MD,L3];exact EK t _ d hy _ (kQ h F)
theorem E2(t:I AI){sh:I (I A)}(d:bh sh=AT)(r:I AI)(F:D r<=20000):BN t sh r=Ac t sh r:=by
 unfold BN Ac;rw[GT d r F];cases h:bW 2 (aV bn) r with
 | none=>rfl
 | some p=>
  obtain⟨y,r'⟩:=p;cases hy:cm y with
  | false=>simp only[ym,hy,KA]
  | true=>
   simp only[ym,hy,MD,L3];exact Eh t y d _ (kQ h F)
theorem DB(t:I AI):qG t=lk t:=by
 by_cases d:20000<D t
 · unfold qG lk;rw[mI d,mI d]
 by_cases F:t.take 5=jS
 · rw[yT d F];unfold qG;rw[eP d,eP λh=>h F];have hr:D (t.drop 5)<=20000:=by rw[J2];omega
   rw[F5 _ hr];cases h:bW 1 (aV cP) (t.drop 5) with
   | none=>rfl
   | some p=>
    obtain⟨y,r'⟩:=p;cases hy:bh y with
    | false=>simp only[ym,hy,KA]
    | true=>
     simp only[ym,hy,MD,L3];exact E2 t hy _ (kQ h hr)
 unfold qG lk;rw[eP d,eP d,mI F,mI F]
def iN(k:R)(u:aK)(r:I AI)(bad:Bool):aK×I AI×Bool:=
 match k with
 | 1=>(⟨(dF au r bad).1,u.aE,u.aG,u.aC,u.aD⟩,(dF au r bad).2)
 | 2=>(⟨u.aA,(dF b_ r bad).1,u.aG,u.aC,u.aD⟩,(dF b_ r bad).2)
 | 3=>(⟨u.aA,u.aE,(dF fL r bad).1,u.aC,u.aD⟩,(dF fL r bad).2)
 | 4=>(⟨u.aA,u.aE,u.aG,(dF jQ r bad).1,u.aD⟩,(dF jQ r bad).2)
 | _=>(⟨u.aA,u.aE,u.aG,u.aC,(dF jN r bad).1⟩,(dF jN r bad).2)
def t_(k:R)(u:aK)(r:I AI):aK×I AI×Bool:=
 iN k u (iS (bm r AS).2.1 (bm r AS).2.2).2.1 (iS (bm r AS).2.1 (bm r AS).2.2).2.2
def sf(k:R)(u:aK)(r:I AI):By (aK×I AI):=
 if (t_ k u r).2.2=AS/\bG (t_ k u r).1=AT/\r.take (D (iY k (oQ (t_ k u r).1 k)))=iY k (oQ (t_ k u r).1 k) then Y ((t_ k u r).1,r.drop (D (iY k (oQ (t_ k u r).1 k)))) else G
def lL(t:I AI):R->R->aK->I AI->aK ⊕ (A×R)
 | 0,_,u,r=>if r=[] then .inl u else .inr (2,pl t r)
 | n+1,k,u,r=>match sf k u r with
  | none=>.inr (2,pl t r)
  | some (u',r')=>lL t n (k+1) u' r'
def rG(t:I AI):aK ⊕ (A×R):=
 if 20000<D t then .inr (3,0)
 else if t.take 5≠jS then .inr (2,0)
 else lL t 5 1 ⟨[],[],[],[],[]⟩ (t.drop 5)
theorem nV{α:Type}{f:I AI->Bool->α×I AI×Bool}{g:α->I AI}{d:I α->Bool}{mk:I α->aK}(h1:∀r bad,iN k u r bad=(mk (dF f r bad).1,(dF f r bad).2))(F:∀y,bG (mk y)=d y)(h3:∀y,oQ (mk y) k=fM g y)(r:I AI):
 sf k u r=(dz k f g d r).map (λp=>(mk p.1,p.2)):=by
 have e:t_ k u r=(mk (mj f r).1,(mj f r).2):=by unfold t_ mj;rw[h1]
 unfold sf dz;rw[e];simp only[F,h3];split<;>rfl
theorem mQ{α:Type}{f:I AI->Bool->α×I AI×Bool}{g:α->I AI}{d:I α->Bool}{y:I α}(h:dz k f g d r=Y (y,r')):d y=AT:=by
 unfold dz at h;split at h
 · rename_i c
   simp only[qN,H9]at h;rw[<-h.1];exact c.2.1
 cases h
theorem Ao(t:I AI):rG t=qG t:=by
 unfold rG qG;split
 · rfl
 rename_i hl
 split
 · rfl
 rename_i hm
 unfold lL;rw[nV (λ_ _=>rfl) (λy=>Dl y) λ_=>rfl];cases e1:dz 1 au bu bh (t.drop 5) with
 | none=>
  have:5<=D t:=by
   have:=congrArg List.length (Decidable.not_not.1 hm)
   rw[Bc]at this;have h5:D jS=5:=SF
   omega
  simp only[Option.map_none,pl,J2];congr 2;omega
 | some p1=>
  obtain⟨sh,r1⟩:=p1;have d:=mQ e1;simp only[Mb];unfold lL BN;rw[nV (λ_ _=>rfl) (λy=>Ez d y) λ_=>rfl];cases e2:dz 2 b_ dE cm r1 with
  | none=>rfl
  | some p2=>
   obtain⟨cs,r2⟩:=p2;have F:=mQ e2;simp only[Mb];unfold lL BQ;rw[nV (λ_ _=>rfl) (λy=>xR d F y) λ_=>rfl];cases e3:dz 3 fL d_ (λy=>cO y (D sh)) r2 with
   | none=>rfl
   | some p3=>
    obtain⟨fs,r3⟩:=p3;have k3:=mQ e3;simp only[Mb];unfold lL B7;rw[nV (λ_ _=>rfl) (λy=>BK d F k3 y) λ_=>rfl];cases e4:dz 4 jQ fQ (λy=>cG y (D sh)) r3 with
    | none=>rfl
    | some p4=>
     obtain⟨im,r4⟩:=p4;have k4:=mQ e4;simp only[Mb];unfold lL BT;rw[nV (λ_ _=>rfl) (λy=>B8 d F k3 k4 y) λ_=>rfl];cases e5:dz 5 jN fU (λy=>cH y (D fs)) r4 with
     | none=>rfl
     | some p5=>rfl
theorem Hc{α:Type}{f:α->I M}(d:∀e,D (f e)=n):∀(l:I α) (i r:R) (x:α),l[i]? =Y x->r<n->(l.flatMap f)[i*n+r]? =(f x)[r]?
 | [],i,r,x,h,hr=>by simp at h
 | y::l,0,r,x,h,hr=>by
  simp at h
  subst h;rw[I',ze (by rw[d];omega),MS,Aq]
 | y::l,i+1,r,x,h,hr=>by
  have e1:(i+1)*n=i*n+n:=Nat.succ_mul i n;rw[I',Ag (by rw[d];omega),d,show(i+1)*n+r-n=i*n+r by omega];exact Hc d l i r x RY hr
theorem ll{α:Type}{f:α->I M}{w:T}{B:R}{e:TypeId}{v:M}{l:I α}(d:∀e,D (f e)=n)(hn:0<n)(h:w.ownsRow B e n v (D l) (l.flatMap f)):∃ao cap,v=J ao (D l) cap/\D l<=maxLen/\∀(i:R) (x:α),l[i]? =Y x->∃b,ao=Y (Q b 0 G)/\∀r,r<n->H w ⟨b,0+i*n+r,G⟩=(f x)[r]? :=by
 rcases h.2 with⟨rfl,h0⟩|⟨k,cap,cur,rfl,h1,h2,h3,h4,h5,h6⟩
 · exact PF
 refine⟨_,_,rfl,Q5,λi x hx=>⟨k,rfl,λr F=>?_⟩⟩;have hi:=(dm.1 hx).1;have e0:(i+1)*n<=D l*n:=Jl n hi;have e2:(i+1)*n=i*n+n:=Nat.succ_mul i n;have e1:(cur.toList.take (D l*n))[i*n+r]? =cur.toList[i*n+r]? :=by rw[Lh,mI Q5]
 rw[Aq,zo h2,<-Lk,<-e1,h6];exact Hc d l i r x hx F
theorem wG{α β:Type}{f:α->β}{l:I α}{i:R}{y:β}(h:(l.map f)[i]? =Y y):∃x,l[i]? =Y x/\f x=y:=by
 rw[Ha]at h;exact AF.1 h
section
variable {w:T} {B:R} {t:TypeId} {v:M}
theorem yD{es:I (M×I A)}(h:w.ownsRow B t 1 v (D es) (es.flatMap λe:M×I A=> [e.1]))(he:∀e∈es,aY w e.1 e.2):cS w v (es.map (·.2)):=by
 obtain⟨ao,cap,hv,hm,hc⟩:=ll (n:=1) (λ_=>rfl) Q9 h;refine⟨_,_,by rw[JY];exact hv,by rw[JY];exact hm,λi x hx=>?_⟩;obtain⟨e,d,rfl⟩:=wG hx;obtain⟨b,hb,F⟩:=hc i e d;exact⟨b,0,_,hb,by have:=F 0 Q9;simpa using this,he e (dL d)⟩
theorem Cg{es:I A}(h:w.ownsRow B t 1 v (D es) (es.flatMap λx:A=> [O Z x])):aY w v es:=by
 obtain⟨ao,cap,hv,hm,F⟩:=ll (n:=1) (λ_=>rfl) Q9 h;refine⟨_,_,hv,hm,λi hi=>?_⟩;obtain⟨b,hb,d⟩:=F i _ (dW hi);exact⟨b,0,hb,by have:=d 0 Q9;rw[mh,dW hi];simpa using this⟩
theorem zu{es:I ((M×M×M)×aQ)}(h:w.ownsRow B t 4 v (D es) (es.flatMap λe:(M×M×M)×aQ=> [e.1.1,O Z e.2.result,e.1.2.1,e.1.2.2]))(he:∀e∈es,aY w e.1.1 e.2.aH/\aY w e.1.2.1 e.2.aI/\eC w e.1.2.2 e.2.code):eE w v (es.map (·.2)):=by
 obtain⟨ao,cap,hv,hm,hc⟩:=ll (n:=4) (λ_=>rfl) Q9 h;refine⟨_,_,by rw[JY];exact hv,by rw[JY];exact hm,λi x hx=>?_⟩;obtain⟨e,F,rfl⟩:=wG hx;obtain⟨b,hb,d⟩:=hc i e F;exact⟨b,0,_,_,_,hb,d 0 Q9,d 1 Q9,d 2 Q9,d 3 Q9,he e (dL F)⟩
theorem wF{es:I ((M×M)×eL)}(h:w.ownsRow B t 3 v (D es) (es.flatMap λe:(M×M)×eL=> [e.1.1,e.1.2,O Z e.2.result]))(he:∀e∈es,iU e.1.1 e.2.name/\aY w e.1.2 e.2.aH):dS w v (es.map (·.2)):=by
 obtain⟨ao,cap,hv,hm,hc⟩:=ll (n:=3) (λ_=>rfl) Q9 h;refine⟨_,_,by rw[JY];exact hv,by rw[JY];exact hm,λi x hx=>?_⟩;obtain⟨e,F,rfl⟩:=wG hx;obtain⟨b,hb,d⟩:=hc i e F;exact⟨b,0,_,_,hb,d 0 Q9,d 1 Q9,d 2 Q9,he e (dL F)⟩
theorem wu{es:I (M×cJ)}(h:w.ownsRow B t 2 v (D es) (es.flatMap λe:M×cJ=> [e.1,O Z e.2.func]))(he:∀e∈es,iU e.1 e.2.name):ee w v (es.map (·.2)):=by
 obtain⟨ao,cap,hv,hm,hc⟩:=ll (n:=2) (λ_=>rfl) Q9 h;refine⟨_,_,by rw[JY];exact hv,by rw[JY];exact hm,λi x hx=>?_⟩;obtain⟨e,F,rfl⟩:=wG hx;obtain⟨b,hb,d⟩:=hc i e F;exact⟨b,0,_,hb,d 0 Q9,d 1 Q9,he e (dL F)⟩
end
structure qy(rb ub:R)(w:T)(x1 x2 x3 x4 x5:M)(u:aK):Prop where
 bx:da w ub x1 x2 x3 x4 x5
 sr:∀wq:T,(∀b (x:Obj),ub<b->¬b=rb->w.heap[b]? =Y x->wq.heap[b]? =Y x)->bV wq (.agg #[x1,x2,x3,x4,x5]) u
theorem qy.gc{w:T}(h:qy rb ub w x1 x2 x3 x4 x5 u)(IN:ub<rb)(g:Gc rb w w'):qy rb ub w' x1 x2 x3 x4 x5 u:=
 ⟨h.bx.gc g Q5,λwq hq=>h.sr wq λb x h1 F d=>hq b x h1 F ((g.block b (eJ.1 d).1 (by intro e;exact F (tz e))).trans d)⟩
theorem qy.gr{w:T}(h:qy rb ub w x1 x2 x3 x4 x5 u)(g:Gr w w'):qy rb ub w' x1 x2 x3 x4 x5 u:=
 ⟨h.bx.gr g,λF hq=>h.sr F λb x h1 h2 d=>hq b x h1 h2 ((g.block b (eJ.1 d).1 Q6).trans d)⟩
theorem qy.unit{w:T}(h:qy rb ub w x1 x2 x3 x4 x5 u):bV w (.agg #[x1,x2,x3,x4,x5]) u:=h.sr w λ_ _ _ _ h=>h
theorem qy.again{d:R}{w:T}(h:qy rb ub w x1 x2 x3 x4 x5 u)(hr:w.heap.size<=d):qy d ub w x1 x2 x3 x4 x5 u:=
 ⟨h.bx,λwq hq=>h.sr wq λb x h1 h2 F=>hq b x h1 (by have:=(eJ.1 F).1;omega) F⟩
structure It(rb ub:R)(s:ByteArray)(w w':T)(r:I AI)(bad:Bool):Prop where
 ls:lW w' rb s r bad
 low:∀b,b<w.heap.size->¬b=rb->¬b=ub->w'.heap[b]? =w.heap[b]?
 hs:w.heap.size<=w'.heap.size
 env:w'.os=w.os/\w'.tape=w.tape/\w'.output=w.output
theorem ml.fld{α:Type}{w:T}{t:TypeId}{f:α->I M}{E:T->α->Prop}{es:I α}{bad:Bool}(h:ml w w.heap.size rb ub s o n t f E es vl r bad w'):It rb ub s w w' r bad:=⟨h.ls,h.low,h.hs,h.env⟩
theorem ml.olds{α:Type}{w:T}{t:TypeId}{f:α->I M}{E:T->α->Prop}{es:I α}{bad:Bool}(h:ml w w.heap.size rb ub s o n t f E es vl r bad w'){x1 x2 x3 x4 x5:M}{u:aK}(hu:qy rb ub w x1 x2 x3 x4 x5 u){d:T}(hq:∀b (x:Obj),ub<b->¬b=rb->w'.heap[b]? =Y x->d.heap[b]? =Y x):
 bV d (.agg #[x1,x2,x3,x4,x5]) u/\d.ownsRow w.heap.size t n vl (D es) (es.flatMap f)/\∀e∈es,E d e:=by
 have IN:=h.lt;refine⟨hu.sr _ λb x h1 h2 F=>hq b x h1 h2 ((h.low b (eJ.1 F).1 h2 Q5).trans F),rO h.ow λk x hk hx=>hq k x SO SO hx,λe he=>h.el e he _ λb x h1 h2 F=>hq b x Q5 Q5 F⟩
theorem Rj{p:Prop}(h:p:=by obtain⟨q,h1,_⟩:=h;exact bM h1.1):p:=h
theorem G_(rb ub:R)(s:ByteArray)(r:I AI)(bad:Bool)(w:T)(h:lW w rb s r bad)(IN:ub<rb)(ht:lR w)(h0:¬ub=0)(x2 x3 x4 x5:M)(u:aK)(hu:qy rb ub w (J G 0 0) x2 x3 x4 x5 u):
 Calls prog 39 #[.pointer (Y (Q rb 0 G)),.pointer (Y (Q ub 0 G)),O Z 1] w λx w'=>x=.returned (.tuple #[])/\∃y,qy rb ub w' y x2 x3 x4 x5 (iN 1 u r bad).1/\It rb ub s w w' (iN 1 u r bad).2.1 (iN 1 u r bad).2.2:=by
 have hrb:rb<w.heap.size:=Rj
 refine(Dw _ _ s r _ w h Q5 Q5 ⟨hu.bx.1,hu.bx.2.2.2.2.2.1⟩).mono ?_;rintro x w' ⟨rfl,es,vl,d,he⟩;refine⟨rfl,_,⟨⟨d.here.1,(d.rest 1 Q9).1.trans hu.bx.2.1,(d.rest 2 Q9).1.trans hu.bx.2.2.1,(d.rest 3 Q9).1.trans hu.bx.2.2.2.1,(d.rest 4 Q9).1.trans hu.bx.2.2.2.2.1,d.here.2,(d.rest 1 Q9).2.trans hu.bx.2.2.2.2.2.2.1,(d.rest 2 Q9).2.trans hu.bx.2.2.2.2.2.2.2.1,(d.rest 3 Q9).2.trans hu.bx.2.2.2.2.2.2.2.2.1,(d.rest 4 Q9).2.trans hu.bx.2.2.2.2.2.2.2.2.2⟩,λwq hq=>?_⟩,d.fld⟩;obtain⟨hU,ho,hE⟩:=d.olds hu hq;obtain⟨z1,z2,z3,z4,z5,hv,k1,k2,k3,k4,F⟩:=hU;simp only[Ch,FL,Bk,I7]at hv;obtain⟨e1,e2,e3,e4,e5⟩:=hv;subst e1 e2 e3 e4 e5;exact⟨_,_,_,_,_,rfl,(by show cS wq vl (dF au r bad).1;rw[he];exact yD ho hE),k2,k3,k4,F⟩
theorem Gp(rb ub:R)(s:ByteArray)(r:I AI)(bad:Bool)(w:T)(h:lW w rb s r bad)(IN:ub<rb)(ht:lR w)(h0:¬ub=0)(x1 x3 x4 x5:M)(u:aK)(hu:qy rb ub w x1 (J G 0 0) x3 x4 x5 u):
 Calls prog 39 #[.pointer (Y (Q rb 0 G)),.pointer (Y (Q ub 0 G)),O Z 2] w λx w'=>x=.returned (.tuple #[])/\∃y,qy rb ub w' x1 y x3 x4 x5 (iN 2 u r bad).1/\It rb ub s w w' (iN 2 u r bad).2.1 (iN 2 u r bad).2.2:=by
 have hrb:rb<w.heap.size:=Rj
 refine(FE _ _ s r _ w h Q5 Q5 ⟨hu.bx.2.1,hu.bx.2.2.2.2.2.2.1⟩).mono ?_;rintro x w' ⟨rfl,es,vl,d,he⟩;refine⟨rfl,_,⟨⟨(d.rest 0 Q9).1.trans hu.bx.1,d.here.1,(d.rest 2 Q9).1.trans hu.bx.2.2.1,(d.rest 3 Q9).1.trans hu.bx.2.2.2.1,(d.rest 4 Q9).1.trans hu.bx.2.2.2.2.1,(d.rest 0 Q9).2.trans hu.bx.2.2.2.2.2.1,d.here.2,(d.rest 2 Q9).2.trans hu.bx.2.2.2.2.2.2.2.1,(d.rest 3 Q9).2.trans hu.bx.2.2.2.2.2.2.2.2.1,(d.rest 4 Q9).2.trans hu.bx.2.2.2.2.2.2.2.2.2⟩,λwq hq=>?_⟩,d.fld⟩;obtain⟨hU,ho,hE⟩:=d.olds hu hq;obtain⟨z1,z2,z3,z4,z5,hv,k1,k2,k3,k4,F⟩:=hU;simp only[Ch,FL,Bk,I7]at hv;obtain⟨e1,e2,e3,e4,e5⟩:=hv;subst e1 e2 e3 e4 e5;exact⟨_,_,_,_,_,rfl,k1,(by show aY wq vl (dF b_ r bad).1;rw[he];exact Cg ho),k3,k4,F⟩
theorem GW(rb ub:R)(s:ByteArray)(r:I AI)(bad:Bool)(w:T)(h:lW w rb s r bad)(IN:ub<rb)(ht:lR w)(h0:¬ub=0)(x1 x2 x4 x5:M)(u:aK)(hu:qy rb ub w x1 x2 (J G 0 0) x4 x5 u):
 Calls prog 39 #[.pointer (Y (Q rb 0 G)),.pointer (Y (Q ub 0 G)),O Z 3] w λx w'=>x=.returned (.tuple #[])/\∃y,qy rb ub w' x1 x2 y x4 x5 (iN 3 u r bad).1/\It rb ub s w w' (iN 3 u r bad).2.1 (iN 3 u r bad).2.2:=by
 have hrb:rb<w.heap.size:=Rj
 refine(E7 _ _ s r _ w h Q5 Q5 ht Q5 h0 ⟨hu.bx.2.2.1,hu.bx.2.2.2.2.2.2.2.1⟩).mono ?_;rintro x w' ⟨rfl,es,vl,d,he⟩;refine⟨rfl,_,⟨⟨(d.rest 0 Q9).1.trans hu.bx.1,(d.rest 1 Q9).1.trans hu.bx.2.1,d.here.1,(d.rest 3 Q9).1.trans hu.bx.2.2.2.1,(d.rest 4 Q9).1.trans hu.bx.2.2.2.2.1,(d.rest 0 Q9).2.trans hu.bx.2.2.2.2.2.1,(d.rest 1 Q9).2.trans hu.bx.2.2.2.2.2.2.1,d.here.2,(d.rest 3 Q9).2.trans hu.bx.2.2.2.2.2.2.2.2.1,(d.rest 4 Q9).2.trans hu.bx.2.2.2.2.2.2.2.2.2⟩,λwq hq=>?_⟩,d.fld⟩;obtain⟨hU,ho,hE⟩:=d.olds hu hq;obtain⟨z1,z2,z3,z4,z5,hv,k1,k2,k3,k4,F⟩:=hU;simp only[Ch,FL,Bk,I7]at hv;obtain⟨e1,e2,e3,e4,e5⟩:=hv;subst e1 e2 e3 e4 e5;exact⟨_,_,_,_,_,rfl,k1,k2,(by show eE wq vl (dF fL r bad).1;rw[he];exact zu ho hE),k4,F⟩
theorem F3(rb ub:R)(s:ByteArray)(r:I AI)(bad:Bool)(w:T)(h:lW w rb s r bad)(IN:ub<rb)(ht:lR w)(h0:¬ub=0)(x1 x2 x3 x5:M)(u:aK)(hu:qy rb ub w x1 x2 x3 (J G 0 0) x5 u):
 Calls prog 39 #[.pointer (Y (Q rb 0 G)),.pointer (Y (Q ub 0 G)),O Z 4] w λx w'=>x=.returned (.tuple #[])/\∃y,qy rb ub w' x1 x2 x3 y x5 (iN 4 u r bad).1/\It rb ub s w w' (iN 4 u r bad).2.1 (iN 4 u r bad).2.2:=by
 have hrb:rb<w.heap.size:=Rj
 refine(EC _ _ s r _ w h Q5 Q5 ⟨hu.bx.2.2.2.1,hu.bx.2.2.2.2.2.2.2.2.1⟩).mono ?_;rintro x w' ⟨rfl,es,vl,d,he⟩;refine⟨rfl,_,⟨⟨(d.rest 0 Q9).1.trans hu.bx.1,(d.rest 1 Q9).1.trans hu.bx.2.1,(d.rest 2 Q9).1.trans hu.bx.2.2.1,d.here.1,(d.rest 4 Q9).1.trans hu.bx.2.2.2.2.1,(d.rest 0 Q9).2.trans hu.bx.2.2.2.2.2.1,(d.rest 1 Q9).2.trans hu.bx.2.2.2.2.2.2.1,(d.rest 2 Q9).2.trans hu.bx.2.2.2.2.2.2.2.1,d.here.2,(d.rest 4 Q9).2.trans hu.bx.2.2.2.2.2.2.2.2.2⟩,λwq hq=>?_⟩,d.fld⟩;obtain⟨hU,ho,hE⟩:=d.olds hu hq;obtain⟨z1,z2,z3,z4,z5,hv,k1,k2,k3,k4,F⟩:=hU;simp only[Ch,FL,Bk,I7]at hv;obtain⟨e1,e2,e3,e4,e5⟩:=hv;subst e1 e2 e3 e4 e5;exact⟨_,_,_,_,_,rfl,k1,k2,k3,(by show dS wq vl (dF jQ r bad).1;rw[he];exact wF ho hE),F⟩
theorem GG(rb ub:R)(s:ByteArray)(r:I AI)(bad:Bool)(w:T)(h:lW w rb s r bad)(IN:ub<rb)(ht:lR w)(h0:¬ub=0)(x1 x2 x3 x4:M)(u:aK)(hu:qy rb ub w x1 x2 x3 x4 (J G 0 0) u):
 Calls prog 39 #[.pointer (Y (Q rb 0 G)),.pointer (Y (Q ub 0 G)),O Z 5] w λx w'=>x=.returned (.tuple #[])/\∃y,qy rb ub w' x1 x2 x3 x4 y (iN 5 u r bad).1/\It rb ub s w w' (iN 5 u r bad).2.1 (iN 5 u r bad).2.2:=by
 have hrb:rb<w.heap.size:=Rj
 refine(Eu _ _ s r _ w h Q5 Q5 ⟨hu.bx.2.2.2.2.1,hu.bx.2.2.2.2.2.2.2.2.2⟩).mono ?_;rintro x w' ⟨rfl,es,vl,d,he⟩;refine⟨rfl,_,⟨⟨(d.rest 0 Q9).1.trans hu.bx.1,(d.rest 1 Q9).1.trans hu.bx.2.1,(d.rest 2 Q9).1.trans hu.bx.2.2.1,(d.rest 3 Q9).1.trans hu.bx.2.2.2.1,d.here.1,(d.rest 0 Q9).2.trans hu.bx.2.2.2.2.2.1,(d.rest 1 Q9).2.trans hu.bx.2.2.2.2.2.2.1,(d.rest 2 Q9).2.trans hu.bx.2.2.2.2.2.2.2.1,(d.rest 3 Q9).2.trans hu.bx.2.2.2.2.2.2.2.2.1,d.here.2⟩,λwq hq=>?_⟩,d.fld⟩;obtain⟨F,ho,hE⟩:=d.olds hu hq;obtain⟨z1,z2,z3,z4,z5,hv,k1,k2,k3,k4,k5⟩:=F;simp only[Ch,FL,Bk,I7]at hv;obtain⟨e1,e2,e3,e4,e5⟩:=hv;subst e1 e2 e3 e4 e5;exact⟨_,_,_,_,_,rfl,k1,k2,k3,k4,(by show ee wq vl (dF jN r bad).1;rw[he];exact wu ho hE)⟩
def Ip(k:R)(x1 x2 x3 x4 x5:M):Prop:=(k<=1->x1=J G 0 0)/\(k<=2->x2=J G 0 0)/\(k<=3->x3=J G 0 0)/\(k<=4->x4=J G 0 0)/\(k<=5->x5=J G 0 0)
theorem F6(k:R)(h1:1<=k)(h5:k<=5)(rb ub:R)(s:ByteArray)(r:I AI)(bad:Bool)(w:T)(h:lW w rb s r bad)(IN:ub<rb)(ht:lR w)(h0:¬ub=0)(x1 x2 x3 x4 x5:M)(u:aK)(hu:qy rb ub w x1 x2 x3 x4 x5 u)(hn:Ip k x1 x2 x3 x4 x5):
 Calls prog 39 #[.pointer (Y (Q rb 0 G)),.pointer (Y (Q ub 0 G)),O Z (k:A)] w λx w'=>x=.returned (.tuple #[])/\∃y1 y2 y3 y4 y5,qy rb ub w' y1 y2 y3 y4 y5 (iN k u r bad).1/\Ip (k+1) y1 y2 y3 y4 y5/\It rb ub s w w' (iN k u r bad).2.1 (iN k u r bad).2.2:=by
 obtain⟨n1,F,n3,n4,n5⟩:=hn;have hc:k=1\/k=2\/k=3\/k=4\/k=5:=Q5;rcases hc with rfl|rfl|rfl|rfl|rfl
 · obtain rfl:=n1 Q9;refine Nb (G_ _ _ s r _ w h IN ht h0 _ _ _ _ u hu) ?_;rintro x w' ⟨rfl,y,hy,d⟩;exact⟨rfl,y,_,_,_,_,hy,⟨λh=>absurd h Q5,λh=>F Q5,λh=>n3 Q5,λh=>n4 Q5,λh=>n5 Q5⟩,d⟩
 · obtain rfl:=F Q9;refine Nb (Gp _ _ s r _ w h IN ht h0 _ _ _ _ u hu) ?_;rintro x w' ⟨rfl,y,hy,d⟩;exact⟨rfl,_,y,_,_,_,hy,⟨λh=>n1 Q5,λh=>absurd h Q5,λh=>n3 Q5,λh=>n4 Q5,λh=>n5 Q5⟩,d⟩
 · obtain rfl:=n3 Q9;refine Nb (GW _ _ s r _ w h IN ht h0 _ _ _ _ u hu) ?_;rintro x w' ⟨rfl,y,hy,d⟩;exact⟨rfl,_,_,y,_,_,hy,⟨λh=>n1 Q5,λh=>F Q5,λh=>absurd h Q5,λh=>n4 Q5,λh=>n5 Q5⟩,d⟩
 · obtain rfl:=n4 Q9;refine Nb (F3 _ _ s r _ w h IN ht h0 _ _ _ _ u hu) ?_;rintro x w' ⟨rfl,y,hy,d⟩;exact⟨rfl,_,_,_,y,_,hy,⟨λh=>n1 Q5,λh=>F Q5,λh=>n3 Q5,λh=>absurd h Q5,λh=>n5 Q5⟩,d⟩
 obtain rfl:=n5 Q9;refine Nb (GG _ _ s r _ w h IN ht h0 _ _ _ _ u hu) ?_;rintro x w' ⟨rfl,y,hy,d⟩;exact⟨rfl,_,_,_,_,y,hy,⟨λh=>n1 Q5,λh=>F Q5,λh=>n3 Q5,λh=>n4 Q5,λh=>absurd h Q5⟩,d⟩
end Go.Proofs.YtghjmnlapcpbiaaGreatDoor
