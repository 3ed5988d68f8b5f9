import Derived.Test.YtghjmnlapcpbiaaGreatDoorMv
namespace Go.Proofs.YtghjmnlapcpbiaaGreatDoor
open _root_ renaming Option.some->Y,Option.none->G,Go.Value.int->O,Go.IntKind.i64->Z,Go.Value.slice->J,List->I,Nat->R,Int->A,Go.World.cell?->H,List.length->D,Go.Obj.cells->X,Go.Value->M,Go.World->T,Go.Addr.mk->Q,Go.RowKit.Hid->U,UInt8->AI,Bool.false->AS,Bool.true->AT,Option->By
open Go.Proofs.Tryz
open Go.RowKit
set_option linter.defProp false
variable{l:I A}{B B' b k:R}{e t:TypeId}{y0 y1 y2 y3 y4 y5 y6:M}{w:T}{u:aK}
def My:=@List.take_append_of_le_length.{0}
set_option maxRecDepth 100000
set_option maxHeartbeats 4000000
set_option linter.unusedVariables false
set_option linter.unusedSimpArgs false
open Go.RowKit
attribute [local go_sem ↓] Go.wp_at_zero Go.wp_at_succ
def kH(u:aK)(e:cJ):Bool:=decide (e.name=[109,97,105,110])&&(match u.aG[e.func.toNat]? with
 | some f=>decide (f.aH=[])&&decide (f.result=0)
 | none=>AS)
def ff(u:aK):I cJ->By R
 | []=>G
 | e::l=>if kH u e=AT then Y e.func.toNat else ff u l
def l8(u:aK):By R:=ff u u.aD
def Dn:By R->M
 | none=>.tuple #[O Z 0,.bool AS]
 | some q=>.tuple #[O Z (q:A),.bool AT]
theorem pq{q:R}:∀{l:I cJ},ff u l=Y q->∃f,u.aG[q]? =Y f/\f.aH=[]/\f.result=0
 | [],h=>by cases h
 | e::l,h=>by
  rw[ff]at h;split at h
  · rename_i hm
    cases h
    unfold kH at hm;cases d:u.aG[e.func.toNat]? with
    | none=>rw[d]at hm;simp at hm
    | some f=>
     rw[d]at hm;simp only[sQ,xw]at hm;exact⟨f,rfl,hm.2.1,hm.2.2⟩
  exact pq h
theorem mc{s:ByteArray}{l:I AI}(h:s.data.toList=l):s=⟨#[109,97,105,110]⟩↔l=[109,97,105,110]:=by
 constructor
 · rintro rfl;exact h.symm
 rintro rfl;obtain⟨d⟩:=s;congr 1
 exact Array.toList_inj.1 h
theorem ON{p:Prop}(h:p:=by go_wp2_with fail;exact⟨⟨_,Q6,IN,UN,HG.trans Uw⟩,by simp[intOf];omega⟩):p:=h
theorem zT(u:aK)(hu:rD u)(V:T)(v:M)(hR:bV V v u):
 Calls prog 34 #[v] V λx w'=>x=.returned (Dn (l8 u))/\Gr V w':=by
 obtain⟨a1,a2,a3,a4,a5,c1,c2,c3,c4,c5,rfl,r1,r2,r3,r4,r5⟩:=hR.parts;have g0:=(Gr.refl V).alloc (X (yE u a1 c1 a2 c2 a3 c3 a4 c4 a5 c5) 58);have TI:=jZ V (X (yE u a1 c1 a2 c2 a3 c3 a4 c4 a5 c5) 58);have d:=aJ g0;have HU:=aJ hu;have av:=aJ r3;have aA:=aJ r5;have af:U (∀w',Gr _ w'->H w' ⟨_,2,_⟩=Y (J _ _ _)):=aJ (λw' g=>g.cell (by rw[aP TI];rfl) Q6);have a6:=hu.exps.1;go_enter func34,ntmps34
 go_wp2_with fail;generalize V.alloc _=W0 at d af |-;generalize T1:V.heap.size=ub at af |-;go_loopw[10] (λi wr=>∃k:R,i=O Z (k:A)/\k<=D u.aD/\ff u (u.aD.drop k)=l8 u/\Gr W0 wr) λi _=>D u.aD-(intOf i).toNat
 case atStart=>exact⟨0,rfl,Lz,rfl,G0⟩
 obtain⟨k,rfl,hk,hm,hg⟩:=hrel;have HG:=aJ hg;have HM:=aJ hm;by_cases IN:k<D u.aD
 · have UB:(k:A)<D u.aD:=by omega
   have hw:Z.wrap _=k+1:=Q_;obtain⟨e,he⟩:∃e,u.aD[k]? =Y e:=⟨_,dW IN⟩;have ax:u.aD.drop k=e::u.aD.drop (k+1):=by
    rw[Be IN];rw[dW IN]at he;cases he;rfl
   obtain⟨ao,cap,e1,_,hx⟩:=aA.j;cases e1
   obtain⟨b,off,vs,rfl,q0,q1,s,rfl,Tn,_⟩:=hx k e he;have a0:=HU.exps.2 e (dL he);obtain⟨f,hf⟩:∃f,u.aG[e.func.toNat]? =Y f:=⟨_,dW Q5⟩;obtain⟨a8,aF,e3,_,aB⟩:=av.j;cases e3
   obtain⟨b3,aL,vp,vl,vc,rfl,p0,p1,p2,p3,rp,rl,rc⟩:=aB _ f hf;obtain⟨pa,pc,rfl,_⟩:=rp;obtain⟨la,lc,rfl,_⟩:=rl;obtain⟨ca,cc,rfl,_⟩:=rc;have q0:=(d.trans HG).cell q0 Q6;have q1:=(d.trans HG).cell q1 Q6;have p0:=(d.trans HG).cell p0 Q6;have p1:=(d.trans HG).cell p1 Q6;have p2:=(d.trans HG).cell p2 Q6;have p3:=(d.trans HG).cell p3 Q6;have ae:=af _ HG;have az:=mc Tn;have ai:(e.func.toNat:A)<D u.aG:=Q5;have ak:e.func.toNat<D u.aG:=Q5;have HQ:U (e.func=e.func.toNat):=aJ Q5;rw[HQ]at q1;have HS:U (kH u e=(decide (s=⟨#[109,97,105,110]⟩)&&(decide (D f.aH=0)&&decide (f.result=0)))):=aJ (by
    unfold kH;rw[hf];have h1:decide (e.name=[109,97,105,110])=decide (s=⟨#[109,97,105,110]⟩):=by simp only[az]
    have h2:decide (f.aH=[])=decide (D f.aH=0):=Q6;rw[h1];simp only[h2])
   have HD:=aJ ax;have Uj:U (l8 u=if kH u e=AT then Y _ else ff u (u.aD.drop (k+1))):=aJ (by rw[<-HM,HD,ff]);generalize a7:e.func.toNat=q at q1 p0 p1 p2 p3 ai ak Uj;generalize (D u.aG)=nf at ae ai ak;have gA:=(Gr.refl wr).alloc (X #[.string s,O Z q] 71);have aC:=jZ wr (X #[.string s,O Z q] 71);have Tt:=aJ gA;have F:=aJ aC;have HP:=aJ (And.intro (gA.cell p0 Q6) (And.intro (gA.cell p1 Q6) (And.intro (gA.cell p2 Q6) (And.intro (gA.cell p3 Q6) (gA.cell ae Q6)))));go_upto_region 4 with fail
   generalize wr.alloc _=W4 at Tt F HP |-;have y1:H W4 (Q wr.heap.size 1 G)=Y (O Z q):=by rw[aP F];rfl
   obtain⟨p0,p1,p2,p3,ae⟩:=HP.j;have gB:=(Gr.refl W4).alloc (X #[J pa (D f.aH) pc,O Z f.result,J la (D f.aI) lc,J ca (D f.code) cc] 74);have al:=jZ W4 (X #[J pa (D f.aH) pc,O Z f.result,J la (D f.aI) lc,J ca (D f.code) cc] 74);have ay:=(eJ.1 F).1;have HX:=aJ ((gB.block _ ay Q6).trans F);have Uw:=aJ (Tt.trans gB);have ad:=aJ al;go_upto_region 5 with fail
   generalize W4.alloc _=W5 at HX Uw ad |-;have x0:H W5 (Q wr.heap.size 0 G)=Y (.string s):=by rw[aP HX];rfl
   have x1:H W5 (Q wr.heap.size 1 G)=Y (O Z q):=by rw[aP HX];rfl
   have z0:H W5 (Q W4.heap.size 0 G)=Y (J pa (D f.aH) pc):=by rw[aP ad];rfl
   have z1:H W5 (Q W4.heap.size 1 G)=Y (O Z f.result):=by rw[aP ad];rfl
   by_cases h1:s=⟨#[109,97,105,110]⟩
   · subst h1;by_cases h2:D f.aH=0
     · by_cases h3:f.result=0
       · have UN:U (l8 u=Y q):=aJ (by rw[Uj,mI (by rw[HS];simp[h2,h3])]);rw[h2]at z0;rw[h3]at z1;go_wp2_with fail;exact qn (v:=.tuple #[O Z q,.bool AT]) (by simp[results,results34,go_sem]) rfl ⟨by rw[UN];rfl,d.trans (HG.trans Uw)⟩
       have UN:U (ff u _=l8 u):=aJ (by rw[Uj,eP (by rw[HS];simp[h3])]);rw[h2]at z0;exact ON
     have UN:U (ff u _=l8 u):=aJ (by rw[Uj,eP (by rw[HS];simp[h2])]);exact ON
   have UN:U (ff u _=l8 u):=aJ (by rw[Uj,eP (by rw[HS];simp[h1])]);have aM:¬s.toList=[109,97,105,110]:=by rw[Md];exact λh=>h1 ((mc rfl).2 h)
   exact ON
 have aE:k=D u.aD:=by omega
 subst aE;have UN:U (l8 u=G):=aJ (by rw[<-HM];simp[ff]);go_wp2_with fail;exact qn (v:=.tuple #[O Z 0,.bool AS]) (by simp[results,results34,go_sem]) rfl ⟨by rw[UN];rfl,d.trans HG⟩
def yR(u:aK)(w:T)(x:Ending)(w':T):Prop:=Below w.heap.size w w'/\((x=.returned (.tuple #[])/\ar u=(0,0,0))\/(x=.panicked (Bv (ar u).1 ((ar u).2.1:A) ((ar u).2.2:A))))
def Ks(u:aK)(w:T)(x:Ending)(w':T):Prop:=x=.returned (.tuple #[O Z (ar u).1,O Z ((ar u).2.1:A),O Z ((ar u).2.2:A)])/\Below w.heap.size w w'
def pZ(u:aK):Prop:=∀(V:T) (vu:M),bV V vu u->Calls prog 33 #[vu] V (yR u V)
theorem EI(u:aK)(HT:pZ u)(ub:R)(x0 x1 x2 x3 x4:M)(W:T)(hb:da W ub x0 x1 x2 x3 x4)(hR:bV W (.agg #[x0,x1,x2,x3,x4]) u):
 Calls prog 32 #[.pointer (Y (Q ub 0 G))] W (yR u W):=by
 obtain⟨v1,v2,v3,v4,v5,he,k1,k2,k3,k4,k5⟩:=hR;have HR:U (bV W _ u):=aJ ⟨_,_,_,_,_,he,k1,k2,k3,k4,k5⟩;simp only[Ch,FL,Bk,I7]at he;obtain⟨rfl,rfl,rfl,rfl,rfl⟩:=he;obtain⟨a1,c1,rfl⟩:=k1.shape;obtain⟨a2,c2,rfl⟩:=k2.shape;obtain⟨a3,c3,rfl⟩:=k3.shape;obtain⟨a4,c4,rfl⟩:=k4.shape;obtain⟨a5,c5,rfl⟩:=k5.shape;obtain⟨l0,l1,l2,l3,l4,n0,n1,n2,n3,n4⟩:=hb;have F:=aJ HT;go_enter func32,ntmps32
 go_wp2_with fail;refine(F W _ HR).mono ?_;rintro x w1 ⟨d,⟨rfl,hv⟩|rfl⟩
 · have ad:=aJ d;have HV:=aJ hv;go_wp2_with fail;go_end0
   exact⟨ad,.inl ⟨rfl,HV⟩⟩
 exact⟨rfl,d,.inr rfl⟩
theorem En(W:T)(v1 v2 v3 v4 v5:M):da ((W.alloc (X #[v1,v2,v3,v4,v5] 58)).alloc (X #[O Z 0,O Z 0,O Z 0] 91)) W.heap.size v1 v2 v3 v4 v5:=(da.new W 58 v1 v2 v3 v4 v5).gr G5
theorem Ct(u:aK)(HT:pZ u)(vu:M)(W:T)(hR:bV W vu u):
 Calls prog 17 #[vu] W (Ks u W):=by
 have VP:=aJ hR;obtain⟨v1,v2,v3,v4,v5,rfl,h1,h2,h3,h4,h5⟩:=hR;obtain⟨a1,c1,rfl⟩:=h1.shape;obtain⟨a2,c2,rfl⟩:=h2.shape;obtain⟨a3,c3,rfl⟩:=h3.shape;obtain⟨a4,c4,rfl⟩:=h4.shape;obtain⟨a5,c5,rfl⟩:=h5.shape;have al:=aJ HT;clear h1 h2 h3 h4 h5;have af:=aJ (En W (J a1 (D u.aA) c1) (J a2 (D u.aE) c2) (J a3 (D u.aG) c3) (J a4 (D u.aC) c4) (J a5 (D u.aD) c5));have ai:=Gr.alloc (Gr.refl W) (X (yE u a1 c1 a2 c2 a3 c3 a4 c4 a5 c5) 58);have Tt:=aJ ai;have ad:(W.alloc (X (yE u a1 c1 a2 c2 a3 c3 a4 c4 a5 c5) 58)).heap.size=W.heap.size+1:=Q6;have UX:=aJ ad;clear ai ad;go_enter func17,ntmps17
 go_wp2_with fail;generalize W.alloc _=V at af Tt UX |-;have TZ:=eQ.new V 91 (O Z 0) (O Z 0) (O Z 0);have F:=Tt.alloc (X #[O Z 0,O Z 0,O Z 0] 91);refine(nJ _ _ V
  (λw1=>ar u=(0,0,0)/\Below W.heap.size W w1)
  (λe n a w1=>e=(ar u).1/\n=((ar u).2.1:A)/\a=((ar u).2.2:A)/\Below W.heap.size W w1) (λw=>rfl)
  ((EI u al _ _ _ _ _ _ _ af (VP.gr F)).mono ?_)).mono ?_
 · rintro x w' ⟨d,⟨rfl,hv⟩|rfl⟩
   · exact⟨TZ.below d,.inl ⟨rfl,hv,y_ F d⟩⟩
   exact⟨TZ.below d,.inr ⟨_,_,_,rfl,rfl,rfl,rfl,y_ F d⟩⟩
 rintro x w2 ⟨w1,ae,_,hx⟩;have hy:∃e n a:A,x=.returned (.agg #[O Z e,O Z n,O Z a])/\e=(ar u).1/\n=((ar u).2.1:A)/\a=((ar u).2.2:A)/\Below W.heap.size W w1:=by
  rcases hx with⟨rfl,hv,hb⟩|⟨e,n,a,rfl,e1,e2,e3,hb⟩
  · exact⟨0,0,0,rfl,by rw[hv],Rr,Rr,hb⟩
  exact⟨e,n,a,rfl,e1,e2,e3,hb⟩
 obtain⟨e,n,a,rfl,e1,e2,e3,d⟩:=hy;have HE:=aJ (And.intro e1 (And.intro e2 e3));have HB:=aJ (d.grown ae d.size (by intro k hk;simp only[qN]at hk;have:=UX.j;omega));clear hx e1 e2 e3 d ae TZ F;have ak:=eQ.new w2 91 (O Z e) (O Z n) (O Z a);have IT:=Gr.alloc (Gr.refl w2) (X #[O Z e,O Z n,O Z a] 91);have TT:=aJ (HB.grown IT HB.size Q6);obtain⟨p0,p1,p2,_⟩:=ak;clear IT;go_wp2;generalize w2.alloc _=W3 at p0 p1 p2 TT |-;go_quiet (fail)
 go_wp2_with fail;go_ret3
 obtain⟨e1,e2,e3⟩:=HE.j;subst e1 e2 e3;exact⟨rfl,by first|exact TT.j|exact⟨TT.j.os,TT.j.tape,TT.j.output,TT.j.size,TT.j.block⟩⟩
def jO(w:T)(b:R)(y0 y1 y2 y3 y4 y5 y6:M):T:=((((((w.setCell (Q b 0 G) y0).setCell (Q b 1 G) y1).setCell (Q b 2 G) y2).setCell (Q b 3 G) y3).setCell (Q b 4 G) y4).setCell (Q b 5 G) y5).setCell (Q b 6 G) y6
theorem jG(w:T)(b:R)(y0 y1 y2 y3 y4 y5 y6:M):((((((w.setCell (Q b 0 G) y0).setCell (Q b 1 G) y1).setCell (Q b 2 G) y2).setCell (Q b 3 G) y3).setCell (Q b 4 G) y4).setCell (Q b 5 G) y5).setCell (Q b 6 G) y6=jO w b y0 y1 y2 y3 y4 y5 y6:=rfl
theorem iF(h:¬k=b):(jO w b y0 y1 y2 y3 y4 y5 y6).heap[k]? =w.heap[k]? :=by
 unfold jO;rw[dp _ _ _ _ h,dp _ _ _ _ h,dp _ _ _ _ h,dp _ _ _ _ h,dp _ _ _ _ h,dp _ _ _ _ h,dp _ _ _ _ h]
theorem pB(w:T)(b:R)(y0 y1 y2 y3 y4 y5 y6:M):(jO w b y0 y1 y2 y3 y4 y5 y6).os=w.os/\(jO w b y0 y1 y2 y3 y4 y5 y6).tape=w.tape/\(jO w b y0 y1 y2 y3 y4 y5 y6).output=w.output:=by
 have F:∀(w:T) (a:Addr) (v:M),(w.setCell a v).os=w.os:=λ_ _ _=>rfl
 have d:∀(w:T) (a:Addr) (v:M),(w.setCell a v).tape=w.tape:=λ_ _ _=>rfl
 have h3:∀(w:T) (a:Addr) (v:M),(w.setCell a v).output=w.output:=λ_ _ _=>rfl
 unfold jO;simp only[F,d,h3,and_self]
theorem jr:(jO w b y0 y1 y2 y3 y4 y5 y6).heap.size=w.heap.size:=by unfold jO;simp
theorem jV{z0 z1 z2 z3 F d z6:M}(h:w.heap[b]? =Y (X #[z0,z1,z2,z3,F,d,z6] t (0,0))):(jO w b y0 y1 y2 y3 y4 y5 y6).heap[b]? =Y (X #[y0,y1,y2,y3,y4,y5,y6] t (0,0)):=by
 unfold jO;have h0:=wS w b 0 _ t y0 h;have h1:=wS _ b 1 _ t y1 h0;have h2:=wS _ b 2 _ t y2 h1;have h3:=wS _ b 3 _ t y3 h2;have h4:=wS _ b 4 _ t y4 h3;have h5:=wS _ b 5 _ t y5 h4;have h6:=wS _ b 6 _ t y6 h5;exact h6.trans Q6
theorem fq(h:w.heap[b]? =Y (X yI t (0,0))):(H w (Q b 0 G)=Y (O Z 0)/\H w (Q b 1 G)=Y (O Z 0)/\H w (Q b 2 G)=Y (O Z 0)/\H w (Q b 3 G)=Y (O Z 0)/\H w (Q b 4 G)=Y (O Z 0)/\H w (Q b 5 G)=Y (J G 0 0)/\H w (Q b 6 G)=Y (O Z 0))/\w.frozen? ⟨b,0,G⟩=AS/\w.frozen? ⟨b,1,G⟩=AS/\w.frozen? ⟨b,2,G⟩=AS/\w.frozen? ⟨b,3,G⟩=AS/\w.frozen? ⟨b,4,G⟩=AS/\w.frozen? ⟨b,5,G⟩=AS/\w.frozen? ⟨b,6,G⟩=AS:=by
 refine⟨⟨?_,?_,?_,?_,?_,?_,?_⟩,aq h,aq h,aq h,aq h,aq h,aq h,aq h⟩<;>(rw[aP h];rfl)
structure LU where
 v1:M
 v2:M
 v3:M
 v4:M
 v5:M
 u:aK
def cU(e:LU):I M:=[e.v1,e.v2,e.v3,e.v4,e.v5]
theorem IW(e:LU):D (cU e)=5:=rfl
def LU.v(e:LU):M:=.agg #[e.v1,e.v2,e.v3,e.v4,e.v5]
theorem Tryz.infUu:(Tryz.prog.info? 58).map (λi=>(i.zero,i.size,i.bytes))=Y (Y (.agg yF),5,120):=Q7
theorem Tryz.uUu:Tryz.prog.underlying 53=Y (.slice 58):=Q7
theorem vC{v:M}{es:I LU}(h:w.ownsRow B e 5 v (D es) (es.flatMap cU))(hu:∀x∈es,bV w x.v x.u):dH w v (es.map (·.u)):=by
 obtain⟨ao,cap,rfl⟩:=aR h;refine⟨ao,cap,Q6,by simpa using mR h,λi x hi=>?_⟩;simp only[Ha,AF]at hi;obtain⟨e,he,rfl⟩:=hi;have hl:=(dm.1 he).1;obtain⟨b,cp,e1,e2⟩:=gh h (j:=i*5) Q5;simp only[jj,Bt]at e1;obtain⟨rfl,rfl⟩:=e1;have d:∀r,r<5->H w ⟨b,0+i*5+r,_⟩=(cU e)[r]? :=λr hr=>by
  obtain⟨b',ae,F,ad⟩:=gh h (j:=i*5+r) Q5;simp only[jj,qN,Ij,I7,Bt]at F;obtain⟨rfl,-⟩:=F;rw[Aq,ad];exact jK IW _ i r e he hr
 exact⟨b,0,_,_,_,_,_,rfl,d 0 Q5,d 1 Q5,d 2 Q5,d 3 Q5,d 4 Q5,hu e (dL he)⟩
theorem yn{t:I AI}{e:A}{p:R}(h:lk t=.inr (e,p)):¬e=0:=by
 rintro rfl;unfold lk at h
 (repeat' split at h)<;>simp at h
theorem zC{us:I aK}{e:A}(h:dK us=.inr (e,k)):¬e=0:=by
 rintro rfl;cases us with
 | nil=>simp[dK]at h
 | cons a t=>
  rw[dK]at h
  (repeat' split at h)<;>first|(simp at h;done)|(dsimp only at h;split at h<;>simp at h)
def gv(B:R)(w:T)(v:M)(l:I A):Prop:=w.ownsRow B 3 1 v (D l) (fK l)
theorem gv.f{v:M}(h:gv B w v l):gO B w v l:=by
 obtain⟨ao,cap,e⟩:=aR h;refine⟨_,_,e,mR h,λi y hi=>?_⟩;have hl:=(dm.1 hi).1;obtain⟨b,F,e1,d⟩:=gh h (j:=i) Q5;rw[e]at e1;simp only[jj]at e1;exact⟨b,0,e1.1,(h.lt b (by rw[e,e1.1];rfl)).1,by rw[Aq,d,fK,Ha,hi];rfl⟩
theorem gv.shape{v:M}(h:gv B w v l):∃ao cap,v=J ao (D l) cap:=h.f.shape
theorem gv.kp{w':T}{v:M}(h:gv B w v l)(g:Kp B w w'):gv B w' v l:=c_ h λk d=>g k (h.lt k d).1 (h.lt k d).2
theorem A2{n len:R}{v:M}{xs:I M}(h:w.ownsRow B e n v len xs)(F:∀g,v.ownBlock=Y g->B'<=g):w.ownsRow B' e n v len xs:=
 ⟨h.1,h.2.imp id λ⟨g,cap,cur,d,_,h3⟩=>⟨g,cap,cur,d,F g (by rw[d];rfl),h3⟩⟩
theorem gv.mono{v:M}(h:gv B' w v l)(d:B<=B'):gv B w v l:=A2 h λg F=>wz d (h.lt g F).1
def Fa(B:R)(w:T)(v:M)(o:kB):Prop:=∃vt,v=.agg #[O Z o.why,O Z o.unit,O Z o.at_,O Z o.e,O Z o.result,vt,O Z o.steps]/\gv B w vt o.told
def Ew(S8:aK->kB)(fuel heap:A)(us:I aK):Prop:=∀(u:aK) (V:T) (v:M),dK us=.inl u->ar u=(0,0,0)->bV V v u->Calls prog 18 #[v,O Z fuel,O Z heap] V λx w'=>∃vo,x=.returned vo/\Fa V.heap.size w' vo (S8 u)/\Gr V w'
def Jt(W:T)(o:kB)(x:Ending)(w':T):Prop:=∃vo,x=.returned vo/\Fa W.heap.size w' vo o/\Gr W w'
theorem gj(w:T):gv B w (J G 0 0) []:=B5 _ _ _ _
theorem mx(h:(ar u).1=0):ar u=(0,0,0):=by
 have F:∀(l:I _) (k:R),(iC u k l).1=0->iC u k l=(0,0,0):=by
  intro l
  induction l with
  | nil=>intro k _;rfl
  | cons f l d=>
   intro k h;rw[iC]at h |-;cases hw:fj u f with
   | none=>rw[hw]at h;exact d _ h
   | some q=>rw[hw]at h;simp at h
 unfold ar at h |-;by_cases hu:bG u=AT
 · rw[mI hu]at h |-;exact F _ _ h
 rw[eP hu]at h;simp at h
theorem NC{p:Prop}(h:p:=by
 go_enter func7,ntmps7
 go_wp2_with fail;refine qn (v:=.agg #[O Z 1,O Z 0,O Z 0,O Z 0,O Z 0,J G 0 0,O Z 0]) (by simp[results,results7,go_sem]) rfl ?_;rw[HP];exact⟨_,rfl,⟨_,rfl,gj _⟩,(Gr.refl W).alloc _⟩):p:=h
theorem NY{p:Prop}(h:p:=by exact⟨_,rfl,⟨_,rfl,gj _⟩,⟨UG.1.trans UT.os,UG.2.1.trans UT.tape,UG.2.2.trans UT.output,by rw[UR];exact UT.size,λi hi No=>(UQ i Q5).trans (UT.block i hi No)⟩⟩):p:=h
theorem PQ{p:Prop}(h:p:=by exact((VP e he).gr (vg (IT.trans gA) λb hb=>(TY.lt b hb).2)).kc Xp):p:=h
theorem Rg{p:Prop}(h:p:=by simp[results,results7,go_sem,t0,t1,t2,t3,t4,t5,t6]):p:=h
theorem Sm{p:Prop}(h:p:=by have:=Xa.j;omega):p:=h
theorem Sz{p:Prop}(h:p:=by intro q hq;simp at hq;rcases hq with rfl|rfl|rfl|rfl|rfl<;>rfl):p:=h
theorem EX(d:aK->kB)(fuel heap:A)(ss:I (I AI))(vl:M)(W:T)(HT:∀u,pZ u)(hR:g8 W vl ss)(hM:¬(fuel<0\/200000<fuel\/heap<0\/5000<heap)->∀us,eN 0 ss=.inl us->Ew d fuel heap us)(cv:D ss<=3000000):
 Calls prog 7 #[vl,O Z fuel,O Z heap] W (Jt W (lY d ss fuel heap)):=by
 obtain⟨ao,cap,rfl,hm,hc⟩:=hR;have HC:=aJ hc;have b3:=aJ HT;have b9:=aJ hM;have TI:=jZ W (X yI 47);have gV:Gr W (W.alloc (X yI 47)):=(Gr.refl W).alloc _;have sV:(W.alloc (X yI 47)).heap.size=W.heap.size+1:=Q6;have ak:=aJ TI;have Uf:=aJ gV;have Xa:=aJ sV;by_cases F:fuel<0\/200000<fuel\/heap<0\/5000<heap
 · have HP:U (lY d ss _ _=⟨1,0,0,0,0,_,0⟩):=aJ (by unfold lY;rw[mI F]);obtain⟨⟨o0,o1,o2,o3,o4,o5,o6⟩,f0,f1,f2,f3,f4,f5,f6⟩:=fq ak;by_cases h1:fuel<0
   · have d1:decide (fuel<0)=AT:=by simpa using h1
     exact NC
   have d1:decide (fuel<0)=AS:=RE
   by_cases h2:200000<fuel
   · have d2:decide (200000<fuel)=AT:=by simpa using h2
     exact NC
   have d2:decide (200000<fuel)=AS:=RG
   by_cases h3:heap<0
   · have d3:decide (heap<0)=AT:=by simpa using h3
     exact NC
   have d3:decide (heap<0)=AS:=by simpa using h3
   have h4:5000<heap:=by rcases F with h|h|h|h<;>first|exact absurd h h1|exact absurd h h2|exact absurd h h3|exact h
   have d4:decide (5000<heap)=AT:=by simpa using h4
   exact NC
 have h1:¬fuel<0:=λh=>F (.inl h)
 have h2:¬200000<fuel:=λh=>F (.inr (.inl h))
 have h3:¬heap<0:=λh=>F (.inr (.inr (.inl h)))
 have h4:¬5000<heap:=λh=>F (.inr (.inr (.inr h)))
 have d1:decide (fuel<0)=AS:=RE
 have d2:decide (200000<fuel)=AS:=RG
 have d3:decide (heap<0)=AS:=by simpa using h3
 have d4:decide (5000<heap)=AS:=by simpa using h4
 have b7:=aJ F;have HP:U (lY d ss _ _=match eN 0 _ with
  | .inr (e,k,p)=>⟨2,k,_,e,0,_,0⟩
  | .inl us=>match dK _ with
   | .inr (e,k)=>⟨3,_,0,e,0,_,0⟩
   | .inl u=>if (ar u).1≠0 then ⟨4,_,_,_,0,_,0⟩ else d u):=aJ (by unfold lY;rw[eP F];rfl)
 go_enter func7,ntmps7
 go_wp2_with fail;generalize (W.alloc _)=V at ak Uf Xa |-;go_loopw[7,36] (λvr i wr=>∃(k:R) (es:I LU) (us:I aK),i=O Z (k:A)/\k<=D ss/\D us=k/\es.map (·.u)=us.take 7/\wr.ownsRow V.heap.size 58 5 vr (D es) (es.flatMap cU)/\(∀e∈es,bV (mn wr vr.ownBlock) e.v e.u)/\eN 0 ss=mg us (eN k (ss.drop k))/\Gr V wr) λ_ i _=>D ss-(intOf i).toNat
 case atStart=>exact⟨0,[],[],rfl,Lz,rfl,rfl,B5 _ _ _ _,Q6,by cases h:eN 0 ss<;>simp[mg,h],G0⟩
 obtain⟨k,es,us,rfl,hk,ax,bj,Tf,cn,b2,b4⟩:=hrel;have a':=aJ ax;have ay:=aJ bj;have TY:=aJ Tf;have VP:=aJ cn;have aF:=aJ b2;have TS:=aJ b4;obtain⟨cx,rcp,rfl⟩:=aR Tf;have cy:D es<=7:=by have:=congrArg List.length bj;simp at this;omega
 by_cases IN:k<D ss
 · obtain⟨x,hx⟩:=aU IN;obtain⟨b,off,s,rfl,bo,b',S7⟩:=HC k x hx;have bo:=(Uf.trans TS).cell bo Q6;have UB:(k:A)<D ss:=by omega
   have hw:Z.wrap _=k+1:=Q_;have bg:U (ss.drop k=x::ss.drop (k+1)):=aJ (by
    rw[Be IN];have:=SI
    rw[this])
   have bp:=aJ (zb s wr S7);rw[b']at bp;go_wp2_with fail;refine bp.mono ?_;intro z w2 hz;cases hd:lk x with
   | inr q=>
    obtain⟨e,p⟩:=q;rw[hd]at hz;obtain⟨rfl,IT⟩:=hz;have No:=yn hd;have VO:(e !=0)=AT:=by simpa using No
    have ae:U (lY d _ _ _=⟨2,k,p,e,0,_,0⟩):=aJ (by rw[HP,aF,bg,ro hd]);have OF:=aJ (TS.trans IT);have ad:=(((TS.trans IT).alloc (X yF 58)).block _ Sm Q6).trans ak;have af:=aJ ad;have ai:=aJ ((TS.trans IT).alloc (X yF 58));obtain⟨⟨o0,o1,o2,o3,o4,o5,o6⟩,f0,f1,f2,f3,f4,f5,f6⟩:=fq ad;go_wp2_with fail;generalize w2.alloc _=wE at af ai |-;rw[jG];have TZ:=jV (y0:=O Z 2) (y1:=O Z k) (y2:=O Z p) (y3:=O Z e) (y4:=O Z 0) (y5:=J G 0 0) (y6:=O Z 0) af;have UQ:∀q,¬q=W.heap.size->(jO _ _ (O Z 2) (O Z k) (O Z p) (O Z e) (O Z 0) (J G 0 0) (O Z 0)).heap[q]? =wE.heap[q]? :=λq hq=>iF hq
    have UR:(jO _ W.heap.size (O Z 2) (O Z k) (O Z p) (O Z e) (O Z 0) (J G 0 0) (O Z 0)).heap.size=wE.heap.size:=jr;have UG:=pB wE W.heap.size (O Z 2) (O Z k) (O Z p) (O Z e) (O Z 0) (J G 0 0) (O Z 0);generalize jO _ _ _ _ _ _ _ _ _=WE at TZ UQ UR UG |-;have t0:H WE (Q W.heap.size 0 G)=Y (O Z 2):=Qp
    have t1:H WE (Q W.heap.size 1 G)=Y (O Z k):=Qp
    have t2:H WE (Q W.heap.size 2 G)=Y (O Z p):=Qp
    have t3:H WE (Q W.heap.size 3 G)=Y (O Z e):=Qp
    have t4:H WE (Q W.heap.size 4 G)=Y (O Z 0):=Qp
    have t5:H WE (Q W.heap.size 5 G)=Y (J G 0 0):=Qp
    have t6:H WE (Q W.heap.size 6 G)=Y (O Z 0):=Qp
    refine qn (v:=.agg #[O Z 2,O Z (k:A),O Z (p:A),O Z e,O Z 0,J G 0 0,O Z 0]) Rg rfl ?_;rw[ae];have UT:=Uf.trans ai;exact NY
   | inl u=>
    rw[hd]at hz;obtain⟨v,C,rfl,hC,hF,IT⟩:=hz;obtain⟨a1,a2,a3,a4,a5,c1,c2,c3,c4,c5,rfl,-⟩:=hF.to.parts;have bt:U (eN 0 _=mg (us++[u]) _):=aJ (by rw[aF,bg,sX hd]);have OF:=aJ (TS.trans IT);have aL:=aJ IT;by_cases h6:D es<=6
    · have i6:(D es:A)<=6:=by omega
      have gA:=((Gr.refl w2).alloc (X (yE u a1 c1 a2 c2 a3 c3 a4 c4 a5 c5) 58)).alloc (X (yE u a1 c1 a2 c2 a3 c3 a4 c4 a5 c5) 58);have a9:=eO TY (IT.trans gA);obtain⟨v6,w6,bB,bk,al,b6⟩:=fG (ty:=53) _ _ _ Tryz.infUu Tryz.uUu rfl Q9 Q9 a9 (jE _ _ _ 1) rfl Sz Q5 (by have:=OF.j.size;simp;omega)
      have cf:(w2.alloc (X (yE u a1 c1 a2 c2 a3 c3 a4 c4 a5 c5) 58)).heap.size=w2.heap.size+1:=Q6;rw[cf]at bB;obtain⟨a7,a0,rfl⟩:=aR bk;have b5:Gr V _:=⟨al.os.trans (OF.trans gA).os,al.tape.trans (OF.trans gA).tape,al.output.trans (OF.trans gA).output,wz (OF.trans gA).size al.size,λi hi No=>(al.block i (tu hi (OF.trans gA).size) λe=>by have:=(TY.lt i e.symm).1;omega).trans ((OF.trans gA).block i hi No)⟩;have a6:∀e∈es++[(⟨J a1 (D u.aA) c1,J a2 (D u.aE) c2,J a3 (D u.aG) c3,J a4 (D u.aC) c4,J a5 (D u.aD) c5,u⟩:LU)],bV (mn w6 (J a7 (D es+1) a0).ownBlock) e.v e.u:=by
       intro e he;have Xp:=vV a9 rfl al b6;rcases F1.1 he with he|he
       · exact PQ
       simp only[Jm]at he;subst he;refine bV.kc ?_ Xp;refine(mX.to (mX.kp (hF.kp gA.kp) λq hq cu=>?_));refine lu _ _ _ λe=>?_;have:=(TY.lt q e).2
       omega
      have b8:=aJ bB;have cp:=aJ bk;have cl:=aJ a6;have ca:=aJ b5;go_wp2_with(at_builtin;refine CH _ rfl _ _ _ _ rfl _ _ rfl rfl _ _ b8.j ?_)
      refine⟨⟨_,_,_,Q6,IN,by simp[a'.j],?_,?_,cl,bt,ca⟩,Qh⟩
      · have ax:=congrArg List.length ay;simp only[JY,Bc]at ax;rw[Ju,ay];have:D us<=6:=by omega
        rw[JH Q5,JH jB];rfl
      rw[fe,Ka];exact cp
    have i6:¬(D es:A)<=6:=by omega
    have d6:decide ((D es:A)<=6)=AS:=by simpa using i6
    have gA:=(Gr.refl w2).alloc (X (yE u a1 c1 a2 c2 a3 c3 a4 c4 a5 c5) 58);have Tt:=aJ (aL.trans gA);go_wp2_with fail;refine⟨⟨_,_,_,Q6,IN,by simp[a'.j],?_,eO TY Tt,λe he=>(VP e he).gr (vg Tt λb hb=>(TY.lt b hb).2),bt,TS.trans Tt⟩,Qh⟩;have ax:=congrArg List.length ay;simp only[JY,Bc]at ax;rw[ay,My Q5]
 have cj:k=D ss:=by omega
 subst cj;have aB:U (eN 0 _=.inl us):=aJ (by rw[aF,Ln];simp[eN,mg]);have bC:=aJ (D2 _ _ _ (vC TY λe he=>(VP e he).kc (BW TY rfl)));rw[ay]at bC;go_wp2_with fail;refine bC.mono ?_;rintro z w2 ⟨IT,⟨v,u,hl,rfl,hv⟩|⟨e,kk,hl,rfl⟩⟩
 · rw[ue]at hl;obtain⟨a1,a2,a3,a4,a5,c1,c2,c3,c4,c5,rfl,-⟩:=hv.runit.parts;have gA:=(Gr.refl w2).alloc (X (yE u a1 c1 a2 c2 a3 c3 a4 c4 a5 c5) 58);have aI:=aJ (hv.runit.gr gA);have bF:=aJ (Ct u (b3 u) _ _ aI);have Tt:=aJ (TS.trans (IT.trans gA));have TT:=aJ (jZ w2 (X (yE u a1 c1 a2 c2 a3 c3 a4 c4 a5 c5) 58));have HL:=aJ hl;go_wp2_with fail;generalize w2.alloc _=w3 at aI bF Tt TT |-;refine bF.mono ?_;rintro z w4 ⟨rfl,b1⟩;have aH:=xO b1;have Tg:=aJ (Tt.trans aH);have aM:=aJ (aI.gr aH);have ad:=(Tg.block _ Sm Q6).trans ak;have af:=aJ ad;have av:=(aH.block _ (eJ.1 TT).1 Q6).trans TT;have y1:H w4 (Q w2.heap.size 0 G)=Y (J a1 (D u.aA) c1):=by rw[aP av];rfl
   have y2:H w4 (Q w2.heap.size 1 G)=Y (J a2 (D u.aE) c2):=by rw[aP av];rfl
   have y3:H w4 (Q w2.heap.size 2 G)=Y (J a3 (D u.aG) c3):=by rw[aP av];rfl
   have y4:H w4 (Q w2.heap.size 3 G)=Y (J a4 (D u.aC) c4):=by rw[aP av];rfl
   have y5:H w4 (Q w2.heap.size 4 G)=Y (J a5 (D u.aD) c5):=by rw[aP av];rfl
   obtain⟨⟨o0,o1,o2,o3,o4,o5,o6⟩,f0,f1,f2,f3,f4,f5,f6⟩:=fq ad;by_cases az:(ar u).1=0
   · have b0:=mx az;have ae:U (lY d _ _ _=d u):=aJ (by
      rw[HP,aB];show(match dK us with| .inr (e,k)=>_| .inl u=>_)=_
      rw[HL];exact eP (by simp[az]))
     have Vo:=aJ (b9 b7 _ aB u _ _ HL b0 aM);rw[b0];go_wp2_with fail;refine Vo.mono ?_;rintro z w5 ⟨vo,rfl,⟨vt,rfl,bL⟩,Th⟩;obtain⟨ta,tc,rfl⟩:=bL.shape;have ad:=((Tg.trans Th).block _ Sm Q6).trans ak;have a8:=aJ ad;have Tu:=aJ (Tg.trans Th);have cc:=aJ bL;obtain⟨⟨o0,o1,o2,o3,o4,o5,o6⟩,f0,f1,f2,f3,f4,f5,f6⟩:=fq ad;go_wp2_with fail;rw[jG];have TZ:=jV (y0:=O Z (d u).why) (y1:=O Z (d u).unit) (y2:=O Z (d u).at_) (y3:=O Z (d u).e) (y4:=O Z (d u).result) (y5:=J ta (d u).told.length tc) (y6:=O Z (d u).steps) a8;have UQ:∀q,¬q=W.heap.size->(jO _ _ (O Z (d u).why) (O Z (d u).unit) (O Z (d u).at_) (O Z (d u).e) (O Z (d u).result) (J ta (d u).told.length tc) (O Z (d u).steps)).heap[q]? =w5.heap[q]? :=λq hq=>iF hq
     have UR:(jO _ W.heap.size (O Z (d u).why) (O Z (d u).unit) (O Z (d u).at_) (O Z (d u).e) (O Z (d u).result) (J ta (d u).told.length tc) (O Z (d u).steps)).heap.size=w5.heap.size:=jr;have UG:=pB w5 W.heap.size (O Z (d u).why) (O Z (d u).unit) (O Z (d u).at_) (O Z (d u).e) (O Z (d u).result) (J ta (d u).told.length tc) (O Z (d u).steps);generalize jO _ _ _ _ _ _ _ _ _=WE at TZ UQ UR UG |-;have t0:H WE (Q W.heap.size 0 G)=Y (O Z (d u).why):=Qp
     have t1:H WE (Q W.heap.size 1 G)=Y (O Z (d u).unit):=Qp
     have t2:H WE (Q W.heap.size 2 G)=Y (O Z (d u).at_):=Qp
     have t3:H WE (Q W.heap.size 3 G)=Y (O Z (d u).e):=Qp
     have t4:H WE (Q W.heap.size 4 G)=Y (O Z (d u).result):=Qp
     have t5:H WE (Q W.heap.size 5 G)=Y (J ta (d u).told.length tc):=Qp
     have t6:H WE (Q W.heap.size 6 G)=Y (O Z (d u).steps):=Qp
     refine qn (v:=.agg #[O Z (d u).why,O Z (d u).unit,O Z (d u).at_,O Z (d u).e,O Z (d u).result,J ta (d u).told.length tc,O Z (d u).steps]) Rg rfl ?_;have ck:gv W.heap.size _ _ _:=(cc.kp λq hq _=>UQ q (by have:=Tg.size;have:=Xa.j;omega)).mono (by have:=Tg.size;have:=Xa.j;omega);rw[ae];have UT:=Uf.trans Tu;exact⟨_,rfl,⟨_,rfl,ck⟩,⟨UG.1.trans UT.os,UG.2.1.trans UT.tape,UG.2.2.trans UT.output,by rw[UR];exact UT.size,λi hi No=>(UQ i Q5).trans (UT.block i hi No)⟩⟩
   · have VO:((ar u).1 !=0)=AT:=by simpa using az
     have ae:U (lY d _ _ _=⟨4,_,_,_,0,_,0⟩):=aJ (by
      rw[HP,aB];show(match dK us with| .inr (e,k)=>_| .inl u=>_)=_
      rw[HL];exact mI az)
     generalize (ar u).1=e4 at VO ae |-;generalize (ar u).2.1=n4 at ae |-;generalize (ar u).2.2=p4 at ae |-;go_wp2_with fail;rw[jG];have TZ:=jV (y0:=O Z 4) (y1:=O Z n4) (y2:=O Z p4) (y3:=O Z e4) (y4:=O Z 0) (y5:=J G 0 0) (y6:=O Z 0) af;have UQ:∀q,¬q=W.heap.size->(jO _ _ (O Z 4) (O Z n4) (O Z p4) (O Z e4) (O Z 0) (J G 0 0) (O Z 0)).heap[q]? =w4.heap[q]? :=λq hq=>iF hq
     have UR:(jO _ W.heap.size (O Z 4) (O Z n4) (O Z p4) (O Z e4) (O Z 0) (J G 0 0) (O Z 0)).heap.size=w4.heap.size:=jr;have UG:=pB w4 W.heap.size (O Z 4) (O Z n4) (O Z p4) (O Z e4) (O Z 0) (J G 0 0) (O Z 0);generalize jO _ _ _ _ _ _ _ _ _=WE at TZ UQ UR UG |-;have t0:H WE (Q W.heap.size 0 G)=Y (O Z 4):=Qp
     have t1:H WE (Q W.heap.size 1 G)=Y (O Z n4):=Qp
     have t2:H WE (Q W.heap.size 2 G)=Y (O Z p4):=Qp
     have t3:H WE (Q W.heap.size 3 G)=Y (O Z e4):=Qp
     have t4:H WE (Q W.heap.size 4 G)=Y (O Z 0):=Qp
     have t5:H WE (Q W.heap.size 5 G)=Y (J G 0 0):=Qp
     have t6:H WE (Q W.heap.size 6 G)=Y (O Z 0):=Qp
     refine qn (v:=.agg #[O Z 4,O Z (n4:A),O Z (p4:A),O Z e4,O Z 0,J G 0 0,O Z 0]) Rg rfl ?_;rw[ae];have UT:=Uf.trans Tg;exact NY
 rw[ue]at hl;have No:=zC hl;have VO:(e !=0)=AT:=by simpa using No
 have ae:U (lY d _ _ _=⟨3,_,0,e,0,_,0⟩):=aJ (by
  rw[HP,aB];show(match dK us with| .inr (e,k)=>_| .inl u=>_)=_
  rw[hl])
 have ai:=aJ ((TS.trans IT).alloc (X yF 58));have ad:=(ai.block _ Sm Q6).trans ak;have af:=aJ ad;obtain⟨⟨o0,o1,o2,o3,o4,o5,o6⟩,f0,f1,f2,f3,f4,f5,f6⟩:=fq ad;go_wp2_with fail;generalize w2.alloc _=wE at af ai |-;rw[jG];have TZ:=jV (y0:=O Z 3) (y1:=O Z kk) (y2:=O Z 0) (y3:=O Z e) (y4:=O Z 0) (y5:=J G 0 0) (y6:=O Z 0) af;have UQ:∀q,¬q=W.heap.size->(jO _ _ (O Z 3) (O Z kk) (O Z 0) (O Z e) (O Z 0) (J G 0 0) (O Z 0)).heap[q]? =wE.heap[q]? :=λq hq=>iF hq
 have UR:(jO _ W.heap.size (O Z 3) (O Z kk) (O Z 0) (O Z e) (O Z 0) (J G 0 0) (O Z 0)).heap.size=wE.heap.size:=jr;have UG:=pB wE W.heap.size (O Z 3) (O Z kk) (O Z 0) (O Z e) (O Z 0) (J G 0 0) (O Z 0);generalize jO _ _ _ _ _ _ _ _ _=WE at TZ UQ UR UG |-;have t0:H WE (Q W.heap.size 0 G)=Y (O Z 3):=Qp
 have t1:H WE (Q W.heap.size 1 G)=Y (O Z kk):=Qp
 have t2:H WE (Q W.heap.size 2 G)=Y (O Z 0):=Qp
 have t3:H WE (Q W.heap.size 3 G)=Y (O Z e):=Qp
 have t4:H WE (Q W.heap.size 4 G)=Y (O Z 0):=Qp
 have t5:H WE (Q W.heap.size 5 G)=Y (J G 0 0):=Qp
 have t6:H WE (Q W.heap.size 6 G)=Y (O Z 0):=Qp
 refine qn (v:=.agg #[O Z 3,O Z (kk:A),O Z 0,O Z e,O Z 0,J G 0 0,O Z 0]) Rg rfl ?_;rw[ae];have UT:=Uf.trans ai;exact NY
end Go.Proofs.YtghjmnlapcpbiaaGreatDoor
