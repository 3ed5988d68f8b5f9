import Derived.Test.YtghjmnlapcpbiaaGreatDoorKa
namespace Go.Proofs.YtghjmnlapcpbiaaGreatDoor
open _root_ renaming Option.some->Y,Option.none->G,Go.Value.int->O,Go.IntKind.i64->Z,Go.Value.slice->J,List->I,Nat->R,Int->A,Go.World.cell?->H,List.length->D,Go.Obj.cells->X,Go.Value->M,Go.World->T,Go.Addr.mk->Q,Go.RowKit.Hid->U,UInt8->AI,Bool.false->AS,Bool.true->AT,Option->By
open Go.Proofs.Tryz
set_option linter.unusedVariables false
set_option linter.unusedSimpArgs false
open Go.RowKit
attribute [local go_sem ↓] Go.wp_at_zero Go.wp_at_succ
variable{fs:I LF}{xs:I LX}{l t:I aK}{e k ub:R}{ρ:R->BR}{v1 v2 v3 v4 v5:M}{W0 w w' w0 w2:T}{h u:aK}
def pw(l:I aK)(n:I AI):A:=(cw l (eB n 0 l (0,0,0)).2.1:A)+(eB n 0 l (0,0,0)).2.2
def Ja(i:bP):M:=.agg #[O Z i.op,O Z i.a,O Z i.b]
theorem oV(h:∀u∈l,D u.aG<=30):∀k,k<=D l->cw l k<=k*30:=by
 intro k F
 induction k with
 | zero=>exact Lz
 | succ k d=>
  have hu:=dW (l:=l) (i:=k) Q5;rw[i8 hu];have h1:=d Q5;have h2:=h _ (dL hu);omega
theorem z_(h:∀u∈l,D u.aE<=50):∀k,k<=D l->gG l k<=k*50:=by
 intro k F
 induction k with
 | zero=>exact Lz
 | succ k d=>
  have hu:=dW (l:=l) (i:=k) Q5;rw[lK hu];have h1:=d Q5;have h2:=h _ (dL hu);omega
theorem CW(w:T)(x1 x2 x3:M):Gr w ((w.alloc (X #[x1,x2,x3] 87)).alloc (X #[O Z 0,O Z 0,O Z 0] 87))/\((w.alloc (X #[x1,x2,x3] 87)).alloc (X #[O Z 0,O Z 0,O Z 0] 87)).heap[w.heap.size]? =Y (X #[x1,x2,x3] 87 (0,0))/\((w.alloc (X #[x1,x2,x3] 87)).alloc (X #[O Z 0,O Z 0,O Z 0] 87)).heap[w.heap.size+1]? =Y (X #[O Z 0,O Z 0,O Z 0] 87 (0,0))/\((w.alloc (X #[x1,x2,x3] 87)).alloc (X #[O Z 0,O Z 0,O Z 0] 87)).heap.size=w.heap.size+2:=by
 have s1:(w.alloc (X #[x1,x2,x3] 87)).heap.size=w.heap.size+1:=Q6;have F:=jZ w (X #[x1,x2,x3] 87);have d:=jZ (w.alloc (X #[x1,x2,x3] 87)) (X #[O Z 0,O Z 0,O Z 0] 87);rw[s1]at d;exact⟨((Gr.refl w).alloc _).alloc _,(Na _ _ Q5).trans F,d,Q6⟩
structure Kf(w W:T)(i:bP)(v2 v3 v4:M):Prop where
 gr:Gr w W
 i0:H W (Q w.heap.size 0 G)=Y (O Z i.op)
 i1:H W (Q w.heap.size 1 G)=Y (O Z i.a)
 i2:H W (Q w.heap.size 2 G)=Y (O Z i.b)
 z0:W.frozen? ⟨w.heap.size,0,G⟩=AS
 z1:W.frozen? ⟨w.heap.size,1,G⟩=AS
 z2:W.frozen? ⟨w.heap.size,2,G⟩=AS
 r0:H W ⟨w.heap.size+1,0,G⟩=Y (O Z 0)
 r1:H W ⟨w.heap.size+1,1,G⟩=Y (O Z 0)
 r2:H W ⟨w.heap.size+1,2,G⟩=Y (O Z 0)
 y0:W.frozen? ⟨w.heap.size+1,0,G⟩=AS
 y1:W.frozen? ⟨w.heap.size+1,1,G⟩=AS
 y2:W.frozen? ⟨w.heap.size+1,2,G⟩=AS
 u2:H W ⟨w.heap.size+2,1,G⟩=Y v2
 u3:H W ⟨w.heap.size+2,2,G⟩=Y v3
 u4:H W ⟨w.heap.size+2,3,G⟩=Y v4
theorem d'{W:T}{x:M}{o b:R}(F:Gr w W)(d:w.heap.size<=b):Gr w (W.setCell (Q b o G) x):=dC F d
theorem QG{p:Prop}(h:p:=by first|rw[HV.j];rfl|(rw[HC.j,Xu.j,HV.j];rfl)):p:=h
theorem QQ{p:Prop}(h:p:=by simp[results,results44,go_sem,r0,r1,r2]):p:=h
set_option maxRecDepth 100000 in
set_option maxHeartbeats 4000000 in
theorem C5(l:I aK)(vl:M)(k:R)(u:aK)(i:bP)(w:T)(hR:dH w vl l)(hu:l[k]? =Y u)(hl:D l<=6)(hE:∀u∈l,D u.aD<=20/\D u.aE<=50/\D u.aG<=30/\D u.aC<=20)(hF:∀i∈u.aC,∃v g,xF l i v g)(hi:0<=i.a/\i.a<=65535\/(i.op≠0/\i.op≠13)):
 Calls prog 44 #[vl,O Z (k:A),.agg #[O Z i.op,O Z i.a,O Z i.b]] w λx w'=>x=.returned (Ja (em (pw l) u (gG l k) (cw l k) i))/\Gr w w':=by
 have bg:=(dm.1 hu).1;obtain⟨b,off,cap,a1,c1,a2,c2,a3,c3,a4,c4,a5,c5,rfl,x1,x2,x3,x4,x5,hr⟩:=hR.at_all hu;have a':(0:A)<=k:=Q5;have TH:(k:A)<D l:=Q5;have HR:=aJ hr;have al:=aJ hR;have HF:=aJ hF;obtain⟨m1,m2,m3,m4⟩:=hE u (dL hu);have aM:=z_ (λv hv=>(hE v hv).2.1) k Q5;have U9:=oV (λv hv=>(hE v hv).2.2.1) k Q5;obtain⟨hg,ad,VI,S7⟩:=CW w (O Z i.op) (O Z i.a) (O Z i.b);have HG:=aJ hg;have ay:=aJ ad;have aF:=aJ VI;have UX:=aJ S7;go_enter func44,ntmps44
 go_upto_region 1 with fail
 have y1:=HG.cell x1 Q6;have y2:=HG.cell x2 Q6;have y3:=HG.cell x3 Q6;have y4:=HG.cell x4 Q6;have y5:=HG.cell x5 Q6;generalize (w.alloc _).alloc _=W1 at HG ay aF UX y1 y2 y3 y4 y5 |-;go_upto_region 2 with fail
 have ak:=aJ ((Gr.refl W1).alloc (X (yE u a1 c1 a2 c2 a3 c3 a4 c4 a5 c5) 58));have ai:=jZ W1 (X (yE u a1 c1 a2 c2 a3 c3 a4 c4 a5 c5) 58);rw[UX]at ai;have ad:=(ak.block _ Sk Q6).trans ay;have VI:=(ak.block _ Sk Q6).trans aF;have HM:U (Kf w _ i (J _ _ _) (J _ _ _) (J _ _ _)):=aJ ⟨HG.trans ak,by rw[aN ad];rfl,by rw[aN ad];rfl,by rw[aN ad];rfl,aT ad,aT ad,aT ad,by rw[aN VI];rfl,by rw[aN VI];rfl,by rw[aN VI];rfl,aT VI,aT VI,aT VI,by rw[aN ai];rfl,by rw[aN ai];rfl,by rw[aN ai];rfl⟩;rw[UX.j];generalize W1.alloc _=W at HM ak |-;have HA:=aJ (qI l _ k W (al.gr HM.gr) Q5 Q5 λv hv=>by have:=hE v hv;omega);go_wp2_with fail;refine HA.mono ?_;rintro x w1 ⟨rfl,af⟩;obtain rfl:=af.symm;obtain⟨-,i0,i1,i2,z0,z1,z2,r0,r1,r2,y0,y1,y2,u2,u3,u4⟩:=HM.j;generalize hc:gG l k=c at aM;generalize hf:cw l k=f at U9;have HC:=aJ hc;have Xu:=aJ hf;have F:=aJ HM.gr;by_cases h0:i.op=0
 · have ho:=hi.resolve_right λh=>h.1 h0;obtain⟨WK,Tl⟩:=ho;rw[h0]at i0;by_cases ae:i.a<(D u.aE:A)
   · have HV:U (em (pw l) u c f i=⟨0,i.a+c,i.b⟩):=aJ (by unfold em;rw[mI h0,mI ae,h0];simp[Int.add_comm]);go_wp2_with fail;exact qn (v:=.agg #[O Z 0,O Z (i.a+(c:A)),O Z i.b]) QQ rfl ⟨QG,d' (d' (d' (d' (F.j) Q5) Q5) Q5) Q5⟩
   have HV:U (em (pw l) u c f i=⟨0,_,_⟩):=aJ (by unfold em;rw[mI h0,eP ae,h0]);have av:D u.aE<=i.a:=by omega
   go_wp2_with fail;exact qn (v:=.agg #[O Z 0,O Z (65535),O Z i.b]) QQ rfl ⟨QG,d' (d' (d' (d' (F.j) Q5) Q5) Q5) Q5⟩
 by_cases d:i.op=13
 · have ho:=hi.resolve_right λh=>h.2 d;obtain⟨WK,Tl⟩:=ho;rw[d]at i0;by_cases ae:i.a<(D u.aG:A)
   · have HV:U (em (pw l) u c f i=⟨13,i.a+f,i.b⟩):=aJ (by unfold em;rw[eP h0,mI d,mI ae,d];simp[Int.add_comm]);go_wp2_with fail;exact qn (v:=.agg #[O Z 13,O Z (i.a+(f:A)),O Z i.b]) QQ rfl ⟨QG,d' (d' (d' (d' (F.j) Q5) Q5) Q5) Q5⟩
   have av:D u.aG<=i.a:=by omega
   by_cases a9:i.a<(D u.aG:A)+(D u.aC:A)
   · obtain⟨q,hq⟩:∃q:R,i.a-D u.aG=q:=⟨(i.a-D u.aG).toNat,Q5⟩;have aL:q<D u.aC:=by omega
     obtain⟨e,he⟩:∃e,u.aC[q]? =Y e:=⟨_,dW aL⟩;obtain⟨v,g,az,f',aH,S5⟩:=HF e (dL he);have aA:=(dm.1 az).1;have U6:=(hE v (dL az)).2.2.1;have a7:=(dm.1 S5).1;have aB:=oV (λv hv=>(hE v hv).2.2.1) _ (Nat.le_of_lt aA);have HV:U (em _ u c f i=⟨_,pw l _,_⟩):=aJ (by unfold em;rw[eP h0,mI d,eP ae,d,hq,A7,he]);obtain⟨xb,xo,s,pa,pc,rfl,US,aI,_⟩:=(HR.gr F).impAt he;have HX:=aJ (kP l _ s (D l) 0 W (al.gr F) Q5 Q5 Q5 λv hv=>(hE v hv).1);rw[aI,oC _ _ _ _ _ Q5,aH]at HX;have ax:U (pw l _=(cw l _:A)+f'):=aJ (by unfold pw;rw[aH]);have HA:=aJ (qI l _ (eB e.name 0 l (0,0,0)).2.1 W (al.gr F) Q5 Q5 λv hv=>by have:=hE v hv;omega);generalize cw l _=bF at ax HA aB;generalize gG l _=bC at HA;generalize (eB _ 0 l _).2.1=aa at HX HA aA aB;generalize (eB _ 0 l _).1=nn at HX;have bk:(0:A)<=q:=Q5;have bj:(q:A)<D u.aC:=Q5;have a8:Z.wrap (i.a-D u.aG)=q:=by rw[hq];exact Q_
     go_wp2_with fail;refine HX.mono ?_;rintro x w1 ⟨rfl,af⟩;obtain rfl:=af.symm;go_wp2_with fail;refine HA.mono ?_;rintro x w1 ⟨rfl,af⟩;obtain rfl:=af.symm;rw[ax]at HV;go_wp2_with fail;exact qn (v:=.agg #[O Z 13,O Z ((bF:A)+(f':A)),O Z i.b]) QQ rfl ⟨QG,d' (d' (d' (d' (F.j) Q5) Q5) Q5) Q5⟩
   have HV:U (em (pw l) u c f i=⟨_,65535,_⟩):=aJ (by
    unfold em;rw[eP h0,mI d,eP ae,d,AK Q5])
   have a0:D u.aG+D u.aC<=i.a:=Q5;go_wp2_with fail;exact qn (v:=.agg #[O Z 13,O Z (65535),O Z i.b]) QQ rfl ⟨QG,d' (d' (d' (d' (F.j) Q5) Q5) Q5) Q5⟩
 have HV:U (em (pw l) u c f i=i):=aJ (by unfold em;rw[eP h0,eP d]);have TI:(i.op==0)=AS:=by rw[IL];exact h0
 have a6:(i.op==13)=AS:=by rw[IL];exact d
 go_wp2_with fail;exact qn (v:=.agg #[O Z i.op,O Z (i.a),O Z i.b]) QQ rfl ⟨QG,d' (d' (d' (F.j) Q5) Q5) Q5⟩
theorem kS(h:bG u=AT):D u.aA<=20/\(∀x∈u.aA,D x<=8)/\D u.aE<=50/\D u.aG<=30/\(∀f∈u.aG,D f.aH<=6/\D f.aI<=10/\D f.code<=200)/\D u.aC<=20/\(∀i∈u.aC,D i.aH<=6)/\D u.aD<=20:=by
 obtain⟨F,h2,h3,d,h5⟩:=km h;simp only[bh,cm,cO,cG,cH,wB,sQ,xw,zl]at F h2 h3 d h5;refine⟨Q5,λx hx=>?_,Q5,Q5,λf hf=>?_,Q5,λi hi=>?_,Q5⟩
 · have:=F.2 x hx
   simp only[dM,wB,sQ,xw]at this;omega
 · have:=h3.2 f hf
   simp only[dA,iG,ir,wB,sQ,xw]at this;omega
 have:=d.2 i hi
 simp only[gC,iG,wB,sQ,xw]at this;omega
def th:R->A
 | 0=>1
 | 1=>5
 | 2=>6
 | 3=>7
 | _=>8
def yS(l:I aK)(e k:R)(u:aK):Prop:=
 match e with
 | 0=>bG u=AS
 | 1=>∃u0,l[0]? =Y u0/\u.aA≠u0.aA
 | 2=>∃i x,u.aD[i]? =Y x/\0<(gY x.name k i 0 l (0,0,0)).1
 | 3=>∃i∈u.aC,(eB i.name 0 l (0,0,0)).1=0
 | _=>∃i∈u.aC,∃v g,xF l i v g/\¬(g.aH=i.aH/\g.result=i.result)
def rA(l:I aK)(e k:R):Prop:=∃u,l[k]? =Y u/\yS l e k u
def my(l:I aK)(e:R):Prop:=∀e',e'<e->∀k,¬rA l e' k
theorem my.ok(h:my l e)(he:0<e):∀u∈l,bG u=AT:=by
 intro u hu;obtain⟨k,d⟩:=L4.1 hu;cases F:bG u with
 | true=>rfl
 | false=>exact absurd ⟨u,d,F⟩ (h 0 he k)
theorem AZ(Tb:∀u∈l,bG u=AT){i:eL}(h:(eB i.name 0 l (0,0,0)).1≠0):∃v g,xF l i v g:=by
 rcases mZ i.name l 0 (0,0,0) with⟨h1,_⟩|⟨_,m,b,v,x,hl,h2⟩
 · rw[h1]at h;exact absurd rfl h
 obtain⟨F,l2,l3⟩:=hl;have hv:=Tb v (dL F);obtain⟨_,_,_,_,d⟩:=km hv;simp only[cH,sQ,zl]at d;have hx:=d.2 x (dL l2);simp only[fi,wB,sQ,xw]at hx;have U9:x.func.toNat<D v.aG:=by omega
 refine⟨v,_,?_,_,?_,dW U9⟩
 · rw[h2];simpa using F
 rw[h2];show x.func=_;omega
theorem zE(l:I aK)(vl:M)(e k:R)(u:aK)(w:T)(he:e<5)(hR:dH w vl l)(hu:l[k]? =Y u)(hl:D l<=6)(hT:lR w)(hC:my l e):
 Calls prog 42 #[vl,O Z (k:A),O Z (th e)] w (Gh (rA l e k) w):=by
 have d:∀P,(P↔yS l e k u)->(P↔rA l e k):=λP h=>⟨λp=>⟨u,hu,h.1 p⟩,λ⟨_,F,h2⟩=>by
  rw[hu]at F;obtain rfl:=tz F;exact h.2 h2⟩
 have ae:=(dm.1 hu).1;have hc:e=0\/e=1\/e=2\/e=3\/e=4:=Q5;rcases hc with rfl|rfl|rfl|rfl|rfl
 · refine(DN l _ k u w hR hu hT).mono λx w' ⟨F,h2⟩=>⟨_,F,d _ ?_,h2⟩
   show(!bG u)=AT↔bG u=AS
   simp
 · obtain⟨u0,ad⟩:∃u0,l[0]? =Y u0:=⟨_,dW Q5⟩;refine(Cr l _ k u _ w hR hu ad).mono λx w' ⟨F,h2⟩=>⟨_,F,d _ ?_,h2⟩
   show(!decide (u.aA=u0.aA))=AT↔∃u0,l[0]? =Y u0/\u.aA≠u0.aA
   rw[Ms,zG];exact⟨λh=>⟨_,ad,h⟩,λ⟨_,F,h2⟩=>by
    rw[ad]at F;obtain rfl:=tz F;exact h2⟩
 · have Tb:=hC.ok Q9;refine(C1 l _ k u w hR hu hl λv hv=>(kS (Tb v hv)).2.2.2.2.2.2.2).mono λx w' ⟨p,F,h2,h3⟩=>⟨p,F,h2.trans (d _ Iff.rfl),h3⟩
 · have Tb:=hC.ok Q9;refine(DI l _ k u w hR hu hl (λv hv=>(kS (Tb v hv)).2.2.2.2.2.2.2) (kS (Tb u (dL hu))).2.2.2.2.2.1).mono λx w' ⟨p,F,h2,h3⟩=>⟨p,F,h2.trans (d _ Iff.rfl),h3⟩
 have Tb:=hC.ok Q9;have hF:=λi hi=>AZ Tb λh0=>hC 3 Q9 k ⟨u,hu,i,hi,h0⟩
 refine(C8 l _ k u w hR hu hl (λv hv=>(kS (Tb v hv)).2.2.2.2.2.2.2) (kS (Tb u (dL hu))).2.2.2.2.2.1 hF λv hv=>(kS (Tb v hv)).2.2.2.1).mono λx w' ⟨p,F,h2,h3⟩=>⟨p,F,h2.trans (d _ Iff.rfl),h3⟩
theorem oX(n:I AI)(k i:R):∀(l:I aK) (a:R) (r:R×R×A),(gY n k i a l r=r/\∀m u,l[m]? =Y u->∀e∈jR k i (a+m) u.aD,e.name≠n)\/(r.1<(gY n k i a l r).1/\∃m u e,l[m]? =Y u/\e∈jR k i (a+m) u.aD/\e.name=n)
 | [],a,r=>.inl ⟨rfl,λm u h=>by simp at h⟩
 | u::l,a,r=>by
  rw[gY];rcases mW n a (jR k i a u.aD) r with⟨h1,h2⟩|⟨h1,b,e,h2,h3,_⟩
  · rw[h1];rcases oX n k i l (a+1) r with⟨F,k2⟩|⟨F,m,v,e,k2,k3,k4⟩
    · refine .inl ⟨F,λm v hv x hx=>?_⟩;cases m with
      | zero=>simp at hv;subst hv;exact h2 x hx
      | succ m=>exact k2 m v (by simpa using hv) x (by rw[show a+1+m=a+(m+1) by omega];exact hx)
    exact .inr ⟨F,m+1,v,e,by simpa using k2,by rw[show a+(m+1)=a+1+m by omega];exact k3,k4⟩
  have d:e∈jR k i (a+0) _:=dL h2;rcases oX n k i l (a+1) (iQ n a (jR k i a u.aD) r) with⟨F,_⟩|⟨F,_⟩
  · exact .inr ⟨by rw[F];exact h1,0,u,e,rfl,d,h3⟩
  exact .inr ⟨Q5,0,u,e,rfl,d,h3⟩
theorem qH{i m:R}{E:I cJ}{e:cJ}:e∈jR k i m E↔(m<k/\e∈E)\/(m=k/\∃j,j<i/\E[j]? =Y e):=by
 unfold jR;by_cases F:m<k
 · rw[mI F];exact⟨λh=>.inl ⟨F,h⟩,λh=>h.elim (·.2) λh=>by omega⟩
 rw[eP F];by_cases h2:m=k
 · rw[mI h2];constructor
   · intro h;obtain⟨j,d⟩:=L4.1 h;rw[Lh]at d;by_cases TG:j<i
     · rw[mI TG]at d;exact .inr ⟨h2,j,TG,d⟩
     rw[eP TG]at d;cases d
   rintro(⟨h,_⟩|⟨_,j,d,he⟩)
   · exact absurd h F
   exact L4.2 ⟨j,by rw[Lh,mI d];exact he⟩
 rw[eP h2];exact⟨λh=>by simp at h,λh=>h.elim (λh=>absurd h.1 F) λh=>absurd h.1 h2⟩
theorem rJ:rA l 2 k↔Tw [] l k:=by
 have hp:∀(i:R) (u:aK) (x:cJ),l[k]? =Y u->(0<(gY x.name k i 0 l (0,0,0)).1↔((∃(a:R) (u':aK),a<k/\l[a]? =Y u'/\∃e'∈u'.aD,e'.name=x.name)\/∃(j:R) (e':cJ),j<i/\u.aD[j]? =Y e'/\e'.name=x.name)):=by
  intro i u x hu;rcases oX x.name k i l 0 (0,0,0) with⟨h1,F⟩|⟨h1,m,v,e,F,h3,h4⟩
  · rw[h1];refine⟨λh=>by simp at h,λh=>?_⟩;rcases h with⟨a,u',ha,ad,e',d,hn⟩|⟨j,e',hj,d,hn⟩
    · exact absurd hn (F a _ ad _ (qH.2 (.inl ⟨Q5,d⟩)))
    exact absurd hn (F k u hu _ (qH.2 (.inr ⟨Q5,j,hj,d⟩)))
  refine⟨λ_=>?_,λ_=>h1⟩;rcases qH.1 h3 with⟨hm,he⟩|⟨hm,j,hj,he⟩
  · exact .inl ⟨m,v,Q5,F,e,he,h4⟩
  have:m=k:=by omega
  subst this;rw[hu]at F;obtain rfl:=tz F;exact .inr ⟨j,e,hj,he,h4⟩
 constructor
 · rintro⟨u,hu,i,x,hx,h0⟩;exact⟨u,i,x,hu,hx,.inr ((hp i u x hu).1 h0)⟩
 rintro⟨u,i,x,hu,hx,h⟩;exact⟨u,hu,i,x,hx,(hp i u x hu).2 (h.resolve_left Q6)⟩
theorem mV{p:aK->Bool}(hp:∀m u,l[m]? =Y u->(p u=AT↔yS l e m u))(hk:rA l e k)(hb:∀F,F<k->¬rA l e F):fW p 0 l=Y k:=by
 obtain⟨u,hu,hr⟩:=hk;refine(qm l 0 k).2 ⟨k,u,Q5,hu,(hp k u hu).2 hr,λm' u' hm d=>?_⟩;cases hq:p u' with
 | false=>rfl
 | true=>exact absurd ⟨_,d,(hp _ _ d).1 hq⟩ (hb _ hm)
theorem fD{p:aK->Bool}(hp:∀m u,l[m]? =Y u->(p u=AT↔yS l e m u))(d:∀k,¬rA l e k):fW p 0 l=G:=by
 refine(lV l 0).2 λu hu=>?_
 obtain⟨m,hm⟩:=L4.1 hu;cases F:p u with
 | false=>rfl
 | true=>exact absurd ⟨u,hm,(hp m u hm).1 F⟩ (d m)
theorem p0:∀m u,l[m]? =Y u->((λu=>!bG u) u=AT↔yS l 0 m u):=λm u _=>by show(!bG u)=AT↔bG u=AS;simp
theorem p1:∀m u,(h::t)[m]? =Y u->((λu:aK=>!decide (u.aA=h.aA)) u=AT↔yS (h::t) 1 m u):=λm u _=>by
 show(!decide (u.aA=h.aA))=AT↔∃u0,(h::t)[0]? =Y u0/\u.aA≠u0.aA
 rw[Ms,zG];exact⟨λe=>⟨h,rfl,e⟩,λ⟨_,d,F⟩=>by simp at d;subst d;exact F⟩
theorem rN(Tb:∀u∈l,bG u=AT)(hn:∀m,¬Tw [] l m)(i:eL):((eB i.name 0 l (0,0,0)).1=0/\iA 0 l (λ_=>G) i.name=G)\/((eB i.name 0 l (0,0,0)).1≠0/\∃v g,xF l i v g/\iA 0 l (λ_=>G) i.name=Y (g,pw l i.name)):=by
 rcases AP hn i.name with⟨h1,d,_⟩|⟨h1,b,u,e,d,F,h4⟩
 · exact .inl ⟨h1,d⟩
 obtain⟨v,g,hh⟩:=AZ Tb (i:=i) Q5;refine .inr ⟨Q5,v,g,hh,?_⟩;obtain⟨q1,f,q2,q3⟩:=hh;rw[d.1]at q1;obtain rfl:=tz q1;rw[h4];have:e.func.toNat=f:=by rw[F]at q2;omega
 rw[this,q3];show Y (g,_)=Y (g,pw l i.name)
 unfold pw;rw[F]
theorem p3(Tb:∀u∈l,bG u=AT)(hn:∀m,¬Tw [] l m):∀m u,l[m]? =Y u->((λu:aK=>u.aC.any λi=>!(iA 0 l (λ_=>G) i.name).isSome) u=AT↔yS l 3 m u):=λm u _=>by
 show(u.aC.any λi=>!(iA 0 l (λ_=>G) i.name).isSome)=AT↔∃i∈u.aC,(eB i.name 0 l (0,0,0)).1=0
 rw[Mj];constructor
 · rintro⟨i,hi,h⟩;rcases rN Tb hn i with⟨F,_⟩|⟨_,v,g,_,d⟩
   · exact⟨i,hi,F⟩
   rw[d]at h;simp at h
 rintro⟨i,hi,h⟩;rcases rN Tb hn i with⟨_,d⟩|⟨F,_⟩
 · exact⟨i,hi,by rw[d];rfl⟩
 exact absurd h F
theorem p4(Tb:∀u∈l,bG u=AT)(hn:∀m,¬Tw [] l m)(h3:∀k,¬rA l 3 k):∀m u,l[m]? =Y u->((λu:aK=>u.aC.any λi=>!jX (iA 0 l λ_=>G) i) u=AT↔yS l 4 m u):=λm u hu=>by
 show(u.aC.any λi=>!jX (iA 0 l λ_=>G) i)=AT↔∃i∈u.aC,∃v g,xF l i v g/\¬(g.aH=i.aH/\g.result=i.result)
 have key:∀i∈u.aC,∃v g,xF l i v g/\(jX (iA 0 l λ_=>G) i=AT↔g.aH=i.aH/\g.result=i.result):=by
  intro i hi;rcases rN Tb hn i with⟨h1,_⟩|⟨_,v,g,d,h2⟩
  · exact absurd ⟨u,hu,i,hi,h1⟩ (h3 m)
  refine⟨v,g,d,?_⟩;unfold jX;rw[h2];simp only[xw];exact⟨λ⟨a,b⟩=>⟨a.symm,b.symm⟩,λ⟨a,b⟩=>⟨a.symm,b.symm⟩⟩
 rw[Mj];constructor
 · rintro⟨i,hi,h⟩;obtain⟨v,g,d,F⟩:=key i hi;refine⟨i,hi,v,g,d,λhc=>?_⟩;rw[F.2 hc]at h;cases h
 rintro⟨i,hi,v,g,d,hc⟩;obtain⟨v',g',ad,F⟩:=key i hi;obtain⟨rfl,rfl⟩:=d.same ad;refine⟨i,hi,?_⟩;cases hq:jX (iA 0 l λ_=>G) i with
 | false=>rfl
 | true=>exact absurd (F.1 hq) hc
theorem my.tw(h:my l e)(he:2<e):∀m,¬Tw [] l m:=λm hm=>h 2 he m (rJ.2 hm)
theorem An(hl:D (h::t)<=6)(he:e<5)(d:my (h::t) e)(hk:rA (h::t) e k)(hb:∀k',k'<k->¬rA (h::t) e k'):dK (h::t)=.inr (th e,k):=by
 have h6:¬6<D (h::t):=Q5;unfold dK;simp only;rw[eP h6];have hc:e=0\/e=1\/e=2\/e=3\/e=4:=Q5;rcases hc with rfl|rfl|rfl|rfl|rfl
 · rw[mV p0 hk hb];rfl
 · rw[fD p0 (d 0 Q9)];simp only;rw[mV p1 hk hb];rfl
 · rw[fD p0 (d 0 Q9)];simp only;rw[fD p1 (d 1 Q9)];simp only;cases hq:g9 [] 0 (h::t) with
   | none=>exact absurd (rJ.1 hk) ((j9 _ _ _).1 hq k)
   | some q=>
    obtain⟨m,rfl,hm,U0⟩:=qi _ _ _ _ hq;have:m=k:=by
     rcases Nat.lt_trichotomy m k with IN|heq|ad
     · exact absurd (rJ.2 hm) (hb m IN)
     · exact heq
     exact absurd (rJ.1 hk) (U0 k ad)
    subst this;simp[th]
 · have Tb:=d.ok Q9;have F:=d.tw Q9;rw[fD p0 (d 0 Q9)];simp only;rw[fD p1 (d 1 Q9)];simp only;rw[(j9 _ _ _).2 F];simp only;rw[mV (p3 Tb F) hk hb];rfl
 have Tb:=d.ok Q9;have F:=d.tw Q9;rw[fD p0 (d 0 Q9)];simp only;rw[fD p1 (d 1 Q9)];simp only;rw[(j9 _ _ _).2 F];simp only;rw[fD (p3 Tb F) (d 3 Q9)];simp only;rw[mV (p4 Tb F (d 3 Q9)) hk hb];rfl
theorem CG(hl:D (h::t)<=6)(d:my (h::t) 5):dK (h::t)=if 30<(de (tgtN (h::t)) 0 0 (h::t)).2.1.length\/50<(de (tgtN (h::t)) 0 0 (h::t)).1.length\/20<(de (tgtN (h::t)) 0 0 (h::t)).2.2.length then .inr (9,0) else .inl ⟨h.aA,(de (tgtN (h::t)) 0 0 (h::t)).1,(de (tgtN (h::t)) 0 0 (h::t)).2.1,[],(de (tgtN (h::t)) 0 0 (h::t)).2.2⟩:=by
 have h6:¬6<D (h::t):=Q5;have Tb:=d.ok Q9;have F:=d.tw Q9;unfold dK;simp only;rw[eP h6,fD p0 (d 0 Q9)];simp only;rw[fD p1 (d 1 Q9)];simp only;rw[(j9 _ _ _).2 F];simp only;rw[fD (p3 Tb F) (d 3 Q9)];simp only;rw[fD (p4 Tb F (d 3 Q9)) (d 4 Q9)]
theorem DU(d:my l 5){k:R}{u:aK}(hu:l[k]? =Y u):∀i∈u.aC,pw l i.name=tgtN l i.name:=by
 intro i hi;have Tb:=d.ok Q9;have F:=d.tw Q9;rcases rN Tb F i with⟨h1,_⟩|⟨_,v,g,_,h2⟩
 · exact absurd ⟨u,hu,i,hi,h1⟩ (d 3 Q9 k)
 unfold tgtN;rw[h2]
theorem vq{N N':I AI->A}(h:∀i∈u.aC,N i.name=N' i.name)(c f:R)(x:bP):em N u c f x=em N' u c f x:=by
 unfold em;by_cases d:x.op=0
 · rw[mI d,mI d]
 rw[eP d,eP d];by_cases F:x.op=13
 · rw[mI F,mI F];cases hq:u.aC[(x.a-D u.aG).toNat]? with
   | none=>rfl
   | some g=>simp only[h g (dL hq)]
 rw[eP F,eP F]
theorem mF.start(w0 W0:T)(v1:M):mF w0 W0 W0.heap.size v1 (W0.alloc (X #[v1,J G 0 0,J G 0 0,J G 0 0,J G 0 0] 58)) (λ_=>.no) (J G 0 0) (J G 0 0) (J G 0 0) [] [] []:=
 ⟨jZ W0 _,⟨B5 _ _ _ _,λk d=>by simp[Value.ownBlock]at d⟩,⟨B5 _ _ _ _,λk d=>by simp[Value.ownBlock]at d⟩,⟨B5 _ _ _ _,λk d=>by simp[Value.ownBlock]at d⟩,λe he=>by simp at he,λb F=>absurd rfl F,λb F=>Na W0 _ F,lj,rfl,rfl,rfl⟩
theorem aY.at_low{v:M}{l:I A}(h:aY w0 v l)(g:∀b,b<w0.heap.size->w2.heap[b]? =w0.heap[b]?):aY w2 v l:=by
 obtain⟨ao,cap,hv,hm,F⟩:=h;refine⟨_,_,hv,hm,λi hi=>?_⟩;obtain⟨b,off,h1,d⟩:=F i hi;exact⟨b,_,h1,(so (g b (wI _ _ d))).trans d⟩
theorem cS.at_low{v:M}{l:I (I A)}(h:cS w0 v l)(g:∀b,b<w0.heap.size->w2.heap[b]? =w0.heap[b]?):cS w2 v l:=by
 obtain⟨ao,cap,hv,hm,F⟩:=h;refine⟨_,_,hv,hm,λi x hi=>?_⟩;obtain⟨b,off,vx,h1,d,h3⟩:=F i x hi;exact⟨b,_,_,h1,(so (g b (wI _ _ d))).trans d,h3.at_low g⟩
theorem mF.unit{cs:I A}{sh:I (I A)}(h:mF w0 W0 ub v1 w ρ v2 v3 v5 cs fs xs)(low:∀b,b<w0.heap.size->w2.heap[b]? =w0.heap[b]?)(h2:∀b,ub<b->b<w.heap.size->w2.heap[b]? =w.heap[b]?)(hs:cS w0 v1 sh)(hx:∀e∈xs,e.s.size<=maxLen):bV w2 (.agg #[v1,v2,v3,J G 0 0,v5]) ⟨sh,cs,fs.map (·.f),[],xs.map (·.p)⟩:=by
 have d:∀(e:TypeId) (n len:R) (v:M) (ys:I _),w.ownsRow _ e n v _ _->w2.ownsRow (ub+1) e n v len ys:=λe n len v ys ho=>bY ho λk hk=>h2 k (by have:=(ho.lt k hk).1;omega) (ho.lt k hk).2
 refine⟨_,_,_,_,_,rfl,hs.at_low low,nZ (d _ _ _ _ _ h.o2.1),?_,⟨_,0,rfl,Lz,λi x hi=>by simp at hi⟩,?_⟩
 · have ho:=d _ _ _ _ _ h.o3.1;obtain⟨ao,cap,hv,hm,hc⟩:=zq FJ ho Q9;refine⟨_,_,by simpa using hv,by simpa using hm,λi x hi=>?_⟩;simp only[Ha,AF]at hi;obtain⟨e,he,rfl⟩:=hi;obtain⟨b,e1,_,_,F⟩:=hc i e he;obtain⟨f1,f2,f3⟩:=h.fc e (dL he);have ad:=f3.stay (λb hb hl=>⟨h2 b (h.pl b (by rw[hb];nofun)).1 hl,hb⟩);refine⟨b,0,_,_,_,e1,F 0 Q9,F 1 Q9,F 2 Q9,F 3 Q9,f1.at_low low,f2.at_low low,?_⟩;obtain⟨ca,cc,g1,g2,g3⟩:=ad;refine⟨_,_,g1,g2,λj y hj=>?_⟩;obtain⟨bb,oo,k1,_,k3⟩:=g3 j y hj;exact⟨_,_,k1,k3⟩
 have ho:=d _ _ _ _ _ h.o5.1;obtain⟨ao,cap,hv,hm,hc⟩:=zq ER ho Q9;refine⟨_,_,by simpa using hv,by simpa using hm,λi x hi=>?_⟩;simp only[Ha,AF]at hi;obtain⟨e,he,rfl⟩:=hi;obtain⟨b,e1,_,_,F⟩:=hc i e he;exact⟨b,0,_,e1,F 0 Q9,F 1 Q9,_,rfl,rfl,hx e (dL he)⟩
def Di(l:I aK)(k:R)(cs:I A)(fs:I aQ)(xs:I cJ):Prop:=de (tgtN l) 0 0 l=(cs++(de (tgtN l) (gG l k) (cw l k) (l.drop k)).1,fs++(de (tgtN l) (gG l k) (cw l k) (l.drop k)).2.1,xs++(de (tgtN l) (gG l k) (cw l k) (l.drop k)).2.2)
theorem Di.start(l:I aK):Di l 0 [] [] []:=rfl
theorem Di.step{cs:I A}{fs:I aQ}{xs:I cJ}(h:Di l k cs fs xs)(hu:l[k]? =Y u):Di l (k+1) (cs++u.aE) (fs++u.aG.map (nY (tgtN l) u (gG l k) (cw l k))) (xs++u.aD.map (mq (cw l k))):=by
 unfold Di at h |-;obtain⟨d,rfl⟩:=dm.1 hu;rw[h,Be d,de,lK hu,i8 hu];simp only[zx]
theorem Di.last{cs:I A}{fs:I aQ}{xs:I cJ}(h:Di l (D l) cs fs xs):de (tgtN l) 0 0 l=(cs,fs,xs):=by
 unfold Di at h;rw[h,Ln,de];simp
theorem bV.funcAll{a3:By Addr}{c3:R}(h:bV w (.agg #[v1,v2,J a3 (D u.aG) c3,v4,v5]) u){i:R}{g:aQ}(hg:u.aG[i]? =Y g):∃fb d F pc la lc ka kc,a3=Y (Q fb d G)/\H w ⟨fb,d+i*4,G⟩=Y (J F (D g.aH) pc)/\H w ⟨fb,d+i*4+1,G⟩=Y (O Z g.result)/\H w ⟨fb,d+i*4+2,G⟩=Y (J la (D g.aI) lc)/\H w ⟨fb,d+i*4+3,G⟩=Y (J ka (D g.code) kc)/\aY w (J F (D g.aH) pc) g.aH/\aY w (J la (D g.aI) lc) g.aI/\eC w (J ka (D g.code) kc) g.code:=by
 obtain⟨y1,y2,y3,y4,y5,hv,k1,k2,k3,k4,k5⟩:=h;simp only[Ch,FL,Bk,I7]at hv;obtain⟨rfl,rfl,rfl,rfl,rfl⟩:=hv;obtain⟨ao,cp,hv,hm,hx⟩:=k3;simp only[jj,Bt]at hv;obtain⟨rfl,rfl⟩:=hv;obtain⟨fb,d,vp,vl,vc,q1,q2,q3,q4,q5,q6,q7,q8⟩:=hx i g hg;obtain⟨F,pc,rfl⟩:=q6.shape;obtain⟨la,lc,rfl⟩:=q7.shape;obtain⟨ka,kc,rfl⟩:=q8.shape;exact⟨_,_,_,_,_,_,_,_,q1,q2,q3,q4,q5,q6,q7,q8⟩
theorem bV.expAll{a5:By Addr}{c5:R}(h:bV w (.agg #[v1,v2,v3,v4,J a5 (D u.aD) c5]) u){i:R}{e:cJ}(he:u.aD[i]? =Y e):∃d F s,a5=Y (Q d F G)/\H w ⟨d,F+i*2,G⟩=Y (.string s)/\s.data.toList=e.name/\s.size<=maxLen/\H w ⟨d,F+i*2+1,G⟩=Y (O Z e.func):=by
 obtain⟨y1,y2,y3,y4,y5,hv,k1,k2,k3,k4,k5⟩:=h;simp only[Ch,FL,Bk,I7]at hv;obtain⟨rfl,rfl,rfl,rfl,rfl⟩:=hv;obtain⟨ao,cp,hv,hm,hx⟩:=k5;simp only[jj,Bt]at hv;obtain⟨rfl,rfl⟩:=hv;obtain⟨d,F,vs,q1,q2,q3,s,rfl,q5,q6⟩:=hx i e he;exact⟨_,_,s,q1,q2,q5,q6,q3⟩
theorem FW(F:bG u=AT){e:cJ}(he:e∈u.aD):0<=e.func/\e.func<=30:=by
 have hl:=(kS F).2.2.2.1;obtain⟨_,_,_,_,d⟩:=km F;simp only[cH,sQ,zl]at d;have hx:=d.2 e he;simp only[fi,wB,sQ,xw]at hx;omega
theorem eC.at_{d:By Addr}{kc:R}{l:I bP}(h:eC w (J d (D l) kc) l){j:R}{x:bP}(hx:l[j]? =Y x):∃b o,d=Y (Q b o G)/\H w ⟨b,o+j*3,G⟩=Y (O Z x.op)/\H w ⟨b,o+j*3+1,G⟩=Y (O Z x.a)/\H w ⟨b,o+j*3+2,G⟩=Y (O Z x.b):=by
 obtain⟨ao,cap,hv,hm,F⟩:=h;simp only[jj,Bt]at hv;obtain⟨rfl,rfl⟩:=hv;exact F j x hx
theorem Fg(Tb:bG u=AT){g:aQ}(hg:g∈u.aG){x:bP}(hx:x∈g.code):0<=x.a/\x.a<=65535\/(x.op≠0/\x.op≠13):=by
 obtain⟨_,_,h3,_,_⟩:=km Tb;simp only[cO,sQ,zl]at h3;have hf:=h3.2 g hg;simp only[dA,ir,sQ,zl]at hf;have hi:=hf.2.2.2.2 x hx;by_cases F:x.op=0
 · left
   simp[bl,ah,bR,wB,F]at hi
   omega
 by_cases d:x.op=13
 · left
   simp[bl,ah,bR,wB,d]at hi
   omega
 exact .inr ⟨F,d⟩
theorem D4(d:my l 5){k:R}{u:aK}(hu:l[k]? =Y u):∀i∈u.aC,∃v g,xF l i v g:=λi hi=>AZ (d.ok Q9) λF=>d 3 Q9 k ⟨u,hu,i,hi,F⟩
theorem mF.free{cs:I A}(h:mF w0 W0 ub v1 w ρ v2 v3 v5 cs fs xs){F:R}(hu:ub<F)(hn:ρ F=.no)(hs:w.heap.size<=w'.heap.size)(hb:∀b,b≠F->w'.heap[b]? =w.heap[b]?)(he:w'.os=w.os/\w'.tape=w.tape/\w'.output=w.output):mF w0 W0 ub v1 w' ρ v2 v3 v5 cs fs xs:=by
 have hk:∀(r:BR) (e:TypeId) (n len:R) (v:M) (ys:I _),r≠.no->jC ρ r w _ e n v _ ys->jC _ r _ (ub+1) e n v len _:=λr e n len v ys hr ho=>⟨bY ho.1 λk hk=>hb k (λe=>hr (by rw[<-ho.2 k hk,e];exact hn)),ho.2⟩
 refine⟨(hb _ Q5).trans h.box,hk _ _ _ _ _ _ nofun h.o2,hk _ _ _ _ _ _ nofun h.o3,hk _ _ _ _ _ _ nofun h.o5,λe hm=>⟨(h.fc e hm).1,(h.fc e hm).2.1,(h.fc e hm).2.2.stay λb hd _=>⟨hb b (λe=>by rw[e]at hd;rw[hn]at hd;cases hd),hd⟩⟩,λb d=>⟨(h.pl b d).1,tu (h.pl b d).2 hs⟩,λb d=>(hb b Q5).trans (h.low b d),h.ubl,he.1.trans h.env.1,he.2.1.trans h.env.2.1,he.2.2.trans h.env.2.2⟩
theorem jC.free{db:R}{r:BR}{e:TypeId}{n len:R}{v:M}{ys:I M}(h:jC ρ r w (db+1) e n v len ys){d:R}(hr:r≠.no)(hn:ρ d=.no)(hb:∀b,b≠d->w'.heap[b]? =w.heap[b]?):jC ρ r w' (db+1) e n v len ys:=
 ⟨bY h.1 λk F=>hb k (λe=>hr (by rw[<-h.2 k F,e];exact hn)),h.2⟩
theorem GA{vc:M}{l:I bP}(h:jC ρ (.ls 8 0) w (ub+1) 87 3 vc (D l) (l.flatMap cC)):kG (λb=>fin (.ls 8 0) ρ b=.dn) w vc l:=by
 obtain⟨ao,cap,hv,hm,hc⟩:=zq nI h.1 Q9;refine⟨_,_,hv,hm,λi x hi=>?_⟩;obtain⟨b,e1,_,F,d⟩:=hc i x hi;exact⟨b,0,e1,by show fin (.ls 8 0) ρ b=.dn;unfold fin;exact mI (h.2 b F),d 0 Q9,d 1 Q9,d 2 Q9⟩
end Go.Proofs.YtghjmnlapcpbiaaGreatDoor
