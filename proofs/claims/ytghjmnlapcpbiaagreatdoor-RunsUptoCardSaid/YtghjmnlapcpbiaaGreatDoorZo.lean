import Derived.Test.YtghjmnlapcpbiaaGreatDoorZkE
namespace Go.Proofs.YtghjmnlapcpbiaaGreatDoor
open _root_ renaming Option.some->Y,Option.none->G,Go.Value.int->O,Go.IntKind.i64->Z,Go.Value.slice->J,List->I,Nat->R,Int->A,Go.World.cell?->H,List.length->D,Go.Obj.cells->X,Go.Value->M,Go.World->T,Go.Addr.mk->Q,Go.RowKit.Hid->U,UInt8->AI,Bool.false->AS,Bool.true->AT,Option->By
open Go.Proofs.Tryz
set_option linter.unusedVariables false
set_option linter.unusedSimpArgs false
open Go.RowKit
attribute [local go_sem ↓] Go.wp_at_zero Go.wp_at_succ
structure Ky(W0:T)(u:aK)(f:aQ)(v1 v2 v3 v4 v5 vc:M):Prop where
 sh:cS W0 v1 u.aA
 co:∃ao cap,v2=J ao (D u.aE) cap
 fu:eE W0 v3 u.aG
 im:dS W0 v4 u.aC
 ex:∃ao n cap,v5=J ao n cap
 l2:D u.aE<=1000000
 l3:D u.aG<=1000000
 l4:D u.aC<=1000000
 cd:eC W0 vc f.code
 ok:f.code.all bl=AT
theorem LO{w w1:T}{t d:TypeId}(g:Gr ((w.alloc (X #[O Z 0,O Z 0,O Z 0] t)).alloc (X #[O Z 0,O Z 0,O Z 0] d)).drew w1):H w1 ⟨w.heap.size+1,0,G⟩=Y (O Z 0)/\H w1 ⟨w.heap.size+1,1,G⟩=Y (O Z 0)/\H w1 ⟨w.heap.size+1,2,G⟩=Y (O Z 0)/\w1.frozen? ⟨w.heap.size+1,0,G⟩=AS/\w1.frozen? ⟨w.heap.size+1,1,G⟩=AS/\w1.frozen? ⟨w.heap.size+1,2,G⟩=AS:=by
 have:=z3 (w:=w.alloc (X #[O Z 0,O Z 0,O Z 0] t)) (t:=d) g
 simpa using this
theorem oa{s':I A}{q t:R}{l:I (By R)}{st:R->By (I A)}{s0:I A}(h:st t=Y s0)(No:¬s0=s'):dB s' q (Y t::l) st=.inl t:=by
 simp[dB,h,No]
theorem ov{s':I A}{q t:R}{l:I (By R)}{st:R->By (I A)}(h:st t=G\/st t=Y s'):dB s' q (Y t::l) st=dB s' q l (λj=>if j=t then Y s' else st j):=by
 rcases h with h|h
 · simp[dB,h]
 have e:(λj=>if j=t then Y s' else st j)=st:=by
  funext j
  by_cases d:j=t
  · rw[mI d,d,h]
  rw[eP d]
 rw[e];simp[dB,h]
theorem Tryz.callUnless(vals:Array M)(w:T):(callFunc 53 vals).run Tryz.prog w=.ok (.enter 53 vals) w:=Q7
theorem Tryz.callConcat(vals:Array M)(w:T):(callFunc 129 vals).run Tryz.prog w=.ok (.enter 129 vals) w:=Q7
theorem Tryz.callEqual(vals:Array M)(w:T):(callFunc 74 vals).run Tryz.prog w=.ok (.enter 74 vals) w:=Q7
theorem LN{w w1:T}{t:TypeId}(g:Gr (w.alloc (X #[J G 0 0,J G 0 0] t)).drew w1):H w1 (Q w.heap.size 0 G)=Y (J G 0 0)/\H w1 (Q w.heap.size 1 G)=Y (J G 0 0)/\w1.frozen? ⟨w.heap.size,0,G⟩=AS/\w1.frozen? ⟨w.heap.size,1,G⟩=AS:=by
 have d:w1.heap[w.heap.size]? =Y (X #[J G 0 0,J G 0 0] t (0,0)):=(g.block w.heap.size Q6 Q6).trans (jZ w _);refine⟨?_,?_,?_,?_⟩
 · rw[aS d];rfl
 · rw[aS d];rfl
 · exact bE d
 exact bE d
structure K_(w wx:T)(ts ps:I A)(eb:R)(vt vp:M):Prop where
 gr:Gr w wx
 el:w.heap.size<=eb
 e0:H wx (Q eb 0 G)=Y vt
 e1:H wx (Q eb 1 G)=Y vp
 rt:aY wx vt ts
 rp:aY wx vp ps
def Ko(w:T)(ts ps:I A)(a7:M)(wx:T):Prop:=∃eb vt vp,a7=.pointer (Y (Q eb 0 G))/\K_ w wx ts ps eb vt vp
theorem Tryz.callEffect(vals:Array M)(w:T):(callFunc 157 vals).run Tryz.prog w=.ok (.enter 157 vals) w:=Q7
theorem Qk{p:Prop}(h:p:=by repeat (first|with_reducible exact G0|with_reducible assumption|with_reducible refine Gr.drew ?_|with_reducible refine Gr.alloc ?_ _|with_reducible refine cA ?_ (by first|(simp;done)|omega)|with_reducible refine Gr.trans ?_ (by with_reducible assumption))):p:=h
theorem QK{p:Prop}(h:p:=by with_reducible assumption):p:=h
theorem Re{p:Prop}(h:p:=by rw[aS h2.box];rfl):p:=h
theorem RU{p:Prop}(h:p:=by rintro(h|h);omega;exact h HE.j):p:=h
theorem SC{p:Prop}(h:p:=by have:=S5.size;first|(simp at this;omega)|(simpa using this)):p:=h
set_option maxRecDepth 100000 in
set_option maxHeartbeats 4000000 in
theorem Fc(W0:T)(lb mb B:R)(v1 v2 v3 v4 v5 vs:M)(u:aK)(f:aQ)(n:R)(vc:M)(hU:Ky W0 u f v1 v2 v3 v4 v5 vc):
 Hs W0 lb mb B v1 v2 v3 v4 v5 vs (f.aH++f.aI) u f n vc:=by
 intro w vw st dn m l k q i s cy hi Tj;have HL:=aJ cy;have HU:=aJ hU;have HI:=aJ hi;have Tv:=aJ Tj;obtain⟨hr,fm,ej⟩:=cy.sts q s Tj;obtain⟨az,ai,rfl⟩:=ej.to.shape;have WD:=aJ ej;have hI:q<D f.code:=(dm.1 hi).1;obtain⟨hC,cc,rfl,gV,fg⟩:=hU.cd;obtain⟨cb,F,rfl,k0,k1,k2⟩:=fg q i hi;have hs:=cy.small;have KS:U (∀w',Gr w w'->H w' (Q lb 9 G)=Y (J (Y (Q cb F G)) (D f.code) cc)/\H w' (Q lb 10 G)=Y (.map (Y mb))/\H w' ⟨cb,F+q*3,G⟩=Y (O Z i.op)/\H w' ⟨cb,F+q*3+1,G⟩=Y (O Z i.a)/\H w' ⟨cb,F+q*3+2,G⟩=Y (O Z i.b)/\(Instr.lookup 171 (.map (Y mb)) (O Z (q:A)) AS).run prog w'=.ok (J az (D s) ai) w'):=aJ (λw' g=>by
  have h2:=HL.j.gr g;have g0:=(qK HL.j.low).trans g;have e:=h2.mp.look1 q Q5;rw[fm]at e;exact⟨Re,Re,g0.cell k0 Q6,g0.cell k1 Q6,g0.cell k2 Q6,e⟩)
 have dO:U (∀w',Gr w w'->Calls prog 155 #[.pointer (Y (Q lb 0 G)),O Z (q:A)] w' λx w2=>x=.returned (.agg #[O Z 10,O Z (n:A),O Z (q:A)])/\Gr w' w2):=aJ (λw' g=>uN lb n q w' (by rw[aS (HL.j.gr g).box];rfl));have hv:(q:A)<(D f.code:A):=Q5;have hx:q<=1000:=Q5;clear cy hU hi Tj ej fg k0 k1 k2 fm gV;go_enter func132,ntmps132
 go_upto_region 0 with fail
 go_cut [4,5,6] from 7 λa4 a5 a6 wx=>Ki w i n q (J az (D s) ai) a4 a5 a6 wx
 case first=>
  go_region_held3 (λw'=>H w' (Q lb 9 G)=Y (J (Y (Q cb F G)) (D f.code) cc)/\H w' (Q lb 10 G)=Y (.map (Y mb))/\H w' ⟨cb,F+q*3,G⟩=Y (O Z i.op)/\H w' ⟨cb,F+q*3+1,G⟩=Y (O Z i.a)/\H w' ⟨cb,F+q*3+2,G⟩=Y (O Z i.b)/\(Instr.lookup 171 (.map (Y mb)) (O Z (q:A)) AS).run prog w'=.ok (J az (D s) ai) w') (first|exact KS.j _ (by repeat (first|with_reducible exact G0|with_reducible assumption|with_reducible refine Gr.drew ?_|with_reducible refine Gr.alloc ?_ _|with_reducible refine cA ?_ Q6|with_reducible refine Gr.trans ?_ QK))) (first|(go_at_call 155;refine(dO.j _ (by repeat (first|with_reducible exact G0|with_reducible assumption|with_reducible refine Gr.drew ?_|with_reducible refine Gr.alloc ?_ _|with_reducible refine Gr.trans ?_ QK))).mono ?_;rintro x w1 ⟨rfl,S5⟩;have e3:w.heap.size<=w1.heap.size:=SC;first|(have Ty:=LI S5;have TO:=LO S5;obtain⟨z0,z1,z2,e7,gf,g4⟩:=Ty;obtain⟨y0,y1,y2,hz,hJ,hE⟩:=TO)|(have Ty:=z3 S5;have e4:w.heap.size<w1.heap.size:=(by have:=S5.size;simp at this;omega);have ho:¬w.heap.size=w1.heap.size:=Nat.ne_of_lt e4;obtain⟨z0,z1,z2,e7,gf,g4⟩:=Ty;have hM:=λo=>z3 (Gr.alloc S5 o))|skip))
  all_goals
   go_wp2_with fail;go_meet
   refine⟨_,_,rfl,rfl,rfl,?_⟩;clear KS dO HL HU WD HI Tv;constructor
   · repeat (first|with_reducible exact G0|with_reducible assumption|with_reducible refine Gr.drew ?_|with_reducible refine Gr.alloc ?_ _|with_reducible refine cA ?_ (by first|(simp;done)|omega)|with_reducible refine Gr.trans ?_ QK)
   · first|(simp;done)|(simp;omega)|omega
   · first|(simp;done)|(simp;omega)|omega
   all_goals first|(simp[go_sem];done)|(simp[go_sem, *];done)|trace_state
 case rest=>
  obtain⟨ib,wb,rfl,rfl,rfl,en⟩:=hcut;obtain⟨wA,hA⟩:∃x,x=wc:=⟨wc,rfl⟩;subst hA;have bt:=aJ en;have bC:=aJ (HL.j.gr en.gr);have a':bl i=AT:=zl.1 HU.j.ok i (dL HI.j);obtain⟨a2,c2,gF⟩:=HU.j.co;obtain⟨a1,c1,hn⟩:=HU.j.sh.shape;obtain⟨a3,c3,g1⟩:=HU.j.fu.shape;obtain⟨a4,c4,hh⟩:∃ao cap,v4=J ao (D u.aC) cap:=by obtain⟨ao,cap,h,_⟩:=HU.j.im;exact⟨ao,cap,h⟩
  obtain⟨a5,n5,c5,hc⟩:=HU.j.ex;obtain⟨al,cl,gB⟩:=HL.j.slt.to.shape;subst hn gF g1 hh hc gB;generalize Tn:f.aH++f.aI=sl at *;have Us:=aJ Tn;clear Tn;have bF:U (∀w',Gr wA w'->Calls prog 157 #[.agg #[J a1 (D u.aA) c1,J a2 (D u.aE) c2,J a3 (D u.aG) c3,J a4 (D u.aC) c4,J a5 n5 c5,J al (D sl) cl,O Z (D f.code:A),O Z f.result],.agg #[O Z i.op,O Z i.a,O Z i.b],J az (D s) ai,.agg #[O Z 10,O Z (n:A),O Z (q:A)]] w' (kR (bq u f i s) n q w')):=aJ (λw' g=>by
   have g0:=(qK bC.j.low).trans g;have hS:Sc w' u (f.aH++f.aI) (J a1 (D u.aA) c1) (J a2 (D u.aE) c2) (J a3 (D u.aG) c3) (J a4 (D u.aC) c4) (J al (D sl) cl):=⟨HU.j.sh.gr g0,⟨_,_,rfl⟩,HU.j.fu.gr g0,HU.j.im.gr g0,by rw[Us.j];exact(bC.j.gr g).slt.to,HU.j.l2,HU.j.l3,HU.j.l4⟩;exact Ah u f i a' s _ _ _ _ _ _ _ _ _ w' w' hS G0 (WD.j.to.gr (bt.j.gr.trans g)) Q5)
  have cB:U (∀w',Gr wA w'->H w' (Q lb 0 G)=Y (J a1 (D u.aA) c1)/\H w' (Q lb 1 G)=Y (J a2 (D u.aE) c2)/\H w' (Q lb 2 G)=Y (J a3 (D u.aG) c3)/\H w' (Q lb 3 G)=Y (J a4 (D u.aC) c4)/\H w' (Q lb 4 G)=Y (J a5 n5 c5)/\H w' (Q lb 5 G)=Y (J al (D sl) cl)/\H w' (Q lb 6 G)=Y (O Z (D f.code:A))/\H w' (Q lb 7 G)=Y (O Z f.result)/\H w' (Q ib 0 G)=Y (O Z i.op)/\H w' (Q ib 1 G)=Y (O Z i.a)/\H w' (Q ib 2 G)=Y (O Z i.b)/\H w' (Q wb 0 G)=Y (O Z 10)/\H w' (Q wb 1 G)=Y (O Z (n:A))/\H w' (Q wb 2 G)=Y (O Z (q:A))):=aJ (λw' g=>by
   have h2:=bC.j.gr g;have h3:=bt.j.go g;exact⟨Re,Re,Re,Re,Re,Re,Re,Re,h3.c0,h3.c1,h3.c2,h3.y0,h3.y1,h3.y2⟩)
  have cf:U (∀w',Gr wA w'->Below W0.heap.size W0 w'):=aJ λw' g=>(bC.j.gr g).low;clear en KS dO a';cases bp:bq u f i s with
  | none=>
   have TB:U (iR u f q i s st=.inl q):=aJ (by unfold iR kL;rw[bp]);rw[bp]at bF;clear bp;obtain⟨l0,l1,l2,l3,l4,l5,l6,l7,i0,i1,i2,y0,y1,y2⟩:=cB.j wA G0;obtain⟨m0,m1,m2,m3,m4,m5,m6,m7,j0,j1,j2,z0,z1,z2⟩:=cB.j _ (Gr.alloc (Gr.refl wA) (X #[J G 0 0,J G 0 0] 265));go_upto_region 1 with fail
   go_region_law (first|(refine n_ rfl 157 _ _ rfl #[.agg #[J a1 (D u.aA) c1,J a2 (D u.aE) c2,J a3 (D u.aG) c3,J a4 (D u.aC) c4,J a5 n5 c5,J al (D sl) cl,O Z (D f.code:A),O Z f.result],.agg #[O Z i.op,O Z i.a,O Z i.b],J az (D s) ai,.agg #[O Z 10,O Z (n:A),O Z (q:A)]] Rs (Tryz.callEffect _ _) ((bF.j _ Q3).mono ?_);rintro x w' ⟨BY,rfl⟩;refine⟨_,rfl,?_⟩;refine an ?_))
   all_goals exact⟨rfl,by rw[TB.j];exact⟨rfl,cf.j _ (Gr.trans Q3 BY)⟩⟩
  | some tp=>
   obtain⟨ts,ps⟩:=tp;rw[bp]at bF;have aD:=aJ bp;clear bp;go_upto_region 1 with fail
   go_cut [7] from 8 λa7 wx=>Ko wA ts ps a7 wx
   case first=>
    go_region_held3 (λw'=>H w' (Q lb 0 G)=Y (J a1 (D u.aA) c1)/\H w' (Q lb 1 G)=Y (J a2 (D u.aE) c2)/\H w' (Q lb 2 G)=Y (J a3 (D u.aG) c3)/\H w' (Q lb 3 G)=Y (J a4 (D u.aC) c4)/\H w' (Q lb 4 G)=Y (J a5 n5 c5)/\H w' (Q lb 5 G)=Y (J al (D sl) cl)/\H w' (Q lb 6 G)=Y (O Z (D f.code:A))/\H w' (Q lb 7 G)=Y (O Z f.result)/\H w' (Q ib 0 G)=Y (O Z i.op)/\H w' (Q ib 1 G)=Y (O Z i.a)/\H w' (Q ib 2 G)=Y (O Z i.b)/\H w' (Q wb 0 G)=Y (O Z 10)/\H w' (Q wb 1 G)=Y (O Z (n:A))/\H w' (Q wb 2 G)=Y (O Z (q:A))) (exact cB.j _ Qk) (first|(go_at_call 157;refine(bF.j _ Qk).mono ?_;rintro x w1 ⟨S5,vt,vp,rfl,ec,dT⟩;obtain⟨xt,ct,rfl⟩:=ec.shape;obtain⟨xp,cp,rfl⟩:=dT.shape;have c':=aJ ec;have dd:=aJ dT;clear ec dT;have e3:wA.heap.size<=w1.heap.size:=SC;first|(have Ty:=LN S5;obtain⟨z0,z1,e7,gf⟩:=Ty)|skip))
    all_goals
     go_wp2_with fail;go_meet
     refine⟨_,J xt (D ts) ct,J xp (D ps) cp,rfl,?_⟩;clear cB bF HL HU WD HI Tv bC cf;constructor
     · exact Qk
     · first|(simp;done)|(simp;omega)|omega
     · first|(simp[go_sem];done)|(simp[go_sem, *];done)|trace_state
     · first|(simp[go_sem];done)|(simp[go_sem, *];done)|trace_state
     · first|exact c'.j.gr G5|exact mL c'.j z0 z1
     first|exact dd.j.gr G5|exact mL dd.j z0 z1
   case rest=>
    obtain⟨eb,vt,vp,rfl,aM⟩:=hcut;obtain⟨xt,ct,rfl⟩:=aM.rt.shape;obtain⟨xp,cp,rfl⟩:=aM.rp.shape;have UD:=aJ aM;have b4:=aJ (bC.j.gr aM.gr);have bL:U (∀w',Gr wc w'->Below W0.heap.size W0 w'):=aJ λw' g=>(b4.j.gr g).low;have aB:U (∀w',Gr wc w'->H w' (Q ib 0 G)=Y (O Z i.op)/\H w' (Q ib 1 G)=Y (O Z i.a)/\H w' (Q ib 2 G)=Y (O Z i.b)/\H w' (Q wb 0 G)=Y (O Z 10)/\H w' (Q wb 1 G)=Y (O Z (n:A))/\H w' (Q wb 2 G)=Y (O Z (q:A))/\H w' (Q eb 0 G)=Y (J xt (D ts) ct)/\H w' (Q eb 1 G)=Y (J xp (D ps) cp)/\H w' (Q lb 9 G)=Y (J (Y (Q cb F G)) (D f.code) cc)):=aJ (λw' g=>by
     have h2:=b4.j.gr g;have h3:=bt.j.go (UD.j.gr.trans g);exact⟨h3.c0,h3.c1,h3.c2,h3.y0,h3.y1,h3.y2,g.cell UD.j.e0 Q6,g.cell UD.j.e1 Q6,Re⟩)
    have b':=aJ (WD.j.to.gr (bt.j.gr.trans UD.j.gr));have c':=aJ aM.rt;have dd:=aJ aM.rp;have gp:D s<=20:=HL.j.len q s Tv.j;have cn:D s<=ai:=WD.j.cap;have g2:D ts<=maxLen:=by obtain⟨_,_,_,h,_⟩:=aM.rt;exact h
    unfold maxLen at g2;obtain⟨i0,i1,i2,y0,y1,y2,t0,t1,c9⟩:=aB.j wc G0;have cv:Z.wrap ((D s:A)-(D ts:A))=(D s:A)-(D ts:A):=Q_;clear aM;by_cases hle:D ts<=D s
    · obtain⟨d,hd⟩:∃d:R,d=D s-D ts:=⟨_,rfl⟩;have gb:(D s:A)-(D ts:A)=(d:A):=by omega
      have g':=cv.trans gb;have HD:=aJ hd;have fz:d<=D s:=Q5;have hB:(d:A)<=(D s:A):=Q5;have hG:d<=ai:=Q5;have hq:(d:A)<=(ai:A):=Q5;have gW:decide ((0:A)<=(d:A))=AT:=Q6;clear gb hd cv;go_upto_region 3 with fail
      have KT:U (∀w',Gr wc w'->H w' (Q wb 0 G)=Y (O Z 10)/\H w' (Q wb 1 G)=Y (O Z (n:A))/\H w' (Q wb 2 G)=Y (O Z (q:A))/\H w' (Q eb 0 G)=Y (J xt (D ts) ct)):=aJ (λw' g=>by obtain⟨_,_,_,a,b,c,d,_,_⟩:=aB.j w' g;exact⟨a,b,c,d⟩);refine xE (S:=(λw'=>H w' (Q wb 0 G)=Y (O Z 10)/\H w' (Q wb 1 G)=Y (O Z (n:A))/\H w' (Q wb 2 G)=Y (O Z (q:A))/\H w' (Q eb 0 G)=Y (J xt (D ts) ct))) Q7 (⟨y0,y1,y2,t0⟩) λhH=>?_;refine tL 0 ?_;refine tL 1 ?_;refine tL 2 ?_;refine tL 3 ?_;refine tL 4 ?_;refine tL 5 ?_;refine tL 6 ?_;refine tL 7 ?_;refine tL 8 ?_;refine bQ (i:=9) rfl Q7 λK hK=>?_;refine am rfl 74 _ _ rfl #[J (if ai=d then az else Option.map (λx=>x.add d) az) (D s-d) (ai-d),J xt (D ts) ct] fZ (Tryz.callEqual _ _) ((oF _ _ (s.drop d) ts _ ((Ai b'.j cn fz).gr Q3) (c'.j.gr Q3)).mono ?_);rintro x w2 ⟨rfl,IT⟩;have OF:U (Gr wc w2):=aJ (Gr.trans Q3 IT);refine .inl ⟨_,rfl,?_⟩;clear IT;by_cases he:s.drop d=ts
      · have b1:decide (s.drop d=ts)=AT:=by simpa using he
        rw[b1];have HE:=aJ he;clear b1 he;refine hK.out _ _ (KT.j _ OF.j) λhH=>?_;clear hK;try simp only[Act.put,sA,s0,s1]
        refine tL 10 ?_;refine bQ (i:=11) rfl Q7 λK hK=>?_;refine am rfl 53 _ _ rfl #[.agg #[O Z 10,O Z (n:A),O Z (q:A)],.bool AT] fZ (Tryz.callUnless _ _) ((dP _ _ _ _).mono ?_);rintro x w3 ⟨rfl,Ta⟩;have Te:U (Gr wc w3):=aJ (OF.j.trans Ta);refine .inl ⟨_,rfl,?_⟩;clear Ta;refine hK.out _ _ (KT.j _ Te.j) λhH=>?_;clear hK;try simp only[Act.put,sA,s0,s1]
        refine Ev Q7 ?_ _;generalize e2:(if ai=d then az else Option.map (λx=>x.add d) az)=ht;clear e2;have e5:i.op=14->d=0->kL u f i s=Y (s.take d++ps):=λTM h0=>by
         unfold kL;rw[aD.j];simp only[];rw[<-HD.j,eP RU,mI TM,mI (by have:=HD.j;omega)]
        have e':i.op=14->¬d=0->kL u f i s=G:=λTM h0=>by
         unfold kL;rw[aD.j];simp only[];rw[<-HD.j,eP RU,mI TM,eP (by have:=HD.j;omega)]
        have gg:¬i.op=14->D (s.take d++ps)<=20->kL u f i s=Y (s.take d++ps):=λTM h0=>by
         unfold kL;rw[aD.j];simp only[];rw[<-HD.j,eP RU,eP TM,mI h0]
        have f':¬i.op=14->¬D (s.take d++ps)<=20->kL u f i s=G:=λTM h0=>by
         unfold kL;rw[aD.j];simp only[];rw[<-HD.j,eP RU,eP TM,eP h0]
        have b8:=aJ e5;have b6:=aJ e';have b2:=aJ gg;have b3:=aJ f';obtain⟨i0,i1,i2,y0,y1,y2,t0,t1,c9⟩:=aB.j w3 Te.j;clear e5 e' gg f' hle gW;by_cases TM:i.op=14
        · have hb:(i.op==14)=AT:=by simpa using TM
          by_cases bB:d=0
          · have g3:((d:A)==0)=AT:=by simpa using bB
            have TB:U (iR u f q i s st=.inr st):=aJ (by unfold iR;rw[b8.j TM bB];simp[ch,TM,dB]);clear b8 b6 b2 b3 bB TM;go_wp2_with(go_at_call 53;refine(dP _ _ _ _).mono ?_;rintro e w' ⟨rfl,BY⟩)
            go_end0
            rw[TB.j];exact⟨rfl,vw,m,l,k,b4.j.gr (Te.j.trans BY)⟩
          have g3:((d:A)==0)=AS:=by simpa using bB
          have TB:U (iR u f q i s st=.inl q):=aJ (by unfold iR;rw[b6.j TM bB]);clear b8 b6 b2 b3 bB TM;go_wp2_with(go_at_call 53;refine(dq _ _ _ _).mono ?_;rintro e w' ⟨rfl,BY⟩)
          exact⟨rfl,by rw[TB.j];exact⟨rfl,bL.j _ (Te.j.trans BY)⟩⟩
        have hb:(i.op==14)=AS:=by simpa using TM
        go_upto_region 6 with fail
        have KP:U (∀w',Gr wc w'->H w' (Q eb 1 G)=Y (J xp (D ps) cp)):=aJ (λw' g=>by obtain⟨_,_,_,_,_,_,_,a,_⟩:=aB.j w' g;exact a);refine xE (S:=(λw'=>H w' (Q eb 1 G)=Y (J xp (D ps) cp))) Q7 (t1) λhH=>?_;refine tL 0 ?_;refine tL 1 ?_;refine tL 2 ?_;refine tL 3 ?_;refine tL 4 ?_;refine bQ (i:=5) rfl Q7 λK hK=>?_;refine aW bZ ?_;go_simp
        refine hK.out _ _ (KP.j _ (Gr.alloc (Gr.drew Te.j) _)) λhH=>?_;clear hK;try simp only[Act.put,sA,s0,s1]
        refine bQ (i:=6) rfl Q7 λK hK=>?_;refine am rfl 129 _ _ rfl #[J (Y (Q w3.heap.size 0 G)) 2 2] fZ (Tryz.callConcat _ _) ((sK w3.heap.size (J az d ai) (J xp (D ps) cp) (s.take d) ps _ Ql Ql ((tE (b'.j.gr Te.j) fz).gr Q3) ((dd.j.gr Te.j).gr Q3) Sj (by have:=uT aD.j;omega)).mono ?_);rintro x w4 ⟨v4,rfl,ds,ga⟩;have hL:D (s.take d++ps)<=1000:=by have:=uT aD.j;rw[fe,Bc];omega
        generalize gw:s.take d++ps=s' at *;clear gw;obtain⟨a6,c6,rfl⟩:=aR ds;have Tg:U (Gr wc w4):=aJ (Te.j.trans (Gr.trans Q3 ga));have Ve:w.heap.size<=w3.heap.size:=((bt.j.gr.trans UD.j.gr).trans Te.j).size;have fv:U (dY (Sb B vw) w4 (J a6 (D s') c6) s'):=aJ ((i_ ds).mono λb hb hl=>⟨rfl,by
         have h1:w3.heap.size+1<=b:=by simpa using hb.1
         have h2:=HL.j.bs;exact⟨Q5,λe=>by have:=(Lm HL.j.row b e).2;omega⟩⟩)
        refine .inl ⟨_,rfl,?_⟩;clear ga ds;refine hK.out _ _ (KP.j _ Tg.j) λhH=>?_;clear hK;try simp only[Act.put,sA,s0,s1]
        refine tL 7 ?_;refine Ev Q7 ?_ _;obtain⟨i0,i1,i2,y0,y1,y2,t0,t1,c9⟩:=aB.j w4 Tg.j;by_cases b7:D s'<=20
        · have bk:(D s':A)<=20:=by omega
          have ha:=aJ (b2.j TM b7);have af:U (iR u f q i s st=dB s' q (ch f q i) st):=aJ (by unfold iR;rw[ha.j]);have ez:decide ((D s':A)<=20)=AT:=by simpa using bk
          have eo:decide (D s'<=20)=AT:=by simpa using b7
          have bj:=aJ b7;clear b8 b6 b2 b3;have a':bl i=AT:=zl.1 HU.j.ok i (dL HI.j);have bg:=Bn a';by_cases TC:i.op=11
          · have eV:(i.op !=11)=AS:=by simp[TC]
            have ep:(i.op==11)=AT:=by simp[TC]
            obtain⟨ta,a8⟩:∃ta:R,i.a=(ta:A):=⟨i.a.toNat,Q5⟩;have ed:ta<D f.code:=by have:=uq aD.j (.inl TC);omega
            have ae:U (iR u f q i s st=dB s' q [Y ta] st):=aJ (by rw[af.j];simp[ch,TC,a8]);rw[a8]at aB i1;clear af bg a' a8 TC hb;go_wp2_with((go_at_call 53;refine(dP _ _ _ _).mono ?_;rintro e w' ⟨rfl,BY⟩);obtain⟨e6,gm,fa,cz,cL,cM,e8,fo,di⟩:=aB.j w' (Tg.j.trans BY))
            have HC:=aJ (pf W0 w' lb mb B _ _ _ _ _ _ sl (D f.code) f.result n _ vw st dn m l k ta s' (J a6 (D s') c6) (b4.j.gr (Tg.j.trans BY)) ed (fv.j.mono λb hb hl=>⟨BY.block b hl Q6,hb⟩) bj.j);refine HC.j.mono ?_;rintro x w6 (⟨s9,Vd,No,rfl,ax⟩|⟨rfl,b0,m2,l2,k2,b5,ak,ad,av⟩)
            · exact⟨rfl,by rw[ae.j,oa Vd No];exact⟨rfl,ax⟩⟩
            have cx:=aJ b5;have g6:=aJ av;clear b5 ak ad av HC;go_wp2_with fail;go_end0
            rw[ae.j,ov g6.j];exact⟨rfl,b0,m2,l2,k2,cx.j⟩
          have eV:(i.op !=11)=AT:=by simp[TC]
          have ep:(i.op==11)=AS:=by simp[TC]
          have fr:Z.wrap ((q:A)+1)=(q:A)+1:=Q_;have a0:((q+1:R):A)=(q:A)+1:=Q5;have cu:=aJ a0;clear a0 hb;go_upto_region 9 with((go_at_call 53;refine(dP _ _ _ _).mono ?_;rintro e w' ⟨rfl,BY⟩);obtain⟨e6,gm,fa,cz,cL,cM,e8,fo,di⟩:=aB.j w' (Tg.j.trans BY))
          have Tu:U (Gr wc w'):=aJ (Tg.j.trans BY);have gX:U (dY (Sb B vw) w' (J a6 (D s') c6) s'):=aJ (fv.j.mono λb hb hl=>⟨BY.block b hl Q6,hb⟩);have KC:U (∀w',Gr wc w'->H w' (Q wb 0 G)=Y (O Z 10)/\H w' (Q wb 1 G)=Y (O Z (n:A))/\H w' (Q wb 2 G)=Y (O Z (q:A))/\H w' (Q lb 9 G)=Y (J (Y (Q cb F G)) (D f.code) cc)):=aJ (λw' g=>by obtain⟨_,_,_,a,b,c,_,_,d⟩:=aB.j w' g;exact⟨a,b,c,d⟩);clear BY i0 i1 i2 y0 y1 y2 t0 t1 c9;by_cases ef:q+1<D f.code
          · have aF:(q:A)+1<(D f.code:A):=by omega
            have ck:decide ((q:A)+1<(D f.code:A))=AT:=by simpa using aF
            refine xE (S:=(λw'=>H w' (Q wb 0 G)=Y (O Z 10)/\H w' (Q wb 1 G)=Y (O Z (n:A))/\H w' (Q wb 2 G)=Y (O Z (q:A))/\H w' (Q lb 9 G)=Y (J (Y (Q cb F G)) (D f.code) cc))) Q7 (⟨cz,cL,cM,di⟩) λhH=>?_;refine tL 0 ?_;refine tL 1 ?_;refine tL 2 ?_;refine tL 3 ?_;refine tL 4 ?_;refine tL 5 ?_;refine tL 6 ?_;refine tL 7 ?_;refine tL 8 ?_;refine bQ (i:=9) rfl Q7 λK hK=>?_;refine am rfl 53 _ _ rfl #[.agg #[O Z 10,O Z (n:A),O Z (q:A)],.bool AT] fZ (Tryz.callUnless _ _) ((dP _ _ _ _).mono ?_);rintro x w6 ⟨rfl,b9⟩;have ek:U (Gr wc w6):=aJ (Tu.j.trans (Gr.trans Gy b9));have e9:U (dY (Sb B vw) w6 (J a6 (D s') c6) s'):=aJ (gX.j.mono λb hb hl=>⟨(Gr.trans (Gr.drew (Gr.refl w')) b9).block b hl Q6,hb⟩);refine .inl ⟨_,rfl,?_⟩;clear b9;refine hK.out _ _ (KC.j _ ek.j) λhH=>?_;clear hK;try simp only[Act.put,sA,s0,s1]
            refine Ev Q7 ?_ _;obtain⟨i0,i1,i2,-,-,-,-,-,-⟩:=aB.j w6 ek.j;have HC:=aJ (pf W0 w6 lb mb B _ _ _ _ _ _ sl (D f.code) f.result n _ vw st dn m l k (q+1) s' (J a6 (D s') c6) (b4.j.gr ek.j) ef e9.j bj.j);rw[cu.j]at HC;clear cz cL cM e8 fo di e6 gm fa ck aF;go_wp2_with fail;refine HC.j.mono ?_;have dw:U (ch f q i=Y (q+1)::if i.op=12 then [Y i.a.toNat] else []):=aJ (by
             unfold ch;rw[eP TC,eP TM];simp only[mI ef];split<;>rfl)
            rintro x w7 (⟨s9,Vd,No,rfl,ax⟩|⟨rfl,b0,m2,l2,k2,b5,ak,ad,av⟩)
            · exact⟨rfl,by rw[af.j,dw.j,oa Vd No];exact⟨rfl,ax⟩⟩
            have ae:U (iR u f q i s st=dB s' q (if i.op=12 then [Y i.a.toNat] else []) λj=>if j=q+1 then Y s' else st j):=aJ (by rw[af.j,dw.j,ov av]);have cj:ib<w6.heap.size:=wI w6 _ i0;have ev:=bt.j.il;have hf:=HL.j.bs;have gU:=HL.j.lbB;have g5:=HL.j.mbB;have ay:w7.heap[ib]? =w6.heap[ib]? :=ak.rest ib cj Q5 Q5 (λe=>by have:=(Lm HL.j.row ib e).2;omega);have j0:=(so (a:=⟨ib,0,G⟩) ay).trans i0;have j1:=(so (a:=⟨ib,1,G⟩) ay).trans i1;have cx:=aJ b5;have hj:U (dY (Sb B b0) w7 (J a6 (D s') c6) s'):=aJ (e9.j.mono λb hb hl=>⟨ak.rest b hl (by have:=hb.1;omega) (by have:=hb.1;omega) hb.2,hb.of hl ad⟩);clear b5 ak ad av HC dw af ay i0 i1 i2 cj ev hf gU g5;by_cases a9:i.op=12
            · have hk:(i.op==12)=AT:=by simp[a9]
              obtain⟨ta,a8⟩:∃ta:R,i.a=(ta:A):=⟨i.a.toNat,Q5⟩;have ed:ta<D f.code:=by have:=uq aD.j (.inr a9);omega
              have aL:U (iR u f q i s st=dB s' q [Y ta] λj=>if j=q+1 then Y s' else st j):=aJ (by rw[ae.j,mI a9,a8];rfl);rw[a8]at j1;have Tr:=aJ (pf W0 w7 lb mb B _ _ _ _ _ _ sl (D f.code) f.result n _ b0 _ dn m2 l2 k2 ta s' (J a6 (D s') c6) cx.j ed hj.j bj.j);clear ae bg a' a8 a9 TC fr;go_wp2_with fail;refine Tr.j.mono ?_;rintro x w8 (⟨s9,Vd,No,rfl,ax⟩|⟨rfl,hg,m3,l3,k3,fy,eu,bo,ca⟩)
              · exact⟨rfl,by rw[aL.j,oa Vd No];exact⟨rfl,ax⟩⟩
              have gA:=aJ fy;have gy:=aJ ca;clear fy eu bo ca Tr;go_wp2_with fail;go_end0
              rw[aL.j,ov gy.j];exact⟨rfl,hg,m3,l3,k3,gA.j⟩
            have hk:(i.op==12)=AS:=by simp[a9]
            have aL:U (iR u f q i s st=.inr λj=>if j=q+1 then Y s' else st j):=aJ (by rw[ae.j,eP a9];rfl);clear ae bg a' a9 TC fr;go_wp2_with fail;go_end0
            rw[aL.j];exact⟨rfl,b0,m2,l2,k2,cx.j⟩
          have aF:¬(q:A)+1<(D f.code:A):=by omega
          have ck:decide ((q:A)+1<(D f.code:A))=AS:=by simpa using aF
          have TB:U (iR u f q i s st=.inl q):=aJ (by
           rw[af.j];unfold ch;rw[eP TC,eP TM];simp only[eP ef];split<;>rfl)
          refine xE (S:=(λw'=>H w' (Q wb 0 G)=Y (O Z 10)/\H w' (Q wb 1 G)=Y (O Z (n:A))/\H w' (Q wb 2 G)=Y (O Z (q:A))/\H w' (Q lb 9 G)=Y (J (Y (Q cb F G)) (D f.code) cc))) Q7 (⟨cz,cL,cM,di⟩) λhH=>?_;refine tL 0 ?_;refine tL 1 ?_;refine tL 2 ?_;refine tL 3 ?_;refine tL 4 ?_;refine tL 5 ?_;refine tL 6 ?_;refine tL 7 ?_;refine tL 8 ?_;refine bQ (i:=9) rfl Q7 λK hK=>?_;refine am rfl 53 _ _ rfl #[.agg #[O Z 10,O Z (n:A),O Z (q:A)],.bool AS] fZ (Tryz.callUnless _ _) ((dq _ _ _ _).mono ?_);rintro x w6 ⟨rfl,b9⟩;exact .inr ⟨_,rfl,rfl,by rw[TB.j];exact⟨rfl,bL.j _ (Tu.j.trans (Gr.trans Gy b9))⟩⟩
        have bk:¬(D s':A)<=20:=by omega
        have ez:decide ((D s':A)<=20)=AS:=by simpa using bk
        have eo:decide (D s'<=20)=AS:=by simpa using b7
        have TB:U (iR u f q i s st=.inl q):=aJ (by unfold iR;rw[b3.j TM b7]);clear b8 b6 b2 b3;go_wp2_with(go_at_call 53;refine(dq _ _ _ _).mono ?_;rintro e w' ⟨rfl,BY⟩)
        exact⟨rfl,by rw[TB.j];exact⟨rfl,bL.j _ (Tg.j.trans BY)⟩⟩
      have b1:decide (s.drop d=ts)=AS:=by simpa using he
      have TB:U (iR u f q i s st=.inl q):=aJ (by unfold iR kL;rw[aD.j];simp only[];rw[<-HD.j,mI (Or.inr he)]);rw[b1];clear b1 he;refine hK.out _ _ (KT.j _ OF.j) λhH=>?_;clear hK;try simp only[Act.put,sA,s0,s1]
      refine tL 10 ?_;refine bQ (i:=11) rfl Q7 λK hK=>?_;refine am rfl 53 _ _ rfl #[.agg #[O Z 10,O Z (n:A),O Z (q:A)],.bool AS] fZ (Tryz.callUnless _ _) ((dq _ _ _ _).mono ?_);rintro x w' ⟨rfl,BY⟩;exact .inr ⟨_,rfl,rfl,by rw[TB.j];exact⟨rfl,bL.j _ (OF.j.trans BY)⟩⟩
    have TB:U (iR u f q i s st=.inl q):=aJ (by unfold iR kL;rw[aD.j];simp only[];rw[mI (Or.inl Q5)]);obtain⟨DDq,hD⟩:∃DDq:A,DDq=(D s:A)-(D ts:A):=⟨_,rfl⟩;have S5:¬(0:A)<=DDq:=by omega
    have IT:decide ((0:A)<=DDq)=AS:=by simpa using S5
    have g':=cv.trans hD.symm;clear hD hle cv;go_upto_region 3 with fail
    refine xE (S:=(λw'=>H w' (Q wb 0 G)=Y (O Z 10)/\H w' (Q wb 1 G)=Y (O Z (n:A))/\H w' (Q wb 2 G)=Y (O Z (q:A)))) Q7 (⟨y0,y1,y2⟩) λhH=>?_;refine tL 0 ?_;refine tL 1 ?_;refine tL 2 ?_;refine tL 3 ?_;refine eH (i:=4) rfl Q7 Q7 Q7 (λ_ _ _ h=>h) bZ hH ?_;simp only[Act.put,sA,s0,s1];refine eH (i:=5) rfl Q7 Q7 Q7 (λ_ _ _ h=>h) bZ hH ?_;simp only[Act.put,sA,s0,s1];refine eH (i:=6) rfl Q7 Q7 Q7 (λ_ _ _ h=>h) bZ hH ?_;simp only[Act.put,sA,s0,s1];refine eH (i:=7) rfl Q7 Q7 Q7 (λ_ _ _ h=>h) bZ hH ?_;simp only[Act.put,sA,s0,s1];refine eH (i:=8) rfl Q7 Q7 Q7 (λ_ _ _ h=>h) bZ hH ?_;simp only[Act.put,sA,s0,s1];refine eH (i:=9) rfl Q7 Q7 Q7 (λ_ _ _ h=>h) bZ hH ?_;simp only[Act.put,sA,s0,s1];refine tL 10 ?_;refine bQ (i:=11) rfl Q7 λK hK=>?_;refine am rfl 53 _ _ rfl #[.agg #[O Z 10,O Z (n:A),O Z (q:A)],.bool AS] fZ (Tryz.callUnless _ _) ((dq _ _ _ _).mono ?_);rintro x w' ⟨rfl,BY⟩;exact .inr ⟨_,rfl,rfl,by rw[TB.j];exact⟨rfl,bL.j _ (Gr.trans Qk BY)⟩⟩
end Go.Proofs.YtghjmnlapcpbiaaGreatDoor
