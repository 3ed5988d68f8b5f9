import Derived.Test.YtghjmnlapcpbiaaGreatDoorJ2
namespace Go.Proofs.YtghjmnlapcpbiaaGreatDoor
open _root_ renaming Option.some->Y,Option.none->G,Go.Value.int->O,Go.IntKind.i64->Z,Go.Value.slice->J,List->I,Nat->R,Int->A,Go.World.cell?->H,List.length->D,Go.Obj.cells->X,Go.Value->M,Go.World->T,Go.Addr.mk->Q,Go.RowKit.Hid->U,UInt8->AI,Bool.false->AS,Bool.true->AT,Option->By
open Go.Proofs.Tryz
set_option linter.unusedVariables false
set_option linter.unusedSimpArgs false
open Go.RowKit
attribute [local go_sem ↓] Go.wp_at_zero Go.wp_at_succ
theorem Qe{p:Prop}(h:p:=by repeat (first|with_reducible exact TF.j.gr|with_reducible refine Gr.drew ?_|with_reducible refine Gr.alloc ?_ _|with_reducible refine cA ?_ Q5|with_reducible refine cE ?_ Q5)):p:=h
theorem Qn{p:Prop}(h:p:=by simp[results,results46,go_sem,r0,r1,IN,No,V7,Vu,Wi,Wk]):p:=h
theorem RZ{p:Prop}(h:p:=by unfold bU;simp[ho]):p:=h
theorem Nk{p:Prop}(h:p:=by
 as_aux_lemma=>
  rw[ho]at k9;have HE:U (bU u f i=Y ([0,0],[0])):=aJ RZ;clear ho;go_wp2_with fail;exact qn (v:=.tuple #[.agg #[J (Y (Q wc.heap.size 0 G)) 2 2,J (Y ⟨wc.heap.size+1,0,G⟩) 1 1],.bool AT]) Qn rfl (eF HE.j Qe (i5 Ql Ql) (br Ql) Q6 Q6)):p:=h
theorem Ns{p:Prop}(h:p:=by go_wp2_with fail;exact qn (v:=.tuple #[.agg #[J (Y (Q wc.heap.size 0 G)) 1 1,J G 0 0],.bool AT]) (by simp[results,results46,go_sem,r0,r1,IN,No,V7,Vu,Wi,Wk]) rfl (eF HE.j (by repeat (first|with_reducible exact TF.j.gr|with_reducible refine Gr.drew ?_|with_reducible refine Gr.alloc ?_ _|with_reducible refine cA ?_ Q5|with_reducible refine cE ?_ Q5)) (br (by simp[go_sem])) (aw _) Q6 Q6)):p:=h
theorem Ny{p:Prop}(h:p:=by go_wp2_with fail;exact qn (v:=.tuple #[.agg #[J G 0 0,J (Y (Q wc.heap.size 0 G)) 1 1],.bool AT]) (by simp[results,results46,go_sem,r0,r1,IN,No,V7,Vu,Wi,Wk]) rfl (eF HE.j (by repeat (first|with_reducible exact TF.j.gr|with_reducible refine Gr.drew ?_|with_reducible refine Gr.alloc ?_ _|with_reducible refine cA ?_ Q5|with_reducible refine cE ?_ Q5)) (aw _) (br (by simp[go_sem])) Q6 Q6)):p:=h
theorem NB{p:Prop}(h:p:=by go_wp2_with fail;exact qn (v:=.tuple #[.agg #[J G 0 0,J G 0 0],.bool AS]) (by simp[results,results46,go_sem,r0,r1,IN,No,V7,Vu,Wi,Wk]) rfl (kg (ts:=[]) (ps:=[]) HE.j (by repeat (first|with_reducible exact TF.j.gr|with_reducible refine Gr.drew ?_|with_reducible refine Gr.alloc ?_ _|with_reducible refine cA ?_ Q5|with_reducible refine cE ?_ Q5)) (aw _) (aw _) Q6 Q6)):p:=h
theorem NG{p:Prop}(h:p:=by
 have HE:U (bU u f i=G):=aJ (by unfold bU;simp only[ho,U7];simp;simp at Uc;omega);have TG:¬(ja:A)<(D f.aH:A)+(D f.aI:A):=by rw[fe]at Uc;omega
 have Wj:¬ja<D f.aH+D f.aI:=by rw[fe]at Uc;exact Uc
 clear ho U7 Uc;go_wp2_with fail;exact qn (v:=.tuple #[.agg #[J G 0 0,J G 0 0],.bool AS]) Qn rfl (kg HE.j Qe (aw _) (aw _) Q6 Q6)):p:=h
theorem OC{p:Prop}(h:p:=by
 intro w' j K hK;have HK:=aJ hK;clear hK;go_simp
 exact HK.j (J (Y (Q w'.heap.size 0 G)) 1 1) _ ⟨j.alloc _,⟨_,rfl,j.size,Ql⟩,λu h=>h.gr ((Gr.refl w').alloc _)⟩):p:=h
theorem Qc{p:Prop}(h:p:=by
 have TG:¬(jb:A)<(D ((bH u i.a).getD []):A):=by omega
 clear Vy;exact NB):p:=h
theorem Qd{p:Prop}(h:p:=by intro w TP;(try dsimp only at TP);(obtain⟨q0,q1,q2,q3,q4,q5,q6,q7,q8,q9,XE,XD⟩:=TP;go_simp)<;>with_reducible rfl):p:=h
theorem Qf{p:Prop}(h:p:=by intro w TP;(try dsimp only at TP);(obtain⟨q0,q1,q2,q3,q4,q5,q6,q7,q8,q9,XE,XD,XH,XI⟩:=TP;go_simp)<;>with_reducible rfl):p:=h
theorem Qg{p:Prop}(h:p:=by intro w TP;(try dsimp only at TP);(obtain⟨q0,q1,q2,q3,q4,q5,q6,q7,q8,q9,XE,XD,XH⟩:=TP;go_simp)<;>with_reducible rfl):p:=h
theorem Qx{p:Prop}(h:p:=by simp[results,results46,go_sem,Vx,Uz]):p:=h
theorem QT{p:Prop}(h:p:=by unfold bH at hs;split at hs;exact dL hs;cases hs):p:=h
theorem Rx{p:Prop}(h:p:=by unfold bU;simp[ho];omega):p:=h
set_option maxRecDepth 100000 in
set_option maxHeartbeats 20000000 in
theorem tP(u:aK)(f:aQ)(i:bP)(hi:bl i=AT)(v1 v2 v3 v4 v5 vp vl vc:M)(w:T)(hU:bV w (.agg #[v1,v2,v3,v4,v5]) u)(hp:aY w vp f.aH)(hl:aY w vl f.aI)(hc:∃a c,vc=J a (D f.code) c)(gg:D f.aH<=10000)(e':D f.aI<=10000)(fr:D f.code<=1000000)(eu:D u.aA<=1000000/\D u.aE<=1000000/\D u.aG<=1000000/\D u.aC<=1000000)(b6:∀s∈u.aA,D s<=1000000)(b':∀g∈u.aG,D g.aH<=1000000)(b7:∀g∈u.aC,D g.aH<=1000000):
 Calls prog 46 #[.agg #[v1,v2,v3,v4,v5],.agg #[vp,O Z f.result,vl,vc],.agg #[O Z i.op,O Z i.a,O Z i.b]] w (r_ (bU u f i) w):=by
 obtain⟨x1,x2,x3,x4,x5,he,h1,h2,h3,h4,h5⟩:=hU;simp only[Ch,FL,Bk,I7]at he;obtain⟨rfl,rfl,rfl,rfl,rfl⟩:=he;obtain⟨a1,c1,rfl⟩:=h1.shape;obtain⟨a2,c2,rfl⟩:=h2.shape;obtain⟨a3,c3,rfl⟩:=h3.shape;obtain⟨a4,c4,rfl⟩:=h4.shape;obtain⟨a5,c5,rfl⟩:=h5.shape;obtain⟨ap,cp,rfl⟩:=hp.shape;obtain⟨al,cl,rfl⟩:=hl.shape;obtain⟨ac,cc,rfl⟩:=hc;have H1:=aJ h1;have H3:=aJ h3;have H4:=aJ h4;have HP:=aJ hp;have ev:=aJ hl;have HB:=aJ (Fy.new w u f i a1 a2 a3 a4 a5 ap al ac c1 c2 c3 c4 c5 cp cl cc);have HN:=aJ (kj hi);have az:=aJ b6;have eV:=aJ b';have dO:=aJ b7;obtain⟨fa,gw,fm,ga⟩:=eu;clear h1 h2 h3 h4 h5 hp hl hi b6 b' b7;go_enter func46,ntmps46
 go_upto_region 1 with fail
 generalize (((w.alloc (X (yE u a1 c1 a2 c2 a3 c3 a4 c4 a5 c5) 58)).alloc (X #[J ap (D f.aH) cp,O Z f.result,J al (D f.aI) cl,J ac (D f.code) cc] 74)).alloc (X #[O Z i.op,O Z i.a,O Z i.b] 87)).alloc (X #[J G 0 0,J G 0 0] 125)=V at HB |-;have fz:=HB.j.sz;obtain⟨v6,w6,cf,aM,cB⟩:=dI (B5 V V.heap.size 3 1) (HP.j.gr HB.j.gr) Q5 lj 26;rw[Aq,Kj]at aM;obtain⟨a6,c6,rfl⟩:=aR aM;have af:Gr V w6:=cB;obtain⟨v7,w7,cj,bF,cn⟩:=dI aM (ev.j.gr (HB.j.gr.trans af)) Q5 af.size 26;obtain⟨a7,c7,rfl⟩:=aR bF;have b0:Gr V w7:=nB af aM cn;have cM:=aJ cf;have ez:=aJ cj;have cu:dY (λb=>V.heap.size<=b/\Dj w7 b) w7 (J a7 (D f.aH+D f.aI) c7) (f.aH++f.aI):=i_ (by
  rw[fe];have:fK (f.aH++f.aI)=fK f.aH++fK f.aI:=by simp[fK]
  rw[this];exact bF)
 have cz:=aJ cu.to;have TF:=aJ (HB.j.go b0);have dT:=aJ (HB.j.go af);obtain⟨k0,k1,k2,k3,k4,k5,k6,k7,k8,k9,ad,ae⟩:=HB.j.cs;obtain⟨m0,m1,m2,m3,m4,m5,m6,m7,m8,m9,ds,ef⟩:=dT.j.cs;clear aM bF cB cn af cf cj cu;go_upto_region 3 with(at_builtin;refine CH _ rfl _ _ _ _ rfl _ _ rfl rfl _ _ cM.j ?_)
 go_upto_region 5 with(at_builtin;refine CH _ rfl _ _ _ _ rfl _ _ rfl rfl _ _ ez.j ?_)
 clear k0 k1 k2 k3 k4 k5 k6 k7 k8 k9 ad ae m0 m1 m2 m3 m4 m5 m6 m7 m8 m9 ds ef;obtain⟨k0,k1,k2,k3,k4,k5,k6,k7,k8,k9,ad,ae⟩:=TF.j.cs;go_cut [10] from 13 λv10 wx=>v10=.bool (bH u i.a).isSome/\wx=w7
 case first=>
  by_cases hx:1<=i.a
  · have e5:decide ((1:A)<=i.a)=AT:=by simpa using hx
    have e:(bH u i.a).isSome=decide (i.a<=(D u.aA:A)):=by
     unfold bH;rw[mI hx,KZ,MY,xw];constructor
     · rintro⟨s,hs⟩;have:=(dm.1 hs).1;omega
     intro h;exact⟨_,dW Q5⟩
    have HE:=aJ e;clear e;go_wp2_with fail
    all_goals
     go_meet
     exact⟨by rw[HE.j],rfl⟩
  have e5:decide ((1:A)<=i.a)=AS:=by simpa using hx
  have HE:U ((bH u i.a).isSome=AS):=aJ (by unfold bH;rw[eP hx];rfl);go_wp2_with fail
  all_goals
   go_meet
   exact⟨by rw[HE.j],rfl⟩
 case rest=>
  obtain⟨rfl,bB⟩:=hcut;obtain rfl:=bB;go_upto_if 32 with fail
  go_cut [9,10] from 13 λv9 v10 wx=>v10=.bool (bH u i.a).isSome/\wx=wc/\aY wc v9 ((bH u i.a).getD [])
  case first=>
   cases hs:bH u i.a with
   | none=>
    simp only[L6];have a0:=aJ hs;clear hs;go_wp2_with fail;go_meet
    exact⟨by rw[a0.j];rfl,rfl,by rw[a0.j];exact aw _⟩
   | some s=>
    simp only[Lu];have hx:1<=i.a:=by
     unfold bH at hs;by_cases h:1<=i.a
     · exact h
     rw[eP h]at hs;cases hs
    have TV:u.aA[(i.a-1).toNat]? =Y s:=by unfold bH at hs;rw[mI hx]at hs;exact hs
    have IN:=(dm.1 TV).1;obtain⟨gb,fo,T0,_,cy⟩:=H1.j;simp only[jj,Bt]at T0;obtain⟨b1,o1,vx,e1,e2,e3⟩:=cy _ s TV;obtain⟨rfl,rfl⟩:=T0;subst e1;have bt:=TF.j.gr;have e2:=bt.cell e2 Q6;have c':=aJ (e3.gr bt);obtain⟨xa,xc,rfl⟩:=e3.shape;obtain⟨j,hj⟩:∃j:R,(i.a-1).toNat=j:=⟨_,rfl⟩;have b5:Z.wrap (i.a-1)=(j:A):=Qq
    rw[hj]at e2 IN;have TG:(j:A)<(D u.aA:A):=Q5;have a0:=aJ hs;clear hs TV cy e3 hj bt hx;go_wp2_with fail;go_meet
    exact⟨by rw[a0.j];rfl,rfl,by rw[a0.j];exact c'.j⟩
  case rest=>
   obtain⟨rfl,bB,bo⟩:=hcut;obtain rfl:=bB;obtain⟨hop,cv⟩:=HN.j;have bg:=TF.j.eb;have r0:=aS (o:=0) bg;have r1:=aS (o:=1) bg;have f0:=bE (o:=0) bg;have f1:=bE (o:=1) bg;simp at r0 r1
   clear bg;have S7:=TF.j.sz;have IN:w.heap.size+1+1+1<wc.heap.size:=Q5;have No:¬w.heap.size+1+1+1=wc.heap.size:=Q5;have V7:¬w.heap.size+1+1+1=wc.heap.size+1:=Q5;have Vu:¬w.heap.size+1+1=wc.heap.size:=Q5;have fv:∀(o o':Obj) (k:R),((wc.alloc o).alloc o').frozen? ⟨w.heap.size+1+1+1,k,G⟩=AS:=λo o' k=>bE (((((Gr.refl wc).alloc o).alloc o').block _ IN Q6).trans TF.j.eb)
   have bL:∀(o o':Obj),H ((wc.alloc o).alloc o') ⟨w.heap.size+1+1+1,0,G⟩=Y (J G 0 0)/\H ((wc.alloc o).alloc o') ⟨w.heap.size+1+1+1,1,G⟩=Y (J G 0 0):=λo o'=>⟨(((Gr.refl wc).alloc o).alloc o').cell r0 Q6,(((Gr.refl wc).alloc o).alloc o').cell r1 Q6⟩
   have Wi:=λo o'=>(bL o o').1
   have Wk:=λo o'=>(bL o o').2
   clear bL;have hd:i.op=0\/i.op=1\/i.op=2\/i.op=3\/i.op=4\/i.op=5\/i.op=6\/i.op=7\/i.op=8\/i.op=9\/i.op=10\/i.op=11\/i.op=12\/i.op=13\/i.op=14\/i.op=15\/i.op=16\/i.op=17\/i.op=18\/i.op=19\/i.op=20:=Q5;have Xe:=aJ cv;have bj:=aJ bo;obtain⟨a9,c9,rfl⟩:=bo.shape;clear hop cv bo;rcases hd with ho|ho|ho|ho|ho|ho|ho|ho|ho|ho|ho|ho|ho|ho|ho|ho|ho|ho|ho|ho|ho
   · as_aux_lemma=>
      rw[ho]at k9;by_cases ak:i.a<(D u.aE:A)
      · have aB:decide (i.a<(D u.aE:A))=AT:=by simpa using ak
        have HE:U (bU u f i=Y ([],[0])):=aJ Rx;clear ho;go_upto_region 10 with fail
        refine xE (S:=(λw'=>H w' (Q w.heap.size 0 G)=Y (J a1 (D u.aA) c1)/\H w' (Q w.heap.size 1 G)=Y (J a2 (D u.aE) c2)/\H w' (Q w.heap.size 2 G)=Y (J a3 (D u.aG) c3)/\H w' (Q w.heap.size 3 G)=Y (J a4 (D u.aC) c4)/\H w' (Q w.heap.size 4 G)=Y (J a5 (D u.aD) c5)/\H w' ⟨w.heap.size+1,0,G⟩=Y (J ap (D f.aH) cp)/\H w' ⟨w.heap.size+1,1,G⟩=Y (O Z f.result)/\H w' ⟨w.heap.size+1,2,G⟩=Y (J al (D f.aI) cl)/\H w' ⟨w.heap.size+1,3,G⟩=Y (J ac (D f.code) cc)/\H w' ⟨w.heap.size+1+1,0,G⟩=Y (O Z i.op)/\H w' ⟨w.heap.size+1+1,1,G⟩=Y (O Z i.a)/\H w' ⟨w.heap.size+1+1,2,G⟩=Y (O Z i.b))) Q7 (TF.j.cs) λhH=>?_;refine tL 2 ?_ (hy:=Qd)
        refine tL 3 ?_ (hy:=Qd)
        refine tL 4 ?_ (hy:=Qd)
        refine tL 5 ?_ (hy:=Qd)
        refine tL 6 ?_ (hy:=Qd)
        refine tL 7 ?_ (hy:=Qd)
        refine bQ (i:=0) rfl Q7 λK hK=>?_;refine aW bZ ?_;go_simp
        refine hK.out _ _ (lg Q3 TF.j.cs) λhH=>?_;clear hK;try simp only[Act.put,sA,s0,s1]
        refine tL 1 ?_;refine bQ (i:=8) rfl Q7 λK hK=>?_;refine aW bZ (Lc (P:=prog) 125 _ _ rfl (w.heap.size+1+1+1) #[J G 0 0,J (Y (Q wc.heap.size 0 G)) 1 1] bZ fZ 125 _ (((show Gr wc _ from Q3).block _ IN Q6).trans TF.j.eb) Tryz.infErf rfl Qr ?_);refine hK.out _ _ (vG (lg Q3 TF.j.cs)) λhH=>?_;clear hK;try simp only[Act.put,sA,s0,s1]
        refine tL 9 ?_;refine Ev Q7 ?_ _;go_wp2_with fail;have F:=Kg ((wc.alloc (X #[O Z 0] 3)).drew) (w.heap.size+1+1+1) _ #[J G 0 0,J (Y (Q wc.heap.size 0 G)) 1 1] 125 _ (((show Gr wc _ from Q3).block _ IN Q6).trans TF.j.eb);have Vx:=(aS (o:=0) F).trans (show _=Y (J G 0 0) from rfl);have Uz:=(aS (o:=1) F).trans (show _=Y (J (Y (Q wc.heap.size 0 G)) 1 1) from rfl);exact qn (v:=.tuple #[.agg #[J G 0 0,J (Y (Q wc.heap.size 0 G)) 1 1],.bool AT]) Qx rfl (eF (ts:=[]) (ps:=[0]) HE.j Qe (aw _) (br (ag Q5 Ql)) Q6 Q6)
      have aB:decide (i.a<(D u.aE:A))=AS:=by simpa using ak
      have HE:U (bU u f i=G):=aJ Rx;clear ho;go_upto_region 10 with fail
      refine xE (S:=(λw'=>H w' (Q w.heap.size 0 G)=Y (J a1 (D u.aA) c1)/\H w' (Q w.heap.size 1 G)=Y (J a2 (D u.aE) c2)/\H w' (Q w.heap.size 2 G)=Y (J a3 (D u.aG) c3)/\H w' (Q w.heap.size 3 G)=Y (J a4 (D u.aC) c4)/\H w' (Q w.heap.size 4 G)=Y (J a5 (D u.aD) c5)/\H w' ⟨w.heap.size+1,0,G⟩=Y (J ap (D f.aH) cp)/\H w' ⟨w.heap.size+1,1,G⟩=Y (O Z f.result)/\H w' ⟨w.heap.size+1,2,G⟩=Y (J al (D f.aI) cl)/\H w' ⟨w.heap.size+1,3,G⟩=Y (J ac (D f.code) cc)/\H w' ⟨w.heap.size+1+1,0,G⟩=Y (O Z i.op)/\H w' ⟨w.heap.size+1+1,1,G⟩=Y (O Z i.a)/\H w' ⟨w.heap.size+1+1,2,G⟩=Y (O Z i.b))) Q7 (TF.j.cs) λhH=>?_;refine tL 2 ?_ (hy:=Qd)
      refine tL 3 ?_ (hy:=Qd)
      refine tL 4 ?_ (hy:=Qd)
      refine tL 5 ?_ (hy:=Qd)
      refine tL 6 ?_ (hy:=Qd)
      refine tL 7 ?_ (hy:=Qd)
      refine bQ (i:=0) rfl Q7 λK hK=>?_;refine aW bZ ?_;go_simp
      refine hK.out _ _ (lg Q3 TF.j.cs) λhH=>?_;clear hK;try simp only[Act.put,sA,s0,s1]
      refine tL 1 ?_;refine bQ (i:=8) rfl Q7 λK hK=>?_;refine aW bZ (Lc (P:=prog) 125 _ _ rfl (w.heap.size+1+1+1) #[J G 0 0,J (Y (Q wc.heap.size 0 G)) 1 1] bZ fZ 125 _ (((show Gr wc _ from Q3).block _ IN Q6).trans TF.j.eb) Tryz.infErf rfl Qr ?_);refine hK.out _ _ (vG (lg Q3 TF.j.cs)) λhH=>?_;clear hK;try simp only[Act.put,sA,s0,s1]
      refine tL 9 ?_;refine Ev Q7 ?_ _;go_wp2_with fail;have F:=Kg ((wc.alloc (X #[O Z 0] 3)).drew) (w.heap.size+1+1+1) _ #[J G 0 0,J (Y (Q wc.heap.size 0 G)) 1 1] 125 _ (((show Gr wc _ from Q3).block _ IN Q6).trans TF.j.eb);have Vx:=(aS (o:=0) F).trans (show _=Y (J G 0 0) from rfl);have Uz:=(aS (o:=1) F).trans (show _=Y (J (Y (Q wc.heap.size 0 G)) 1 1) from rfl);exact qn (v:=.tuple #[.agg #[J G 0 0,J (Y (Q wc.heap.size 0 G)) 1 1],.bool AS]) Qx rfl (kg (ts:=[]) (ps:=[0]) HE.j Qe (aw _) (br (ag Q5 Ql)) Q6 Q6)
   · as_aux_lemma=>
      rw[ho]at k9;have HE:U (bU u f i=Y ([],[0])):=aJ RZ;clear ho;exact Ny
   · as_aux_lemma=>
      rw[ho]at k9;obtain⟨ja,U7⟩:∃ja:R,i.a=(ja:A):=⟨i.a.toNat,Ra⟩;have UC:ja<=65535:=Ra
      have cx:=aJ U7;rw[U7]at ad;by_cases Uc:ja<D (f.aH++f.aI)
      · obtain⟨y,hy⟩:=aU Uc;have HE:U (bU u f i=Y ([],[y])):=aJ (by unfold bU;simp[ho,U7,hy]);obtain⟨ed,dd,e8,_,aF⟩:=cz.j;obtain⟨b8,o8,rfl,S6⟩:=aF ja Uc;simp only[jj,fe,Bt]at e8;obtain⟨rfl,rfl⟩:=e8;have TA:(f.aH++f.aI).getD ja 0=y:=by rw[mh,hy];rfl
        rw[TA]at S6;have TG:(ja:A)<(D f.aH:A)+(D f.aI:A):=by rw[fe]at Uc;omega
        have Wj:ja<D f.aH+D f.aI:=by rw[fe]at Uc;exact Uc
        clear ho U7 aF TA hy Uc;exact Ny
      exact NG
   · as_aux_lemma=>
      rw[ho]at k9;obtain⟨ja,U7⟩:∃ja:R,i.a=(ja:A):=⟨i.a.toNat,Ra⟩;have UC:ja<=65535:=Ra
      have cx:=aJ U7;rw[U7]at ad;by_cases Uc:ja<D (f.aH++f.aI)
      · obtain⟨y,hy⟩:=aU Uc;have HE:U (bU u f i=Y ([y],[])):=aJ (by unfold bU;simp[ho,U7,hy]);obtain⟨ed,dd,e8,_,aF⟩:=cz.j;obtain⟨b8,o8,rfl,S6⟩:=aF ja Uc;simp only[jj,fe,Bt]at e8;obtain⟨rfl,rfl⟩:=e8;have TA:(f.aH++f.aI).getD ja 0=y:=by rw[mh,hy];rfl
        rw[TA]at S6;have TG:(ja:A)<(D f.aH:A)+(D f.aI:A):=by rw[fe]at Uc;omega
        have Wj:ja<D f.aH+D f.aI:=by rw[fe]at Uc;exact Uc
        clear ho U7 aF TA hy Uc;exact Ns
      exact NG
   · as_aux_lemma=>
      rw[ho]at k9;have HE:U (bU u f i=Y ([-1],[])):=aJ RZ;clear ho;exact Ns
   · as_aux_lemma=>
      rw[ho]at k9;have HE:U (bU u f i=Y ([-1],[-1,-1])):=aJ RZ;clear ho;go_wp2_with fail;exact qn (v:=.tuple #[.agg #[J (Y (Q wc.heap.size 0 G)) 1 1,J (Y ⟨wc.heap.size+1,0,G⟩) 2 2],.bool AT]) Qn rfl (eF HE.j Qe (br Ql) (i5 Ql Ql) Q6 Q6)
   · exact Nk
   · exact Nk
   · exact Nk
   · exact Nk
   · exact Nk
   · as_aux_lemma=>
      rw[ho]at k9;by_cases ak:i.a<(D f.code:A)
      · have aB:decide (i.a<(D f.code:A))=AT:=by simpa using ak
        have HE:U (bU u f i=Y ([],[])):=aJ Rx;clear ho;go_upto_region 30 with fail
        refine xE (S:=(λw'=>H w' (Q w.heap.size 0 G)=Y (J a1 (D u.aA) c1)/\H w' (Q w.heap.size 1 G)=Y (J a2 (D u.aE) c2)/\H w' (Q w.heap.size 2 G)=Y (J a3 (D u.aG) c3)/\H w' (Q w.heap.size 3 G)=Y (J a4 (D u.aC) c4)/\H w' (Q w.heap.size 4 G)=Y (J a5 (D u.aD) c5)/\H w' ⟨w.heap.size+1,0,G⟩=Y (J ap (D f.aH) cp)/\H w' ⟨w.heap.size+1,1,G⟩=Y (O Z f.result)/\H w' ⟨w.heap.size+1,2,G⟩=Y (J al (D f.aI) cl)/\H w' ⟨w.heap.size+1,3,G⟩=Y (J ac (D f.code) cc)/\H w' ⟨w.heap.size+1+1,0,G⟩=Y (O Z i.op)/\H w' ⟨w.heap.size+1+1,1,G⟩=Y (O Z i.a)/\H w' ⟨w.heap.size+1+1,2,G⟩=Y (O Z i.b))) Q7 (TF.j.cs) λhH=>?_;refine tL 0 ?_ (hy:=Qd)
        refine tL 1 ?_ (hy:=Qd)
        refine tL 2 ?_ (hy:=Qd)
        refine tL 3 ?_ (hy:=Qd)
        refine tL 4 ?_ (hy:=Qd)
        refine tL 5 ?_ (hy:=Qd)
        refine tL 6 ?_ (hy:=Qd)
        refine bQ (i:=7) rfl Q7 λK hK=>?_;refine aW bZ (Lc (P:=prog) 125 _ _ rfl (w.heap.size+1+1+1) #[J G 0 0,J G 0 0] bZ fZ 125 _ (((show Gr wc _ from Q3).block _ IN Q6).trans TF.j.eb) Tryz.infErf rfl Qr ?_);refine hK.out _ _ (vG (lg Q3 TF.j.cs)) λhH=>?_;clear hK;try simp only[Act.put,sA,s0,s1]
        refine tL 8 ?_;refine Ev Q7 ?_ _;go_wp2_with fail;have F:=Kg (wc.drew) (w.heap.size+1+1+1) _ #[J G 0 0,J G 0 0] 125 _ (((show Gr wc _ from Q3).block _ IN Q6).trans TF.j.eb);have Vx:=(aS (o:=0) F).trans (show _=Y (J G 0 0) from rfl);have Uz:=(aS (o:=1) F).trans (show _=Y (J G 0 0) from rfl);exact qn (v:=.tuple #[.agg #[J G 0 0,J G 0 0],.bool AT]) Qx rfl (eF (ts:=[]) (ps:=[]) HE.j Qe (aw _) (aw _) Q6 Q6)
      have aB:decide (i.a<(D f.code:A))=AS:=by simpa using ak
      have HE:U (bU u f i=G):=aJ Rx;clear ho;go_upto_region 30 with fail
      refine xE (S:=(λw'=>H w' (Q w.heap.size 0 G)=Y (J a1 (D u.aA) c1)/\H w' (Q w.heap.size 1 G)=Y (J a2 (D u.aE) c2)/\H w' (Q w.heap.size 2 G)=Y (J a3 (D u.aG) c3)/\H w' (Q w.heap.size 3 G)=Y (J a4 (D u.aC) c4)/\H w' (Q w.heap.size 4 G)=Y (J a5 (D u.aD) c5)/\H w' ⟨w.heap.size+1,0,G⟩=Y (J ap (D f.aH) cp)/\H w' ⟨w.heap.size+1,1,G⟩=Y (O Z f.result)/\H w' ⟨w.heap.size+1,2,G⟩=Y (J al (D f.aI) cl)/\H w' ⟨w.heap.size+1,3,G⟩=Y (J ac (D f.code) cc)/\H w' ⟨w.heap.size+1+1,0,G⟩=Y (O Z i.op)/\H w' ⟨w.heap.size+1+1,1,G⟩=Y (O Z i.a)/\H w' ⟨w.heap.size+1+1,2,G⟩=Y (O Z i.b))) Q7 (TF.j.cs) λhH=>?_;refine tL 0 ?_ (hy:=Qd)
      refine tL 1 ?_ (hy:=Qd)
      refine tL 2 ?_ (hy:=Qd)
      refine tL 3 ?_ (hy:=Qd)
      refine tL 4 ?_ (hy:=Qd)
      refine tL 5 ?_ (hy:=Qd)
      refine tL 6 ?_ (hy:=Qd)
      refine bQ (i:=7) rfl Q7 λK hK=>?_;refine aW bZ (Lc (P:=prog) 125 _ _ rfl (w.heap.size+1+1+1) #[J G 0 0,J G 0 0] bZ fZ 125 _ (((show Gr wc _ from Q3).block _ IN Q6).trans TF.j.eb) Tryz.infErf rfl Qr ?_);refine hK.out _ _ (vG (lg Q3 TF.j.cs)) λhH=>?_;clear hK;try simp only[Act.put,sA,s0,s1]
      refine tL 8 ?_;refine Ev Q7 ?_ _;go_wp2_with fail;have F:=Kg (wc.drew) (w.heap.size+1+1+1) _ #[J G 0 0,J G 0 0] 125 _ (((show Gr wc _ from Q3).block _ IN Q6).trans TF.j.eb);have Vx:=(aS (o:=0) F).trans (show _=Y (J G 0 0) from rfl);have Uz:=(aS (o:=1) F).trans (show _=Y (J G 0 0) from rfl);exact qn (v:=.tuple #[.agg #[J G 0 0,J G 0 0],.bool AS]) Qx rfl (kg (ts:=[]) (ps:=[]) HE.j Qe (aw _) (aw _) Q6 Q6)
   · as_aux_lemma=>
      rw[ho]at k9;by_cases ak:i.a<(D f.code:A)
      · have aB:decide (i.a<(D f.code:A))=AT:=by simpa using ak
        have HE:U (bU u f i=Y ([0],[])):=aJ Rx;clear ho;go_upto_region 32 with fail
        refine xE (S:=(λw'=>H w' (Q w.heap.size 0 G)=Y (J a1 (D u.aA) c1)/\H w' (Q w.heap.size 1 G)=Y (J a2 (D u.aE) c2)/\H w' (Q w.heap.size 2 G)=Y (J a3 (D u.aG) c3)/\H w' (Q w.heap.size 3 G)=Y (J a4 (D u.aC) c4)/\H w' (Q w.heap.size 4 G)=Y (J a5 (D u.aD) c5)/\H w' ⟨w.heap.size+1,0,G⟩=Y (J ap (D f.aH) cp)/\H w' ⟨w.heap.size+1,1,G⟩=Y (O Z f.result)/\H w' ⟨w.heap.size+1,2,G⟩=Y (J al (D f.aI) cl)/\H w' ⟨w.heap.size+1,3,G⟩=Y (J ac (D f.code) cc)/\H w' ⟨w.heap.size+1+1,0,G⟩=Y (O Z i.op)/\H w' ⟨w.heap.size+1+1,1,G⟩=Y (O Z i.a)/\H w' ⟨w.heap.size+1+1,2,G⟩=Y (O Z i.b))) Q7 (TF.j.cs) λhH=>?_;refine tL 2 ?_ (hy:=Qd)
        refine tL 3 ?_ (hy:=Qd)
        refine tL 4 ?_ (hy:=Qd)
        refine tL 5 ?_ (hy:=Qd)
        refine tL 6 ?_ (hy:=Qd)
        refine tL 7 ?_ (hy:=Qd)
        refine bQ (i:=0) rfl Q7 λK hK=>?_;refine aW bZ ?_;go_simp
        refine hK.out _ _ (lg Q3 TF.j.cs) λhH=>?_;clear hK;try simp only[Act.put,sA,s0,s1]
        refine tL 1 ?_;refine bQ (i:=8) rfl Q7 λK hK=>?_;refine aW bZ (Lc (P:=prog) 125 _ _ rfl (w.heap.size+1+1+1) #[J (Y (Q wc.heap.size 0 G)) 1 1,J G 0 0] bZ fZ 125 _ (((show Gr wc _ from Q3).block _ IN Q6).trans TF.j.eb) Tryz.infErf rfl Qr ?_);refine hK.out _ _ (vG (lg Q3 TF.j.cs)) λhH=>?_;clear hK;try simp only[Act.put,sA,s0,s1]
        refine tL 9 ?_;refine Ev Q7 ?_ _;go_wp2_with fail;have F:=Kg ((wc.alloc (X #[O Z 0] 3)).drew) (w.heap.size+1+1+1) _ #[J (Y (Q wc.heap.size 0 G)) 1 1,J G 0 0] 125 _ (((show Gr wc _ from Q3).block _ IN Q6).trans TF.j.eb);have Vx:=(aS (o:=0) F).trans (show _=Y (J (Y (Q wc.heap.size 0 G)) 1 1) from rfl);have Uz:=(aS (o:=1) F).trans (show _=Y (J G 0 0) from rfl);exact qn (v:=.tuple #[.agg #[J (Y (Q wc.heap.size 0 G)) 1 1,J G 0 0],.bool AT]) Qx rfl (eF (ts:=[0]) (ps:=[]) HE.j Qe (br (ag Q5 Ql)) (aw _) Q6 Q6)
      have aB:decide (i.a<(D f.code:A))=AS:=by simpa using ak
      have HE:U (bU u f i=G):=aJ Rx;clear ho;go_upto_region 32 with fail
      refine xE (S:=(λw'=>H w' (Q w.heap.size 0 G)=Y (J a1 (D u.aA) c1)/\H w' (Q w.heap.size 1 G)=Y (J a2 (D u.aE) c2)/\H w' (Q w.heap.size 2 G)=Y (J a3 (D u.aG) c3)/\H w' (Q w.heap.size 3 G)=Y (J a4 (D u.aC) c4)/\H w' (Q w.heap.size 4 G)=Y (J a5 (D u.aD) c5)/\H w' ⟨w.heap.size+1,0,G⟩=Y (J ap (D f.aH) cp)/\H w' ⟨w.heap.size+1,1,G⟩=Y (O Z f.result)/\H w' ⟨w.heap.size+1,2,G⟩=Y (J al (D f.aI) cl)/\H w' ⟨w.heap.size+1,3,G⟩=Y (J ac (D f.code) cc)/\H w' ⟨w.heap.size+1+1,0,G⟩=Y (O Z i.op)/\H w' ⟨w.heap.size+1+1,1,G⟩=Y (O Z i.a)/\H w' ⟨w.heap.size+1+1,2,G⟩=Y (O Z i.b))) Q7 (TF.j.cs) λhH=>?_;refine tL 2 ?_ (hy:=Qd)
      refine tL 3 ?_ (hy:=Qd)
      refine tL 4 ?_ (hy:=Qd)
      refine tL 5 ?_ (hy:=Qd)
      refine tL 6 ?_ (hy:=Qd)
      refine tL 7 ?_ (hy:=Qd)
      refine bQ (i:=0) rfl Q7 λK hK=>?_;refine aW bZ ?_;go_simp
      refine hK.out _ _ (lg Q3 TF.j.cs) λhH=>?_;clear hK;try simp only[Act.put,sA,s0,s1]
      refine tL 1 ?_;refine bQ (i:=8) rfl Q7 λK hK=>?_;refine aW bZ (Lc (P:=prog) 125 _ _ rfl (w.heap.size+1+1+1) #[J (Y (Q wc.heap.size 0 G)) 1 1,J G 0 0] bZ fZ 125 _ (((show Gr wc _ from Q3).block _ IN Q6).trans TF.j.eb) Tryz.infErf rfl Qr ?_);refine hK.out _ _ (vG (lg Q3 TF.j.cs)) λhH=>?_;clear hK;try simp only[Act.put,sA,s0,s1]
      refine tL 9 ?_;refine Ev Q7 ?_ _;go_wp2_with fail;have F:=Kg ((wc.alloc (X #[O Z 0] 3)).drew) (w.heap.size+1+1+1) _ #[J (Y (Q wc.heap.size 0 G)) 1 1,J G 0 0] 125 _ (((show Gr wc _ from Q3).block _ IN Q6).trans TF.j.eb);have Vx:=(aS (o:=0) F).trans (show _=Y (J (Y (Q wc.heap.size 0 G)) 1 1) from rfl);have Uz:=(aS (o:=1) F).trans (show _=Y (J G 0 0) from rfl);exact qn (v:=.tuple #[.agg #[J (Y (Q wc.heap.size 0 G)) 1 1,J G 0 0],.bool AS]) Qx rfl (kg (ts:=[0]) (ps:=[]) HE.j Qe (br (ag Q5 Ql)) (aw _) Q6 Q6)
   · as_aux_lemma=>
      rw[ho]at k9;obtain⟨ja,U7⟩:∃ja:R,i.a=(ja:A):=⟨i.a.toNat,Ra⟩;have UC:ja<=65535:=Ra
      have cx:=aJ U7;rw[U7]at ad;by_cases S5:ja<D u.aG
      · obtain⟨g,hg⟩:=aU S5;have HE:U (bU u f i=Y (g.aH,[g.result])):=aJ (by unfold bU;simp[ho,U7,hg]);have bp:=eV.j g (dL hg);obtain⟨e6,cL,aL,_,a'⟩:=H3.j;obtain⟨b3,o3,ep,gp,fg,rfl,g0,g1,g2,g3,ay,en,ej⟩:=a' ja g hg;simp only[jj,Bt]at aL;obtain⟨rfl,rfl⟩:=aL;obtain⟨av,ax,rfl⟩:=ay.shape;have f':b3<w.heap.size:=wI w _ g0;have e0:=TF.j.gr.cell g0 Q6;have e1:=TF.j.gr.cell g1 Q6;have bC:=aJ ay;have TG:(ja:A)<(D u.aG:A):=by omega
        clear ho U7 a' hg g0 g1 g2 g3 ay en ej;go_upto_region 36 with fail
        refine xE (S:=(λw'=>H w' (Q w.heap.size 0 G)=Y (J a1 (D u.aA) c1)/\H w' (Q w.heap.size 1 G)=Y (J a2 (D u.aE) c2)/\H w' (Q w.heap.size 2 G)=Y (J (Y (Q b3 o3 G)) (D u.aG) c3)/\H w' (Q w.heap.size 3 G)=Y (J a4 (D u.aC) c4)/\H w' (Q w.heap.size 4 G)=Y (J a5 (D u.aD) c5)/\H w' ⟨w.heap.size+1,0,G⟩=Y (J ap (D f.aH) cp)/\H w' ⟨w.heap.size+1,1,G⟩=Y (O Z f.result)/\H w' ⟨w.heap.size+1,2,G⟩=Y (J al (D f.aI) cl)/\H w' ⟨w.heap.size+1,3,G⟩=Y (J ac (D f.code) cc)/\H w' ⟨w.heap.size+1+1,0,G⟩=Y (O Z 13)/\H w' ⟨w.heap.size+1+1,1,G⟩=Y (O Z (ja:A))/\H w' ⟨w.heap.size+1+1,2,G⟩=Y (O Z i.b)/\H w' ⟨b3,o3+ja*4,G⟩=Y (J av (D g.aH) ax)/\H w' ⟨b3,o3+ja*4+1,G⟩=Y (O Z g.result))) Q7 (⟨k0,k1,k2,k3,k4,k5,k6,k7,k8,k9,ad,ae,e0,e1⟩) λhH=>?_;refine tL 0 ?_ (hy:=Qf)
        refine tL 1 ?_ (hy:=Qf)
        refine tL 2 ?_ (hy:=Qf)
        refine tL 3 ?_ (hy:=Qf)
        refine tL 4 ?_ (hy:=Qf)
        refine tL 5 ?_ (hy:=Qf)
        refine tL 6 ?_ (hy:=Qf)
        refine tL 7 ?_ (hy:=Qf)
        refine tL 8 ?_ (hy:=Qf)
        refine tL 9 ?_ (hy:=Qf)
        refine tL 10 ?_ (hy:=Qf)
        refine tL 11 ?_ (hy:=Qf)
        refine tL 12 ?_ (hy:=Qf)
        refine tL 13 ?_ (hy:=Qf)
        refine bQ (i:=14) rfl Q7 λK hK=>?_;refine aW bZ ?_;go_simp
        refine hK.out _ _ ((λg:Gr wc _=>⟨g.cell k0 Q6,g.cell k1 Q6,g.cell k2 Q6,g.cell k3 Q6,g.cell k4 Q6,g.cell k5 Q6,g.cell k6 Q6,g.cell k7 Q6,g.cell k8 Q6,g.cell k9 Q6,g.cell ad Q6,g.cell ae Q6,g.cell e0 Q6,g.cell e1 Q6⟩) Q3) λhH=>?_;clear hK;try simp only[Act.put,sA,s0,s1]
        refine tL 15 ?_;refine bQ (i:=16) rfl Q7 λK hK=>?_;refine aW bZ (Lc (P:=prog) 125 _ _ rfl (w.heap.size+1+1+1) #[J av (D g.aH) ax,J (Y (Q wc.heap.size 0 G)) 1 1] bZ fZ 125 _ (((show Gr wc _ from Q3).block _ IN Q6).trans TF.j.eb) Tryz.infErf rfl Qr ?_);refine hK.out _ _ ((λg:Gr wc _=>⟨ag Q5 (g.cell k0 Q6),ag Q5 (g.cell k1 Q6),ag Q5 (g.cell k2 Q6),ag Q5 (g.cell k3 Q6),ag Q5 (g.cell k4 Q6),ag Q5 (g.cell k5 Q6),ag Q5 (g.cell k6 Q6),ag Q5 (g.cell k7 Q6),ag Q5 (g.cell k8 Q6),ag Q5 (g.cell k9 Q6),ag Q5 (g.cell ad Q6),ag Q5 (g.cell ae Q6),ag Q5 (g.cell e0 Q6),ag Q5 (g.cell e1 Q6)⟩) Q3) λhH=>?_;clear hK;try simp only[Act.put,sA,s0,s1]
        refine tL 17 ?_;refine Ev Q7 ?_ _;go_wp2_with fail;have F:=Kg ((wc.alloc (X #[O Z g.result] 3)).drew) (w.heap.size+1+1+1) _ #[J av (D g.aH) ax,J (Y (Q wc.heap.size 0 G)) 1 1] 125 _ (((show Gr wc _ from Q3).block _ IN Q6).trans TF.j.eb);have Vx:=(aS (o:=0) F).trans (show _=Y (J av (D g.aH) ax) from rfl);have Uz:=(aS (o:=1) F).trans (show _=Y (J (Y (Q wc.heap.size 0 G)) 1 1) from rfl);exact qn (v:=.tuple #[.agg #[J av (D g.aH) ax,J (Y (Q wc.heap.size 0 G)) 1 1],.bool AT]) Qx rfl (eF (ts:=g.aH) (ps:=[g.result]) HE.j Qe (bC.j.gr Qe) (br (ag Q5 Ql)) bp Q6)
      by_cases IT:ja<D u.aG+D u.aC
      · obtain⟨jn,b4⟩:∃jn:R,jn=ja-D u.aG:=⟨_,rfl⟩;obtain⟨g,hg⟩:=aU (show jn<(D u.aC) by omega);have HE:U (bU u f i=Y (g.aH,[g.result])):=aJ (by
         have h1:u.aG[ja]? =G:=AK Q5;unfold bU;simp[ho,U7,h1,<-b4,hg])
        have bp:=dO.j g (dL hg);obtain⟨e6,cL,aL,_,a'⟩:=H4.j;obtain⟨b3,o3,gm,ep,rfl,g0,g1,g2,ek,ay⟩:=a' jn g hg;simp only[jj,Bt]at aL;obtain⟨rfl,rfl⟩:=aL;obtain⟨av,ax,rfl⟩:=ay.shape;obtain⟨sg,rfl,_,_⟩:=ek;have e0:=TF.j.gr.cell g0 Q6;have e1:=TF.j.gr.cell g1 Q6;have e2:=TF.j.gr.cell g2 Q6;have bC:=aJ ay;have TG:¬(ja:A)<(D u.aG:A):=Q5;have Wj:(ja:A)<(D u.aG:A)+(D u.aC:A):=Q5;have b5:Z.wrap ((D u.aG:A)+(D u.aC:A))=(D u.aG:A)+(D u.aC:A):=Q_;have gf:Z.wrap ((ja:A)-(D u.aG:A))=(jn:A):=Qq
        have fy:(ja:A)-(D u.aG:A)=(jn:A):=Q5;have e7:(jn:A)<(D u.aC:A):=Q5;clear ho U7 a' hg g0 g1 g2 ay b4;go_wp2_with fail;exact qn (v:=.tuple #[.agg #[J av (D g.aH) ax,J (Y ⟨wc.heap.size+1,0,G⟩) 1 1],.bool AT]) Qn rfl (eF HE.j Qe (bC.j.gr Qe) (br Ql) bp Q6)
      · have HE:U (bU u f i=G):=aJ (by
         have h1:u.aG[ja]? =G:=AK Q5;have h2:u.aC[ja-D u.aG]? =G:=AK Q5;unfold bU;simp[ho,U7,h1,h2])
        have TG:¬(ja:A)<(D u.aG:A):=Q5;have Wj:¬(ja:A)<(D u.aG:A)+(D u.aC:A):=Q5;have b5:Z.wrap ((D u.aG:A)+(D u.aC:A))=(D u.aG:A)+(D u.aC:A):=Q_;clear ho U7;exact NB
   · as_aux_lemma=>
      rw[ho]at k9;have HE:U (bU u f i=Y ([f.result],[])):=aJ RZ;clear ho;exact Ns
   · as_aux_lemma=>
      rw[ho]at k9;have HO:=aJ ho;clear ho;generalize hs:bH u i.a=S at *;cases S with
      | none=>
       have HE:U (bU u f i=G):=aJ (by rw[BC HO.j,hs];rfl);simp only[L6,Option.getD_none]at *;clear hs;go_wp2_with fail;exact qn (v:=.tuple #[.agg #[J a9 0 c9,J (Y (Q wc.heap.size 0 G)) 1 1],.bool AS]) Qn rfl (kg (ts:=[]) (ps:=[i.a]) HE.j Qe ((mL bj.j r0 r1).gr G5) (br Ql) Q6 Q6)
      | some s=>
       have HE:U (bU u f i=Y (s,[i.a])):=aJ (by rw[BC HO.j,hs];rfl);have Tn:D s<=1000000:=az.j s QT;simp only[Lu,La]at *;clear hs;go_wp2_with fail;exact qn (v:=.tuple #[.agg #[J a9 (D s) c9,J (Y (Q wc.heap.size 0 G)) 1 1],.bool AT]) Qn rfl (eF HE.j Qe ((mL bj.j r0 r1).gr G5) (br Ql) Tn Q6)
   · as_aux_lemma=>
      rw[ho]at k9;obtain⟨jb,Vy⟩:∃jb:R,i.b=(jb:A):=⟨i.b.toNat,Ra⟩;have b2:jb<=65535:=Ra
      rw[Vy]at ae;have HO:=aJ ho;clear ho;have ai:∀s,bH u i.a=Y s->D s<=1000000:=λs hs=>az.j s QT
      by_cases Uc:jb<D ((bH u i.a).getD [])
      · generalize hs:bH u i.a=S at *;cases S with
        | none=>simp at Uc
        | some s=>
         simp only[Lu,La]at *;obtain⟨y,hy⟩:=aU Uc;have HE:U (bU u f i=Y ([i.a],[y])):=aJ (by rw[Bh HO.j,hs];simp[Vy,hy]);have Tn:=ai s rfl;obtain⟨dw,e4,e9,_,a8⟩:=bj.j;obtain⟨b9,o9,rfl,S6⟩:=a8 jb Uc;simp only[jj,Bt]at e9;obtain⟨rfl,rfl⟩:=e9;have TA:s.getD jb 0=y:=by rw[mh,hy];rfl
         rw[TA]at S6;have e0:=S6;have ec:¬b9=w.heap.size+1+1+1:=λe=>by rw[e,aS TF.j.eb]at S6;rcases(show o9+jb=0\/o9+jb=1\/2<=o9+jb by omega) with h|h|h<;>simp[h]at S6<;>omega
         have TG:(jb:A)<(D s:A):=Q5;clear hs a8 TA hy Vy ai S6;go_upto_region 46 with fail
         refine xE (S:=(λw'=>H w' (Q w.heap.size 0 G)=Y (J a1 (D u.aA) c1)/\H w' (Q w.heap.size 1 G)=Y (J a2 (D u.aE) c2)/\H w' (Q w.heap.size 2 G)=Y (J a3 (D u.aG) c3)/\H w' (Q w.heap.size 3 G)=Y (J a4 (D u.aC) c4)/\H w' (Q w.heap.size 4 G)=Y (J a5 (D u.aD) c5)/\H w' ⟨w.heap.size+1,0,G⟩=Y (J ap (D f.aH) cp)/\H w' ⟨w.heap.size+1,1,G⟩=Y (O Z f.result)/\H w' ⟨w.heap.size+1,2,G⟩=Y (J al (D f.aI) cl)/\H w' ⟨w.heap.size+1,3,G⟩=Y (J ac (D f.code) cc)/\H w' ⟨w.heap.size+1+1,0,G⟩=Y (O Z 16)/\H w' ⟨w.heap.size+1+1,1,G⟩=Y (O Z i.a)/\H w' ⟨w.heap.size+1+1,2,G⟩=Y (O Z (jb:A))/\H w' ⟨b9,o9+jb,G⟩=Y (O Z y))) Q7 (⟨k0,k1,k2,k3,k4,k5,k6,k7,k8,k9,ad,ae,e0⟩) λhH=>?_;refine tL 0 ?_ (hy:=Qg)
         refine tL 1 ?_ (hy:=Qg)
         refine tL 3 ?_ (hy:=Qg)
         refine tL 4 ?_ (hy:=Qg)
         refine tL 5 ?_ (hy:=Qg)
         refine tL 6 ?_ (hy:=Qg)
         refine tL 7 ?_ (hy:=Qg)
         refine EG (x:=2) (y:=8) rfl rfl Q7 Q7 Q9 Q7 Q7 Q7 bZ bZ (λc a d v w h=>by cases d<;>exact h) (λw'=>Gr wc w') (re wc i.a) (re wc y) (λw' g=>⟨g.cell k0 Q6,g.cell k1 Q6,g.cell k2 Q6,g.cell k3 Q6,g.cell k4 Q6,g.cell k5 Q6,g.cell k6 Q6,g.cell k7 Q6,g.cell k8 Q6,g.cell k9 Q6,g.cell ad Q6,g.cell ae Q6,g.cell e0 Q6⟩) Gy ?p16x ?p16y ?p16r
         case p16x=>
          exact OC
         case p16y=>
          exact OC
         case p16r=>
          rintro vx vy w2 j ⟨bx,rfl,TJ,ck⟩ ⟨bk,rfl,Vk,ca⟩;have hH:=(λg:Gr wc w2=>(⟨g.cell k0 Q6,g.cell k1 Q6,g.cell k2 Q6,g.cell k3 Q6,g.cell k4 Q6,g.cell k5 Q6,g.cell k6 Q6,g.cell k7 Q6,g.cell k8 Q6,g.cell k9 Q6,g.cell ad Q6,g.cell ae Q6,g.cell e0 Q6⟩:H w2 (Q w.heap.size 0 G)=Y (J a1 (D u.aA) c1)/\H w2 (Q w.heap.size 1 G)=Y (J a2 (D u.aE) c2)/\H w2 (Q w.heap.size 2 G)=Y (J a3 (D u.aG) c3)/\H w2 (Q w.heap.size 3 G)=Y (J a4 (D u.aC) c4)/\H w2 (Q w.heap.size 4 G)=Y (J a5 (D u.aD) c5)/\H w2 ⟨w.heap.size+1,0,G⟩=Y (J ap (D f.aH) cp)/\H w2 ⟨w.heap.size+1,1,G⟩=Y (O Z f.result)/\H w2 ⟨w.heap.size+1,2,G⟩=Y (J al (D f.aI) cl)/\H w2 ⟨w.heap.size+1,3,G⟩=Y (J ac (D f.code) cc)/\H w2 ⟨w.heap.size+1+1,0,G⟩=Y (O Z 16)/\H w2 ⟨w.heap.size+1+1,1,G⟩=Y (O Z i.a)/\H w2 ⟨w.heap.size+1+1,2,G⟩=Y (O Z (jb:A))/\H w2 ⟨b9,o9+jb,G⟩=Y (O Z y))) j;have HJ:=aJ j;have di:=aJ ck;have eo:=aJ ca;clear j ck ca;simp only[Act.put,sA,s0,s1];refine tL 9 ?_;refine bQ (i:=10) rfl Q7 λK hK=>?_;refine aW bZ (Lc (P:=prog) 125 _ _ rfl (w.heap.size+1+1+1) #[J (Y (Q bx 0 G)) 1 1,J (Y (Q bk 0 G)) 1 1] bZ fZ 125 _ (((show Gr wc _ from HJ.j).block _ IN Q6).trans TF.j.eb) Tryz.infErf rfl Qr ?_);refine hK.out _ _ ((λg:Gr wc _=>⟨ag Q5 (g.cell k0 Q6),ag Q5 (g.cell k1 Q6),ag Q5 (g.cell k2 Q6),ag Q5 (g.cell k3 Q6),ag Q5 (g.cell k4 Q6),ag Q5 (g.cell k5 Q6),ag Q5 (g.cell k6 Q6),ag Q5 (g.cell k7 Q6),ag Q5 (g.cell k8 Q6),ag Q5 (g.cell k9 Q6),ag Q5 (g.cell ad Q6),ag Q5 (g.cell ae Q6),ag Q5 (g.cell e0 Q6)⟩) HJ.j) λhH=>?_;clear hK;try simp only[Act.put,sA,s0,s1]
          refine tL 11 ?_;refine Ev Q7 ?_ _;go_wp2_with fail;have F:=Kg (w2) (w.heap.size+1+1+1) _ #[J (Y (Q bx 0 G)) 1 1,J (Y (Q bk 0 G)) 1 1] 125 _ ((HJ.j.block _ IN Q6).trans TF.j.eb);have Vx:=(aS (o:=0) F).trans (show _=Y (J (Y (Q bx 0 G)) 1 1) from rfl);have Uz:=(aS (o:=1) F).trans (show _=Y (J (Y (Q bk 0 G)) 1 1) from rfl);exact qn (v:=.tuple #[.agg #[J (Y (Q bx 0 G)) 1 1,J (Y (Q bk 0 G)) 1 1],.bool AT]) Qx rfl (eF (ts:=[i.a]) (ps:=[y]) HE.j (cE (TF.j.gr.trans HJ.j) Q5) (br (ag Q5 di.j)) (br (ag Q5 eo.j)) Q6 Q6)
      have HE:U (bU u f i=G):=aJ (by rw[Bh HO.j,Vy,A7];exact rX Uc);exact Qc
   · as_aux_lemma=>
      rw[ho]at k9;obtain⟨jb,Vy⟩:∃jb:R,i.b=(jb:A):=⟨i.b.toNat,Ra⟩;have b2:jb<=65535:=Ra
      rw[Vy]at ae;have HO:=aJ ho;clear ho;have ai:∀s,bH u i.a=Y s->D s<=1000000:=λs hs=>az.j s QT
      by_cases Uc:jb<D ((bH u i.a).getD [])
      · generalize hs:bH u i.a=S at *;cases S with
        | none=>simp at Uc
        | some s=>
         simp only[Lu,La]at *;obtain⟨y,hy⟩:=aU Uc;have HE:U (bU u f i=Y ([i.a,y],[])):=aJ (by rw[Bf HO.j,hs];simp[Vy,hy]);have Tn:=ai s rfl;obtain⟨dw,e4,e9,_,a8⟩:=bj.j;obtain⟨b9,o9,rfl,S6⟩:=a8 jb Uc;simp only[jj,Bt]at e9;obtain⟨rfl,rfl⟩:=e9;have TA:s.getD jb 0=y:=by rw[mh,hy];rfl
         rw[TA]at S6;have e0:=S6;have ec:¬b9=w.heap.size+1+1+1:=λe=>by rw[e,aS TF.j.eb]at S6;rcases(show o9+jb=0\/o9+jb=1\/2<=o9+jb by omega) with h|h|h<;>simp[h]at S6<;>omega
         have TG:(jb:A)<(D s:A):=Q5;clear hs a8 TA hy Vy ai S6;go_upto_region 49 with fail
         refine xE (S:=(λw'=>H w' (Q w.heap.size 0 G)=Y (J a1 (D u.aA) c1)/\H w' (Q w.heap.size 1 G)=Y (J a2 (D u.aE) c2)/\H w' (Q w.heap.size 2 G)=Y (J a3 (D u.aG) c3)/\H w' (Q w.heap.size 3 G)=Y (J a4 (D u.aC) c4)/\H w' (Q w.heap.size 4 G)=Y (J a5 (D u.aD) c5)/\H w' ⟨w.heap.size+1,0,G⟩=Y (J ap (D f.aH) cp)/\H w' ⟨w.heap.size+1,1,G⟩=Y (O Z f.result)/\H w' ⟨w.heap.size+1,2,G⟩=Y (J al (D f.aI) cl)/\H w' ⟨w.heap.size+1,3,G⟩=Y (J ac (D f.code) cc)/\H w' ⟨w.heap.size+1+1,0,G⟩=Y (O Z 17)/\H w' ⟨w.heap.size+1+1,1,G⟩=Y (O Z i.a)/\H w' ⟨w.heap.size+1+1,2,G⟩=Y (O Z (jb:A))/\H w' ⟨b9,o9+jb,G⟩=Y (O Z y))) Q7 (⟨k0,k1,k2,k3,k4,k5,k6,k7,k8,k9,ad,ae,e0⟩) λhH=>?_;refine tL 0 ?_ (hy:=Qg)
         refine tL 1 ?_ (hy:=Qg)
         refine tL 2 ?_ (hy:=Qg)
         refine tL 3 ?_ (hy:=Qg)
         refine tL 4 ?_ (hy:=Qg)
         refine tL 5 ?_ (hy:=Qg)
         refine tL 6 ?_ (hy:=Qg)
         refine bQ (i:=7) rfl Q7 λK hK=>?_;refine aW bZ ?_;go_simp
         refine hK.out _ _ ((λg:Gr wc _=>⟨g.cell k0 Q6,g.cell k1 Q6,g.cell k2 Q6,g.cell k3 Q6,g.cell k4 Q6,g.cell k5 Q6,g.cell k6 Q6,g.cell k7 Q6,g.cell k8 Q6,g.cell k9 Q6,g.cell ad Q6,g.cell ae Q6,g.cell e0 Q6⟩) Q3) λhH=>?_;clear hK;try simp only[Act.put,sA,s0,s1]
         refine tL 8 ?_;refine bQ (i:=9) rfl Q7 λK hK=>?_;refine aW bZ (Lc (P:=prog) 125 _ _ rfl (w.heap.size+1+1+1) #[J (Y (Q wc.heap.size 0 G)) 2 2,J G 0 0] bZ fZ 125 _ (((show Gr wc _ from Q3).block _ IN Q6).trans TF.j.eb) Tryz.infErf rfl Qr ?_);refine hK.out _ _ ((λg:Gr wc _=>⟨ag Q5 (g.cell k0 Q6),ag Q5 (g.cell k1 Q6),ag Q5 (g.cell k2 Q6),ag Q5 (g.cell k3 Q6),ag Q5 (g.cell k4 Q6),ag Q5 (g.cell k5 Q6),ag Q5 (g.cell k6 Q6),ag Q5 (g.cell k7 Q6),ag Q5 (g.cell k8 Q6),ag Q5 (g.cell k9 Q6),ag Q5 (g.cell ad Q6),ag Q5 (g.cell ae Q6),ag Q5 (g.cell e0 Q6)⟩) Q3) λhH=>?_;clear hK;try simp only[Act.put,sA,s0,s1]
         refine tL 10 ?_;refine Ev Q7 ?_ _;go_wp2_with fail;have F:=Kg ((wc.alloc (X #[O Z i.a,O Z y] 3)).drew) (w.heap.size+1+1+1) _ #[J (Y (Q wc.heap.size 0 G)) 2 2,J G 0 0] 125 _ (((show Gr wc _ from Q3).block _ IN Q6).trans TF.j.eb);have Vx:=(aS (o:=0) F).trans (show _=Y (J (Y (Q wc.heap.size 0 G)) 2 2) from rfl);have Uz:=(aS (o:=1) F).trans (show _=Y (J G 0 0) from rfl);exact qn (v:=.tuple #[.agg #[J (Y (Q wc.heap.size 0 G)) 2 2,J G 0 0],.bool AT]) Qx rfl (eF (ts:=[i.a,y]) (ps:=[]) HE.j Qe (i5 (ag Q5 Ql) (ag Q5 Ql)) (aw _) Q6 Q6)
      have HE:U (bU u f i=G):=aJ (by rw[Bf HO.j,Vy,A7];exact rX Uc);exact Qc
   · as_aux_lemma=>
      rw[ho]at k9;have HO:=aJ ho;clear ho;generalize hs:bH u i.a=S at *;cases S with
      | none=>
       have HE:U (bU u f i=G):=aJ (by rw[BU HO.j,hs];rfl);simp only[L6,Option.getD_none]at *;clear hs;go_wp2_with fail;exact qn (v:=.tuple #[.agg #[J G 0 0,J (Y (Q wc.heap.size 0 G)) 1 1],.bool AS]) Qn rfl (kg (ts:=[]) (ps:=[i.a]) HE.j Qe (aw _) (br Ql) Q6 Q6)
      | some s=>
       have HE:U (bU u f i=Y ([],[i.a])):=aJ (by rw[BU HO.j,hs];rfl);have Tn:D s<=1000000:=az.j s QT;simp only[Lu,La]at *;clear hs;exact Ny
   · as_aux_lemma=>
      rw[ho]at k9;have HO:=aJ ho;clear ho;generalize hs:bH u i.a=S at *;cases S with
      | none=>
       have HE:U (bU u f i=G):=aJ (by rw[Bm HO.j,hs];rfl);simp only[L6,Option.getD_none]at *;clear hs;go_wp2_with fail;exact qn (v:=.tuple #[.agg #[J (Y (Q wc.heap.size 0 G)) 1 1,J (Y ⟨wc.heap.size+1,0,G⟩) 1 1],.bool AS]) Qn rfl (kg (ts:=[i.a]) (ps:=[0]) HE.j Qe (br Ql) (br Ql) Q6 Q6)
      | some s=>
       have HE:U (bU u f i=Y ([i.a],[0])):=aJ (by rw[Bm HO.j,hs];rfl);have Tn:D s<=1000000:=az.j s QT;simp only[Lu,La]at *;clear hs;go_wp2_with fail;exact qn (v:=.tuple #[.agg #[J (Y (Q wc.heap.size 0 G)) 1 1,J (Y ⟨wc.heap.size+1,0,G⟩) 1 1],.bool AT]) Qn rfl (eF HE.j Qe (br Ql) (br Ql) Q6 Q6)
   · as_aux_lemma=>
      rw[ho]at k9;have HE:U (bU u f i=Y ([0],[])):=aJ RZ;clear ho;exact Ns
end Go.Proofs.YtghjmnlapcpbiaaGreatDoor
