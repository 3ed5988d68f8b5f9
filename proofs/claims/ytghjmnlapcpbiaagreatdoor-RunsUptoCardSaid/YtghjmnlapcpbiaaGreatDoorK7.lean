import Derived.Test.YtghjmnlapcpbiaaGreatDoorJ2z
import Derived.Test.YtghjmnlapcpbiaaGreatDoorDhs
namespace Go.Proofs.YtghjmnlapcpbiaaGreatDoor
open _root_ renaming Option.some->Y,Option.none->G,Go.Value.int->O,Go.IntKind.i64->Z,Go.Value.slice->J,List->I,Nat->R,Int->A,Go.World.cell?->H,List.length->D,Go.Obj.cells->X,Go.Value->M,Go.World->T,Go.Addr.mk->Q,Go.RowKit.Hid->U,UInt8->AI,Bool.false->AS,Bool.true->AT,Option->By
open Go.Proofs.Tryz
set_option maxRecDepth 100000
set_option maxHeartbeats 4000000
set_option linter.unusedVariables false
set_option linter.unusedSimpArgs false
open Go.RowKit
attribute [local go_sem ↓] Go.wp_at_zero Go.wp_at_succ
variable{t:Array M}{why wy:A}{σ:I A}{L:I RF}{B:I RK}{l:I aK}{E:I cJ}{a b fuel heap i k ob q ub:R}{ρ:R->BR}{Ts:R->R->By (I A)}{m m':PM}{e:RF}{c0 c10 c100 c101 c102 c103 c104 c105 c106 c107 c108 c109 c11 c110 c111 c112 c113 c114 c115 c116 c117 c118 c119 c12 c120 c121 c122 c123 c124 c125 c126 c127 c128 c129 c13 c130 c131 c132 c133 c134 c135 c136 c137 c138 c139 c14 c140 c141 c142 c143 c144 c145 c146 c147 c148 c149 c15 c150 c151 c152 c153 c154 c155 c156 c157 c158 c159 c16 c160 c161 c162 c163 c164 c165 c166 c167 c168 c169 c17 c170 c171 c18 c19 c2 c20 c21 c22 c23 c24 c25 c26 c27 c28 c29 c3 c30 c31 c32 c33 c34 c35 c36 c37 c38 c39 c4 c40 c41 c42 c43 c44 c45 c46 c47 c48 c49 c5 c50 c51 c52 c53 c54 c55 c56 c57 c58 c59 c60 c61 c62 c63 c64 c65 c66 c67 c68 c69 c7 c70 c71 c72 c73 c74 c75 c76 c77 c78 c79 c8 c80 c81 c82 c83 c84 c85 c86 c87 c88 c89 c9 c90 c91 c92 c93 c94 c95 c96 c97 c98 c99 vB vF vT:M}{W w:T}{u:aK}{FIN:kB}{C:oN}
theorem Tryz.callEff(vals:Array M)(w:T):(callFunc 46 vals).run Tryz.prog w=.ok (.enter 46 vals) w:=Q7
theorem Kr{P:Program}{l:I Oper}{md:Region.Mode}{QQq:Exit->Act->T->Prop}{S:T->Prop}{x y:R}{ox oy:Oper}{listed:Array Bool}{a:Act}(hx:l[x]? =Y ox)(hy:l[y]? =Y oy)(F:Region.ready md l.toArray listed=[x,y])
 (h1:∀d:Act->T->Prop,Shut (∀a w,S w->(S w->wpAnyH P md l.toArray QQq S fuel (listed.setIfInBounds x AT) a w)->d a w)->if Region.wanted ox (yielded l.toArray a.tmps)=AT then Oper.wp P ox a w d QQq else d (a.put ox.dst undef) w)
 (h2:∀d:Act->T->Prop,Shut (∀a w,S w->(S w->wpAnyH P md l.toArray QQq S fuel (listed.setIfInBounds y AT) a w)->d a w)->if Region.wanted oy (yielded l.toArray a.tmps)=AT then Oper.wp P oy a w d QQq else d (a.put oy.dst undef) w):wpAnyH P md l.toArray QQq S (fuel+1) listed a w:=
 wpAnyH_ready F Q6 (AllReadyH.cons (by simpa using hx) h1 (AllReadyH.cons (by simpa using hy) h2 AllReadyH.nil))
theorem Ex{o:By (I A×I A)}{a b c d:I A}(h:o=Y (a,b))(g:o.isSome=AT->o=Y (c,d)):a=c/\b=d:=by
 subst h;simpa using g rfl
def kw:R->Code->Code->Code
 | n+1,.seq a b,t=>.seq a (kw n b t)
 | _,_,t=>t
theorem Dq{st:A}{c1 c6 hA m6 di fy b8 mr ih ht pk cB nb cx hR c' j0 gp p' j1 g5 oj b0 bB b' gy ez dw o' g4 q8 mm jn k1 o9 n9 hN pv hQ oo l4 l1 fa o3 gU a9 hz n2 ns o5 hW o1 cz a6 bo gb e0 kn b9 qp p9 b2 h' ef bL l3 fz cj ni fr a5 n4 g1 k2 ky cn o7 ka l7 hZ h0 fm n0 o2 ej ed dT q2 a' hn eo n5 k7 ot ec gw n7 q6 ha nw cy kt nf q4 kb cp iv g3 nd bg ln m8 lp gV q0 kk n6 kx k5 h9 fv hY o6 hP k6 cu j' nk l5 fg b3 hG e9 hc hB il gF cf ki qv j2 cv ep o0 b7 h8 ja k8 k3 bF e' gf en jv a7 hv hj cl bt m9 ck e7 px nv cL g6 hd q5 m7 gA bj gm n1 h6 q7 gW g2 eu j4 ds j3 hb cM o4 n8 b6 l6 lv hx nn oz dd k' a4 hD l2 b5 ke hJ na ql ek hI np k4 k9 k0 eV iy n3 hM kq gX hC bp bC dO ev h7 e8 q3 b1 l0 g' jb b4 gB hL o8 a8 nc hO:M}(h:DW C w ρ (L++[e]) B ⟨m.told,st,wy,0⟩ vF vB vT)(hV:C.V.heap.size=C.mb)(hU:bV C.V (.agg #[C.v1,C.v2,C.v3,C.v4,C.v5]) C.u)(hm:qg C.u Ts σ m)(hr:MR C.u Ts σ m L e B)(sy:D m.blks<=300000)(hu:rD C.u)(af:C.u.aC=[])(hT:∀n f,C.u.aG[n]? =Y f->lf C.u f (Ts n))(r4:m.taken<=10000/\cT m<=m.taken/\C.heap<=10000):
 Code.wp prog (kw 10 (eU f23) (rS 10 (eU f23))) (EQ (SQ C Ts σ m ⟨m.told,st,wy,0⟩)) ⟨#[.pointer (Y (Q C.mb 0 G)),c1,c2,c3,c4,c5,c6,c7,c8,c9,c10,c11,c12,c13,c14,c15,c16,c17,c18,c19,c20,c21,c22,c23,c24,c25,c26,c27,c28,c29,c30,c31,c32,c33,c34,c35,c36,c37,c38,c39,c40,c41,c42,c43,c44,c45,c46,c47,c48,c49,c50,c51,c52,c53,c54,c55,c56,c57,c58,c59,c60,c61,c62,c63,c64,c65,c66,c67,c68,c69,c70,c71,c72,c73,c74,c75,c76,c77,c78,c79,c80,c81,c82,c83,c84,c85,c86,c87,c88,c89,c90,c91,c92,c93,c94,c95,c96,c97,c98,c99,c100,c101,c102,c103,c104,c105,c106,c107,c108,c109,c110,c111,c112,c113,c114,c115,c116,c117,c118,c119,c120,c121,c122,c123,c124,c125,c126,c127,c128,c129,c130,c131,c132,c133,c134,c135,c136,c137,c138,c139,c140,c141,c142,c143,c144,c145,c146,c147,c148,c149,c150,c151,c152,c153,c154,c155,c156,c157,c158,c159,c160,c161,c162,c163,c164,c165,c166,c167,c168,c169,c170,c171,hA,m6,di,fy,b8,mr,ih,ht,pk,cB,nb,cx,hR,c',j0,gp,p',j1,g5,oj,b0,bB,b',gy,ez,dw,o',g4,q8,mm,jn,k1,o9,n9,hN,pv,hQ,oo,l4,l1,fa,o3,gU,a9,hz,n2,ns,o5,hW,o1,cz,a6,bo,gb,e0,kn,b9,qp,p9,b2,h',ef,bL,l3,fz,cj,ni,fr,a5,n4,g1,k2,ky,cn,o7,ka,l7,hZ,h0,fm,n0,o2,ej,ed,dT,q2,a',hn,eo,n5,k7,ot,ec,gw,n7,q6,ha,nw,cy,kt,nf,q4,kb,cp,iv,g3,nd,bg,ln,m8,lp,gV,q0,kk,n6,kx,k5,h9,fv,hY,o6,hP,k6,cu,j',nk,l5,fg,b3,hG,e9,hc,hB,il,gF,cf,ki,qv,j2,cv,ep,o0,b7,h8,ja,k8,k3,bF,e',gf,en,jv,a7,hv,hj,cl,bt,m9,ck,e7,px,nv,cL,g6,hd,q5,m7,gA,bj,gm,n1,h6,q7,gW,g2,eu,j4,ds,j3,hb,cM,o4,n8,b6,l6,lv,hx,nn,oz,dd,k',a4,hD,l2,b5,ke,hJ,na,ql,ek,hI,np,k4,k9,k0,eV,iy,n3,hM,kq,gX,hC,bp,bC,dO,ev,h7,e8,q3,b1,l0,g',jb,b4,gB,hL,o8,a8,nc,hO],[]⟩ w:=by
 obtain⟨f,i,base,ts,ps,a,b,hh⟩:=rM hu af hT hm.top;obtain⟨s,Uh,f',q9,e1,aD,e3,e4,r6,e6⟩:=hr.top;rw[hh.func]at q9;cases q9;rw[hh.tab]at Uh;cases Uh;obtain⟨i',s',sT,sx,_⟩:=(hT _ _ hh.func).step _ _ hh.tab;rw[hh.code]at sT;cases sT;obtain⟨te,pe,ad⟩:=xZ sx;obtain⟨rl,rv⟩:=G3 hh.ins ad;have hf:C.u.aG[e.fn]? =Y f:=by rw[e1];exact hh.func
 have hi:f.code[e.pos]? =Y i:=by rw[aD];exact hh.code
 have tt:=hr.low.len;have tl:=hm.deep;have vx:D L<=1000:=Q5;have Tj:=e6.trans hh.stack;have r8:=hh.upon.1;have TQ:=hh.below.1;have az:=hh.short;rw[fe]at az;have hE:∀V vp vl vc,Gr w V->aY w vp _->aY w vl _->eC w vc _->Calls _ _ _ V _:=λV vp vl vc g r1 r2 r3=>by
  have vi:=hu.func f (dL hf);have vm:=hu.few;exact tP _ f i (vi.2.2.2.2.2.2.2 i (dL hi)) _ _ _ _ _ _ _ _ V (hU.gr ((h.vgr hV).trans g)) (r1.gr g) (r2.gr g) (by obtain⟨a,c,e,_⟩:=r3;exact⟨a,c,e⟩) Q5 Q5 Q5 ⟨Q5,Q5,Q5,by rw[af];simp⟩ (λs hs=>by have:=(hu.shape s hs).2.1;omega) (λg hg=>by have:=(hu.func g hg).1;omega) λg hg=>by rw[af]at hg;cases hg
 have HS:=aJ (And.intro hh (And.intro hm (And.intro hr (And.intro sy (And.intro hu (And.intro af (And.intro hT r4)))))));have HV:=aJ (And.intro hV hU);have d:=aJ (And.intro e1 (And.intro aD (And.intro e3 (And.intro e4 (And.intro r6 Tj)))));have HN:=aJ (And.intro rl (And.intro rv (And.intro r8 (And.intro TQ az))));clear hh hm hr sy hu af hT r4 sx rl rv tt tl e1 aD e3 e4 r6 e6 Tj r8 TQ az;have HD:=aJ h;have q':=aJ ad;have HU:=aJ (hU.gr (h.vgr hV));obtain⟨x1,x2,x3,x4,x5,he,h1,h2,h3,h4,h5⟩:=HU.j;simp only[Ch,FL,Bk,I7]at he;obtain⟨vb,Tx,rk,uu,tn⟩:=he;obtain⟨a3,c3,ra,_,r9⟩:=h3;obtain⟨fb,fo,vp,vl,vc,rfl,t0,t1,t2,t3,r1,r2,r3⟩:=r9 _ f hf;have HE:=aJ λV g=>hE V _ _ _ g r1 r2 r3
 obtain⟨ca,cc,rfl,_,rf⟩:=r3;obtain⟨cb,co,rfl,i0,i1,i2⟩:=rf _ i hi;obtain⟨pa,pc,rfl⟩:=r1.shape;obtain⟨la,lc,rfl⟩:=r2.shape;have U9:=(dm.1 hf).1;have Ug:=(dm.1 hi).1;obtain⟨g,cF,al,ak,vv⟩:=h.frCell (i:=D L) (e:=e) Q6;rw[fe,MI]at al;have aE:=aJ al;have f0:H w ⟨g,D L*4,_⟩=Y _:=ak 0 Q9;have f1:H w _=Y _:=ak 1 Q9;have sk:=aJ (show H w _=Y _ from ak 3 Q9);have e5:H w (Q C.mb 5 G)=Y (J (Y (Q g 0 G)) (D L+1) cF):=by rw[aN h.box,<-al];rfl
 have e2:H w (Q C.mb 2 G)=Y (J (Y (Q fb fo G)) (D C.u.aG) c3):=by rw[aN h.box,<-ra,<-rk];rfl
 have s7:U (H w ⟨_,0,_⟩=Y C.v1/\H w ⟨_,1,_⟩=Y C.v2/\H w ⟨_,2,_⟩=Y C.v3/\H w ⟨_,3,_⟩=Y C.v4/\H w ⟨_,4,_⟩=Y C.v5):=aJ (by refine⟨?_,?_,?_,?_,?_⟩<;>(rw[aN h.box];rfl))
 have t':Z.wrap (D L+1-1)=D L:=Qq
 have UC:(D L:A)<D L+1:=Q5;have Vq:(e.fn:A)<D C.u.aG:=Q5;have s9:(e.pos:A)<D f.code:=Q5;have s8:(0:A)<=D L:=Q5;have u':(0:A)<=e.fn:=Q5;have uv:(0:A)<=e.pos:=Q5;have F:=(Gr.refl w).alloc (X #[J G 0 0,O Z 0,J G 0 0,J G 0 0] 74);have y0:=F.cell e5 Q6;have y1:=F.cell e2 Q6;have y2:=F.cell f0 Q6;have y3:=F.cell t0 Q6;have y4:=F.cell t1 Q6;have y5:=F.cell t2 Q6;have y6:=F.cell t3 Q6;clear F ak rf r9 h1 h2 h4 h5 h hU hf hi vb Tx rk uu tn ra al ad hE r1 r2;generalize hX:rS _ _=Xq;have tq:=aJ hX;clear hX;simp only[eU,f23,La,kw];go_wp2_with fail;go_region
 go_wp2_with fail;go_region
 clear y0 y1 y2 y3 y4 y5 y6 e5 e2 t0 t1 t2 t3 t' UC Vq s8 u';have Td:=aJ (show Gr w ((w.alloc (X #[J pa (D f.aH) pc,O Z f.result,J la (D f.aI) lc,J (Y (Q cb co G)) (D f.code) cc] 74)).drew.drew) from ((Gr.refl w).alloc _).drew.drew);have aF:U (((w.alloc (X #[J pa (D f.aH) pc,O Z f.result,J la (D f.aI) lc,J (Y (Q cb co G)) (D f.code) cc] 74)).drew.drew).heap[w.heap.size]? =Y _):=aJ (jZ w _);have UK:U (((w.alloc (X #[J pa (D f.aH) pc,O Z f.result,J la (D f.aI) lc,J (Y (Q cb co G)) (D f.code) cc] 74)).drew.drew).heap.size=w.heap.size+1):=aJ Q6;generalize (w.alloc _).drew.drew=W1 at Td aF UK |-;have z0:=Td.cell f1 Q6;have z1:=Td.cell i0 Q6;have z2:=Td.cell i1 Q6;have z3:=Td.cell i2 Q6;have z4:H W1 (Q w.heap.size 3 G)=Y (J (Y (Q cb co G)) (D f.code) cc):=by rw[aN aF];rfl
 have F:=(Gr.refl W1).alloc (X #[O Z 0,O Z 0,O Z 0] 87);have y0:=F.cell z0 Q6;have y1:=F.cell z1 Q6;have y2:=F.cell z2 Q6;have y3:=F.cell z3 Q6;have y4:=F.cell z4 Q6;clear F;go_wp2_with fail;go_region
 clear y0 y1 y2 y3 y4 z0 z1 z2 z3 z4 f0 f1 i0 i1 i2 s9 uv;have OF:=aJ (show Gr w ((W1.alloc (X #[O Z i.op,O Z i.a,O Z i.b] 87)).drew) from Td.trans (G5).drew);have TT:U (((W1.alloc (X #[O Z i.op,O Z i.a,O Z i.b] 87)).drew).heap[w.heap.size]? =Y _):=aJ (((G5).block _ (by have:=UK.j;omega) Q6).trans aF);have ax:U (((W1.alloc (X #[O Z i.op,O Z i.a,O Z i.b] 87)).drew).heap[W1.heap.size]? =Y _):=aJ (jZ _ _);generalize (W1.alloc _).drew=W2 at OF TT ax |-;have KS:U (∀w',Gr _ _->(λw':T=>H w' _=Y _/\H w' _=Y _/\H w' _=Y _/\H w' _=Y _/\H w' _=Y _/\H w' ⟨_,0,_⟩=Y (J _ _ _)/\H w' ⟨_,1,_⟩=Y (.int _ _)/\H w' ⟨_,2,_⟩=Y (J _ _ _)/\H w' ⟨_,3,_⟩=Y (J _ _ _)/\H w' ⟨_,0,_⟩=Y (.int _ _)/\H w' ⟨_,1,_⟩=Y (.int _ i.a)/\H w' ⟨_,2,_⟩=Y (.int _ _)) w'):=aJ (λw' g=>by
  obtain⟨m0,m1,m2,m3,m4⟩:=s7.j;have gg:=OF.trans g;refine⟨gg.cell m0 Q6,gg.cell m1 Q6,gg.cell m2 Q6,gg.cell m3 Q6,gg.cell m4 Q6,g.cell (?_:H W2 _=_) Q6,g.cell (?_:H W2 _=_) Q6,g.cell (?_:H W2 _=_) Q6,g.cell (?_:H W2 _=_) Q6,g.cell (?_:H W2 _=_) Q6,g.cell (?_:H W2 _=_) Q6,g.cell (?_:H W2 _=_) Q6⟩
  all_goals first|(rw[aN TT.j];rfl)|(rw[aN ax.j];rfl))
 go_wp2_with fail;go_cut [6,7] from 46 to 55 λv6 v7 wx=>∃eb ta tc qa qc,v6=.pointer (Y (Q eb 0 G))/\W2.heap.size<=eb/\Gr W2 wx/\wx.heap[eb]? =Y (X #[J ta (D te) tc,J qa (D pe) qc] 125 (0,0))
 case first=>
  refine xE (S:=(λw'=>H w' _=Y _/\H w' _=Y _/\H w' _=Y _/\H w' _=Y _/\H w' _=Y _/\H w' _=Y _/\H w' _=Y _/\H w' _=Y _/\H w' _=Y _/\H w' _=Y _/\H w' _=Y _/\H w' _=Y _)) Q7 (KS _ Gy) λhH=>?_;refine tL 0 ?_;refine tL 1 ?_;refine tL 2 ?_;refine tL 3 ?_;refine tL 4 ?_;refine tL 5 ?_;refine Kr (x:=6) (y:=10) rfl rfl Q7 ?_ ?_
  · intro K hK;refine aW bZ (pi 46 _ _ rfl _ fZ (Tryz.callEff _ _) ((HE _ (OF.trans (Gr.drew (Gr.refl W2)))).mono ?_));rintro x w3 ⟨hg,vt,vp,s3,tg,rfl,⟨ta,tc,rfl,_⟩,⟨qa,qc,rfl,_⟩,_,_,hs⟩;obtain⟨rfl,rfl⟩:=Ex q' hs;clear hs;have Te:=aJ (Gr.trans Gy hg);refine .inl ⟨_,rfl,?_⟩;refine hK _ _ (KS _ Te) λhH=>?_;clear hK;try simp only[Act.put,sA,s0,s1]
    refine tL 7 ?_;refine tL 8 ?_;refine tL 9 ?_;refine bQ (i:=10) rfl Q7 λK hK=>?_;refine aW bZ ?_;go_simp
    refine hK _ _ (KS _ (Te.alloc _)) λhH=>?_;clear hK;try simp only[Act.put,sA,s0,s1]
    refine bQ (i:=11) rfl Q7 λK hK=>?_;refine aW bZ (Lc (P:=prog) 125 _ _ rfl w3.heap.size #[J ta (D te) tc,J qa (D pe) qc] bZ fZ 125 _ (jZ w3 _) Tryz.infErf rfl Qr ?_);refine hK _ _ (KS _ (cE (Te.alloc _) Te.size)) λhH=>?_;clear hK;try simp only[Act.put,sA,s0,s1]
    refine tL 12 ?_;refine Ev Q7 ?_ _;go_wp2_with fail;go_meet
    exact⟨_,_,_,_,_,rfl,Te.size,cE (Te.alloc _) Te.size,Kg _ _ _ _ _ _ (jZ _ _)⟩
  intro K hK;refine aW bZ ?_;go_simp
  refine hK _ _ (KS _ ((Gy).alloc _)) λhH=>?_;clear hK;try simp only[Act.put,sA,s0,s1]
  refine bQ (i:=6) rfl Q7 λK hK=>?_;refine aW bZ (pi 46 _ _ rfl _ fZ (Tryz.callEff _ _) ((HE _ (OF.trans ((Gr.drew (Gr.refl W2)).alloc (X _ 125)))).mono ?_));rintro x w3 ⟨hg,vt,vp,s3,tg,rfl,⟨ta,tc,rfl,_⟩,⟨qa,qc,rfl,_⟩,_,_,hs⟩;obtain⟨rfl,rfl⟩:=Ex q' hs;clear hs;have Te:=aJ (Gr.trans ((Gy).alloc _) hg);refine .inl ⟨_,rfl,?_⟩;refine hK _ _ (KS _ Te) λhH=>?_;clear hK;try simp only[Act.put,sA,s0,s1]
  have HZ:=aJ ((hg.block W2.heap.size Q6 Q6).trans (jZ _ _));clear hg;refine tL 7 ?_;refine tL 8 ?_;refine tL 9 ?_;refine bQ (i:=11) rfl Q7 λK hK=>?_;refine aW bZ (Lc (P:=prog) 125 _ _ rfl W2.heap.size #[J ta (D te) tc,J qa (D pe) qc] bZ fZ 125 _ HZ.j Tryz.infErf rfl Qr ?_);refine hK _ _ (KS _ (cE Te lj)) λhH=>?_;clear hK;try simp only[Act.put,sA,s0,s1]
  refine tL 12 ?_;refine Ev Q7 ?_ _;go_wp2_with fail;go_meet
  exact⟨_,_,_,_,_,rfl,lj,cE Te lj,Kg _ _ _ _ _ _ HZ⟩
 case rest=>
  obtain⟨eb,ta,tc,qa,qc,rfl,ai,av,ay⟩:=hcut;have r5:=aJ (HD.gr (OF.trans av));have aL:=r5.fs _ e K1;obtain⟨⟨sa,sc,aM⟩,_⟩:=bD aL.st.1;have a2:D e.stack=D a+D b:=by rw[d.2.2.2.2.2];simp
  have rm:=HN.1.trans HN.2.2.1;have vz:D a+D b<=20:=by have:=HN.j;omega
  have f3:H wc ⟨g,D L*4+3,G⟩=Y (J sa (D a+D b) sc):=by rw[<-a2,<-aM];exact(OF.trans av).cell sk Q6
  rw[rm]at ay;have g0:H wc (Q eb 0 G)=Y (J ta (D b) tc):=by rw[aN ay];rfl
  have tx:Z.wrap (D a+D b-D b)=D a:=Qq
  have m5:Z.wrap _=D a:=Q_;have TI:(0:A)<=D a:=Q5;have S9:D a<=(D a:A)+D b:=Q5;have a0:=FI (m:=D a) (aM▸aL.st.1);rw[a2,Nat.add_sub_cancel_left,d.2.2.2.2.1,d.2.2.2.2.2,Cd HN.2.2.2.1]at a0;obtain⟨vt,w6,sr,aA,sV,tp⟩:=fG (ty:=80) 80 _ _ Tryz.infKV underlying80 rfl Q9 Q9 (B5 wc.drew wc.heap.size _ 2) a0 (kd HN.2.2.1) (pN _ _) Q5 lj;rw[Aq,Kj]at aA;have s5:=aJ sr;have ry:=aJ aA;have aB:=aJ ((Gy).trans sV);have sv:=aJ ay;have sM:=aJ av;have s6:=aJ ai;clear aL aM a2 rm a0 sr aA sV tp ay av ai;go_wp2_with fail;go_region
  clear g0 tx m5;go_upto_region 8 with(at_builtin;refine CH _ rfl _ _ _ _ rfl (J G 0 0) (J (if sc=D a then sa else Option.map (λx=>x.add (D a*2)) sa) (D b) (sc-D a)) fZ fZ _ _ s5.j ?_)
  clear f3 TI S9;generalize (if sc=D a then sa else Option.map _ _)=ix;have r0:=aJ (r5.gr aB);obtain⟨⟨_,f1,_,_⟩,hfz,_,_,_,hgl⟩:=r0.top aE;have Ty:=hfz (D L*4+1);have Vj:Z.wrap _=e.pos+1:=Ld _ (by have:=(HS.2.2.2.2.1.func f (dL HS.1.func)).2.2.2.1;omega);have sL:((e.pos+1:R):A)=e.pos+1:=rfl;have r7:=aJ (r0.setPos aE (e.pos+1));rw[sL]at r7;have ve:=aJ (r7.gr ((G0).alloc (X #[O Z 0,O Z 0] 122)));have va:=aJ (jZ (w6.setCell ⟨g,D L*4+1,G⟩ (O Z (e.pos+1))) (X #[O Z 0,O Z 0] 122));have sn:=aJ ((Gr.refl (w6.setCell ⟨g,D L*4+1,G⟩ (O Z (e.pos+1)))).alloc (X #[O Z 0,O Z 0] 122));clear hfz hgl sL;go_wp2_with fail;clear f1 Ty Vj;have S7:(w6.setCell ⟨g,D L*4+1,G⟩ (O Z (e.pos+1))).heap.size=w6.heap.size:=Q6;have vy:=by have:=wI w _ sk;simpa using this
  have Uh:=UK.j;have TV:=(eJ.1 ax).1;have Wr:=sM.size;have vn:=aB.size;have vX:=s6.j;have vu:=(eJ.1 sv).1;have vr:=HD.lt;have keep:∀(q:R) (o:Obj),¬q=g->wc.heap[q]? =Y o->((w6.setCell _ _).alloc _).heap[q]? =Y o:=λq o hq ho=>by
   have hl:=(eJ.1 ho).1;exact(sn.block q (by rw[S7];omega) Q6).trans ((dp _ _ _ _ hq).trans ((aB.block q hl Q6).trans ho))
  have ae:=λk hk=>ry.lt k hk
  have s4:qf C _ _ L _ B _ _ _ _ g _ _ _ w6.heap.size i _ _ _ _ _ _ b:=
   ⟨ve,aE,keep _ _ Q5 ((sM.block _ TV Q6).trans ax),keep _ _ Q5 sv,by rw[<-S7];exact va,eO (c_ (ry.mono Q5) λk hk=>dp _ _ _ _ (by have:=(ae k hk).1;show k≠g;omega)) sn,⟨HD.new Q5,HD.new Q5,HD.new Q5,λk hk=>HD.new (by have:=(ae k hk).1;omega)⟩,⟨Q5,Q5,Q5⟩,⟨Q5,Q5,λh=>by have:=(ae _ h).2;omega,λh=>by have:=(ae _ h).1;omega,λh=>by have:=(ae _ h).1;omega⟩⟩
  obtain rfl:=tq.j;exact wp_seq (G6 s4 HS.1 HS.2.1 ⟨d.1,by show e.pos+1=_;rw[d.2.1],d.2.2.1,d.2.2.2.1,d.2.2.2.2.1,d.2.2.2.2.2⟩ HS.2.2.1.low ⟨HS.2.2.1.bs,HS.2.2.1.bk⟩ HN.2.1 HS.2.2.2.1 HS.2.2.2.2.1 HS.2.2.2.2.2.1 HS.2.2.2.2.2.2.1 HS.2.2.2.2.2.2.2 HV.1 HV.2)
def LL(C:oN)(Ts:R->R->By (I A))(σ:I A)(m:PM)(st wy:A)(y:Ending)(w':T):Prop:=∃bo,y=.returned (.bool bo)/\qt C Ts σ m ⟨m.told,st,wy,0⟩ bo w'
theorem FX{st:A}(h:DW C w ρ (L++[e]) B ⟨m.told,st,wy,0⟩ vF vB vT)(hV:C.V.heap.size=C.mb)(hU:bV C.V (.agg #[C.v1,C.v2,C.v3,C.v4,C.v5]) C.u)(hm:qg C.u Ts σ m)(hr:MR C.u Ts σ m L e B)(ae:D m.blks<=300000)(hu:rD C.u)(F:C.u.aC=[])(hT:∀n f,C.u.aG[n]? =Y f->lf C.u f (Ts n))(ad:m.taken<=10000/\cT m<=m.taken/\C.heap<=10000):
 Calls prog 23 #[.pointer (Y (Q C.mb 0 G))] w (LL C Ts σ m st wy):=by
 go_enter func23,ntmps23
 refine wp_mono (Dq h hV hU hm hr ae hu F hT ad) ?_;intro ex a' w' hq;obtain⟨t,d⟩:=a';cases ex with
 | ret=>
  obtain⟨hd,bo,h2,hs⟩:=hq;exact qn (by simp[results,results23,go_sem,h2]) hd ⟨_,rfl,hs⟩
 | _=>exact hq.elim
theorem Ku:∀(l:I cJ) (seen s:I (I AI)),eM seen l=Y s->(∀e∈l,e.name∉seen)/\(l.map (·.name)).Nodup/\(∀n,n∈s↔n∈seen\/n∈l.map (·.name))
 | [],seen,s,h=>by
  obtain rfl:=tz h;exact⟨λe he=>(by cases he),List.nodup_nil,λn=>by simp⟩
 | e::l,seen,s,h=>by
  rw[eM]at h;by_cases hm:e.name∈seen
  · rw[mI hm]at h;cases h
  rw[eP hm]at h;obtain⟨F,h2,h3⟩:=Ku l _ _ h;refine⟨λx d=>?_,?_,λn=>?_⟩
  · rcases Ce.1 d with rfl|d
    · exact hm
    exact λhs=>F x d (Jw _ hs)
  · rw[Lq,List.nodup_cons];refine⟨λhn=>?_,h2⟩;obtain⟨x,d,ex⟩:=MB.1 hn;exact F x d (by rw[ex];exact J9)
  rw[h3 n,Lq,Ce,Ce];constructor
  · rintro((h|h)|h)
    · exact .inr (.inl h)
    · exact .inl h
    exact .inr (.inr h)
  rintro(h|h|h)
  · exact .inl (.inr h)
  · exact .inl (.inl h)
  exact .inr h
theorem Kt:∀(l:I aK) (seen:I (I AI)) (k:R),g9 seen k l=G->(l.flatMap λu=>u.aD.map (·.name)).Nodup/\∀n∈l.flatMap λu=>u.aD.map (·.name),n∉seen
 | [],seen,k,_=>⟨List.nodup_nil,λn d=>(by cases d)⟩
 | u::l,seen,k,h=>by
  rw[g9]at h;cases hu:eM seen u.aD with
  | none=>rw[hu]at h;cases h
  | some s=>
   rw[hu]at h;obtain⟨h1,h2,F⟩:=Ku _ _ _ hu;obtain⟨h4,h5⟩:=Kt l s _ h;rw[I'];refine⟨List.nodup_append.2 ⟨h2,h4,λa ha b hb e=>?_⟩,λn d=>?_⟩
   · subst e;exact h5 a hb ((F a).2 (.inr ha))
   rcases F1.1 d with d|d
   · obtain⟨x,hx,rfl⟩:=MB.1 d;exact h1 x hx
   exact λhs=>h5 n d ((F n).2 (.inl hs))
theorem rY(N:I AI->A):∀(l:I aK) (c f:R),((de N c f l).2.2).map (·.name)=l.flatMap λu=>u.aD.map (·.name)
 | [],c,f=>rfl
 | u::l,c,f=>by
  rw[de];simp only[Ju,List.map_map,I',rY N l];rfl
theorem zh{us:I aK}(h:dK us=.inl u):(u.aD.map (·.name)).Nodup:=by
 cases us with
 | nil=>simp[dK]at h
 | cons a t=>
  rw[dK]at h;dsimp only at h
  cases d:g9 [] 0 (a::t) with
  | some k=>
   rw[d]at h
   repeat' split at h
   all_goals first
    |(cases h;done)
    |(exfalso;simp_all;done)
  | none=>
   repeat' split at h
   all_goals first
    |(cases h;done)
    |(cases h;rw[rY];exact(Kt _ _ _ d).1)
theorem qV(u:aK)(x:cJ):∀(l:I cJ),ff u (l++[x])=(match ff u l with|some q=>Y q|none=>if kH u x=AT then Y x.func.toNat else G)
 | []=>rfl
 | e::l=>by
  rw[Ls,ff,ff,qV u x l];split<;>rfl
theorem sm{x:cJ}(d:kH u x=AT):∀{l:I cJ},((l++[x]).map (·.name)).Nodup->ff u l=G
 | [],_=>rfl
 | e::l,h=>by
  rw[Ls,Lq,List.nodup_cons]at h;rw[ff,eP,sm d h.2];intro he;unfold kH at he d;simp only[sQ,xw]at he d;exact h.1 (by rw[he.1,<-d.1];simp)
theorem FQ(h:m.taken<=heap)(hp:cQ u heap m=.go m'):m'.taken<=heap:=by
 unfold cQ at hp;cases hi:lT u m.top with
 | none=>rw[hi]at hp;cases hp
 | some i=>
  rw[hi]at hp;simp only at hp;by_cases d:i.op=15
  · rw[Bo d]at hp;dsimp only at hp
    repeat' split at hp
    all_goals first
     |(cases hp;done)
     |(cases hp;assumption)
  have F:=IZ (m:=m) (u:=u) (h:=heap) (h':=heap) (t:=m.taken) d;rw[show(⟨_,_,_,_,_⟩:PM)=m from rfl,hp]at F;have h3:=by simpa[jP.tk]using F
  rw[h3];exact h
structure Jx(C:oN)(Ts:R->R->By (I A))(fuel:R)(FIN:kB)(w:T)(m:PM)(s:R)(σ:I A)(ρ:R->BR)(L:I RF)(e:RF)(B:I RK)(vF vB vT:M):Prop where
 dw:DW C w ρ (L++[e]) B ⟨m.told,(s:A),0,0⟩ vF vB vT
 ok:qg C.u Ts σ m
 mr:MR C.u Ts σ m L e B
 rch:cT m<=m.taken
 tak:m.taken<=C.heap
 bls:D m.blks<=s
 le:s<=fuel
 run:kF C.u C.heap (fuel-s) s m=FIN
def KJ(C:oN)(Ts:R->R->By (I A))(fuel:R)(FIN:kB)(w:T):Prop:=∃m s σ ρ L e B vF vB vT,Jx C Ts fuel FIN w m s σ ρ L e B vF vB vT
theorem Jx.go{w':T}{s:R}(h:Jx C Ts fuel FIN w m s σ ρ L e B vF vB vT)(hu:rD C.u)(av:C.u.aC=[])(hT:∀n f,C.u.aG[n]? =Y f->lf C.u f (Ts n))(hs:s<fuel)(hp:cQ C.u C.heap m=.go m'){bo:Bool}(Tj:qt C Ts σ m ⟨m.told,((s+1:R):A),0,0⟩ bo w'):bo=AS/\∃σ' ρ' L' e' B' al ai ak,Jx C Ts fuel FIN w' m' (s+1) σ' ρ' L' e' B' al ai ak:=by
 unfold qt at Tj;rw[hp]at Tj;obtain⟨hb,ρ',L',e',B',al,ai,ak,hd,d⟩:=Tj;refine⟨hb,?_⟩;have Tb:=xl C.heap hu av hT h.ok;rw[hp]at Tb;have ad:=(zY _ hu av hT h.ok h.rch hp).1;have ae:=FQ h.tak hp;have F:kF C.u C.heap (fuel-(s+1)) (s+1) m'=FIN:=by rw[<-h.run,show fuel-s=(fuel-(s+1))+1 by omega,wg hp]
 have TQ:=h.bls;have ay:D B'=D m'.blks:=by
  rcases d with d|⟨_,_,d,_⟩<;>(rw[<-d.bs];simp)
 rcases Tb with⟨Tb,hlen⟩|⟨i,hi,Tb,hlen⟩
 · rcases d with d|⟨i,hi,d,ax⟩
   · exact⟨_,_,_,_,_,_,_,_,hd,Tb,d,ad,ae,Q5,hs,F⟩
   have:=Tb.aA;omega
 rcases d with d|⟨i2,af,d,ax⟩
 · refine⟨_,_,_,_,_,_,_,_,hd,Tb,⟨d.top,d.low,d.bs,λj b hj=>?_⟩,ad,ae,Q5,hs,F⟩;obtain⟨k,k1,k2⟩:=d.bk j b hj;exact⟨k,by rw[ze (dm.1 k1).1];exact k1,k2⟩
 rw[hi]at af;cases af
 exact⟨_,_,_,_,_,_,_,_,hd,Tb,d,ad,ae,Q5,hs,F⟩
theorem DW.toldC{x:RX}(h:DW C w ρ L B x vF vB vT):gv C.mb w vT x.told:=World.ownsRow.mono h.tl.1 (Ll _)
def G9(C:oN)(ob:R)(FIN:kB)(t:Array M)(w:T):Prop:=t[6]? =Y (.pointer (Y (Q ob 0 G)))/\∃vt,w.heap[ob]? =Y (X #[O Z FIN.why,O Z 0,O Z 0,O Z 0,O Z FIN.result,vt,O Z FIN.steps] 47 (0,0))/\FIN.unit=0/\FIN.at_=0/\FIN.e=0/\gv C.mb w vt FIN.told/\(∀b,b<C.mb->b≠ob->w.heap[b]? =C.V.heap[b]?)/\C.mb<w.heap.size/\w.os=C.V.os/\w.tape=C.V.tape/\w.output=C.V.output
theorem FD{res st:A}{told:I A}(h:DW C w ρ L B ⟨told,st,why,res⟩ vF vB vT)(F:FIN=⟨why,0,0,0,res,told,st⟩)(ho:ob<C.mb)(d:w.heap[ob]? =Y (X yI 47 (0,0)))(ht:t[6]? =Y (.pointer (Y (Q ob 0 G)))):G9 C ob FIN t (jO w ob (O Z why) (O Z 0) (O Z 0) (O Z 0) (O Z res) vT (O Z st)):=by
 subst F;have he:=pB w ob (O Z why) (O Z 0) (O Z 0) (O Z 0) (O Z res) vT (O Z st);refine⟨ht,_,jV d,rfl,rfl,rfl,?_,λb d No=>(iF No).trans (h.low b d),by rw[jr];exact h.lt,he.1.trans h.env.1,he.2.1.trans h.env.2.1,he.2.2.trans h.env.2.2⟩;exact h.toldC.kp λb d _=>iF Q5
def tr:Code->Code
 | .seq _ b=>tr b
 | c=>c
theorem OH{p:Prop}(h:p:=by have Vc:=aJ ((HX.low _ Wl).trans Vi);obtain⟨⟨o0,o1,o2,o3,o4,o5,o6⟩,g0,g1,g2,g3,g4,g5,g6⟩:=fq Vc;go_wp2_with fail;rw[jG];exact⟨rfl,FD HX HF Wl Vc rfl⟩):p:=h
theorem QM{p:Prop}(h:p:=by rw[aN HX.box];rfl):p:=h
theorem Ei(h:KJ C Ts fuel FIN w)(aI:fuel<=200000)(aH:C.heap<=5000)(hV:C.V.heap.size=C.mb)(hU:bV C.V (.agg #[C.v1,C.v2,C.v3,C.v4,C.v5]) C.u)(hu:rD C.u)(al:C.u.aC=[])(hT:∀n f,C.u.aG[n]? =Y f->lf C.u f (Ts n))(ho:C.V.heap[ob]? =Y (X yI 47 (0,0))):
 Code.wp prog (tr (eU f8)) (EQ (G9 C ob FIN)) ⟨#[c0,O Z (fuel:A),c2,c3,c4,c5,.pointer (Y (Q ob 0 G)),c7,c8,c9,c10,c11,c12,c13,c14,c15,c16,c17,c18,c19,.pointer (Y (Q C.mb 0 G)),c21,c22,c23,c24,c25,c26,c27,c28,c29,c30,c31,c32,c33,c34,c35,c36,c37,c38,c39,c40,c41,c42,c43,c44,c45,c46,c47,c48,c49,c50,c51,c52,c53,c54,c55,c56,c57,c58,c59,c60,c61,c62,c63,c64,c65,c66,c67,c68,c69,c70,c71,c72,c73,c74,c75,c76,c77,c78,c79,c80,c81,c82,c83,c84,c85,c86,c87,c88,c89,c90,c91,c92,c93,c94,c95,c96,c97,c98,c99,c100,c101,c102,c103,c104,c105,c106,c107,c108,c109,c110,c111,c112,c113,c114,c115,c116,c117,c118,c119,c120,c121,c122,c123,c124,c125,c126,c127,c128,c129,c130,c131,c132,c133,c134,c135,c136,c137,c138,c139,c140,c141,c142,c143,c144,c145,c146,c147,c148,c149,c150,c151,c152,c153,c154,c155,c156,c157,c158,c159,c160,c161,c162,c163,c164,c165,c166,c167,c168,c169,c170,c171],[]⟩ w:=by
 have HA:=aJ (And.intro hV (And.intro hU (And.intro hu (And.intro al hT))));have Wl:ob<C.mb:=by rw[<-hV];exact(eJ.1 ho).1
 have Vi:=aJ ho;have HI:=aJ h;conv=>arg 2;whnf
 go_wp2_with fail;go_loopw[22] (λ_ wr=>KJ C Ts fuel FIN wr) λ_ wr=>fuel-(Fz wr ⟨C.mb,14,G⟩).toNat
 case atStart=>exact HI
 obtain⟨m,s,σ,ρ,L,e,B,vF,vB,vT,d⟩:=hrel;have af:=aJ d;have Xv:U (Fz _ ⟨_,14,_⟩=s):=aJ (by unfold Fz;rw[aN d.dw.box];rfl);have ai:H wr (Q C.mb 14 G)=Y (O Z s):=by rw[aN d.dw.box];rfl
 have aF:wr.frozen? ⟨_,14,_⟩=AS:=aT d.dw.box;have Tn:=d.le;by_cases aE:s=fuel
 · subst aE;obtain⟨⟨ta,tc,rfl⟩,_⟩:=bD d.dw.tl.1;have HF:U (FIN=⟨7,0,0,0,0,_,s⟩):=aJ (by rw[<-d.run,Lf];rfl);have e8:H wr (Q C.mb 8 G)=Y (O Z 0):=by rw[aN d.dw.box];rfl
   have z8:wr.frozen? ⟨_,8,_⟩=AS:=aT d.dw.box;have HX:=aJ (d.dw.setX 8 7 ⟨_,_,7,0⟩ rfl rfl);go_upto_region 32 with fail
   generalize wr.setCell _ _=W7 at HX |-;have e8:H W7 (Q C.mb 8 G)=Y (O Z 7):=QM
   have e9:H W7 (Q C.mb 9 G)=Y (O Z 0):=QM
   have aB:H W7 (Q C.mb 10 G)=Y (O Z 0):=QM
   have aD:H W7 (Q C.mb 11 G)=Y (O Z 0):=QM
   have ax:H W7 (Q C.mb 12 G)=Y (O Z 0):=QM
   have ay:H W7 (Q C.mb 13 G)=Y (J ta (D m.told) tc):=QM
   have ai:H W7 (Q C.mb 14 G)=Y (O Z s):=QM
   exact OH
 have Tj:s<fuel:=by omega
 have Vj:Z.wrap _=s+1:=Q_;have HX:=aJ (d.dw.setX 14 (s+1) ⟨_,((s+1:R):A),0,0⟩ rfl rfl);have Tv:=aJ (FX HX HA.1 HA.2.1 d.ok d.mr (by have:=d.bls;omega) HA.2.2.1 HA.2.2.2.1 HA.2.2.2.2 ⟨by have:=d.tak;omega,d.rch,Q5⟩);go_wp2_with fail;refine Tv.mono ?_;rintro y w2 ⟨bo,rfl,F⟩;cases hp:cQ C.u C.heap m with
 | go m'=>
  obtain⟨rfl,σ',ρ',L',e',B',aA,az,av,hn⟩:=af.go HA.2.2.1 HA.2.2.2.1 HA.2.2.2.2 Tj hp F;have HN:=aJ hn;have ad:U (Fz _ ⟨_,14,_⟩=((s+1:R):A)):=aJ (by unfold Fz;rw[aN hn.dw.box];rfl);go_wp2_with fail;go_roundw
  case rel=>exact⟨_,_,_,_,_,_,_,_,_,_,HN⟩
  case measure=>(rw[Xv,ad];omega)
 | stop why res m'=>
  have HF:U (FIN=⟨_,0,0,0,_,_,_⟩):=aJ (by rw[<-af.run,show fuel-s=(fuel-(s+1))+1 by omega,jl hp]);unfold qt at F;rw[hp]at F;obtain⟨rfl,ρ',L',B',aA,az,av,ae⟩:=F;obtain⟨⟨ta,tc,rfl⟩,_⟩:=bD ae.tl.1;have ak:=aJ ae;have HX:=ak;generalize ((s+1:R):A)=st at HX HF;have e8:H w2 (Q C.mb 8 G)=Y (O Z why):=QM
  have e9:H w2 (Q C.mb 9 G)=Y (O Z 0):=QM
  have aB:H w2 (Q C.mb 10 G)=Y (O Z 0):=QM
  have aD:H w2 (Q C.mb 11 G)=Y (O Z 0):=QM
  have ax:H w2 (Q C.mb 12 G)=Y (O Z res):=QM
  have ay:H w2 (Q C.mb 13 G)=Y (J ta (D m'.told) tc):=QM
  have ai:H w2 (Q C.mb 14 G)=Y (O Z st):=QM
  exact OH
theorem AW{f:aQ}(h:qg u Ts [] (gQ q f)):cT (gQ q f)<=(gQ q f).taken:=by
 obtain⟨ms,_,e,_,_,d,_⟩:=lD h.in_.1 h.in_.2;have hm:ms=[]:=by
  cases ms with
  | nil=>rfl
  | cons x t=>exact absurd (d x J9) (Nat.not_lt_zero x)
 subst hm;show fE ((gQ q f).top::(gQ q f).low) (gQ q f).blks<=0
 rw[e];exact lj
theorem DW.start(hV:C.V.heap.size=C.mb):DW C (C.V.alloc (X #[C.v1,C.v2,C.v3,C.v4,C.v5,J G 0 0,J G 0 0,O Z (C.heap:A),O Z 0,O Z 0,O Z 0,O Z 0,O Z 0,J G 0 0,O Z 0] 79)) (λ_=>.no) [] [] ⟨[],0,0,0⟩ (J G 0 0) (J G 0 0) (J G 0 0):=by
 have d:∀(r:BR) (t:TypeId) (n:R),jC (λ_=>.no) r (C.V.alloc (X #[C.v1,C.v2,C.v3,C.v4,C.v5,J G 0 0,J G 0 0,O Z C.heap,O Z 0,O Z 0,O Z 0,O Z 0,O Z 0,J G 0 0,O Z 0] 79)) (C.mb+1) t n _ 0 _:=λr t n=>⟨B5 _ _ _ _,λk hk=>by simp[Value.ownBlock]at hk⟩
 exact⟨by rw[<-hV];exact jZ _ _,λb F=>absurd rfl F,λb F=>(G5).block b Q5 Q6,⟨rfl,rfl,rfl⟩,d _ _ _,λi e hi=>by simp at hi,d _ _ _,λi e hi=>by simp at hi,d _ _ _⟩
theorem S3{p:Prop}(h:p:=by rw[aN T1];rfl):p:=h
theorem Cj{f:aQ}(hV:C.V.heap.size=C.mb)(hU:bV C.V (.agg #[C.v1,C.v2,C.v3,C.v4,C.v5]) C.u)(T1:C.V.heap[ub]? =Y (X #[C.v1,C.v2,C.v3,C.v4,C.v5] 58 (0,0)))(ho:C.V.heap[ob]? =Y (X yI 47 (0,0)))(hq:C.u.aG[q]? =Y f)(aE:f.aH=[])(aM:f.result=0)(a3:fuel<=200000)(aL:C.heap<=5000)(hu:rD C.u)(aA:C.u.aC=[])(hT:∀n f,C.u.aG[n]? =Y f->lf C.u f (Ts n)):
 Code.wp prog (kw 3 (rS 11 (eU f8)) (tr (eU f8))) (EQ (G9 C ob (kF C.u C.heap fuel 0 (gQ q f)))) ⟨#[c0,O Z (fuel:A),O Z (C.heap:A),c3,c4,c5,.pointer (Y (Q ob 0 G)),c7,c8,c9,c10,c11,.pointer (Y (Q ub 0 G)),c13,c14,c15,O Z (q:A),c17,c18,c19,c20,c21,c22,c23,c24,c25,c26,c27,c28,c29,c30,c31,c32,c33,c34,c35,c36,c37,c38,c39,c40,c41,c42,c43,c44,c45,c46,c47,c48,c49,c50,c51,c52,c53,c54,c55,c56,c57,c58,c59,c60,c61,c62,c63,c64,c65,c66,c67,c68,c69,c70,c71,c72,c73,c74,c75,c76,c77,c78,c79,c80,c81,c82,c83,c84,c85,c86,c87,c88,c89,c90,c91,c92,c93,c94,c95,c96,c97,c98,c99,c100,c101,c102,c103,c104,c105,c106,c107,c108,c109,c110,c111,c112,c113,c114,c115,c116,c117,c118,c119,c120,c121,c122,c123,c124,c125,c126,c127,c128,c129,c130,c131,c132,c133,c134,c135,c136,c137,c138,c139,c140,c141,c142,c143,c144,c145,c146,c147,c148,c149,c150,c151,c152,c153,c154,c155,c156,c157,c158,c159,c160,c161,c162,c163,c164,c165,c166,c167,c168,c169,c170,c171],[]⟩ C.V:=by
 have u0:H C.V (Q ub 0 G)=Y C.v1:=S3
 have u1:H C.V (Q ub 1 G)=Y C.v2:=S3
 have u2:H C.V (Q ub 2 G)=Y C.v3:=S3
 have u3:H C.V (Q ub 3 G)=Y C.v4:=S3
 have u4:H C.V (Q ub 4 G)=Y C.v5:=S3
 have d:=aJ (And.intro hU (And.intro hq (And.intro aE (And.intro aM (And.intro hu (And.intro aA (And.intro hT hV)))))));have Vi:=aJ ho;have ad:=aJ (DW.start hV);generalize hX:tr _=Xq;have a0:=aJ hX;simp only[eU,f8,La,rS,kw];go_wp2_with fail;generalize C.V.alloc _=W1 at ad |-;have aB:eE W1 C.v3 C.u.aG:=by
  obtain⟨x1,x2,x3,x4,x5,he,_,_,h3,_,_⟩:=d.1.gr (ad.vgr d.2.2.2.2.2.2.2);simp only[Ch,FL,Bk,I7]at he;rw[he.2.2.1];exact h3
 have h9:=d.2.2.2.2.1.func f (dL d.2.1);have ai:=uM _ q _ _ f (J G 0 0) [] [] _ ad.cells.2.2 aB d.2.1 ⟨_,0,rfl,λj u hj=>by simp[fN]at hj⟩ rfl Q6 Q5;unfold Hw at ai;rw[LW,Aq]at ai;try rw[hV]
 refine ai.mono ?_;rintro y w2 ⟨na,nc,rfl,Tf,hg⟩;rw[Kj,Kj]at Tf;have HG:=aJ (hg.alloc (X #[O Z q,O Z 0,J na (D f.aI) nc,J G 0 0] 82));have F:=aJ (jZ w2 (X #[O Z q,O Z 0,J na (D f.aI) nc,J G 0 0] 82));have TE:=aJ (eO Tf ((G0).alloc (X #[O Z q,O Z 0,J na (D f.aI) nc,J G 0 0] 82)));have a2:=aJ hg.size;go_wp2_with fail;generalize w2.alloc _=W3 at HG F TE |-;generalize w2.heap.size=xb at F a2 |-;have av:=ad.gr HG;have TH:=av.gr Gy;have ax:H W3 (Q C.mb 5 G)=Y (J G 0 0):=by rw[aN av.box];rfl
 obtain⟨a5,w3,aD,S4⟩:=lS 76 _ Tryz.infFr underlying76 Q9 Q9 Q9 TH.fr.1 #[O Z q,O Z 0,J na (D f.aI) nc,J G 0 0] rfl QW Q6 Sy
 have al:=TH.box1 S4 λk hk=>by simp[Value.ownBlock]at hk
 have aF:=(eJ.1 F).1;have ae:w3.heap[xb]? =W3.heap[xb]? :=S4.frm.block _ aF Ro;have e5:=(so al).trans ax;have z5:w3.frozen? ⟨_,5,_⟩=AS:=(zc al).trans (aT TH.box);have x0:H W3 (Q xb 0 G)=Y (O Z q):=by rw[aN F];rfl
 have x1:H W3 (Q xb 1 G)=Y (O Z 0):=by rw[aN F];rfl
 have x2:H W3 (Q xb 2 G)=Y (J na (D f.aI) nc):=by rw[aN F];rfl
 have x3:H W3 (Q xb 3 G)=Y (J G 0 0):=by rw[aN F];rfl
 have KS:U (∀w',Gr _ _->(λw':T=>H w' _=Y _/\H w' _=Y _/\H w' _=Y _/\H w' _=Y _/\H w' _=Y _) w'):=aJ λw' g=>⟨g.cell ax Q6,g.cell x0 Q6,g.cell x1 Q6,g.cell x2 Q6,g.cell x3 Q6⟩
 have af:U ((λw':T=>H w' _=Y _/\H w' _=Y _/\H w' _=Y _/\H w' _=Y _/\H w' _=Y _) _):=aJ ⟨e5,(so ae).trans x0,(so ae).trans x1,(so ae).trans x2,(so ae).trans x3⟩;have ay:D (dG (D f.aI))=D f.aI:=by simp[dG]
 obtain⟨ρ2,az⟩:=TH.pushF (g:=⟨q,0,f.aH++f.aI,_,_,_,_,_⟩) (by rw[ay,d.2.2.1,Kj];exact(L7 TE).mono (by have:=ad.lt;omega)) (λk hk=>rfl) (by rw[ay,d.2.2.1];rfl) rfl rfl rfl S4;obtain⟨⟨s3,c3,rfl⟩,_⟩:=bD S4.own;have HX:=aJ az;have HR:=aJ aD;simp only[LW,Kj,Aq]at HX HR;have ak:=aJ (sW d.2.2.2.2.2.2.1 d.2.1 d.2.2.1 d.2.2.2.1);have a4:U (MR _ _ [] (gQ q f) _ ⟨q,0,_,dG _,_,[],J na (D f.aI) nc,J G 0 0⟩ []):=aJ ⟨⟨_,(d.2.2.2.2.2.2.1 _ _ d.2.1).zero,f,d.2.1,rfl,rfl,rfl,rfl,rfl,rfl⟩,rfl,rfl,λj b hj=>by simp at hj⟩;have Ur:U (KJ C _ _ (kF _ _ fuel 0 _) _):=aJ ⟨gQ q f,0,_,_,[],_,_,_,_,_,HX,ak,a4,AW ak,Lz,Lz,Lz,rfl⟩;go_wp2_with fail;refine eg [10] (S:=(λw'=>H w' _=Y _/\H w' _=Y _/\H w' _=Y _/\H w' _=Y _/\H w' _=Y _)) Q7 (KS _ Gy) λhH=>?_;refine tS 0 ?_;refine tS 1 ?_;refine tS 2 ?_;refine tS 3 ?_;refine tS 4 ?_;refine tS 5 ?_;refine dy (i:=6) rfl Q7 λK hK=>?_;refine aW bZ ?_;go_simp
 refine hK _ _ (λ_=>KS _ ((Gy).alloc _)) ?_;try simp only[Act.put,sA,s0,s1]
 refine dy (i:=7) rfl Q7 λK hK=>?_;refine aW bZ (KO _ _ _ _ _ rfl _ _ fZ fZ _ _ HR.j ?_);refine hK _ _ (λ_=>af) ?_;try simp only[Act.put,sA,s0,s1]
 refine iO (i:=8) (v:=?cbv8) rfl Q7 Q7 Q7 Q7 (λ_ _ _ h=>h) bZ ?cbhy8 af.j ?cbrest8
 case cbhy8=>exact Qj
 simp only[Act.put,sA,s0,s1];refine iO (i:=9) (v:=?cbv9) rfl Q7 Q7 Q7 Q7 (λ_ _ _ h=>h) bZ ?cbhy9 af.j ?cbrest9
 case cbhy9=>exact Qj
 simp only[Act.put,sA,s0,s1];refine dy (i:=10) rfl Q7 λK hK=>?_;refine aW bZ ?_;go_simp
 refine hK _ _ (λh=>absurd h Q9) ?_;try simp only[Act.put,sA,s0,s1]
 refine mo Q7 ?_ _;go_wp2_with fail;obtain rfl:=a0.j;exact Ei Ur a3 aL d.2.2.2.2.2.2.2 d.1 d.2.2.2.2.1 d.2.2.2.2.2.1 d.2.2.2.2.2.2.1 Vi
def RQ(W:T)(ob:R)(o:kB)(t:Array M)(w:T):Prop:=t[6]? =Y (.pointer (Y (Q ob 0 G)))/\∃vt,w.heap[ob]? =Y (X #[O Z o.why,O Z o.unit,O Z o.at_,O Z o.e,O Z o.result,vt,O Z o.steps] 47 (0,0))/\gv W.heap.size w vt o.told/\Gr W w
theorem Io(h:G9 C ob FIN t w)(hV:C.V.heap.size=C.mb)(d:Gr W C.V)(ho:W.heap.size<=ob):RQ W ob FIN t w:=by
 obtain⟨ht,vt,hb,e1,e2,e3,hr,hl,hs,ae,F,ad⟩:=h;have TV:=d.size;refine⟨ht,_,by rw[e1,e2,e3];exact hb,?_,⟨ae.trans d.os,F.trans d.tape,ad.trans d.output,Q5,λi hi No=>(hl i Q5 Q5).trans (d.block i hi No)⟩⟩;exact hr.mono Q5
theorem wn{un p e:A}(d:Gr W w)(F:w.heap[ob]? =Y (X yI 47 (0,0)))(ho:W.heap.size<=ob)(ht:t[6]? =Y (.pointer (Y (Q ob 0 G)))):RQ W ob ⟨why,un,p,e,0,[],0⟩ t (jO w ob (O Z why) (O Z un) (O Z p) (O Z e) (O Z 0) (J G 0 0) (O Z 0)):=by
 have he:=pB w ob (O Z why) (O Z un) (O Z p) (O Z e) (O Z 0) (J G 0 0) (O Z 0);exact⟨ht,_,jV F,gj _,⟨he.1.trans d.os,he.2.1.trans d.tape,he.2.2.trans d.output,by rw[jr];exact d.size,λi hi No=>(iF Q5).trans (d.block i hi No)⟩⟩
def FA:By R->A
 | none=>-1
 | some q=>(q:A)
theorem NU{p:Prop}(h:p:=by
 go_wp2_with fail;go_roundw
 case rel=>exact⟨_,QZ,IN,by rw[UN];first|done|rfl,HG.j.trans Uw.j⟩
 case measure=>simp[intOf];omega):p:=h
theorem RT{p:Prop}(h:p:=by rw[aN TJ];rfl):p:=h
theorem EP{a1 a2 a3 a4 a5:By Addr}{n1 n2 n3 n4 n5:R}(hU:bV w (.agg (yE u a1 n1 a2 n2 a3 n3 a4 n4 a5 n5)) u)(T1:w.heap[ub]? =Y (X (yE u a1 n1 a2 n2 a3 n3 a4 n4 a5 n5) 58 (0,0)))(ho:w.heap[ob]? =Y (X yI 47 (0,0)))(a8:Gr W w)(az:W.heap.size<=ob)(aL:(u.aD.map (·.name)).Nodup)(bj:fuel<=200000)(a6:heap<=5000)(hu:rD u)(aA:u.aC=[])(hT:∀n f,u.aG[n]? =Y f->lf u f (Ts n)):
 Code.wp prog (kw 3 (rS 8 (eU f8)) (kw 3 (rS 11 (eU f8)) (tr (eU f8)))) (EQ (RQ W ob (ft fuel heap u))) ⟨#[c0,O Z (fuel:A),O Z (heap:A),c3,c4,c5,.pointer (Y (Q ob 0 G)),c7,c8,c9,c10,c11,.pointer (Y (Q ub 0 G)),c13,c14,c15,c16,c17,c18,c19,c20,c21,c22,c23,c24,c25,c26,c27,c28,c29,c30,c31,c32,c33,c34,c35,c36,c37,c38,c39,c40,c41,c42,c43,c44,c45,c46,c47,c48,c49,c50,c51,c52,c53,c54,c55,c56,c57,c58,c59,c60,c61,c62,c63,c64,c65,c66,c67,c68,c69,c70,c71,c72,c73,c74,c75,c76,c77,c78,c79,c80,c81,c82,c83,c84,c85,c86,c87,c88,c89,c90,c91,c92,c93,c94,c95,c96,c97,c98,c99,c100,c101,c102,c103,c104,c105,c106,c107,c108,c109,c110,c111,c112,c113,c114,c115,c116,c117,c118,c119,c120,c121,c122,c123,c124,c125,c126,c127,c128,c129,c130,c131,c132,c133,c134,c135,c136,c137,c138,c139,c140,c141,c142,c143,c144,c145,c146,c147,c148,c149,c150,c151,c152,c153,c154,c155,c156,c157,c158,c159,c160,c161,c162,c163,c164,c165,c166,c167,c168,c169,c170,c171],[]⟩ w:=by
 obtain⟨x1,x2,x3,x4,x5,ax,_,_,r3,_,r5⟩:=hU;have ad:=ax;simp only[Ch,FL,Bk,I7]at ad;obtain⟨_,_,rfl,_,rfl⟩:=ad;have aM:=aJ r3;have aE:=aJ r5;have F:=aJ T1;have Vi:=aJ ho;have HA:=aJ (And.intro (show bV w _ u from ⟨_,_,_,_,_,ax,‹_›,‹_›,‹_›,‹_›,‹_›⟩) (And.intro a8 (And.intro aL (And.intro hu (And.intro aA hT)))));have bL:=hu.exps.1;generalize hX:(kw 3 _ (tr _))=Xq;have bg:=aJ hX;simp only[eU,f8,La,rS,kw];go_wp2_with fail;go_loopw[16,17] (λmv iv wr=>∃k:R,iv=O Z (k:A)/\k<=D u.aD/\mv=O Z (FA (ff u (u.aD.take k)))/\Gr w wr) λ_ iv _=>D u.aD-(intOf iv).toNat
 case atStart=>exact⟨0,rfl,Lz,rfl,G0⟩
 obtain⟨k,rfl,hk,rfl,hg⟩:=hrel;have HG:=aJ hg;have TJ:=(hg.block _ (eJ.1 F).1 Q6).trans F;have bF:H wr (Q ub 4 G)=Y (J a5 (D u.aD) n5):=RT
 have ai:H wr (Q ub 2 G)=Y (J a3 (D u.aG) n3):=RT
 by_cases IN:k<D u.aD
 · have UB:(k:A)<D u.aD:=by omega
   have bt:(0:A)<=k:=Q5;have hw:Z.wrap _=k+1:=Q_;obtain⟨e,he⟩:∃e,u.aD[k]? =Y e:=⟨_,dW IN⟩;have al:u.aD.take (k+1)=u.aD.take k++[e]:=by
    rw[AB IN];rw[dW IN]at he;cases he;rfl
   obtain⟨ao,cap,e1,_,hx⟩:=aE.j;cases e1
   obtain⟨b,off,vs,rfl,q0,q1,s,rfl,Tn,_⟩:=hx k e he;have bC:=HA.2.2.2.1.exps.2 e (dL he);obtain⟨f,hf⟩:∃f,u.aG[e.func.toNat]? =Y f:=⟨_,dW Q5⟩;obtain⟨b1,bo,e3,_,aF⟩:=aM.j;cases e3
   obtain⟨b3,bp,vp,vl,vc,rfl,p0,p1,p2,p3,rp,rl,rc⟩:=aF _ f hf;obtain⟨pa,pc,rfl,_⟩:=rp;obtain⟨la,lc,rfl,_⟩:=rl;obtain⟨ca,cc,rfl,_⟩:=rc;have q0:=HG.cell q0 Q6;have q1:=HG.cell q1 Q6;have p0:=HG.cell p0 Q6;have p1:=HG.cell p1 Q6;have p2:=HG.cell p2 Q6;have p3:=HG.cell p3 Q6;have aB:=mc Tn;have ay:(e.func.toNat:A)<D u.aG:=Q5;have av:(0:A)<=e.func.toNat:=Q5;have hQ:e.func=e.func.toNat:=Q5;rw[hQ]at q1;have HS:U (kH u e=(decide (s=⟨#[109,97,105,110]⟩)&&(decide (D f.aH=0)&&decide (f.result=0)))):=aJ (by
    unfold kH;rw[hf];have h1:decide (e.name=[109,97,105,110])=decide (s=⟨#[109,97,105,110]⟩):=by simp only[aB]
    have h2:decide (f.aH=[])=decide (D f.aH=0):=Q6;rw[h1];simp only[h2])
   have d:U ((kH u e=AT->ff u (u.aD.take _)=Y e.func.toNat)/\(¬kH u e=AT->ff u (u.aD.take _)=ff u (u.aD.take k))):=aJ ⟨λhm=>by
    have hn:=sm hm (by rw[<-al];exact HA.2.2.1.sublist ((List.take_sublist _ _).map _));rw[al,qV,hn];simp only[hm,KA],λhm=>by
    rw[al,qV];cases ff u (u.aD.take k) with
    | none=>simp only[hm];rfl
    | some q=>rfl⟩
   generalize e.func.toNat=q at q1 p0 p1 p2 p3 ay av d;generalize (D u.aG)=nf at ai ay;have gA:=(Gr.refl wr).alloc (X #[.string s,O Z q] 71);have ae:=aJ (jZ wr (X #[.string s,O Z q] 71));have Tt:=aJ gA;have HP:=aJ (And.intro (gA.cell p0 Q6) (And.intro (gA.cell p1 Q6) (And.intro (gA.cell p2 Q6) (And.intro (gA.cell p3 Q6) (gA.cell ai Q6)))));go_upto_region 22 with fail
   generalize wr.alloc _=W4 at Tt ae HP |-;have y1:H W4 (Q wr.heap.size 1 G)=Y (O Z q):=by rw[aN ae];rfl
   obtain⟨p0,p1,p2,p3,ai⟩:=HP.j;have gB:=(Gr.refl W4).alloc (X #[J pa (D f.aH) pc,O Z f.result,J la (D f.aI) lc,J ca (D f.code) cc] 74);have a7:=(eJ.1 ae).1;have HX:=aJ ((gB.block _ a7 Q6).trans ae);have Uw:=aJ (Tt.trans gB);have af:=aJ (jZ W4 (X #[J pa (D f.aH) pc,O Z f.result,J la (D f.aI) lc,J ca (D f.code) cc] 74));go_upto_region 23 with fail
   generalize W4.alloc _=W5 at HX Uw af |-;have x0:H W5 (Q wr.heap.size 0 G)=Y (.string s):=by rw[aN HX];rfl
   have x1:H W5 (Q wr.heap.size 1 G)=Y (O Z q):=by rw[aN HX];rfl
   have z0:H W5 (Q W4.heap.size 0 G)=Y (J pa (D f.aH) pc):=by rw[aN af];rfl
   have z1:H W5 (Q W4.heap.size 1 G)=Y (O Z f.result):=by rw[aN af];rfl
   by_cases h1:s=⟨#[109,97,105,110]⟩
   · subst h1;by_cases h2:D f.aH=0
     · by_cases h3:f.result=0
       · have UN:=aJ (d.1 (by rw[HS];simp[h2,h3]));rw[h2]at z0;rw[h3]at z1;exact NU
       have UN:=aJ (d.2 (by rw[HS];simp[h3]));rw[h2]at z0;exact NU
     have UN:=aJ (d.2 (by rw[HS];simp[h2]));exact NU
   have UN:=aJ (d.2 (by rw[HS];simp[h1]));have bB:¬s.toList=[109,97,105,110]:=by rw[Md];exact λh=>h1 ((mc rfl).2 h)
   exact NU
 have bk:k=D u.aD:=by omega
 subst bk;rw[J6,show ff u _=l8 u from rfl];cases ak:l8 u with
 | none=>
  have Ur:U (ft fuel heap u=⟨5,0,0,0,0,_,0⟩):=aJ (by unfold ft;rw[ak]);have Vc:=aJ ((HG.block _ (eJ.1 Vi).1 Q6).trans Vi);obtain⟨⟨o0,o1,o2,o3,o4,o5,o6⟩,g0,g1,g2,g3,g4,g5,g6⟩:=fq Vc;rw[show FA _=-1 from rfl];go_wp2_with fail;rw[jG];exact⟨rfl,by rw[Ur];exact wn (HA.2.1.trans HG) Vc az rfl⟩
 | some q=>
  obtain⟨f,hq,a0,a9⟩:=pq ak;have Ur:U (ft fuel heap u=kF u heap fuel 0 (gQ q f)):=aJ (by unfold ft;rw[ak];simp only[hq]);have HQ:=aJ (And.intro hq (And.intro a0 a9));have b0:¬(q:A)<0:=Q5;rw[show FA _=q from rfl];go_wp2_with fail;obtain rfl:=bg.j;refine wp_mono (Cj (C:=⟨_,u,_,_,_,_,_,wr.heap.size,_⟩) rfl (HA.1.gr HG) ((HG.block _ (eJ.1 F).1 Q6).trans F) ((HG.block _ (eJ.1 Vi).1 Q6).trans Vi) HQ.1 HQ.2.1 HQ.2.2 bj a6 HA.2.2.2.1 HA.2.2.2.2.1 HA.2.2.2.2.2) ?_;intro ex a' w' hh;cases ex with
  | ret=>exact⟨hh.1,by rw[Ur];exact Io hh.2 rfl (HA.2.1.trans HG) az⟩
  | _=>exact hh.elim
def jR(k i a:R)(E:I cJ):I cJ:=if a<k then E else if a=k then E.take i else []
def gY(n:I AI)(k i:R):R->I aK->R×R×A->R×R×A
 | _,[],r=>r
 | a,u::l,r=>gY n k i (a+1) l (iQ n a (jR k i a u.aD) r)
theorem oC(n:I AI):∀(l:I aK) (k a:R) (r:R×R×A),a+D l<=k->gY n k 0 a l r=eB n a l r
 | [],_,_,_,_=>rfl
 | u::l,k,a,r,h=>by
  simp at h
  rw[gY,eB,jR,mI Q5,oC n l k _ _ Q5]
theorem rx(n:I AI)(k i:R):∀(l:I aK) (a:R) (r:R×R×A),k<a->gY n k i a l r=r
 | [],_,_,_=>rfl
 | u::l,a,r,h=>by
  rw[gY,jR,eP Q5,eP Q5,iQ,rx n k i l _ r Q5]
theorem sS{n:I AI}{e:cJ}{r:R×R×A}(h:E[b]? =Y e):iQ n a (E.drop b) r=iQ n a (E.drop (b+1)) (if e.name=n then (r.1+1,a,e.func) else r):=by
 obtain⟨d,rfl⟩:=dm.1 h;rw[Be d,iQ]
theorem FK{e:cJ}(h:E[b]? =Y e)(F:a<k\/(a=k/\b<i)):(jR k i a E)[b]? =Y e:=by
 unfold jR;by_cases d:a<k
 · rw[mI d];exact h
 rw[eP d,mI Q5,Lh,mI Q5];exact h
theorem EH(F:¬a<k)(d:a=k)(h2:¬b<i):(jR k i a E).drop b=[]/\(jR k i a E).drop (b+1)=[]:=by
 unfold jR;rw[eP F,mI d];constructor<;>(rw[Ma,Bc];omega)
theorem CE(h:D E<=b):(jR k i a E).drop b=[]:=by
 rw[Ma];unfold jR;by_cases F:a<k
 · rw[mI F];exact h
 rw[eP F];by_cases d:a=k
 · rw[mI d,Bc];omega
 rw[eP d];exact Lz
theorem Ak{α:Type}{l:I α}{u:α}(h:l[a]? =Y u):l.drop a=u::l.drop (a+1):=by
 obtain⟨d,rfl⟩:=dm.1 h;exact Be d
theorem dH.at5{v:M}(h:dH w v l){a:R}{u:aK}(hu:l[a]? =Y u):∃b off cap b5 c5,v=J (Y (Q b off G)) (D l) cap/\H w ⟨b,off+a*5+4,G⟩=Y (J b5 (D u.aD) c5)/\D u.aD<=maxLen/\∀i e,u.aD[i]? =Y e->∃d F s,b5=Y (Q d F G)/\H w ⟨d,F+i*2,G⟩=Y (.string s)/\s.data.toList=e.name/\H w ⟨d,F+i*2+1,G⟩=Y (O Z e.func):=by
 obtain⟨ao,cap,rfl,hm,hc⟩:=h;obtain⟨b,off,v1,v2,v3,v4,v5,rfl,c1,c2,c3,c4,c5,hr⟩:=hc a u hu;obtain⟨y1,y2,y3,y4,y5,hv,k1,k2,k3,k4,k5⟩:=hr;simp only[Ch,FL,Bk,I7]at hv;obtain⟨rfl,rfl,rfl,rfl,rfl⟩:=hv;obtain⟨b5,ae,rfl,ad,hx⟩:=k5;refine⟨b,_,_,_,_,rfl,c5,ad,λi e he=>?_⟩;obtain⟨d,F,vs,q1,q2,q3,s,rfl,q5,_⟩:=hx i e he;exact⟨_,_,s,q1,q2,q5,q3⟩
theorem PK{p:Prop}(h:p:=by go_wp2_with fail;exact qn (by simp[results,results104,go_sem]) rfl ⟨rfl,rfl⟩):p:=h
theorem kP(l:I aK)(vl:M)(s:ByteArray)(k i:R)(w:T)(hR:dH w vl l)(hk:k<=1000)(hi:i<=1000)(hl:D l<=1000)(hE:∀u∈l,D u.aD<=20):
 Calls prog 104 #[vl,.string s,O Z (k:A),O Z (i:A)] w λx w'=>x=.returned (.tuple #[O Z ((gY s.data.toList k i 0 l (0,0,0)).1:A),O Z ((gY s.data.toList k i 0 l (0,0,0)).2.1:A),O Z (gY s.data.toList k i 0 l (0,0,0)).2.2])/\w'=w:=by
 obtain⟨al,cl,rfl⟩:=hR.shape;have HR:=aJ hR;generalize hD:gY _ k i 0 l _=DDq;have HD:=aJ hD;go_enter func104,ntmps104
 go_wp2_with fail;go_loopw[11,12,13,14] (λnv uv fv av wr=>∃(a:R) (r:R×R×A),nv=O Z (r.1:A)/\uv=O Z (r.2.1:A)/\fv=O Z r.2.2/\av=O Z (a:A)/\a<=D l/\a<=k+1/\r.1<=a*20/\U (gY s.data.toList k i a (l.drop a) r=DDq)/\w=wr) λ_ _ _ av _=>D l-(intOf av).toNat
 case atStart=>exact⟨0,_,rfl,rfl,rfl,rfl,Lz,Lz,Lz,HD,rfl⟩
 obtain⟨a,⟨r1,r2,r3⟩,rfl,rfl,rfl,rfl,ha,hak,hr1,HI,rfl⟩:=hrel;simp only at hr1;by_cases hc:a<=k/\a<D l
 · obtain⟨aH,TD⟩:=hc;have TH:(a:A)<=k:=by omega
   have ay:(a:A)<D l:=Q5;have a2:(0:A)<=a:=Q5;obtain⟨u,hu⟩:∃u,l[a]? =Y u:=⟨_,dW TD⟩;obtain⟨b,off,cap,b5,c5,hv,a3,aM,hex⟩:=HR.at5 hu;simp only[jj,Bt]at hv;obtain⟨rfl,rfl⟩:=hv;have aE:=aJ hex;have HU:=aJ hu;have aL:=hE u (dL hu);generalize az:jR k i a u.aD=EE;have F:=aJ az;go_wp2_with fail;go_loopw[11,12,13,15] (λnv uv fv bv wr=>∃(q:R) (r:R×R×A),nv=O Z (r.1:A)/\uv=O Z (r.2.1:A)/\fv=O Z r.2.2/\bv=O Z (q:A)/\q<=D u.aD/\r.1<=r1+q/\U (iQ s.data.toList a (EE.drop q) r=iQ s.data.toList a EE (r1,r2,r3))/\w=wr) λ_ _ _ bv _=>D u.aD-(intOf bv).toNat
   case atStart=>exact⟨0,_,rfl,rfl,rfl,rfl,Lz,lj,aJ rfl,rfl⟩
   obtain⟨q,⟨t1,t2,t3⟩,rfl,rfl,rfl,rfl,hq,ht1,HJ,rfl⟩:=hrel;simp only at ht1;by_cases aB:q<D u.aD
   · obtain⟨e,he⟩:∃e,u.aD[q]? =Y e:=⟨_,dW aB⟩;obtain⟨xb,xo,s',rfl,US,ax,aG⟩:=aE q e he;have a0:(0:A)<=q:=by omega
     have aI:(q:A)<D u.aD:=Q5;by_cases aA:a<k\/(a=k/\q<i)
     · have ae:=aJ (FK he aA);rw[F]at ae;have ak:=aJ ax;have d:a<(k:A)\/(k<=(a:A)/\(q:A)<i):=by omega
       by_cases hn:s'=s
       · subst hn;have HN:U (iQ _ a (EE.drop (q+1)) (t1+1,a,e.func)=iQ _ a _ _):=aJ (by
          rw[<-HJ,sS ae,mI ak.symm])
         rcases d with d|⟨d,UB⟩<;>(
          go_wp2_with fail;go_roundw
          case rel=>exact⟨q+1,(t1+1,a,e.func),QZ,rfl,rfl,QZ,Q5,by show t1+1<=_;omega,HN,QE⟩
          case measure=>simp[intOf];omega)
       · have HN:U (iQ _ a (EE.drop (q+1)) _=iQ _ a _ _):=aJ (by
          rw[<-HJ,sS ae,eP λh=>hn (by rw[<-ak]at h;cases s';cases s;simp only[ByteArray.mk.injEq];exact Array.toList_inj.1 h)])
         have hb:(s'.toList==s.toList)=AS:=by
          rw[IL];intro h;rw[Md,Md]at h;exact hn (by cases s';cases s;simp only[ByteArray.mk.injEq];exact Array.toList_inj.1 h)
         rcases d with d|⟨d,UB⟩<;>(
          go_wp2_with fail;go_roundw
          case rel=>exact⟨q+1,(t1,t2,t3),rfl,rfl,rfl,QZ,Q5,by show t1<=_;omega,HN,QE⟩
          case measure=>simp[intOf];omega)
     have af:=EH (k:=k) (i:=i) (a:=a) (b:=q) (E:=u.aD) Q5 Q5 Q5;rw[F]at af;have HN:U (iQ _ a (EE.drop (q+1)) _=iQ _ a _ _):=aJ (by
      rw[<-HJ,af.1,af.2])
     have TW:(k:A)<=a:=Q5;have TN:(i:A)<=q:=Q5;go_wp2_with fail;go_roundw
     case rel=>exact⟨_,_,rfl,rfl,rfl,QZ,Q5,by show t1<=_;omega,HN,QE⟩
     case measure=>exact Qh
   have aC:q=D u.aD:=by omega
   subst aC;have ad:=CE (k:=k) (i:=i) (a:=a) (Nat.le_refl (D u.aD));rw[F]at ad;have HN:U (gY _ k i _ (l.drop (a+1)) _=DDq):=aJ (by
    rw[<-HI,Ak HU,gY,F,<-HJ,ad,iQ])
   go_wp2_with fail;go_roundw
   case rel=>exact⟨_,_,rfl,rfl,rfl,QZ,Q5,Q5,by show t1<=_;omega,HN,QE⟩
   case measure=>exact Qh
 have ai:(r1,r2,r3)=DDq:=by
  rw[<-HI];by_cases h1:a<D l
  · rw[rx _ _ _ _ _ _ Q5]
  rw[Ma.2 Q5,gY]
 subst ai;by_cases aF:a<=k
 · have TH:(a:A)<=k:=by omega
   have ay:(D l:A)<=a:=Q5;exact PK
 have TH:(k:A)<a:=by omega
 exact PK
theorem dH.at23{v:M}(h:dH w v l){a:R}{u:aK}(hu:l[a]? =Y u):∃b off cap b2 c2 b3 c3,v=J (Y (Q b off G)) (D l) cap/\H w ⟨b,off+a*5+1,G⟩=Y (J b2 (D u.aE) c2)/\H w ⟨b,off+a*5+2,G⟩=Y (J b3 (D u.aG) c3):=by
 obtain⟨ao,cap,rfl,hm,d⟩:=h;obtain⟨b,off,v1,v2,v3,v4,v5,rfl,c1,c2,c3,c4,c5,hr⟩:=d a u hu;obtain⟨y1,y2,y3,y4,y5,hv,k1,k2,F,k4,k5⟩:=hr;simp only[Ch,FL,Bk,I7]at hv;obtain⟨rfl,rfl,rfl,rfl,rfl⟩:=hv;obtain⟨b2,d2,rfl,_⟩:=k2;obtain⟨b3,d3,rfl,_⟩:=F;exact⟨b,_,_,_,_,_,_,rfl,c2,c3⟩
theorem qI(l:I aK)(vl:M)(k:R)(w:T)(hR:dH w vl l)(hk:k<=D l)(hl:D l<=1000)(hE:∀u∈l,D u.aE<=1000/\D u.aG<=1000):
 Calls prog 43 #[vl,O Z (k:A)] w λx w'=>x=.returned (.tuple #[O Z (gG l k:A),O Z (cw l k:A)])/\w'=w:=by
 obtain⟨al,cl,rfl⟩:=hR.shape;have HR:=aJ hR;go_enter func43,ntmps43
 go_wp2_with fail;go_loopw[6,7,8] (λcv fv F wr=>∃(a x y:R),cv=O Z (x:A)/\fv=O Z (y:A)/\F=O Z (a:A)/\a<=k/\x<=a*1000/\y<=a*1000/\U (x=gG l a/\y=cw l a)/\w=wr) λ_ _ F _=>k-(intOf F).toNat
 case atStart=>exact⟨0,0,0,rfl,rfl,rfl,Lz,Lz,Lz,aJ ⟨rfl,rfl⟩,rfl⟩
 obtain⟨a,x,y,rfl,rfl,rfl,ha,hx,hy,d,rfl⟩:=hrel;by_cases IN:a<k
 · obtain⟨u,hu⟩:∃u,l[a]? =Y u:=⟨_,dW Q5⟩;obtain⟨b,off,cap,b2,c2,b3,c3,hv,h2,h3⟩:=HR.at23 hu;simp only[jj,Bt]at hv;obtain⟨rfl,rfl⟩:=hv;obtain⟨m1,m2⟩:=hE u (dL hu);have af:(0:A)<=a:=by omega
   have TH:(a:A)<D l:=Q5;have ae:(a:A)<k:=Q5;have HN:U (x+D u.aE=gG l _/\y+D u.aG=cw l _):=aJ ⟨by rw[lK hu,d.1],by rw[i8 hu,d.2]⟩;go_wp2_with fail;go_roundw
   case rel=>exact⟨_,_,_,QZ,QZ,QZ,Q5,Q5,Q5,HN,QE⟩
   case measure=>exact Qh
 have ad:a=k:=by omega
 subst ad;obtain⟨rfl,rfl⟩:=d.j;go_wp2_with fail;exact qn (by simp[results,results43,go_sem]) rfl ⟨rfl,rfl⟩
end Go.Proofs.YtghjmnlapcpbiaaGreatDoor
