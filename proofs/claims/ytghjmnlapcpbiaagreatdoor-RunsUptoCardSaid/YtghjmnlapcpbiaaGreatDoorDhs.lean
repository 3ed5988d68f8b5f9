import Derived.Test.YtghjmnlapcpbiaaGreatDoorDhr
namespace Go.Proofs.YtghjmnlapcpbiaaGreatDoor
open _root_ renaming Option.some->Y,Option.none->G,Go.Value.int->O,Go.IntKind.i64->Z,Go.Value.slice->J,List->I,Nat->R,Int->A,Go.World.cell?->H,List.length->D,Go.Obj.cells->X,Go.Value->M,Go.World->T,Go.Addr.mk->Q,Go.RowKit.Hid->U,UInt8->AI,Bool.false->AS,Bool.true->AT,Option->By
open Go.Proofs.Tryz
open Go.RowKit
set_option linter.defProp false
variable{t:Array M}{k rs wy:A}{base ps σ:I A}{a:I PV}{q:R}{Ts:R->R->By (I A)}{m m':PM}{u:aK}
def Me:=@List.replicate_zero.{0}
def MV:=@Int.toNat_of_nonneg
set_option linter.unusedVariables false
set_option linter.unusedSimpArgs false
open Go.RowKit
attribute [local go_sem ↓] Go.wp_at_zero Go.wp_at_succ
theorem Tryz.callCnt(vals:Array M)(w:T):(callFunc 47 vals).run Tryz.prog w=.ok (.enter 47 vals) w:=Q7
def SQ(C:oN)(Ts:R->R->By (I A))(σ:I A)(m:PM)(x:RX)(t:Array M)(w:T):Prop:=∃bo,t[2]? =Y (.bool bo)/\qt C Ts σ m x bo w
def Kx(u:aK)(σ:I A)(m:PM)(B:I RK):Prop:=(∀(j:R) (b:RK),B[j]? =Y b->∃k,σ[j]? =Y k/\u.aA[(k-1).toNat]? =Y b.ks)\/∃i,lT u m.top=Y i/\(∀(j:R) (b:RK),B[j]? =Y b->∃k,(σ++[i.a])[j]? =Y k/\u.aA[(k-1).toNat]? =Y b.ks)/\D B=D σ+1
theorem g7{C:oN}{st:A}{L:I RF}{e:RF}{B:I RK}{vF vB vT:M}{f:aQ}{p r tk:R}{sl:I PV}{v:PV}{told:I A}{bs:I (I PV)}(hp:cQ C.u C.heap m=.go ⟨⟨m.top.fn,p,sl,a++List.replicate r v⟩,m.low,bs,tk,told⟩)(hT:Ts m.top.fn p=Y (base++List.replicate r k))(hf:C.u.aG[m.top.fn]? =Y f)(he:e.fn=m.top.fn/\e.pos=p/\e.ks=f.aH++f.aI/\e.slots=sl)(F:xQ C.u Ts m.top.fn m.low L)(af:B.map (·.fs)=bs)(ad:Kx C.u σ m B):
 ∀t w' ρ' ae,t[2]? =Y (.bool AS)->DW C w' ρ' (L++[{ e with kt:=base++List.replicate r k,stack:=a++List.replicate r v,vk:=ae }]) B ⟨told,st,wy,rs⟩ vF vB vT->SQ C Ts σ m ⟨m.told,st,wy,rs⟩ t w':=by
 intro t w' ρ' ae ht hd;refine⟨_,ht,?_⟩;unfold qt;rw[hp];refine⟨rfl,_,L,_,B,_,_,_,hd,?_⟩;have d:∃s,Ts _ p=Y s/\J_ _ ⟨m.top.fn,p,_,_⟩ 0 s { e with kt:=base++List.replicate r k,stack:=a++List.replicate r v,vk:=ae }:=⟨_,hT,f,hf,he.1,he.2.1,he.2.2.1,he.2.2.2,rfl,rfl⟩;rcases ad with ad|⟨i,h1,h2,h3⟩
 · exact .inl ⟨d,F,af,ad⟩
 exact .inr ⟨i,h1,⟨d,F,af,h2⟩,h3⟩
theorem mN.stepD{f:aQ}{i:bP}{ts:I A}{b:I PV}(heap:R)(hh:mN u Ts σ m.top f i base ts ps a b):cQ u heap m=eW u heap m i/\lT u m.top=Y i:=by
 have e:lT u m.top=Y i:=RH
 exact⟨by unfold cQ;rw[e],e⟩
theorem mN.onT{x:eZ}{f:aQ}{i:bP}{ts:I A}{b:I PV}(h:mN u Ts σ x f i base ts ps a b)(TC:¬i.op=11)(F:¬i.op=14):Ts x.fn (x.pos+1)=Y (base++ps):=by
 have hm:(if x.pos+1<D f.code then Y (x.pos+1) else G)∈ch f x.pos i:=by
  unfold ch;by_cases d:i.op=12<;>simp[TC,F,d]
 obtain⟨t',e1,e2⟩:=h.next _ hm;split at e1
 · obtain rfl:=(tz e1);exact e2
 cases e1
theorem mN.jumpT{x:eZ}{f:aQ}{i:bP}{ts:I A}{b:I PV}(h:mN u Ts σ x f i base ts ps a b)(F:i.op=11\/i.op=12):Ts x.fn i.a.toNat=Y (base++ps):=by
 have hm:Y i.a.toNat∈ch f x.pos i:=by
  unfold ch;rcases F with e|e<;>simp[e]
 obtain⟨t',e1,d⟩:=h.next _ hm;cases e1;exact d
theorem sw{C:oN}{w:T}{ρ:R->BR}{L:I RF}{B:I RK}{x:RX}{vF vB vT:M}{p:R}{o d:Obj}(h:DW C w ρ L B x vF vB vT/\w.heap[p]? =Y o/\w.heap[q]? =Y d):DW C w.drew ρ L B x vF vB vT/\w.drew.heap[p]? =Y o/\w.drew.heap[q]? =Y d:=⟨h.1.gr Gy,h.2⟩
theorem eR{w:T}{B:R}{e:TypeId}{n len:R}{v:M}{xs:I M}(h:w.ownsRow B e n v len xs)(d:0<len*n):∃g cap,v=J (Y (Q g 0 G)) len cap/\∀j,j<len*n->H w (Q g j G)=xs[j]? :=by
 obtain⟨g,h1,h2,⟨c,h3⟩,_⟩:=iE h d;refine⟨g,c,h3,λj d=>?_⟩;obtain⟨g',k1,_,_,F⟩:=iE h d;rw[h1]at k1;obtain rfl:=tz k1;rw[Aq]at F;exact F
theorem Tryz.infFr:(Tryz.prog.info? 82).map (λi=>(i.zero,i.size,i.bytes))=Y (Y (.agg #[O Z 0,O Z 0,J G 0 0,J G 0 0]),4,64):=Q7
theorem Tryz.infBl:(Tryz.prog.info? 130).map (λi=>(i.zero,i.size,i.bytes))=Y (Y (.agg #[J G 0 0]),1,24):=Q7
theorem Hr{C:oN}{w:T}{ρ:R->BR}{L:I RF}{e:RF}{B:I RK}{st:A}{vF vB vT:M}(hp:cQ C.u C.heap m=.go m')(F:t[2]? =Y (.bool AS))(hd:DW C w ρ (L++[e]) B ⟨m'.told,st,wy,rs⟩ vF vB vT)(d:MR C.u Ts σ m' L e B):SQ C Ts σ m ⟨m.told,st,wy,rs⟩ t w:=by
 refine⟨_,F,?_⟩;unfold qt;rw[hp];exact⟨rfl,_,L,e,B,_,_,_,hd,.inl d⟩
theorem pH{C:oN}{w:T}{ρ:R->BR}{L:I RF}{B:I RK}{st why res:A}{vF vB vT:M}(hp:cQ C.u C.heap m=.stop why res m')(d:t[2]? =Y (.bool AT))(F:DW C w ρ L B ⟨m'.told,st,why,res⟩ vF vB vT):SQ C Ts σ m ⟨m.told,st,wy,rs⟩ t w:=by
 refine⟨AT,d,?_⟩;unfold qt;rw[hp];exact⟨rfl,_,L,B,_,_,_,F⟩
theorem EB{C:oN}{B:I RK}{j:R}{a:A}{s:I A}(hm:qg C.u Ts σ m)(F:B.map (·.fs)=m.blks/\∀(j:R) (b:RK),B[j]? =Y b->∃k,σ[j]? =Y k/\C.u.aA[(k-1).toNat]? =Y b.ks)(hj:σ[j]? =Y a)(hs:C.u.aA[(a-1).toNat]? =Y s)(hk:s[q]? =Y k):∃b:RK,B[j]? =Y b/\b.ks[q]? =Y k/\m.blks.getD j []=b.fs:=by
 have h1:D B=D m.blks:=by rw[<-F.1];simp
 have h2:=hm.aA;have h3:=(dm.1 hj).1;have d:j<D B:=Q5;obtain⟨k',e1,e2⟩:=F.2 j _ (dW d);rw[hj]at e1;cases e1
 rw[hs]at e2;exact⟨_,dW d,by rw[<-tz e2];exact hk,by rw[<-F.1,mh,Ha,dW d];rfl⟩
section
variable {C:oN} {w w':T} {ρ:R->BR} {L:I RF} {e:RF} {B:I RK} {x:RX} {vF vB vT vt ea:M} {g cF ib eb pb r qc:R} {i:bP} {qa:By Addr} {ts:I A} {b:I PV}
theorem qf.putW(h:qf C w ρ L e B x vF vB vT g cF ib eb pb i vt ea qa r qc ts b){k n:M}(hs:w'.heap.size=w.heap.size)(hn:w'.os=w.os/\w'.tape=w.tape/\w'.output=w.output)(F:∀q,q≠pb->w'.heap[q]? =w.heap[q]?)(hb:w'.heap[pb]? =Y (X #[k,n] 122 (0,0))):DW C w' ρ (L++[e]) B x vF vB vT/\w'.heap[eb]? =Y (X #[ea,J qa r qc] 125 (0,0))/\w'.heap[pb]? =Y (X #[k,n] 122 (0,0)):=
 ⟨h.dw.keep Q5 hn λq _ d=>F q (λe=>by
  subst e;rcases d with d|d
  · have:=h.lt.2.2;omega
  exact d h.no.2.2.1),(F _ λe=>h.ne.2.1 e.symm).trans h.he,hb⟩
theorem qf.put1(h:qf C w ρ L e B x vF vB vT g cF ib eb pb i vt ea qa r qc ts b)(n:A):DW C (w.setCell (Q pb 1 G) (O Z n)) ρ (L++[e]) B x vF vB vT/\(w.setCell (Q pb 1 G) (O Z n)).heap[eb]? =Y (X #[ea,J qa r qc] 125 (0,0))/\(w.setCell (Q pb 1 G) (O Z n)).heap[pb]? =Y (X #[O Z 0,O Z n] 122 (0,0)):=
 h.putW Q6 ⟨rfl,rfl,rfl⟩ (λq d=>dp _ _ _ _ d) (bK h.hp)
theorem qf.put0_(h:qf C w ρ L e B x vF vB vT g cF ib eb pb i vt ea qa r qc ts b):DW C w ρ (L++[e]) B x vF vB vT/\w.heap[eb]? =Y (X #[ea,J qa r qc] 125 (0,0))/\w.heap[pb]? =Y (X #[O Z 0,O Z 0] 122 (0,0)):=⟨h.dw,h.he,h.hp⟩
theorem qf.neg(h:qf C w ρ L e B x vF vB vT g cF ib eb pb i vt ea qa r qc ts b):eb≠g/\pb≠g/\ib≠g:=by
 have d:=h.dw.fr.2 g (by rw[h.hv];rfl);refine⟨λe=>?_,λe=>?_,λe=>?_⟩<;>rw[<-e]at d
 · rw[h.no.2.1]at d;cases d
 · rw[h.no.2.2.1]at d;cases d
 rw[h.no.1]at d;cases d
theorem qf.posW(h:qf C w ρ L e B x vF vB vT g cF ib eb pb i vt ea qa r qc ts b)(p:R):DW C (w.setCell ⟨g,D L*4+1,G⟩ (O Z (p:A))) ρ (L++[{ e with pos:=p }]) B x vF vB vT/\(w.setCell ⟨g,D L*4+1,G⟩ (O Z (p:A))).heap[eb]? =Y (X #[ea,J qa r qc] 125 (0,0))/\(w.setCell ⟨g,D L*4+1,G⟩ (O Z (p:A))).heap[pb]? =Y (X #[O Z 0,O Z 0] 122 (0,0)):=
 ⟨h.dw.setPos h.hv p,(dp _ _ _ _ h.neg.1).trans h.he,(dp _ _ _ _ h.neg.2.1).trans h.hp⟩
theorem qf.slotW(h:qf C w ρ L e B x vF vB vT g cF ib eb pb i vt ea qa r qc ts b){sg n cap q:R}{k:A}(v:PV)(hv:e.vs=J (Y (Q sg 0 G)) n cap)(hk:e.ks[q]? =Y k):DW C ((w.setCell ⟨sg,q*2,G⟩ (O Z k)).setCell ⟨sg,q*2+1,G⟩ (O Z (vR k v))) ρ (L++[{ e with slots:=e.slots.set q v }]) B x vF vB vT/\((w.setCell ⟨sg,q*2,G⟩ (O Z k)).setCell ⟨sg,q*2+1,G⟩ (O Z (vR k v))).heap[eb]? =Y (X #[ea,J qa r qc] 125 (0,0))/\((w.setCell ⟨sg,q*2,G⟩ (O Z k)).setCell ⟨sg,q*2+1,G⟩ (O Z (vR k v))).heap[pb]? =Y (X #[O Z 0,O Z 0] 122 (0,0)):=by
 have d:=(h.dw.fs _ e K1).sl.2 sg Rr;have h1:eb≠sg:=λe=>by rw[<-e,h.no.2.1]at d;cases d
 have F:pb≠sg:=λe=>by rw[<-e,h.no.2.2.1]at d;cases d
 exact⟨h.dw.setSlot hv hk v,(dp _ _ _ _ h1).trans ((dp _ _ _ _ h1).trans h.he),(dp _ _ _ _ F).trans ((dp _ _ _ _ F).trans h.hp)⟩
theorem qf.drew(h:qf C w ρ L e B x vF vB vT g cF ib eb pb i vt ea qa r qc ts b):qf C w.drew ρ L e B x vF vB vT g cF ib eb pb i vt ea qa r qc ts b:=⟨h.dw.gr Gy,h.hv,h.hi,h.he,h.hp,h.tk,h.no,h.lt,h.ne⟩
theorem qf.setBW(h:qf C w ρ L e B x vF vB vT g cF ib eb pb i vt ea qa r qc ts b){j d n cap q:R}{k:A}{F:RK}(v:PV)(hj:B[j]? =Y F)(hv:F.v=J (Y (Q d 0 G)) n cap)(hk:F.ks[q]? =Y k):DW C ((w.setCell ⟨d,q*2,G⟩ (O Z k)).setCell ⟨d,q*2+1,G⟩ (O Z (vR k v))) ρ (L++[e]) (B.set j { F with fs:=F.fs.set q v }) x vF vB vT/\((w.setCell ⟨d,q*2,G⟩ (O Z k)).setCell ⟨d,q*2+1,G⟩ (O Z (vR k v))).heap[eb]? =Y (X #[ea,J qa r qc] 125 (0,0))/\((w.setCell ⟨d,q*2,G⟩ (O Z k)).setCell ⟨d,q*2+1,G⟩ (O Z (vR k v))).heap[pb]? =Y (X #[O Z 0,O Z 0] 122 (0,0)):=by
 have hr:=(h.dw.bs j _ hj).fl.2 d Rr;have h1:eb≠d:=λe=>by rw[<-e,h.no.2.1]at hr;cases hr
 have h2:pb≠d:=λe=>by rw[<-e,h.no.2.2.1]at hr;cases hr
 exact⟨h.dw.setB hj hv hk v,(dp _ _ _ _ h1).trans ((dp _ _ _ _ h1).trans h.he),(dp _ _ _ _ h2).trans ((dp _ _ _ _ h2).trans h.hp)⟩
theorem qf.gr(h:qf C w ρ L e B x vF vB vT g cF ib eb pb i vt ea qa r qc ts b)(k:Gr w w'):qf C w' ρ L e B x vF vB vT g cF ib eb pb i vt ea qa r qc ts b:=
 ⟨h.dw.gr k,h.hv,(k.block _ (eJ.1 h.hi).1 Q6).trans h.hi,(k.block _ (eJ.1 h.he).1 Q6).trans h.he,(k.block _ (eJ.1 h.hp).1 Q6).trans h.hp,eO h.tk k,h.no,h.lt,h.ne⟩
theorem qf.put0(h:qf C w ρ L e B x vF vB vT g cF ib eb pb i vt ea qa r qc ts b)(n:A):DW C (w.setCell (Q pb 0 G) (O Z n)) ρ (L++[e]) B x vF vB vT/\(w.setCell (Q pb 0 G) (O Z n)).heap[eb]? =Y (X #[ea,J qa r qc] 125 (0,0))/\(w.setCell (Q pb 0 G) (O Z n)).heap[pb]? =Y (X #[O Z n,O Z 0] 122 (0,0)):=
 h.putW Q6 ⟨rfl,rfl,rfl⟩ (λq d=>dp _ _ _ _ d) (bK h.hp)
theorem qf.put2(h:qf C w ρ L e B x vF vB vT g cF ib eb pb i vt ea qa r qc ts b)(k n:A):DW C ((w.setCell (Q pb 0 G) (O Z k)).setCell (Q pb 1 G) (O Z n)) ρ (L++[e]) B x vF vB vT/\((w.setCell (Q pb 0 G) (O Z k)).setCell (Q pb 1 G) (O Z n)).heap[eb]? =Y (X #[ea,J qa r qc] 125 (0,0))/\((w.setCell (Q pb 0 G) (O Z k)).setCell (Q pb 1 G) (O Z n)).heap[pb]? =Y (X #[O Z k,O Z n] 122 (0,0)):=
 h.putW Q6 ⟨rfl,rfl,rfl⟩ (λq d=>(dp _ _ _ _ d).trans (dp _ _ _ _ d)) (bK (bK h.hp))
end
theorem NL{p:Prop}(h:p:=by go_wp2_with fail;exact eG (k:=0) (v:=lX) HW.j.1 HI.j.hv HF.j.2.2.2.2.2 HF.j.2.2.2.2.1 HA.j.1 HA.j.2 Q5 HW.j.2.1 HW.j.2.2 HI.j.lt.2 ⟨HI.j.no.2.1,HI.j.no.2.2.1⟩ (g7 HP.j (HH.j.onT Q5 Q5) HH.j.func ⟨HF.j.1,HF.j.2.1,HF.j.2.2.1,HF.j.2.2.2.1⟩ HL.j HB.j.1 (.inl HB.j.2))):p:=h
theorem QX{p:Prop}(h:p:=by rw[aN HI.j.dw.box];rfl):p:=h
theorem Oi{p:Prop}(h:p:=by
 have Xx:H w (Q C.mb 8 G)=Y (O Z wy):=QX
 have z8:w.frozen? ⟨C.mb,8,G⟩=AS:=aT HI.j.dw.box;have HW:=aJ (HI.j.dw.setX 8 10 ⟨m.told,st,10,0⟩ rfl rfl);clear hb e0;go_wp2_with fail;exact⟨rfl,pH HP.j rfl HW.j⟩):p:=h
theorem OI{p:Prop}(h:p:=by go_wp2_with fail;exact⟨rfl,pH HP.j rfl HW.j⟩):p:=h
theorem Qv{p:Prop}(h:p:=by rw[aN HI.j.hi];simp[eo]):p:=h
theorem QC{p:Prop}(h:p:=by rw[aN HI.j.hp];rfl):p:=h
theorem QY{p:Prop}(h:p:=by rw[aN HI.j.hi];rfl):p:=h
theorem Rd{p:Prop}(h:p:=by rw[(HH.j.stepD C.heap).1];unfold eW;simp only[eo,HH.j.stack,cD,dD,Me,Ir];rfl):p:=h
theorem Ri{p:Prop}(h:p:=by rw[(HH.j.stepD C.heap).1];unfold eW;simp only[eo,HH.j.stack,Ir];rfl):p:=h
theorem RA{p:Prop}(h:p:=by unfold vR;rw[eP WR,hb]):p:=h
theorem Sf{p:Prop}(h:p:=by rw[(HH.j.stepD C.heap).1];unfold eW;simp only[eo,HH.j.stack,cD,dD,hb];rfl):p:=h
theorem Sn{p:Prop}(h:p:=by rw[(HH.j.stepD C.heap).1];unfold eW;simp only[eo,HH.j.stack,cD,Vf];rfl):p:=h
theorem St{p:Prop}(h:p:=by have h8:=congrArg List.length HB.j.1;have h9:=HN.j;simp at h8;omega):p:=h
set_option maxRecDepth 100000 in
set_option maxHeartbeats 4000000 in
theorem G6{C:oN}{w:T}{ρ:R->BR}{L:I RF}{e:RF}{B:I RK}{st:A}{vF vB vT vt ea:M}{g cF ib eb pb r qc:R}{f:aQ}{i:bP}{qa:By Addr}{ts:I A}{b:I PV}{c1 c2 c4 c7 c11 c12 c13 c14 c15 c16 c17 c18 c19 c20 c21 c22 c23 c24 c25 c26 c27 c28 c29 c30 c31 c32 c33 c34 c35 c36 c37 c38 c39 c40 c41 c42 c43 c44 c45 c46 c47 c48 c49 c50 c51 c52 c53 c54 c55 c56 c57 c58 c59 c60 c61 c62 c63 c64 c65 c66 c67 c68 c69 c70 c71 c72 c73 c74 c75 c76 c77 c78 c79 c80 c81 c82 c83 c84 c85 c86 c87 c88 c89 c90 c91 c92 c93 c94 c95 c96 c97 c98 c99 c100 c101 c102 c103 c104 c105 c106 c107 c108 c109 c110 c111 c112 c113 c114 c115 c116 c117 c118 c119 c120 c121 c122 c123 c124 c125 c126 c127 c128 c129 c130 c131 c132 c133 c134 c135 c136 c137 c138 c139 c140 c141 c142 c143 c144 c145 c146 c147 c148 c149 c150 c151 c152 c153 c154 c155 c156 c157 c158 c159 c160 c161 c162 c163 c164 c165 c166 c167 c168 c169 c170 c171 l1 r0 g' il fy ry nv la vr g0 r5 gV m8 g5 n6 ja vy n7 kk tn eV ep gb jn hQ hn vn ki wA rl n4 o' vm te m4 vu m7 tp q' q7 h5 uv j2 dO l0 sV sx va m9 t' gX dd ef ix hW o4 ga vX vx e4 ns hE ez q9 iv gm r9 h' c' s5 ka pa o8 gA ve oz rk nd nf h8 sM uu hG hD hA v9 dT k' hM s6 px tq hC jb s8 wq ky sL gW o6 r8 wb o0 gB n0 ke r7 ec qp r2 qv j3 v8 o3 s7 o7 pk np ih nb vb m6 pv gF oo sk ra h6 e7 l6 hZ k5 l2 nw j1 gg o2 v7 n8 gU hN tx fo nn n2 p9 pc ev h4 iy hL n5 di lp k7 gy en r3 gp hX vv sy g1 kn k6 wm r1 jv ed i' sT ni wx j4 kb hO oj ha n9 kx g4 u' s9 fm rf q0 lv sn tt g6 ql c6 l4 q8 fa o1 mm r4 vz hJ l7 sr pe p' o9 hR n1 s4 m0 o5 j' l3 ej eu hx hP nk hY wa e3 q6 kq n3 e8 j0 mr vi ds r6 m5:M}(h:qf C w ρ L e B ⟨m.told,st,wy,0⟩ vF vB vT g cF ib eb pb i vt ea qa r qc ts b)(hh:mN C.u Ts σ m.top f i base ts ps a b)(hm:qg C.u Ts σ m)(hf:e.fn=m.top.fn/\e.pos=m.top.pos+1/\e.ks=f.aH++f.aI/\e.slots=m.top.slots/\e.kt=base++ts/\e.stack=a++b)(hl:xQ C.u Ts m.top.fn m.low L)(hB:B.map (·.fs)=m.blks/\∀(j:R) (b:RK),B[j]? =Y b->∃k,σ[j]? =Y k/\C.u.aA[(k-1).toNat]? =Y b.ks)(hr:r=D ps)(zr:D m.blks<=300000)(hu:rD C.u)(x':C.u.aC=[])(hT:∀n f,C.u.aG[n]? =Y f->lf C.u f (Ts n))(w7:m.taken<=10000/\cT m<=m.taken/\C.heap<=10000)(hV:C.V.heap.size=C.mb)(hU:bV C.V (.agg #[C.v1,C.v2,C.v3,C.v4,C.v5]) C.u):
 Code.wp prog (Kl (rS 10 (eU f23))) (Exit.then (Code.wp prog (rS 11 (eU f23)) (EQ (SQ C Ts σ m ⟨m.told,st,wy,0⟩))) (EQ (SQ C Ts σ m ⟨m.told,st,wy,0⟩))) ⟨#[.pointer (Y (Q C.mb 0 G)),c1,c2,.pointer (Y ⟨g,D L*4,G⟩),c4,.pointer (Y (Q ib 0 G)),.pointer (Y (Q eb 0 G)),c7,O Z (D a:A),vt,.pointer (Y (Q pb 0 G)),c11,c12,c13,c14,c15,c16,c17,c18,c19,c20,c21,c22,c23,c24,c25,c26,c27,c28,c29,c30,c31,c32,c33,c34,c35,c36,c37,c38,c39,c40,c41,c42,c43,c44,c45,c46,c47,c48,c49,c50,c51,c52,c53,c54,c55,c56,c57,c58,c59,c60,c61,c62,c63,c64,c65,c66,c67,c68,c69,c70,c71,c72,c73,c74,c75,c76,c77,c78,c79,c80,c81,c82,c83,c84,c85,c86,c87,c88,c89,c90,c91,c92,c93,c94,c95,c96,c97,c98,c99,c100,c101,c102,c103,c104,c105,c106,c107,c108,c109,c110,c111,c112,c113,c114,c115,c116,c117,c118,c119,c120,c121,c122,c123,c124,c125,c126,c127,c128,c129,c130,c131,c132,c133,c134,c135,c136,c137,c138,c139,c140,c141,c142,c143,c144,c145,c146,c147,c148,c149,c150,c151,c152,c153,c154,c155,c156,c157,c158,c159,c160,c161,c162,c163,c164,c165,c166,c167,c168,c169,c170,c171,l1,r0,g',il,fy,ry,nv,la,vr,g0,r5,gV,m8,g5,n6,ja,vy,n7,kk,tn,eV,ep,gb,jn,hQ,hn,vn,ki,wA,rl,n4,o',vm,te,m4,vu,m7,tp,q',q7,h5,uv,j2,dO,l0,sV,sx,va,m9,t',gX,dd,ef,ix,hW,o4,ga,vX,vx,e4,ns,hE,ez,q9,iv,gm,r9,h',c',s5,ka,pa,o8,gA,ve,oz,rk,nd,nf,h8,sM,uu,hG,hD,hA,v9,dT,k',hM,s6,px,tq,hC,jb,s8,wq,ky,sL,gW,o6,r8,wb,o0,gB,n0,ke,r7,ec,qp,r2,qv,j3,v8,o3,s7,o7,pk,np,ih,nb,vb,m6,pv,gF,oo,sk,ra,h6,e7,l6,hZ,k5,l2,nw,j1,gg,o2,v7,n8,gU,hN,tx,fo,nn,n2,p9,pc,ev,h4,iy,hL,n5,di,lp,k7,gy,en,r3,gp,hX,vv,sy,g1,kn,k6,wm,r1,jv,ed,i',sT,ni,wx,j4,kb,hO,oj,ha,n9,kx,g4,u',s9,fm,rf,q0,lv,sn,tt,g6,ql,c6,l4,q8,fa,o1,mm,r4,vz,hJ,l7,sr,pe,p',o9,hR,n1,s4,m0,o5,j',l3,ej,eu,hx,hP,nk,hY,wa,e3,q6,kq,n3,e8,j0,mr,vi,ds,r6,m5],[]⟩ w:=by
 have HI:=aJ h;have HH:=aJ hh;have HM:=aJ hm;have HF:=aJ hf;have HL:=aJ hl;have HB:=aJ hB;have HU:=aJ (hU.gr (h.dw.vgr hV));have HV:=aJ (And.intro hV hU);have HA:U (D base=D a/\D a<=100):=aJ (by have h1:=hh.below.1;have h2:=hh.short;simp at h2;exact⟨h1,Q5⟩);have HN:=aJ zr;have HO:=aJ (And.intro hu (And.intro x' hT));have HK:=aJ w7;have hI:=hh.ins;clear h hh hm hf hl hB hU hV zr hu x' hT w7;conv=>arg 2;whnf
 cases hI with
 | const eo h0 hc=>
  obtain rfl:r=1:=hr;have k0:H w (Q ib 0 G)=Y (O Z 0):=Qv
  have k1:H w (Q ib 1 G)=Y (O Z i.a):=QY
  have p0:H w (Q pb 0 G)=Y (O Z 0):=QC
  have p1:H w (Q pb 1 G)=Y (O Z 0):=QC
  have z0:w.frozen? ⟨pb,0,G⟩=AS:=aT HI.j.hp;have z1:w.frozen? ⟨pb,1,G⟩=AS:=aT HI.j.hp;obtain rfl:=HH.j.upon.of_nil;obtain⟨x1,x2,x3,x4,x5,he,_,h2,_,_,_⟩:=HU.j;simp only[Ch,FL,Bk,I7]at he;obtain⟨a2,IS,yb,_,TD⟩:=h2;obtain⟨cb,co,rfl,B2⟩:=TD i.a.toNat hc;have m1:H w (Q C.mb 1 G)=Y (J (Y (Q cb co G)) (D C.u.aE) IS):=by rw[aN HI.j.dw.box,<-yb,<-he.2.1];rfl
  have zd:i.a<(D C.u.aE:A):=Q5;clear he yb TD;have HP:U (cQ C.u C.heap m=.go ⟨⟨m.top.fn,m.top.pos+1,m.top.slots,a++List.replicate 1 ⟨(C.u.aE.getD i.a.toNat 0),G⟩⟩,m.low,m.blks,m.taken,m.told⟩):=aJ Ri;generalize C.u.aE.getD i.a.toNat 0=cv at B2 HP;have HW:=aJ (HI.j.put1 cv);go_wp2_with fail;go_region
  have HX:=aJ (sw HW.j);exact eG (k:=0) (v:=⟨cv,G⟩) HX.j.1 HI.j.hv HF.j.2.2.2.2.2 HF.j.2.2.2.2.1 HA.j.1 HA.j.2 Q5 HX.j.2.1 HX.j.2.2 HI.j.lt.2 ⟨HI.j.no.2.1,HI.j.no.2.2.1⟩ (g7 HP.j (HH.j.onT Q5 Q5) HH.j.func ⟨HF.j.1,HF.j.2.1,HF.j.2.2.1,HF.j.2.2.2.1⟩ HL.j HB.j.1 (.inl HB.j.2))
 | small eo=>
  obtain rfl:r=1:=hr;have k0:H w (Q ib 0 G)=Y (O Z 1):=Qv
  have k1:H w (Q ib 1 G)=Y (O Z i.a):=QY
  have p0:H w (Q pb 0 G)=Y (O Z 0):=QC
  have p1:H w (Q pb 1 G)=Y (O Z 0):=QC
  have z0:w.frozen? ⟨pb,0,G⟩=AS:=aT HI.j.hp;have z1:w.frozen? ⟨pb,1,G⟩=AS:=aT HI.j.hp;obtain rfl:=HH.j.upon.of_nil;have HP:U (cQ C.u C.heap m=.go ⟨⟨m.top.fn,m.top.pos+1,m.top.slots,a++List.replicate 1 ⟨i.a,G⟩⟩,m.low,m.blks,m.taken,m.told⟩):=aJ Ri;have HW:=aJ (HI.j.put1 i.a);go_wp2_with fail;exact eG (k:=0) (v:=⟨i.a,G⟩) HW.j.1 HI.j.hv HF.j.2.2.2.2.2 HF.j.2.2.2.2.1 HA.j.1 HA.j.2 Q5 HW.j.2.1 HW.j.2.2 HI.j.lt.2 ⟨HI.j.no.2.1,HI.j.no.2.2.1⟩ (g7 HP.j (HH.j.onT Q5 Q5) HH.j.func ⟨HF.j.1,HF.j.2.1,HF.j.2.2.1,HF.j.2.2.2.1⟩ HL.j HB.j.1 (.inl HB.j.2))
 | load k eo h0 hk=>
  obtain rfl:r=1:=hr;have k0:H w (Q ib 0 G)=Y (O Z 2):=Qv
  have k1:H w (Q ib 1 G)=Y (O Z i.a):=QY
  have p0:H w (Q pb 0 G)=Y (O Z 0):=QC
  have p1:H w (Q pb 1 G)=Y (O Z 0):=QC
  have z0:w.frozen? ⟨pb,0,G⟩=AS:=aT HI.j.hp;have z1:w.frozen? ⟨pb,1,G⟩=AS:=aT HI.j.hp;obtain rfl:=HH.j.upon.of_nil;obtain⟨sv,a4,cM⟩:=HH.j.slots.get hk;have b0:=HI.j.dw.fs (D L) e K1;obtain⟨TW,TN⟩:=nt (ks:=e.ks) (vs:=e.slots) (by rw[HF.j.2.2.1];exact hk) (by rw[HF.j.2.2.2.1];exact a4);have Tn:i.a.toNat<D e.slots:=by rw[HF.j.2.2.2.1];exact(dm.1 a4).1
  obtain⟨sg,k4,a5,a'⟩:=eR b0.sl.1 Q5;have t9:H w ⟨sg,i.a.toNat*2,G⟩=Y (O Z k):=(a' _ Q5).trans TW;have t8:H w ⟨sg,i.a.toNat*2+1,G⟩=Y (O Z (vR k sv)):=(a' _ Q5).trans TN;have ht:=HI.j.dw.top HI.j.hv;have f2:=ht.1.2.2.1;rw[a5]at f2;have zd:i.a<(D e.slots:A):=Q5;clear ht a' TW TN b0 a5;have HP:U (cQ C.u C.heap m=.go ⟨⟨m.top.fn,m.top.pos+1,m.top.slots,a++List.replicate 1 sv⟩,m.low,m.blks,m.taken,m.told⟩):=aJ (by rw[(HH.j.stepD C.heap).1];unfold eW;simp only[eo,HH.j.stack,Ir,mh,a4,La];rfl);have HW:=aJ (HI.j.put2 k (vR k sv));clear a4 cM;go_wp2_with fail;go_region
  have HX:=aJ (sw HW.j);exact eG (k:=k) (v:=sv) HX.j.1 HI.j.hv HF.j.2.2.2.2.2 HF.j.2.2.2.2.1 HA.j.1 HA.j.2 Q5 HX.j.2.1 HX.j.2.2 HI.j.lt.2 ⟨HI.j.no.2.1,HI.j.no.2.2.1⟩ (g7 HP.j (HH.j.onT Q5 Q5) HH.j.func ⟨HF.j.1,HF.j.2.1,HF.j.2.2.1,HF.j.2.2.2.1⟩ HL.j HB.j.1 (.inl HB.j.2))
 | store k eo h0 hk=>
  obtain rfl:r=0:=hr;have k0:H w (Q ib 0 G)=Y (O Z 3):=Qv
  have k1:H w (Q ib 1 G)=Y (O Z i.a):=QY
  obtain⟨v,rfl,ax⟩:=HH.j.upon.of_one;obtain⟨F,ae,ad,d⟩:=eR HI.j.tk Q6;have t0:H w (Q F 0 G)=Y (O Z k):=d 0 Q6;have t1:H w (Q F 1 G)=Y (O Z (vR k v)):=d 1 Q6;subst ad;clear d;obtain⟨sv,a4,cM⟩:=HH.j.slots.get hk;have b0:=HI.j.dw.fs (D L) e K1;obtain⟨TW,TN⟩:=nt (ks:=e.ks) (vs:=e.slots) (by rw[HF.j.2.2.1];exact hk) (by rw[HF.j.2.2.2.1];exact a4);have Tn:i.a.toNat<D e.slots:=by rw[HF.j.2.2.2.1];exact(dm.1 a4).1
  obtain⟨sg,k4,a5,a'⟩:=eR b0.sl.1 Q5;have t9:H w ⟨sg,i.a.toNat*2,G⟩=Y (O Z k):=(a' _ Q5).trans TW;have t8:H w ⟨sg,i.a.toNat*2+1,G⟩=Y (O Z (vR k sv)):=(a' _ Q5).trans TN;have ht:=HI.j.dw.top HI.j.hv;have f2:=ht.1.2.2.1;rw[a5]at f2;have zd:i.a<(D e.slots:A):=Q5;have zs:=wR b0.sl.1 (g:=sg) (by rw[a5];rfl);have C':=zs (i.a.toNat*2);have GD:=zs (i.a.toNat*2+1);clear zs;have HP:U (cQ C.u C.heap m=.go ⟨⟨m.top.fn,m.top.pos+1,m.top.slots.set i.a.toNat v,a++List.replicate 0 lX⟩,m.low,m.blks,m.taken,m.told⟩):=aJ Rd;have HW:=aJ (HI.j.slotW (k:=k) v a5 (by rw[HF.j.2.2.1];exact hk));clear ht a' TW TN b0 a5 a4 cM;go_wp2_with fail;go_region
  have HX:=aJ (sw HW.j);exact eG (k:=0) (v:=lX) HX.j.1 HI.j.hv HF.j.2.2.2.2.2 HF.j.2.2.2.2.1 HA.j.1 HA.j.2 Q5 HX.j.2.1 HX.j.2.2 HI.j.lt.2 ⟨HI.j.no.2.1,HI.j.no.2.2.1⟩ (g7 HP.j (HH.j.onT Q5 Q5) HH.j.func ⟨HF.j.1,HF.j.2.1,HF.j.2.2.1,by show e.slots.set _ _=_;rw[HF.j.2.2.2.1]⟩ HL.j HB.j.1 (.inl HB.j.2))
 | pop k eo=>
  obtain rfl:r=0:=hr;have k0:H w (Q ib 0 G)=Y (O Z 4):=Qv
  obtain⟨v,rfl,ax⟩:=HH.j.upon.of_one;have HP:U (cQ C.u C.heap m=.go ⟨⟨m.top.fn,m.top.pos+1,m.top.slots,a++List.replicate 0 lX⟩,m.low,m.blks,m.taken,m.told⟩):=aJ (by rw[(HH.j.stepD C.heap).1];unfold eW;simp only[eo,HH.j.stack,dD,Me,Ir];rfl);have HW:=aJ (HI.j.put0_);exact NL
 | dup k eo=>
  obtain rfl:r=2:=hr;have k0:H w (Q ib 0 G)=Y (O Z 5):=Qv
  have p0:H w (Q pb 0 G)=Y (O Z 0):=QC
  have p1:H w (Q pb 1 G)=Y (O Z 0):=QC
  have z0:w.frozen? ⟨pb,0,G⟩=AS:=aT HI.j.hp;have z1:w.frozen? ⟨pb,1,G⟩=AS:=aT HI.j.hp;obtain⟨v,rfl,ax⟩:=HH.j.upon.of_one;obtain⟨F,ae,ad,d⟩:=eR HI.j.tk Q6;have t0:H w (Q F 0 G)=Y (O Z k):=d 0 Q6;have t1:H w (Q F 1 G)=Y (O Z (vR k v)):=d 1 Q6;subst ad;clear d;have HP:U (cQ C.u C.heap m=.go ⟨⟨m.top.fn,m.top.pos+1,m.top.slots,a++[v,v]⟩,m.low,m.blks,m.taken,m.told⟩):=aJ (by rw[(HH.j.stepD C.heap).1];unfold eW;simp only[eo,HH.j.stack,cD,zx,Ls,Kj];rfl);have HW:=aJ (HI.j.put2 k (vR k v));go_wp2_with fail;exact eG (k:=k) (v:=v) HW.j.1 HI.j.hv HF.j.2.2.2.2.2 HF.j.2.2.2.2.1 HA.j.1 HA.j.2 Q5 HW.j.2.1 HW.j.2.2 HI.j.lt.2 ⟨HI.j.no.2.1,HI.j.no.2.2.1⟩ (g7 HP.j (HH.j.onT Q5 Q5) HH.j.func ⟨HF.j.1,HF.j.2.1,HF.j.2.2.1,HF.j.2.2.2.1⟩ HL.j HB.j.1 (.inl HB.j.2))
 | reck e1 e2=>
  obtain rfl:r=1:=hr;have ho:i.op=6\/i.op=7\/i.op=8\/i.op=9\/i.op=10:=Q5;have p0:H w (Q pb 0 G)=Y (O Z 0):=QC
  have p1:H w (Q pb 1 G)=Y (O Z 0):=QC
  have z0:w.frozen? ⟨pb,0,G⟩=AS:=aT HI.j.hp;have z1:w.frozen? ⟨pb,1,G⟩=AS:=aT HI.j.hp;obtain⟨v,v',rfl,ax,rm⟩:=HH.j.upon.of_two;obtain⟨F,ae,ad,d⟩:=eR HI.j.tk Q6;have t0:H w (Q F 0 G)=Y (O Z 0):=d 0 Q6;have t1:H w (Q F 1 G)=Y (O Z (vR 0 v)):=d 1 Q6;have t2:H w (Q F 2 G)=Y (O Z 0):=d 2 Q6;have t3:H w (Q F 3 G)=Y (O Z (vR 0 v')):=d 3 Q6;subst ad;clear d;have q1:vR 0 v=v.num:=rfl;have q3:vR 0 v'=v'.num:=rfl;rw[q1]at t1;rw[q3]at t3;clear q1 q3;have HN:U (¬i.op=11/\¬i.op=14):=aJ Q5;have k0:H w (Q ib 0 G)=Y (O Z i.op):=QY
  have HP:U (cQ C.u C.heap m=.go ⟨⟨m.top.fn,m.top.pos+1,m.top.slots,a++List.replicate 1 ⟨jT i.op v.num v'.num,G⟩⟩,m.low,m.blks,m.taken,m.told⟩):=aJ (by
   rw[(HH.j.stepD C.heap).1];unfold eW;rcases ho with eo|eo|eo|eo|eo<;>(simp only[eo,HH.j.stack,ik,gL,io];rfl))
  have HC:=aJ λW=>zJ i.op v.num v'.num W ho
  have HW:=aJ (HI.j.put1 (jT i.op v.num v'.num));generalize jT i.op v.num v'.num=rv at HP HC HW;clear e1 e2;rcases ho with eo|eo|eo|eo|eo
  all_goals
   rw[eo]at k0 HC;clear eo;go_wp2_with fail;refine eD 12 (S:=(λw':T=>H w' (Q ib 0 G)=Y (O Z _)/\H w' (Q F 1 G)=Y (O Z v.num)/\H w' (Q F 3 G)=Y (O Z v'.num))) Q7 (⟨k0,t1,t3⟩) λhH=>?_;refine me (i:=0) (v:=?_) rfl Q7 Q9 Q7 Q7 Q7 (λ_ _ _ h=>h) bZ ?_ hH ?_;rotate_left
   · (intro w TP;(try dsimp only at TP);go_simp<;>with_reducible rfl)
   simp only[Act.put,sA,s0,s1];refine me (i:=1) (v:=?_) rfl Q7 Q9 Q7 Q7 Q7 (λ_ _ _ h=>h) bZ ?_ hH ?_;rotate_left
   · (intro w TP;(try dsimp only at TP);go_simp<;>with_reducible rfl)
   simp only[Act.put,sA,s0,s1];refine me (i:=2) (v:=?_) rfl Q7 Q9 Q7 Q7 Q7 (λ_ _ _ h=>h) bZ ?_ hH ?_;rotate_left
   · (intro w TP;(try dsimp only at TP);go_simp<;>with_reducible rfl)
   simp only[Act.put,sA,s0,s1];refine me (i:=3) (v:=?_) rfl Q7 Q9 Q7 Q7 Q7 (λ_ _ _ h=>h) bZ ?_ hH ?_;rotate_left
   · (intro w TP;(try dsimp only at TP);go_simp<;>with_reducible rfl)
   simp only[Act.put,sA,s0,s1];refine me (i:=4) (v:=?_) rfl Q7 Q9 Q7 Q7 Q7 (λ_ _ _ h=>h) bZ ?_ hH ?_;rotate_left
   · (intro w TP;(try dsimp only at TP);go_simp<;>with_reducible rfl)
   simp only[Act.put,sA,s0,s1];refine me (i:=5) (v:=?_) rfl Q7 Q9 Q7 Q7 Q7 (λ_ _ _ h=>h) bZ ?_ hH ?_;rotate_left
   · (intro w TP;(try dsimp only at TP);go_simp<;>with_reducible rfl)
   simp only[Act.put,sA,s0,s1];refine me (i:=6) (v:=?_) rfl Q7 Q9 Q7 Q7 Q7 (λ_ _ _ h=>h) bZ ?_ hH ?_;rotate_left
   · (intro w TP;(try dsimp only at TP);go_simp<;>with_reducible rfl)
   simp only[Act.put,sA,s0,s1];refine me (i:=7) (v:=?_) rfl Q7 Q9 Q7 Q7 Q7 (λ_ _ _ h=>h) bZ ?_ hH ?_;rotate_left
   · (intro w TP;(try dsimp only at TP);go_simp<;>with_reducible rfl)
   simp only[Act.put,sA,s0,s1];refine me (i:=8) (v:=?_) rfl Q7 Q9 Q7 Q7 Q7 (λ_ _ _ h=>h) bZ ?_ hH ?_;rotate_left
   · (intro w TP;(try dsimp only at TP);go_simp<;>with_reducible rfl)
   simp only[Act.put,sA,s0,s1];refine me (i:=9) (v:=?_) rfl Q7 Q9 Q7 Q7 Q7 (λ_ _ _ h=>h) bZ ?_ hH ?_;rotate_left
   · (intro w TP;(try dsimp only at TP);go_simp<;>with_reducible rfl)
   simp only[Act.put,sA,s0,s1];refine eh (i:=10) rfl Q7 λK hK=>?_;refine aW bZ (pi 47 _ _ rfl #[O Z _,O Z v.num,O Z v'.num] fZ (Tryz.callCnt _ _) ((HC.j _).mono ?_));rintro e9 w9 ⟨rfl,rfl⟩;refine .inl ⟨_,rfl,?_⟩;refine hK.out _ _ (λ_=>⟨k0,t1,t3⟩) λhH=>?_;replace hH:=hH Q9;clear hK;try simp only[Act.put,sA,s0,s1]
   refine me (i:=11) (v:=?_) rfl Q7 Q9 Q7 Q7 Q7 (λ_ _ _ h=>h) bZ ?_ hH ?_;rotate_left
   · (intro w TP;(try dsimp only at TP);go_simp<;>with_reducible rfl)
   simp only[Act.put,sA,s0,s1];refine eh (i:=12) rfl Q7 λK hK=>?_;refine aW bZ ?_;go_simp
   refine hK.out _ _ (λh=>absurd rfl h) λ_=>?_;clear hK;try simp only[Act.put,sA,s0,s1]
   refine mf Q7 ?_ _;go_wp2_with fail;have HX:=aJ (sw HW.j);exact eG (k:=0) (v:=⟨rv,G⟩) HX.j.1 HI.j.hv HF.j.2.2.2.2.2 HF.j.2.2.2.2.1 HA.j.1 HA.j.2 Q5 HX.j.2.1 HX.j.2.2 HI.j.lt.2 ⟨HI.j.no.2.1,HI.j.no.2.2.1⟩ (g7 HP.j (HH.j.onT HN.j.1 HN.j.2) HH.j.func ⟨HF.j.1,HF.j.2.1,HF.j.2.2.1,HF.j.2.2.2.1⟩ HL.j HB.j.1 (.inl HB.j.2))
 | jump eo h0 h1=>
  obtain rfl:r=0:=hr;have k0:H w (Q ib 0 G)=Y (O Z 11):=Qv
  have k1:H w (Q ib 1 G)=Y (O Z i.a):=QY
  obtain rfl:=HH.j.upon.of_nil;have ht:=HI.j.dw.top HI.j.hv;have f1:=ht.1.2.1;have zf:=ht.2.1 (D L*4+1);clear ht;have HP:U (cQ C.u C.heap m=.go ⟨⟨m.top.fn,i.a.toNat,m.top.slots,a++List.replicate 0 lX⟩,m.low,m.blks,m.taken,m.told⟩):=aJ (by rw[(HH.j.stepD C.heap).1];unfold eW;simp only[eo,HH.j.stack,Me];rfl);have HW:=aJ (HI.j.posW i.a.toNat);rw[MV h0]at HW;go_wp2_with fail;exact eG (k:=0) (v:=lX) HW.j.1 HI.j.hv HF.j.2.2.2.2.2 HF.j.2.2.2.2.1 HA.j.1 HA.j.2 Q5 HW.j.2.1 HW.j.2.2 HI.j.lt.2 ⟨HI.j.no.2.1,HI.j.no.2.2.1⟩ (g7 HP.j (HH.j.jumpT (.inl eo)) HH.j.func ⟨HF.j.1,rfl,HF.j.2.2.1,HF.j.2.2.2.1⟩ HL.j HB.j.1 (.inl HB.j.2))
 | zero eo h0 h1=>
  obtain rfl:r=0:=hr;have k0:H w (Q ib 0 G)=Y (O Z 12):=Qv
  have k1:H w (Q ib 1 G)=Y (O Z i.a):=QY
  obtain⟨v,rfl,ax⟩:=HH.j.upon.of_one;obtain⟨F,ae,ad,d⟩:=eR HI.j.tk Q6;have t0:H w (Q F 0 G)=Y (O Z 0):=d 0 Q6;have t1:H w (Q F 1 G)=Y (O Z (vR 0 v)):=d 1 Q6;subst ad;clear d;have ht:=HI.j.dw.top HI.j.hv;have f1:=ht.1.2.1;have zf:=ht.2.1 (D L*4+1);clear ht;have bC:vR 0 v=v.num:=rfl;rw[bC]at t1;have HC:U (cQ C.u C.heap m=if v.num=0 then .go ⟨⟨m.top.fn,i.a.toNat,m.top.slots,a++List.replicate 0 lX⟩,m.low,m.blks,m.taken,m.told⟩ else .go ⟨⟨m.top.fn,m.top.pos+1,m.top.slots,a++List.replicate 0 lX⟩,m.low,m.blks,m.taken,m.told⟩):=aJ Rd;by_cases hz:v.num=0
  · have HP:=aJ (HC.j.trans (mI hz));have HW:=aJ (HI.j.posW i.a.toNat);rw[MV h0]at HW;rw[hz]at t1;clear bC hz;go_wp2_with fail;exact eG (k:=0) (v:=lX) HW.j.1 HI.j.hv HF.j.2.2.2.2.2 HF.j.2.2.2.2.1 HA.j.1 HA.j.2 Q5 HW.j.2.1 HW.j.2.2 HI.j.lt.2 ⟨HI.j.no.2.1,HI.j.no.2.2.1⟩ (g7 HP.j (HH.j.jumpT (.inr eo)) HH.j.func ⟨HF.j.1,rfl,HF.j.2.2.1,HF.j.2.2.2.1⟩ HL.j HB.j.1 (.inl HB.j.2))
  have HP:=aJ (HC.j.trans (eP hz));have HW:=aJ (HI.j.put0_);clear bC;exact NL
 | call g2 eo h0 IT=>
  clear hr;have k0:H w (Q ib 0 G)=Y (O Z 13):=Qv
  have k1:H w (Q ib 1 G)=Y (O Z i.a):=QY
  obtain⟨⟨xa,xc,ad⟩,_⟩:=bD HI.j.tk;have aB:H w (Q C.mb 5 G)=Y vF:=QX
  rw[HI.j.hv]at aB;have b4:=HL.j.len;have bB:D L<=99:=by rw[b4];exact HM.j.deep
  by_cases hd:D L=99
  · have HP:U (cQ C.u C.heap m=.stop 9 0 m):=aJ (by rw[(HH.j.stepD C.heap).1];unfold eW;simp only[eo,<-b4,hd];rfl);have y8:(D L:A)+1=100:=by omega
    have Xx:H w (Q C.mb 8 G)=Y (O Z wy):=QX
    have z8:w.frozen? ⟨C.mb,8,G⟩=AS:=aT HI.j.dw.box;have HW:=aJ (HI.j.dw.setX 8 9 ⟨m.told,st,9,0⟩ rfl rfl);clear hd b4 bB ad;exact OI
  have HP:U (cQ C.u C.heap m=.go ⟨⟨i.a.toNat,0,b++dG (D g2.aI),[]⟩,⟨m.top.fn,m.top.pos,m.top.slots,a⟩::m.low,m.blks,m.taken,m.told⟩):=aJ (by
   rw[(HH.j.stepD C.heap).1];unfold eW;simp only[eo,<-b4,hd,HH.j.stack,IT,L3];rw[kX a b _ HH.j.upon.1.symm,kW a b _ HH.j.upon.1.symm];rfl)
  have y8:¬(D L:A)+1=100:=Q5;obtain⟨⟨_,_,_,f3⟩,hfz,⟨sa,sc,Wt⟩,_,hgm,hgl⟩:=HI.j.dw.top HI.j.hv;have cB:=hfz (D L*4+3);have hlen:D e.stack=D a+D b:=by rw[HF.j.2.2.2.2.2];simp
  have az:D a<=sc:=by
   have:=(HI.j.dw.fs (D L) e K1).st.1
   exact OS
  have b8:(D a:A)<=(sc:A):=Q5;have b9:(0:A)<=(D a:A):=Q5;have HC:=aJ (HI.j.dw.cut HI.j.hv Wt (m:=D a) Q5);have ek:e.kt.take (D a)=base:=by rw[HF.j.2.2.2.2.1,<-HA.j.1];simp
  have es:e.stack.take (D a)=a:=by rw[HF.j.2.2.2.2.2];simp
  rw[ek,es]at HC;rw[Wt,hlen]at f3;have I0:=HI.j.neg.2.2;have TW:H (w.setCell ⟨g,D L*4+3,G⟩ (J sa (D a) sc)) ⟨ib,1,G⟩=Y (O Z i.a):=(so (dp _ _ _ _ I0)).trans k1;have Az:∀k,vt.ownBlock=Y k->k≠g:=λk hk e=>by
   have h1:=HI.j.dw.fr.2 g (by rw[HI.j.hv];rfl);rw[<-e,HI.j.no.2.2.2 k hk]at h1;cases h1
  have HT:U (oK (w.setCell ⟨g,D L*4+3,G⟩ (J sa (D a) sc)) vt (D b) (fN g2.aH b)):=aJ (pz (c_ HI.j.tk λk hk=>dp _ _ _ _ (Az k hk)));clear hlen az ek es hfz hd b4 Az;rw[ad]at HT;go_wp2_with fail;generalize w.setCell ⟨g,D L*4+3,G⟩ (J sa (D a) sc)=W1 at HC HT TW |-;clear k0 k1 aB f3 cB b8 b9 y8;have wU:eE W1 C.v3 C.u.aG:=by
   obtain⟨x1,x2,x3,x4,x5,he,_,_,h3,_,_⟩:=HV.j.2.gr (HC.j.vgr HV.j.1);simp only[Ch,FL,Bk,I7]at he;rw[he.2.2.1];exact h3
  have h9:=HO.j.1.func g2 (dL IT);have cf:=uM C.mb i.a.toNat _ C.u.aG g2 _ g2.aH b W1 HC.j.cells.2.2 wU IT HT.j HH.j.upon.1 (by have:=HH.j.upon.1;omega) Q5;clear wU h9;unfold Hw at cf;rw[MV h0]at cf;refine cf.mono ?_;rintro y w2 ⟨na,nc,rfl,Tf,hg⟩;clear cf;have HG:=aJ (hg.alloc (X #[O Z i.a,O Z 0,J na (D b+D g2.aI) nc,J G 0 0] 82));have a9:=aJ (jZ w2 (X #[O Z i.a,O Z 0,J na (D b+D g2.aI) nc,J G 0 0] 82));have TE:=aJ (eO Tf ((Gr.refl w2).alloc (X #[O Z i.a,O Z 0,J na (D b+D g2.aI) nc,J G 0 0] 82)));have z9:U (W1.heap.size<=w2.heap.size):=aJ hg.size;clear hg Tf TW;go_wp2_with fail;generalize w2.alloc (X #[O Z i.a,O Z 0,J na (D b+D g2.aI) nc,J G 0 0] 82)=W3 at HG a9 TE |-;generalize w2.heap.size=xb at a9 z9 |-;have cn:=HC.j.gr HG.j;have TH:=cn.gr (Gr.drew (Gr.refl W3));have aB:H W3 (Q C.mb 5 G)=Y (J (Y (Q g 0 G)) (D L+1) cF):=by rw[aN cn.box,HI.j.hv];rfl
  have hle:∀e':RF,D (L++[e'])=D L+1:=λe'=>by simp
  obtain⟨KF,w3,ak,S4⟩:=lS 76 82 Tryz.infFr underlying76 Q9 Q9 Q9 TH.fr.1 #[O Z i.a,O Z 0,J na (D b+D g2.aI) nc,J G 0 0] rfl QW (by rw[hle];omega) Sy
  have bo:∀k,W1.heap.size<=k->ρ k=.no:=λk hk=>HC.j.new hk
  have ay:=TH.box1 S4 λk hk=>by have:=(TH.fr.1.lt k hk).1;omega
  have xo:xb<W3.heap.size:=(eJ.1 a9.j).1;have b1:w3.heap[xb]? =W3.heap[xb]? :=S4.frm.block xb xo (λe=>by
   have h2:=TH.fr.2 xb e.symm;rw[bo xb z9.j]at h2;cases h2)
  have e5:H w3 (Q C.mb 5 G)=Y (J (Y (Q g 0 G)) (D L+1) cF):=(so ay).trans aB;have z5:w3.frozen? ⟨C.mb,5,G⟩=AS:=(zc ay).trans (aT TH.box);have x0:H W3 (Q xb 0 G)=Y (O Z i.a):=by rw[aN a9.j];rfl
  have x1:H W3 (Q xb 1 G)=Y (O Z 0):=by rw[aN a9.j];rfl
  have x2:H W3 (Q xb 2 G)=Y (J na (D b+D g2.aI) nc):=by rw[aN a9.j];rfl
  have x3:H W3 (Q xb 3 G)=Y (J G 0 0):=by rw[aN a9.j];rfl
  have KS:U (∀w':T,Gr W3 w'->(λw':T=>H w' (Q C.mb 5 G)=Y (J (Y (Q g 0 G)) (D L+1) cF)/\H w' (Q xb 0 G)=Y (O Z i.a)/\H w' (Q xb 1 G)=Y (O Z 0)/\H w' (Q xb 2 G)=Y (J na (D b+D g2.aI) nc)/\H w' (Q xb 3 G)=Y (J G 0 0)) w'):=aJ λw' g=>⟨g.cell aB Q6,g.cell x0 Q6,g.cell x1 Q6,g.cell x2 Q6,g.cell x3 Q6⟩
  have al:U ((λw':T=>H w' (Q C.mb 5 G)=Y (J (Y (Q g 0 G)) (D L+1) cF)/\H w' (Q xb 0 G)=Y (O Z i.a)/\H w' (Q xb 1 G)=Y (O Z 0)/\H w' (Q xb 2 G)=Y (J na (D b+D g2.aI) nc)/\H w' (Q xb 3 G)=Y (J G 0 0)) w3):=aJ ⟨e5,(so b1).trans x0,(so b1).trans x1,(so b1).trans x2,(so b1).trans x3⟩;have cL:D (b++dG (D g2.aI))=D b+D g2.aI:=by simp[dG]
  have z4:D (g2.aH++g2.aI)=D (b++dG (D g2.aI)):=by rw[cL,fe,HH.j.upon.1]
  obtain⟨ρ2,ai⟩:=TH.pushF (g:=⟨i.a.toNat,0,g2.aH++g2.aI,b++dG (D g2.aI),[],[],J na (D b+D g2.aI) nc,J G 0 0⟩) (by rw[cL];exact(L7 TE.j).mono (by have:=HC.j.lt;omega)) (λk hk=>bo k ((TE.j.lt k hk).1)) z4 rfl rfl rfl (by rw[show zW _=[O Z i.a,O Z 0,J na (D b+D g2.aI) nc,J G 0 0] by simp only[zW,MV h0];rfl];exact S4);obtain⟨⟨s3,c3,rfl⟩,_⟩:=bD S4.own;rw[hle]at ak ai;have HX:=aJ ai;have HR:=aJ ak;rw[HI.j.hv]at HR;have HE:U (MR C.u Ts σ ⟨⟨i.a.toNat,0,b++dG (D g2.aI),[]⟩,⟨m.top.fn,m.top.pos,m.top.slots,a⟩::m.low,m.blks,m.taken,m.told⟩ (L++[{ e with kt:=base,stack:=a,vk:=J sa (D a) sc }]) ⟨i.a.toNat,0,g2.aH++g2.aI,b++dG (D g2.aI),[],[],J na (D b+D g2.aI) nc,J G 0 0⟩ B):=aJ ⟨⟨[],(HO.j.2.2 _ _ IT).zero,g2,IT,rfl,rfl,rfl,rfl,rfl,rfl⟩,⟨L,_,g2,_,rfl,IT,HH.j.tab,⟨f,HH.j.func,HF.j.1,HF.j.2.1,HF.j.2.2.1,HF.j.2.2.2.1,Q6,rfl⟩,HL.j⟩,HB.j.1,HB.j.2⟩;clear TH ai cn S4 ak ay b1 xo bo hle x0 x1 x2 x3 aB cL z4;go_wp2_with fail;refine eg [10] (S:=(λw':T=>H w' (Q C.mb 5 G)=Y (J (Y (Q g 0 G)) (D L+1) cF)/\H w' (Q xb 0 G)=Y (O Z i.a)/\H w' (Q xb 1 G)=Y (O Z 0)/\H w' (Q xb 2 G)=Y (J na (D b+D g2.aI) nc)/\H w' (Q xb 3 G)=Y (J G 0 0))) Q7 (KS.j _ Gy) λhH=>?_;refine tS 0 ?_;refine tS 1 ?_;refine tS 2 ?_;refine tS 3 ?_;refine tS 4 ?_;refine tS 5 ?_;refine dy (i:=6) rfl Q7 λK hK=>?_;refine aW bZ ?_;go_simp
  refine hK.out _ _ (λ_=>KS.j _ ((Gy).alloc _)) ?_;clear hK;try simp only[Act.put,sA,s0,s1]
  refine dy (i:=7) rfl Q7 λK hK=>?_;refine aW bZ (KO _ _ _ _ _ rfl (J (Y (Q g 0 G)) (D L+1) cF) (J (Y (Q W3.drew.heap.size 0 G)) 1 1) fZ fZ _ _ HR.j ?_);refine hK.out _ _ (λ_=>al.j) ?_;clear hK;try simp only[Act.put,sA,s0,s1]
  refine iO (i:=8) (v:=?cbv8) rfl Q7 Q7 Q7 Q7 (λ_ _ _ h=>h) bZ ?cbhy8 al.j ?cbrest8
  case cbhy8=>exact Qj
  simp only[Act.put,sA,s0,s1];refine iO (i:=9) (v:=?cbv9) rfl Q7 Q7 Q7 Q7 (λ_ _ _ h=>h) bZ ?cbhy9 al.j ?cbrest9
  case cbhy9=>exact Qj
  simp only[Act.put,sA,s0,s1];refine dy (i:=10) rfl Q7 λK hK=>?_;refine aW bZ ?_;go_simp
  refine hK.out _ _ (λh=>absurd h Q9) ?_;clear hK;try simp only[Act.put,sA,s0,s1]
  refine mo Q7 ?_ _;go_wp2_with fail;exact⟨rfl,Hr HP.j rfl HX.j HE.j⟩
 | ret eo=>
  clear hr;have k0:H w (Q ib 0 G)=Y (O Z 14):=Qv
  obtain⟨v,rfl,ax⟩:=HH.j.upon.of_one;obtain⟨F,ae,ad,d⟩:=eR HI.j.tk Q6;have t0:H w (Q F 0 G)=Y (O Z f.result):=d 0 Q6;have t1:H w (Q F 1 G)=Y (O Z (vR f.result v)):=d 1 Q6;subst ad;clear d;obtain rfl:base=[]:=HH.j.ret eo;obtain rfl:a=[]:=Kw HA.j.1.symm;have aB:H w (Q C.mb 5 G)=Y vF:=QX
  rw[HI.j.hv]at aB;have z5:w.frozen? ⟨C.mb,5,G⟩=AS:=aT HI.j.dw.box;have bB:D L<=99:=by rw[HL.j.len];exact HM.j.deep
  have az:D L+1<=cF:=by
   have h1:=HI.j.dw.fr.1;rw[HI.j.hv]at h1;rcases h1.2 with⟨h2,_⟩|⟨_,_,_,h2,_,_,h3,_⟩
   · cases h2
   simp only[jj]at h2;obtain⟨_,_,rfl⟩:=h2;simpa using h3
  have Ax:(D L:A)<=(cF:A):=Q5;have TD:(0:A)<=(D L:A):=Q5;have Ay:Z.wrap ((D L:A)+1-1)=(D L:A):=Qq
  have b7:Z.wrap (D L:A)=(D L:A):=Q_;have Ti:¬F=C.mb:=by have:=(HI.j.tk.lt F rfl).1;omega
  have T9:¬C.mb=F:=λe=>Ti e.symm
  have cu:=aJ (HI.j.dw.popF HI.j.hv);have HS:=HH.j.stack;cases Vf:m.low with
  | nil=>
   have b5:=HL.j;rw[Vf]at b5;obtain rfl:L=[]:=b5;have y9:f.result=0:=by
    obtain⟨f',h1,h2⟩:=HM.j.main;rw[Vf]at h1;have h3:C.u.aG[m.top.fn]? =Y f':=h1;rw[HH.j.func]at h3;rw[tz h3];exact h2
   rw[y9]at t0 t1;have bC:vR 0 v=v.num:=rfl;rw[bC]at t1;have HP:U (cQ C.u C.heap m=.stop 6 v.num m):=aJ Sn;have Xx:H w (Q C.mb 8 G)=Y (O Z wy):=QX
   have z8:w.frozen? ⟨C.mb,8,G⟩=AS:=aT HI.j.dw.box;have KB:H w (Q C.mb 12 G)=Y (O Z 0):=QX
   have KD:w.frozen? ⟨C.mb,12,G⟩=AS:=aT HI.j.dw.box;have HW:=aJ (((cu.j.gr Gy).setX 8 6 ⟨m.told,st,6,0⟩ rfl rfl).setX 12 v.num ⟨m.told,st,6,v.num⟩ rfl rfl);clear Vf y9 bC az bB t0;go_wp2_with fail;go_region
   exact OI
  | cons y l=>
   have b5:=HL.j;rw[Vf]at b5;obtain⟨l',e2,g2,s2,rfl,IT,TV,⟨f2,xx,zi,w4,xt,w6,wE,cx⟩,hl2⟩:=b5;obtain rfl:g2=f:=by rw[HH.j.func]at IT;exact(tz IT).symm
   have z7:Ts y.fn (y.pos+1)=Y (e2.kt++[g2.result]):=by
    have h1:=HM.j.low;rw[Vf]at h1;obtain⟨g3,s3,q1,q2,q3⟩:=DJ HO.j.1 HO.j.2.1 HO.j.2.2 h1.1;rw[HH.j.func]at q1;cases q1;rw[TV]at q2;cases q2;rw[wE];exact q3
   have HP:U (cQ C.u C.heap m=.go ⟨y.behind (y.stack++[v]),l,m.blks,m.taken,m.told⟩):=aJ Sn;have H2:U (∀y',MR C.u Ts σ ⟨y.behind (y.stack++[v]),l,m.blks,m.taken,m.told⟩ l' { e2 with kt:=e2.kt++[g2.result],stack:=e2.stack++[v],vk:=y' } B):=aJ λy'=>⟨⟨_,z7,f2,xx,zi,w4,xt,w6,rfl,by show e2.stack++[v]=y.stack++[v];rw[cx]⟩,hl2,HB.j.1,HB.j.2⟩
   have hlen:D (l'++[e2])=D l'+1:=Q6;rw[hlen]at aB Ax TD Ay b7 cu bB az;have H4:¬(D l':A)+1=0:=Q5;have F0:Z.wrap ((D l':A)+1)=(D l':A)+1:=Q_;have BY:(D l':A)+1<=(cF:A):=Q5;have H8:(0:A)<=(D l':A)+1:=Q5;have Tx:(D l':A)<(D l':A)+1:=Q5;have B4:(0:A)<=(D l':A):=Q5;have HZ:Z.wrap (D l':A)=(D l':A):=Q_;have El:Z.wrap ((D l':A)+1-1)=(D l':A):=Qq
   have Tz:D e2.stack<=20:=by
    have h1:=HM.j.low;rw[Vf]at h1;obtain⟨⟨_,_,_,s3,_,_,_,_,_,_,_,k8,k9⟩,_⟩:=h1;have:=k8.1
    rw[Bc]at this;rw[cx];omega
   have cp:=aJ (cu.j.gr (Gr.drew Gy));have bL:U (H (((w.setCell (Q C.mb 5 G) (J (Y (Q g 0 G)) (D l'+1) cF)).drew).drew) (Q F 0 G)=Y (O Z g2.result)/\H (((w.setCell (Q C.mb 5 G) (J (Y (Q g 0 G)) (D l'+1) cF)).drew).drew) (Q F 1 G)=Y (O Z (vR g2.result v))):=aJ ⟨(so (dp _ _ _ _ Ti)).trans t0,(so (dp _ _ _ _ Ti)).trans t1⟩;clear Vf az bB z7 hlen IT TV xx zi w4 xt w6 wE cx hl2;go_wp2_with fail;go_region
   go_wp2_with fail;go_region
   clear aB z5 Ax TD Ay b7 t0 t1 F0 BY H8 H4 Tx B4 HZ El;generalize ((w.setCell (Q C.mb 5 G) (J (Y (Q g 0 G)) (D l'+1) cF)).drew).drew=W2 at cp bL |-;obtain⟨⟨_,_,_,f3⟩,hfz,⟨ya,yc,cl⟩,_,_,hgl⟩:=cp.j.top rfl;rw[cl]at f3;have cB:=hfz (D l'*4+3);have TH:=cp.j.gr (Gr.drew (Gr.refl W2));have cj:=TH.fs (D l') _ K1;obtain⟨KT,w3,ak,S4⟩:=lS 80 122 Tryz.infKV underlying80 Q9 Q9 Q9 cj.st.1 #[O Z g2.result,O Z (vR g2.result v)] rfl QP Q5 Sy
   have cy:w3.heap[g]? =W2.heap[g]? :=S4.frm.block g hgl (λe=>by
    have h1:=TH.fr.2 g rfl;have h2:=cj.st.2 g e.symm;rw[h1]at h2;cases h2)
   have A':H w3 ⟨g,D l'*4+3,G⟩=Y (J ya (D e2.stack) yc):=(so cy).trans f3;have KH:w3.frozen? ⟨g,D l'*4+3,G⟩=AS:=(zc cy).trans cB;obtain⟨ρ2,ai,aD⟩:=TH.push rfl S4;obtain⟨⟨s3,c3,rfl⟩,_⟩:=bD S4.own;have cc:F<W2.heap.size:=wI W2 _ bL.j.1;have bF:w3.heap[F]? =W2.heap[F]? :=S4.frm.block F cc (λe=>by
    have h2:=cj.st.2 F e.symm;rw[HI.j.no.2.2.2 F rfl]at h2;cases h2)
   have KS:U (∀w':T,Gr W2 w'->(λw':T=>H w' ⟨g,D l'*4+3,G⟩=Y (J ya (D e2.stack) yc)/\H w' (Q F 0 G)=Y (O Z g2.result)/\H w' (Q F 1 G)=Y (O Z (vR g2.result v))) w'):=aJ λw' g=>⟨g.cell f3 Q6,g.cell bL.j.1 Q6,g.cell bL.j.2 Q6⟩
   have al:U ((λw':T=>H w' ⟨g,D l'*4+3,G⟩=Y (J ya (D e2.stack) yc)/\H w' (Q F 0 G)=Y (O Z g2.result)/\H w' (Q F 1 G)=Y (O Z (vR g2.result v))) w3):=aJ ⟨A',(so bF).trans bL.j.1,(so bF).trans bL.j.2⟩;have HX:=aJ ai;have HR:=aJ ak;rw[cl]at HR;clear TH ai aD S4 ak cj cy hfz hgl cc bF cl;go_wp2_with fail;refine eg [12] (S:=(λw':T=>H w' ⟨g,D l'*4+3,G⟩=Y (J ya (D e2.stack) yc)/\H w' (Q F 0 G)=Y (O Z g2.result)/\H w' (Q F 1 G)=Y (O Z (vR g2.result v)))) Q7 (KS.j _ Gy) λhH=>?_;refine tS 0 ?_;refine tS 1 ?_;refine tS 2 ?_;refine tS 3 ?_;refine tS 4 ?_;refine tS 5 ?_;refine tS 6 ?_;refine tS 7 ?_;refine dy (i:=8) rfl Q7 λK hK=>?_;refine aW bZ ?_;go_simp
   refine hK.out _ _ (λ_=>KS.j _ ((Gy).alloc _)) ?_;clear hK;try simp only[Act.put,sA,s0,s1]
   refine dy (i:=9) rfl Q7 λK hK=>?_;refine aW bZ (KO _ _ _ _ _ rfl (J ya (D e2.stack) yc) (J (Y (Q W2.drew.heap.size 0 G)) 1 1) fZ fZ _ _ HR.j ?_);refine hK.out _ _ (λ_=>al.j) ?_;clear hK;try simp only[Act.put,sA,s0,s1]
   refine iO (i:=10) (v:=?rbv10) rfl Q7 Q7 Q7 Q7 (λ_ _ _ h=>h) bZ ?rbhy10 al.j ?rbrest10
   case rbhy10=>exact Qj
   simp only[Act.put,sA,s0,s1];refine iO (i:=11) (v:=?rbv11) rfl Q7 Q7 Q7 Q7 (λ_ _ _ h=>h) bZ ?rbhy11 al.j ?rbrest11
   case rbhy11=>exact Qj
   simp only[Act.put,sA,s0,s1];refine dy (i:=12) rfl Q7 λK hK=>?_;refine aW bZ ?_;go_simp
   refine hK.out _ _ (λh=>absurd h Q9) ?_;clear hK;try simp only[Act.put,sA,s0,s1]
   refine mo Q7 ?_ _;go_wp2_with fail;exact⟨rfl,Hr HP.j rfl HX.j (H2.j _)⟩
 | new s eo h1 hs=>
  obtain rfl:r=1:=hr;have k0:H w (Q ib 0 G)=Y (O Z 15):=Qv
  obtain⟨⟨xa,xc,ad⟩,_⟩:=bD HI.j.tk;subst ad;have b3:=HH.j.upon.1;have TA:C.u.aA.getD (i.a-1).toNat []=ts:=by rw[mh,hs];rfl
  have Tn:=(HO.j.1.shape ts (dL hs)).2.1;have ck:cT m<=10000:=by have:=HK.j;omega
  obtain⟨⟨q1,q2,q3,q4⟩,⟨EE,m1,m2,m3⟩,q5⟩:=CB (e:=e) HO.j.1 HM.j HL.j (by rw[HF.j.2.2.1,HF.j.2.2.2.1];exact HH.j.slots) (by rw[HF.j.2.2.2.2.1,HF.j.2.2.2.2.2];exact HH.j.below.app HH.j.upon) HF.j.2.2.2.1 (by rw[HF.j.2.2.2.2.2,HH.j.stack]) HB.j ck;have a8:D B=D m.blks:=by rw[<-HB.j.1];simp
  have bB:D L<=99:=by rw[HL.j.len];exact HM.j.deep
  have fz:=aJ (yv HI.j.dw q1 q2 q3 q4 (by have:=HN.j;omega) jB EE m1 m2 m3);have B1:=aJ q5;have HC:U (∃tk,cQ C.u C.heap m=if cT m+(D ts+1)<=C.heap then .go ⟨⟨m.top.fn,m.top.pos+1,m.top.slots,a++List.replicate 1 ⟨0,Y (D m.blks)⟩⟩,m.low,m.blks++[b],tk,m.told⟩ else .stop 8 0 m):=aJ (by
   refine⟨(if m.taken+(D ts+1)>C.heap then cT m else m.taken)+(D ts+1),?_⟩;rw[(HH.j.stepD C.heap).1,Bo eo];simp only[HH.j.stack,TA];rw[kX a b _ b3.symm,kW a b _ b3.symm];have hk:=HK.j;by_cases h1:m.taken+(D ts+1)>C.heap
   · simp only[mI h1];rfl
   simp only[eP h1];rw[mI (show m.taken+(D ts+1)<=C.heap by omega),mI (show cT m+(D ts+1)<=C.heap by omega)];rfl)
  have ca:=aJ a8;clear q1 q2 q3 q4 q5 m1 m2 m3 TA a8;go_wp2_with fail;refine fz.j.mono ?_;rintro y w9 ⟨ms,z2,rfl,hg⟩;rw[B1.j ms z2];have HJ:=aJ (HI.j.gr hg);have WR:¬i.a=0:=Q5;clear z2 hg k0;have h7:H w9 (Q C.mb 7 G)=Y (O Z (C.heap:A)):=by rw[aN HJ.j.dw.box];rfl
  have HY:Z.wrap ((cT m:A)+1)=(cT m:A)+1:=Q_;have H5:Z.wrap ((cT m:A)+1+(D b:A))=(cT m:A)+1+(D b:A):=Q_;obtain⟨tk,d⟩:=HC.j;by_cases af:cT m+(D ts+1)<=C.heap
  · have HP:=aJ (d.trans (mI af));have w8:¬(C.heap:A)<(cT m:A)+1+(D b:A):=by omega
    obtain⟨⟨ba,bc,aL⟩,_⟩:=bD HJ.j.dw.bk.1;have a7:H w9 (Q C.mb 6 G)=Y vB:=by rw[aN HJ.j.dw.box];rfl
    obtain⟨KC,w3,ak,S4⟩:=lS 77 130 Tryz.infBl underlying77 Q9 Q9 Q9 HJ.j.dw.bk.1 #[J xa (D b) xc] rfl Qw (by have:=HN.j;have:=ca.j;omega) (by have:=HJ.j.dw.lt;omega);obtain⟨ρ2,ai,aD⟩:=HJ.j.dw.pushB (b:=⟨ts,b,J xa (D b) xc⟩) HJ.j.tk HJ.j.no.2.2.2 b3 S4;obtain⟨⟨s3,c3,rfl⟩,_⟩:=bD S4.own;have k1:=DW.keepN aD nofun HJ.j.lt.1 ((eP HJ.j.ne.2.2.2.1).trans HJ.j.no.1) HJ.j.hi;have k2:=DW.keepN aD nofun HJ.j.lt.2.1 ((eP HJ.j.ne.2.2.2.2).trans HJ.j.no.2.1) HJ.j.he;have k3:=DW.keepN aD nofun HJ.j.lt.2.2 ((eP HJ.j.ne.2.2.1).trans HJ.j.no.2.2.1) HJ.j.hp;have ay:=HJ.j.dw.box1 S4 λk hk=>by have:=(HJ.j.dw.bk.1.lt k hk).1;omega
    have e6:H w3 (Q C.mb 6 G)=Y vB:=(so ay).trans a7;have z6:w3.frozen? ⟨C.mb,6,G⟩=AS:=(zc ay).trans (aT HJ.j.dw.box);rw[aL]at e6 a7;have HR:=aJ ak;rw[aL]at HR;have HD:=aJ ai;have xp:=aJ k1;have UJ:=aJ k2;have aM:=aJ k3;clear S4 ak ai aD k1 k2 k3 ay d af aL;go_upto_region 55 with(at_builtin;refine CH _ rfl _ _ _ _ rfl (J ba (D B) bc) (J (Y (Q w9.heap.size 0 G)) 1 1) fZ fZ _ _ HR.j ?_)
    clear e6 z6 a7 h7 HY H5 w8;generalize w3.setCell (Q C.mb 6 G) (J s3 (D B+1) c3)=W5 at HD xp UJ aM |-;have k1:H W5 (Q ib 1 G)=Y (O Z i.a):=by rw[aN xp.j.1];rfl
    have b6:H W5 (Q C.mb 6 G)=Y (J s3 (D B+1) c3):=by rw[aN HD.j.box];rfl
    have p0:H W5 (Q pb 0 G)=Y (O Z 0):=by rw[aN aM.j.1];rfl
    have p1:H W5 (Q pb 1 G)=Y (O Z 0):=by rw[aN aM.j.1];rfl
    have z0:W5.frozen? ⟨pb,0,G⟩=AS:=aT aM.j.1;have z1:W5.frozen? ⟨pb,1,G⟩=AS:=aT aM.j.1;have HW:=aJ (And.intro ((HD.j.free (o:=0) HJ.j.lt.2.2 aM.j.2 (O Z i.a)).free (o:=1) HJ.j.lt.2.2 aM.j.2 (O Z ((D B:A)+1))) (And.intro ((dp (W5.setCell (Q pb 0 G) (O Z i.a)) ⟨pb,1,G⟩ (O Z ((D B:A)+1)) eb (Nc HJ.j.ne.2.1)).trans ((dp W5 ⟨pb,0,G⟩ (O Z i.a) eb (Nc HJ.j.ne.2.1)).trans UJ.j.1)) (bK (o:=1) (v:=O Z ((D B:A)+1)) (bK (o:=0) (v:=O Z i.a) aM.j.1))));have B3:(D B:A)+1=vR i.a ⟨0,Y (D m.blks)⟩:=by unfold vR;rw[eP WR,ca.j]
    have HS:U ((B++[(⟨ts,b,J xa (D b) xc⟩:RK)]).map (·.fs)=m.blks++[b]):=aJ (by rw[Ju,HB.j.1];rfl);have HQ:U (Kx C.u σ m (B++[⟨ts,b,J xa (D b) xc⟩])):=aJ (.inr ⟨i,(HH.j.stepD C.heap).2,λj b' hj=>by
     have KM:=HM.j.aA;have a8:=ca.j;by_cases bt:j<D B
     · rw[ze bt]at hj;obtain⟨k,h1,h2⟩:=HB.j.2 j b' hj;exact⟨k,by rw[ze (dm.1 h1).1];exact h1,h2⟩
     have gf:j=D B:=by have:=(dm.1 hj).1;simp at this;omega
     subst gf;rw[K1]at hj;obtain rfl:=tz hj;exact⟨i.a,by rw[show D B=σ.length by omega];simp,hs⟩,by have:=HM.j.aA;have:=ca.j;simp;omega⟩)
    clear b3 Tn ck;go_region
    have HX:=aJ (sw HW.j);rw[B3]at HX;exact eG (k:=i.a) (v:=⟨0,Y (D m.blks)⟩) HX.j.1 HJ.j.hv HF.j.2.2.2.2.2 HF.j.2.2.2.2.1 HA.j.1 HA.j.2 Q5 HX.j.2.1 HX.j.2.2 HJ.j.lt.2 ⟨UJ.j.2,aM.j.2⟩ (g7 HP.j (HH.j.onT Q5 Q5) HH.j.func ⟨HF.j.1,HF.j.2.1,HF.j.2.2.1,HF.j.2.2.2.1⟩ HL.j HS.j HQ.j)
  have HP:=aJ (d.trans (eP af));have w8:(C.heap:A)<(cT m:A)+1+(D b:A):=by omega
  have Xx:H w9 (Q C.mb 8 G)=Y (O Z wy):=by rw[aN HJ.j.dw.box];rfl
  have z8:w9.frozen? ⟨C.mb,8,G⟩=AS:=aT HJ.j.dw.box;have HW:=aJ (HJ.j.dw.setX 8 8 ⟨m.told,st,8,0⟩ rfl rfl);clear d af b3 Tn ck;exact OI
 | get s k eo h1 h0 hs hk=>
  obtain rfl:r=1:=hr;have p0:H w (Q pb 0 G)=Y (O Z 0):=QC
  have p1:H w (Q pb 1 G)=Y (O Z 0):=QC
  have z0:w.frozen? ⟨pb,0,G⟩=AS:=aT HI.j.hp;have z1:w.frozen? ⟨pb,1,G⟩=AS:=aT HI.j.hp;obtain⟨v,rfl,ax⟩:=HH.j.upon.of_one;obtain⟨F,ae,ad,d⟩:=eR HI.j.tk Q6;have t0:H w (Q F 0 G)=Y (O Z i.a):=d 0 Q6;have t1:H w (Q F 1 G)=Y (O Z (vR i.a v)):=d 1 Q6;subst ad;clear d;have WR:¬i.a=0:=Q5;have k0:H w (Q ib 0 G)=Y (O Z 16):=Qv
  have k2:H w (Q ib 2 G)=Y (O Z i.b):=QY
  cases hb:v.blk with
  | none=>
   have e0:vR i.a v=0:=RA
   rw[e0]at t1;have HP:U (cQ C.u C.heap m=.stop 10 0 m):=aJ (by rw[(HH.j.stepD C.heap).1];unfold eW;simp only[eo,HH.j.stack,cD,hb];rfl);exact Oi
  | some j=>
   have e0:vR i.a v=(j:A)+1:=RA
   rw[e0]at t1;have UC:¬(j:A)+1=0:=Q5;obtain⟨bj,av,a0,TA⟩:=EB HM.j HB.j (ax j hb).2 hs hk;have a3:=HI.j.dw.bs j bj av;obtain⟨bg,bc,aL,cz⟩:=HI.j.dw.bkCell av;have bt:=(dm.1 av).1;have TQ:=(dm.1 a0).1;rw[a3.ln]at TQ;have aF:bj.fs[i.b.toNat]? =Y bj.fs[i.b.toNat]:=dW TQ;generalize bj.fs[i.b.toNat]=fv at aF;obtain⟨TW,TN⟩:=nt (ks:=bj.ks) (vs:=bj.fs) a0 aF;obtain⟨fg,fc,a6,Vb⟩:=eR a3.fl.1 Q5;have f0:H w ⟨fg,i.b.toNat*2,G⟩=Y (O Z k):=(Vb _ Q5).trans TW;have f1:H w ⟨fg,i.b.toNat*2+1,G⟩=Y (O Z (vR k fv)):=(Vb _ Q5).trans TN;have a7:H w (Q C.mb 6 G)=Y vB:=QX
   rw[aL]at a7;rw[a6]at cz;have a8:D B<=1000000:=St
   have E1:Z.wrap ((j:A)+1-1)=(j:A):=Qq
   have ot:Z.wrap (j:A)=(j:A):=Q_;have UT:bj.fs.getD i.b.toNat lX=fv:=by rw[mh,aF];rfl
   have TG:(j:A)<(D B:A):=Q5;have l5:(0:A)<=(j:A):=Q5;have H3:i.b<(D bj.fs:A):=Q5;have HP:U (cQ C.u C.heap m=.go ⟨⟨m.top.fn,m.top.pos+1,m.top.slots,a++List.replicate 1 fv⟩,m.low,m.blks,m.taken,m.told⟩):=aJ (by rw[(HH.j.stepD C.heap).1];unfold eW;simp only[eo,HH.j.stack,cD,dD,hb,TA,UT];rfl);have HW:=aJ (HI.j.drew.put2 k (vR k fv));clear a8 UT a3 Vb TW TN aF a6 aL av a0 TA hb e0 bt TQ;go_wp2_with fail;go_region
   go_wp2_with fail;go_region
   have HX:=aJ (sw HW.j);exact eG (k:=k) (v:=fv) HX.j.1 HI.j.hv HF.j.2.2.2.2.2 HF.j.2.2.2.2.1 HA.j.1 HA.j.2 Q5 HX.j.2.1 HX.j.2.2 HI.j.lt.2 ⟨HI.j.no.2.1,HI.j.no.2.2.1⟩ (g7 HP.j (HH.j.onT Q5 Q5) HH.j.func ⟨HF.j.1,HF.j.2.1,HF.j.2.2.1,HF.j.2.2.2.1⟩ HL.j HB.j.1 (.inl HB.j.2))
 | set s k eo h1 h0 hs hk=>
  obtain rfl:r=0:=hr;obtain⟨v,v',rfl,ax,rm⟩:=HH.j.upon.of_two;obtain⟨F,ae,ad,d⟩:=eR HI.j.tk Q6;have t0:H w (Q F 0 G)=Y (O Z i.a):=d 0 Q6;have t1:H w (Q F 1 G)=Y (O Z (vR i.a v)):=d 1 Q6;have t2:H w (Q F 2 G)=Y (O Z k):=d 2 Q6;have t3:H w (Q F 3 G)=Y (O Z (vR k v')):=d 3 Q6;subst ad;clear d;have WR:¬i.a=0:=Q5;have k0:H w (Q ib 0 G)=Y (O Z 17):=Qv
  have k2:H w (Q ib 2 G)=Y (O Z i.b):=QY
  cases hb:v.blk with
  | none=>
   have e0:vR i.a v=0:=RA
   rw[e0]at t1;have HP:U (cQ C.u C.heap m=.stop 10 0 m):=aJ (by rw[(HH.j.stepD C.heap).1];unfold eW;simp only[eo,HH.j.stack,gL,hb];rfl);exact Oi
  | some j=>
   have e0:vR i.a v=(j:A)+1:=RA
   rw[e0]at t1;have UC:¬(j:A)+1=0:=Q5;obtain⟨bj,av,a0,TA⟩:=EB HM.j HB.j (ax j hb).2 hs hk;have a3:=HI.j.dw.bs j bj av;obtain⟨bg,bc,aL,cz⟩:=HI.j.dw.bkCell av;have bt:=(dm.1 av).1;have TQ:=(dm.1 a0).1;rw[a3.ln]at TQ;have aF:bj.fs[i.b.toNat]? =Y bj.fs[i.b.toNat]:=dW TQ;generalize bj.fs[i.b.toNat]=fv at aF;obtain⟨TW,TN⟩:=nt (ks:=bj.ks) (vs:=bj.fs) a0 aF;obtain⟨fg,fc,a6,Vb⟩:=eR a3.fl.1 Q5;have f0:H w ⟨fg,i.b.toNat*2,G⟩=Y (O Z k):=(Vb _ Q5).trans TW;have f1:H w ⟨fg,i.b.toNat*2+1,G⟩=Y (O Z (vR k fv)):=(Vb _ Q5).trans TN;have a7:H w (Q C.mb 6 G)=Y vB:=QX
   rw[aL]at a7;rw[a6]at cz;have a8:D B<=1000000:=St
   have E1:Z.wrap ((j:A)+1-1)=(j:A):=Qq
   have ot:Z.wrap (j:A)=(j:A):=Q_;have UT:bj.fs.getD i.b.toNat lX=fv:=by rw[mh,aF];rfl
   have TG:(j:A)<(D B:A):=Q5;have l5:(0:A)<=(j:A):=Q5;have H3:i.b<(D bj.fs:A):=Q5;have zs:=wR a3.fl.1 (g:=fg) (by rw[a6];rfl);have C':=zs (i.b.toNat*2);have GD:=zs (i.b.toNat*2+1);clear zs;have HP:U (cQ C.u C.heap m=.go ⟨⟨m.top.fn,m.top.pos+1,m.top.slots,a++List.replicate 0 lX⟩,m.low,m.blks.set j (bj.fs.set i.b.toNat v'),m.taken,m.told⟩):=aJ (by rw[(HH.j.stepD C.heap).1];unfold eW;simp only[eo,HH.j.stack,ik,gL,io,hb,TA,Me,Ir];rfl);have HW:=aJ (HI.j.drew.setBW (k:=k) v' av a6 a0);have HS:U ((B.set j { bj with fs:=bj.fs.set i.b.toNat v' }).map (·.fs)=m.blks.set j (bj.fs.set i.b.toNat v')):=aJ (by rw[List.map_set,HB.j.1]);have HK:U (∀(q:R) (b:RK),(B.set j { bj with fs:=bj.fs.set i.b.toNat v' })[q]? =Y b->∃k,σ[q]? =Y k/\C.u.aA[(k-1).toNat]? =Y b.ks):=aJ λq b hq=>by
    by_cases e:j=q
    · subst e;rw[Mf bt]at hq;obtain rfl:=tz hq;exact HB.j.2 j bj av
    rw[Mr e]at hq;exact HB.j.2 q b hq
   clear a8 UT a3 Vb TW TN aF a6 aL av a0 TA hb e0 bt TQ;go_wp2_with fail;go_region
   go_wp2_with fail;go_region
   have HX:=aJ (sw HW.j);exact eG (k:=0) (v:=lX) HX.j.1 HI.j.hv HF.j.2.2.2.2.2 HF.j.2.2.2.2.1 HA.j.1 HA.j.2 Q5 HX.j.2.1 HX.j.2.2 HI.j.lt.2 ⟨HI.j.no.2.1,HI.j.no.2.2.1⟩ (g7 HP.j (HH.j.onT Q5 Q5) HH.j.func ⟨HF.j.1,HF.j.2.1,HF.j.2.2.1,HF.j.2.2.2.1⟩ HL.j HS.j (.inl HK.j))
 | nil eo h1=>
  obtain rfl:r=1:=hr;have k0:H w (Q ib 0 G)=Y (O Z 18):=Qv
  have k1:H w (Q ib 1 G)=Y (O Z i.a):=QY
  have p0:H w (Q pb 0 G)=Y (O Z 0):=QC
  have p1:H w (Q pb 1 G)=Y (O Z 0):=QC
  have z0:w.frozen? ⟨pb,0,G⟩=AS:=aT HI.j.hp;have z1:w.frozen? ⟨pb,1,G⟩=AS:=aT HI.j.hp;obtain rfl:=HH.j.upon.of_nil;have HP:U (cQ C.u C.heap m=.go ⟨⟨m.top.fn,m.top.pos+1,m.top.slots,a++List.replicate 1 lX⟩,m.low,m.blks,m.taken,m.told⟩):=aJ Ri;have HW:=aJ (HI.j.put0 i.a);go_wp2_with fail;have e0:vR i.a lX=0:=by unfold vR lX;split<;>rfl
  exact eG (k:=i.a) (v:=lX) HW.j.1 HI.j.hv HF.j.2.2.2.2.2 HF.j.2.2.2.2.1 HA.j.1 HA.j.2 Q5 HW.j.2.1 (by rw[e0];exact HW.j.2.2) HI.j.lt.2 ⟨HI.j.no.2.1,HI.j.no.2.2.1⟩ (g7 HP.j (HH.j.onT Q5 Q5) HH.j.func ⟨HF.j.1,HF.j.2.1,HF.j.2.2.1,HF.j.2.2.2.1⟩ HL.j HB.j.1 (.inl HB.j.2))
 | isnil eo h1=>
  obtain rfl:r=1:=hr;have k0:H w (Q ib 0 G)=Y (O Z 19):=Qv
  have p0:H w (Q pb 0 G)=Y (O Z 0):=QC
  have p1:H w (Q pb 1 G)=Y (O Z 0):=QC
  have z0:w.frozen? ⟨pb,0,G⟩=AS:=aT HI.j.hp;have z1:w.frozen? ⟨pb,1,G⟩=AS:=aT HI.j.hp;obtain⟨v,rfl,ax⟩:=HH.j.upon.of_one;obtain⟨F,ae,ad,d⟩:=eR HI.j.tk Q6;have t0:H w (Q F 0 G)=Y (O Z i.a):=d 0 Q6;have t1:H w (Q F 1 G)=Y (O Z (vR i.a v)):=d 1 Q6;subst ad;clear d;have WR:¬i.a=0:=Q5;cases hb:v.blk with
  | none=>
   have e0:vR i.a v=0:=RA
   rw[e0]at t1;have HP:U (cQ C.u C.heap m=.go ⟨⟨m.top.fn,m.top.pos+1,m.top.slots,a++List.replicate 1 ⟨fk AT,G⟩⟩,m.low,m.blks,m.taken,m.told⟩):=aJ Sf;have HW:=aJ (HI.j.put1 (fk AT));clear hb e0;go_wp2_with fail;refine(nu _ _).mono ?_;rintro e9 w9 ⟨rfl,rfl⟩;go_wp2_with fail;exact eG (k:=0) (v:=⟨fk AT,G⟩) HW.j.1 HI.j.hv HF.j.2.2.2.2.2 HF.j.2.2.2.2.1 HA.j.1 HA.j.2 Q5 HW.j.2.1 HW.j.2.2 HI.j.lt.2 ⟨HI.j.no.2.1,HI.j.no.2.2.1⟩ (g7 HP.j (HH.j.onT Q5 Q5) HH.j.func ⟨HF.j.1,HF.j.2.1,HF.j.2.2.1,HF.j.2.2.2.1⟩ HL.j HB.j.1 (.inl HB.j.2))
  | some j=>
   have e0:vR i.a v=(j:A)+1:=RA
   rw[e0]at t1;have UC:¬(j:A)+1=0:=Q5;have HP:U (cQ C.u C.heap m=.go ⟨⟨m.top.fn,m.top.pos+1,m.top.slots,a++List.replicate 1 ⟨fk AS,G⟩⟩,m.low,m.blks,m.taken,m.told⟩):=aJ Sf;have HW:=aJ (HI.j.put1 (fk AS));clear hb e0;go_wp2_with fail;refine(nu _ _).mono ?_;rintro e9 w9 ⟨rfl,rfl⟩;go_wp2_with fail;exact eG (k:=0) (v:=⟨fk AS,G⟩) HW.j.1 HI.j.hv HF.j.2.2.2.2.2 HF.j.2.2.2.2.1 HA.j.1 HA.j.2 Q5 HW.j.2.1 HW.j.2.2 HI.j.lt.2 ⟨HI.j.no.2.1,HI.j.no.2.2.1⟩ (g7 HP.j (HH.j.onT Q5 Q5) HH.j.func ⟨HF.j.1,HF.j.2.1,HF.j.2.2.1,HF.j.2.2.2.1⟩ HL.j HB.j.1 (.inl HB.j.2))
 | out eo=>
  obtain rfl:r=0:=hr;have k0:H w (Q ib 0 G)=Y (O Z 20):=Qv
  obtain⟨v,rfl,ax⟩:=HH.j.upon.of_one;obtain⟨F,ae,ad,d⟩:=eR HI.j.tk Q6;have t0:H w (Q F 0 G)=Y (O Z 0):=d 0 Q6;have t1:H w (Q F 1 G)=Y (O Z (vR 0 v)):=d 1 Q6;subst ad;clear d;have q1:vR 0 v=v.num:=rfl;rw[q1]at t1;obtain⟨⟨ta,tc,b2⟩,_⟩:=bD HI.j.dw.tl.1;simp only at b2;have bp:H w (Q C.mb 13 G)=Y vT:=QX
  rw[b2]at bp;have HC:U (cQ C.u C.heap m=.go ⟨⟨m.top.fn,m.top.pos+1,m.top.slots,a++List.replicate 0 lX⟩,m.low,m.blks,m.taken,if D m.told<1000 then m.told++[v.num] else m.told⟩):=aJ Rd;by_cases IN:D m.told<1000
  · have HP:=HC;rw[mI IN]at HP;have gw:(D m.told:A)<1000:=by omega
    have TH:=HI.j.dw.gr (Gr.drew (Gr.refl w));obtain⟨KR,w3,ak,S4⟩:=lS 26 3 Tryz.infI underlying26 Q9 Q9 Q9 TH.tl.1 #[O Z v.num] rfl Qw (by show D m.told<=_;omega) Sy;obtain⟨ρ2,ai,aD⟩:=TH.tell S4;obtain⟨⟨s3,c3,rfl⟩,_⟩:=bD S4.own;have k1:=DW.keepN aD nofun HI.j.lt.2.1 HI.j.no.2.1 HI.j.he;have k2:=DW.keepN aD nofun HI.j.lt.2.2 HI.j.no.2.2.1 HI.j.hp;have ay:=TH.box1 S4 λk hk=>by have:=(TH.tl.1.lt k hk).1;omega
    have E0:H w3 (Q C.mb 13 G)=Y (J ta (D m.told) tc):=(so ay).trans bp;have KP:w3.frozen? ⟨C.mb,13,G⟩=AS:=(zc ay).trans (aT TH.box);have cc:F<w.heap.size:=wI w _ t1;have bF:w3.heap[F]? =w.heap[F]? :=S4.frm.block F cc (λe=>by
     have h1:=TH.tl.2 F e.symm;have h2:=HI.j.no.2.2.2 F rfl;rw[h2]at h1;cases h1)
    have KS:U (∀w':T,Gr w w'->(λw':T=>H w' (Q C.mb 13 G)=Y (J ta (D m.told) tc)/\H w' (Q F 1 G)=Y (O Z v.num)) w'):=aJ λw' g=>⟨g.cell bp Q6,g.cell t1 Q6⟩
    have al:U ((λw':T=>H w' (Q C.mb 13 G)=Y (J ta (D m.told) tc)/\H w' (Q F 1 G)=Y (O Z v.num)) w3):=aJ ⟨E0,(so bF).trans t1⟩;have HW:=aJ (And.intro ai (And.intro k1.1 k2.1));have H0:=aJ (And.intro k1.2 k2.2);have HR:=aJ ak;rw[b2]at HR;simp only at HW HR;clear S4 ak TH ai aD k1 k2 ay bF q1 b2 IN t0;go_wp2_with fail;refine eg [15] (S:=(λw':T=>H w' (Q C.mb 13 G)=Y (J ta (D m.told) tc)/\H w' (Q F 1 G)=Y (O Z v.num))) Q7 (KS.j _ Gy) λhH=>?_;refine tS 0 ?_;refine tS 1 ?_;refine tS 2 ?_;refine tS 3 ?_;refine tS 4 ?_;refine tS 5 ?_;refine tS 6 ?_;refine tS 7 ?_;refine tS 8 ?_;refine tS 9 ?_;refine dy (i:=10) rfl Q7 λK hK=>?_;refine aW bZ ?_;go_simp
    refine hK.out _ _ (λ_=>KS.j _ ((Gy).alloc _)) ?_;clear hK;try simp only[Act.put,sA,s0,s1]
    refine dy (i:=11) rfl Q7 λK hK=>?_;refine aW bZ (KO _ _ _ _ _ rfl (J ta (D m.told) tc) (J (Y (Q w.drew.heap.size 0 G)) 1 1) fZ fZ _ _ HR.j ?_);refine hK.out _ _ (λ_=>al.j) ?_;clear hK;try simp only[Act.put,sA,s0,s1]
    refine iO (i:=12) (v:=?obv12) rfl Q7 Q7 Q7 Q7 (λ_ _ _ h=>h) bZ ?obhy12 al.j ?obrest12
    case obhy12=>exact Qj
    simp only[Act.put,sA,s0,s1];refine iO (i:=13) (v:=?obv13) rfl Q7 Q7 Q7 Q7 (λ_ _ _ h=>h) bZ ?obhy13 al.j ?obrest13
    case obhy13=>exact Qj
    simp only[Act.put,sA,s0,s1];refine iO (i:=14) (v:=?obv14) rfl Q7 Q7 Q7 Q7 (λ_ _ _ h=>h) bZ ?obhy14 al.j ?obrest14
    case obhy14=>exact Qj
    simp only[Act.put,sA,s0,s1];refine dy (i:=15) rfl Q7 λK hK=>?_;refine aW bZ ?_;go_simp
    refine hK.out _ _ (λh=>absurd h Q9) ?_;clear hK;try simp only[Act.put,sA,s0,s1]
    refine mo Q7 ?_ _;go_wp2_with fail;exact eG (k:=0) (v:=lX) HW.j.1 HI.j.hv HF.j.2.2.2.2.2 HF.j.2.2.2.2.1 HA.j.1 HA.j.2 Q5 HW.j.2.1 HW.j.2.2 HI.j.lt.2 H0.j (g7 HP.j (HH.j.onT Q5 Q5) HH.j.func ⟨HF.j.1,HF.j.2.1,HF.j.2.2.1,HF.j.2.2.2.1⟩ HL.j HB.j.1 (.inl HB.j.2))
  have HP:=HC;rw[eP IN]at HP;have gw:¬(D m.told:A)<1000:=by omega
  have HW:=aJ (HI.j.put0_);clear q1 b2 IN t0;exact NL
end Go.Proofs.YtghjmnlapcpbiaaGreatDoor
