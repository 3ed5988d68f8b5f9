import Derived.Test.YtghjmnlapcpbiaaGreatDoorJ2
namespace Go.Proofs.YtghjmnlapcpbiaaGreatDoor
open _root_ renaming Option.some->Y,Option.none->G,Go.Value.int->O,Go.IntKind.i64->Z,Go.Value.slice->J,List->I,Nat->R,Int->A,Go.World.cell?->H,List.length->D,Go.Obj.cells->X,Go.Value->M,Go.World->T,Go.Addr.mk->Q,Go.RowKit.Hid->U,UInt8->AI,Bool.false->AS,Bool.true->AT,Option->By
open Go.Proofs.Tryz
open Go.RowKit
set_option linter.defProp false
def K1:=@List.getElem?_concat_length.{0}
set_option maxRecDepth 100000
set_option maxHeartbeats 4000000
set_option linter.unusedVariables false
set_option linter.unusedSimpArgs false
open Go.RowKit
def J_(u:aK)(x:eZ)(d:R)(s:I A)(e:RF):Prop:=∃f,u.aG[x.fn]? =Y f/\e.fn=x.fn/\e.pos=x.pos+d/\e.ks=f.aH++f.aI/\e.slots=x.slots/\e.kt=s/\e.stack=x.stack
def xQ(u:aK)(Ts:R->R->By (I A)):R->I eZ->I RF->Prop
 | _,[],l=>l=[]
 | c,x::r,l=>∃l' e g s,l=l'++[e]/\u.aG[c]? =Y g/\Ts x.fn x.pos=Y s/\J_ u x 1 (s.take (D s-D g.aH)) e/\xQ u Ts x.fn r l'
structure MR(u:aK)(Ts:R->R->By (I A))(σ:I A)(m:PM)(L:I RF)(e:RF)(B:I RK):Prop where
 top:∃s,Ts m.top.fn m.top.pos=Y s/\J_ u m.top 0 s e
 low:xQ u Ts m.top.fn m.low L
 bs:B.map (·.fs)=m.blks
 bk:∀(j:R) (b:RK),B[j]? =Y b->∃k,σ[j]? =Y k/\u.aA[(k-1).toNat]? =Y b.ks
theorem xQ.len{u:aK}{Ts:R->R->By (I A)}:∀{l:I eZ} {c:R} {L:I RF},xQ u Ts c l L->D L=D l
 | [],_,_,h=>by rw[h];rfl
 | x::r,c,_,h=>by
  obtain⟨l',e,g,s,rfl,_,_,_,h⟩:=h;simp[h.len]
theorem O0{p:Prop}(h:p:=by
 simp only[e,h1]at he;cases hs:u.aA[(i.a-1).toNat]? with
 | none=>rw[hs]at he;cases he
 | some s=>rw[hs]at he;cases he;exact⟨rfl,rfl⟩):p:=h
theorem G3{u:aK}{f:aQ}{i:bP}{ts ps ad ae:I A}(h:lI u f i ts ps)(he:bU u f i=Y (ad,ae)):D ad=D ts/\D ae=D ps:=by
 unfold bU at he;cases h with
 | const e d hc=>simp[e]at he;obtain⟨_,rfl,rfl⟩:=he;exact⟨rfl,rfl⟩
 | small e=>simp[e]at he;obtain⟨rfl,rfl⟩:=he;exact⟨rfl,rfl⟩
 | load k e d F=>simp[e]at he;obtain⟨_,_,rfl,rfl⟩:=he;exact⟨rfl,rfl⟩
 | store k e d F=>simp[e]at he;obtain⟨_,_,rfl,rfl⟩:=he;exact⟨rfl,rfl⟩
 | pop k e=>simp[e]at he;obtain⟨rfl,rfl⟩:=he;exact⟨rfl,rfl⟩
 | dup k e=>simp[e]at he;obtain⟨rfl,rfl⟩:=he;exact⟨rfl,rfl⟩
 | reck e1 e2=>
  have:i.op=6\/i.op=7\/i.op=8\/i.op=9\/i.op=10:=Q5
  rcases this with e|e|e|e|e<;>(simp[e]at he;obtain⟨rfl,rfl⟩:=he;exact⟨rfl,rfl⟩)
 | jump e d h1=>simp[e]at he;obtain⟨_,rfl,rfl⟩:=he;exact⟨rfl,rfl⟩
 | zero e d h1=>simp[e]at he;obtain⟨_,rfl,rfl⟩:=he;exact⟨rfl,rfl⟩
 | call g e d hg=>simp[e,hg]at he;obtain⟨rfl,rfl⟩:=he;exact⟨rfl,rfl⟩
 | ret e=>simp[e]at he;obtain⟨rfl,rfl⟩:=he;exact⟨rfl,rfl⟩
 | new s e h1 hs=>simp only[e,h1,hs]at he;cases he;exact⟨rfl,rfl⟩
 | get s k e h1 d hs F=>simp only[e,h1,hs]at he;simp[F]at he;obtain⟨rfl,rfl⟩:=he;exact⟨rfl,rfl⟩
 | set s k e h1 d hs F=>simp only[e,h1,hs]at he;simp[F]at he;obtain⟨rfl,rfl⟩:=he;exact⟨rfl,rfl⟩
 | nil e h1=>
  exact O0
 | isnil e h1=>
  exact O0
 | out e=>simp[e]at he;obtain⟨rfl,rfl⟩:=he;exact⟨rfl,rfl⟩
theorem FI{w:T}{b:R}{t:TypeId}{sz len m cap:R}{a:By Addr}{xs:I M}(h:w.ownsRow b t sz (J a len cap) len xs):oK w (J (if cap=m then a else a.map (·.add (m*sz))) (len-m) (cap-m)) (len-m) (xs.drop (m*sz)):=by
 refine⟨_,_,rfl,λj u hj=>?_⟩;rw[List.getElem?_drop]at hj;have hl:m*sz+j<len*sz:=SM
 obtain⟨g',_,_,⟨c',F⟩,h4⟩:=iE h hl;have ad:m<len:=by
  by_cases e:m<len
  · exact e
  have:=Jl sz (show len<=m by omega);omega
 have hc:len<=cap:=by
  rcases h.2 with⟨d,_⟩|⟨_,_,_,d,_,_,h2,_⟩
  · cases d;omega
  simp only[jj]at d;obtain⟨_,_,rfl⟩:=d;exact h2
 simp only[jj]at F;obtain⟨rfl,_⟩:=F;rw[eP Q5];refine⟨g',m*sz,by simp[Addr.add];omega,?_⟩;rw[Aq]at h4;rw[h4];exact hj
theorem wR{w:T}{B:R}{e:TypeId}{n len g:R}{v:M}{xs:I M}(h:w.ownsRow B e n v len xs)(hv:v.ownBlock=Y g)(j:R):w.frozen? ⟨g,j,G⟩=AS:=by
 rcases h.2 with⟨d,_⟩|⟨g',cap,cur,d,_,F,_⟩
 · rw[d]at hv;simp[Value.ownBlock]at hv
 rw[d]at hv;simp[Value.ownBlock]at hv
 subst hv;exact aT F
section
variable {C:oN} {w w':T} {ρ ρ':R->BR} {L:I RF} {B:I RK} {x:RX} {vF vB vT:M} {e:RF}
theorem DW.top(h:DW C w ρ (L++[e]) B x vF vB vT){g cF:R}(hv:vF=J (Y (Q g 0 G)) (D L+1) cF):(H w ⟨g,D L*4,G⟩=Y (O Z (e.fn:A))/\H w ⟨g,D L*4+1,G⟩=Y (O Z (e.pos:A))/\H w ⟨g,D L*4+2,G⟩=Y e.vs/\H w ⟨g,D L*4+3,G⟩=Y e.vk)/\(∀j,w.frozen? ⟨g,j,G⟩=AS)/\(∃a c,e.vk=J a (D e.stack) c)/\(∃a c,e.vs=J a (D e.slots) c)/\C.mb<g/\g<w.heap.size:=by
 obtain⟨g',c',F,d,h3⟩:=h.frCell (i:=D L) (e:=e) Q6;rw[hv]at F;simp only[jj,qN,Ij,I7]at F;obtain⟨rfl,_,_⟩:=F;have hf:=h.fs (D L) e Q6;have f0:H w ⟨g,D L*4,_⟩=Y _:=d 0 Q9;exact⟨⟨f0,d 1 Q9,d 2 Q9,d 3 Q9⟩,wR h.fr.1 Rr,(bD hf.st.1).1,(bD hf.sl.1).1,h3,wI w _ f0⟩
end
def rS:R->Code->Code
 | n+1,.seq _ b=>rS n b
 | _,c=>c
def eU(f:Func):Code:=f.body.getD .skip
def Kl:Code->Code
 | .seq a _=>a
 | c=>c
structure qf(C:oN)(w:T)(ρ:R->BR)(L:I RF)(e:RF)(B:I RK)(x:RX)(vF vB vT:M)(g cF ib eb pb:R)(i:bP)(vt ea:M)(qa:By Addr)(r qc:R)(ts:I A)(b:I PV):Prop where
 dw:DW C w ρ (L++[e]) B x vF vB vT
 hv:vF=J (Y (Q g 0 G)) (D L+1) cF
 hi:w.heap[ib]? =Y (X #[O Z i.op,O Z i.a,O Z i.b] 87 (0,0))
 he:w.heap[eb]? =Y (X #[ea,J qa r qc] 125 (0,0))
 hp:w.heap[pb]? =Y (X #[O Z 0,O Z 0] 122 (0,0))
 tk:w.ownsRow (C.mb+1) 122 2 vt (D b) (fN ts b)
 no:ρ ib=.no/\ρ eb=.no/\ρ pb=.no/\∀k,vt.ownBlock=Y k->ρ k=.no
 lt:C.mb<ib/\C.mb<eb/\C.mb<pb
 ne:pb≠ib/\pb≠eb/\vt.ownBlock≠Y pb/\vt.ownBlock≠Y ib/\vt.ownBlock≠Y eb
def qt(C:oN)(Ts:R->R->By (I A))(σ:I A)(m:PM)(x:RX)(bo:Bool)(w:T):Prop:=
 match cQ C.u C.heap m with
 | .go m'=>bo=AS/\∃ρ L e B vF vB vT,DW C w ρ (L++[e]) B ⟨m'.told,x.steps,x.why,x.res⟩ vF vB vT/\(MR C.u Ts σ m' L e B\/∃i,lT C.u m.top=Y i/\MR C.u Ts (σ++[i.a]) m' L e B/\D B=D σ+1)
 | .stop why res m'=>bo=AT/\∃ρ L B vF vB vT,DW C w ρ L B ⟨m'.told,x.steps,why,res⟩ vF vB vT
attribute [local go_sem ↓] Go.wp_at_zero Go.wp_at_succ
def EQ(P:Array M->T->Prop):Exit->Act->T->Prop
 | .ret,a,w=>a.defers=[]/\P a.tmps w
 | _,_,_=>False
def KY(C:oN)(L:I RF)(e:RF)(B:I RK)(x:RX)(vF vB vT:M)(eb pb:R)(ea:M)(qa:By Addr)(qc r:R)(k:A)(v:PV)(base:I A)(a:I PV)(j:R)(w:T):Prop:=
 ∃ρ sa sc,DW C w ρ (L++[{ e with kt:=base++List.replicate j k,stack:=a++List.replicate j v,vk:=J sa (D a+j) sc }]) B x vF vB vT/\w.heap[eb]? =Y (X #[ea,J qa r qc] 125 (0,0))/\w.heap[pb]? =Y (X #[O Z k,O Z (vR k v)] 122 (0,0))/\ρ eb=.no/\ρ pb=.no
theorem DW.keepN{C:oN}{AAq:BR->Prop}{w w':T}{ρ ρ':R->BR}{b:R}{o:Obj}(m:jt C.mb AAq w w' ρ ρ')(hA:¬AAq .no)(hb:C.mb<b)(d:ρ b=.no)(h:w.heap[b]? =Y o):w'.heap[b]? =Y o/\ρ' b=.no:=by
 have F:=(eJ.1 h).1;exact⟨(m.blk b F Q5 (by rw[d];exact hA)).trans h,(m.old b F).trans d⟩
theorem OS{p:Prop}(h:p:=by
 rw[Wt]at this;rcases this.2 with⟨h1,_⟩|⟨_,_,_,h1,_,_,h2,_⟩
 · simp only[jj]at h1;omega
 simp only[jj]at h1;obtain⟨_,_,rfl⟩:=h1;omega):p:=h
theorem Sy{p:Prop}(h:p:=by have:=TH.lt;omega):p:=h
theorem eG{C:oN}{w:T}{ρ:R->BR}{L:I RF}{e:RF}{B:I RK}{x:RX}{vF vB vT:M}{g cF eb pb r:R}{ea:M}{qa:By Addr}{qc:R}{k:A}{v:PV}{base ts:I A}{a b:I PV}{P:Array M->T->Prop}{c0 c1 c2 c4 c5 c7 c9 c11 c12 c13 c14 c15 c16 c17 c18 c19 c20 c21 c22 c23 c24 c25 c26 c27 c28 c29 c30 c31 c32 c33 c34 c35 c36 c37 c38 c39 c40 c41 c42 c43 c44 c45 c46 c47 c48 c49 c50 c51 c52 c53 c54 c55 c56 c57 c58 c59 c60 c61 c62 c63 c64 c65 c66 c67 c68 c69 c70 c71 c72 c73 c74 c75 c76 c77 c78 c79 c80 c81 c82 c83 c84 c85 c86 c87 c88 c89 c90 c91 c92 c93 c94 c95 c96 c97 c98 c99 c100 c101 c102 c103 c104 c105 c106 c107 c108 c109 c110 c111 c112 c113 c114 c115 c116 c117 c118 c119 c120 c121 c122 c123 c124 c125 c126 c127 c128 c129 c130 c131 c132 c133 c134 c135 c136 c137 c138 c139 c140 c141 c142 c143 c144 c145 c146 c147 c148 c149 c150 c151 c152 c153 c154 c155 c156 c157 c158 c159 c160 c161 c162 c163 c164 c165 c166 c167 c168 c169 c170 c171 fy jb b2 dd a4 ja g5 fg m1 bC j2 bp gF b0 hl dT m5 ho e3 la aG aC a6 ed cn b4 m0 e0 nk i' hg hR mr k' gw m2 gB ln ih h8 cB l3 en al fv k3 kn l5 gU l1 bB af az ds cu hI a5 m7 m4 aI g4 b9 aF h' di a8 kb c6 ae k5 ev hT hN bg l7 hA iy gW gX cM ky l2 b' b8 b6 na av fa cf k6 hY lp b7 ec k8 nf e7 kx bt hL j' nc hB bj g' eV j4 ax h4 jv h5 eo m9 hG k7 hM hW g3 c' gV l6 gA hX bk hz ke il cL aL gb cy e8 fz g6 ek a7 hD m8 hq bo cj l0 a3 g2 hb hZ hU aE cz dw cc hh ai fm e' a' aB j0 a9 cv m3 kq bF e4 e9 nd jn ef ay dO k0 g0 ni ep ez ck hx b3 ht e6 bL l4 k9 a2 ix h6 fo ki lv b1 h3 ad ga h9 a0 hC gg j1 m6 ca gf kk hV h0 hO cp ha k4 gp hJ eu f' aA aD b5 cl g1 cx nb aH h7 e5 hf aM ej gm mm ak j3 gy:M}(h:DW C w ρ (L++[e]) B x vF vB vT)(hv:vF=J (Y (Q g 0 G)) (D L+1) cF)(hs:e.stack=a++b)(hk:e.kt=base++ts)(n6:D base=D a)(o0:D a<=100)(hr:r<=2)
 (hE:w.heap[eb]? =Y (X #[ea,J qa r qc] 125 (0,0))) (hP:w.heap[pb]? =Y (X #[O Z k,O Z (vR k v)] 122 (0,0))) (hm:C.mb<eb/\C.mb<pb) (hn:ρ eb=.no/\ρ pb=.no)
 (hQ:∀t w' ρ' oj,t[2]? =Y (.bool AS)->DW C w' ρ' (L++[{ e with kt:=base++List.replicate r k,stack:=a++List.replicate r v,vk:=oj }]) B x vF vB vT->P t w'):
 Code.wp prog (rS 11 (eU f23)) (EQ P) ⟨#[c0,c1,c2,.pointer (Y ⟨g,D L*4,G⟩),c4,c5,.pointer (Y (Q eb 0 G)),c7,O Z (D a:A),c9,.pointer (Y (Q pb 0 G)),c11,c12,c13,c14,c15,c16,c17,c18,c19,c20,c21,c22,c23,c24,c25,c26,c27,c28,c29,c30,c31,c32,c33,c34,c35,c36,c37,c38,c39,c40,c41,c42,c43,c44,c45,c46,c47,c48,c49,c50,c51,c52,c53,c54,c55,c56,c57,c58,c59,c60,c61,c62,c63,c64,c65,c66,c67,c68,c69,c70,c71,c72,c73,c74,c75,c76,c77,c78,c79,c80,c81,c82,c83,c84,c85,c86,c87,c88,c89,c90,c91,c92,c93,c94,c95,c96,c97,c98,c99,c100,c101,c102,c103,c104,c105,c106,c107,c108,c109,c110,c111,c112,c113,c114,c115,c116,c117,c118,c119,c120,c121,c122,c123,c124,c125,c126,c127,c128,c129,c130,c131,c132,c133,c134,c135,c136,c137,c138,c139,c140,c141,c142,c143,c144,c145,c146,c147,c148,c149,c150,c151,c152,c153,c154,c155,c156,c157,c158,c159,c160,c161,c162,c163,c164,c165,c166,c167,c168,c169,c170,c171,fy,jb,b2,dd,a4,ja,g5,fg,m1,bC,j2,bp,gF,b0,hl,dT,m5,ho,e3,la,aG,aC,a6,ed,cn,b4,m0,e0,nk,i',hg,hR,mr,k',gw,m2,gB,ln,ih,h8,cB,l3,en,al,fv,k3,kn,l5,gU,l1,bB,af,az,ds,cu,hI,a5,m7,m4,aI,g4,b9,aF,h',di,a8,kb,c6,ae,k5,ev,hT,hN,bg,l7,hA,iy,gW,gX,cM,ky,l2,b',b8,b6,na,av,fa,cf,k6,hY,lp,b7,ec,k8,nf,e7,kx,bt,hL,j',nc,hB,bj,g',eV,j4,ax,h4,jv,h5,eo,m9,hG,k7,hM,hW,g3,c',gV,l6,gA,hX,bk,hz,ke,il,cL,aL,gb,cy,e8,fz,g6,ek,a7,hD,m8,hq,bo,cj,l0,a3,g2,hb,hZ,hU,aE,cz,dw,cc,hh,ai,fm,e',a',aB,j0,a9,cv,m3,kq,bF,e4,e9,nd,jn,ef,ay,dO,k0,g0,ni,ep,ez,ck,hx,b3,ht,e6,bL,l4,k9,a2,ix,h6,fo,ki,lv,b1,h3,ad,ga,h9,a0,hC,gg,j1,m6,ca,gf,kk,hV,h0,hO,cp,ha,k4,gp,hJ,eu,f',aA,aD,b5,cl,g1,cx,nb,aH,h7,e5,hf,aM,ej,gm,mm,ak,j3,gy],[]⟩ w:=by
 obtain⟨⟨_,_,_,f3⟩,hfz,⟨sa,sc,Wt⟩,_,hgm,hgl⟩:=h.top hv;have nv:=hfz (D L*4+3);have hlen:D e.stack=D a+D b:=by rw[hs];simp
 have ot:D a<=sc:=by
  have:=(h.fs (D L) e Q6).st.1
  exact OS
 have nw:(D a:A)<=sc:=Q5;have n0:(0:A)<=D a:=Q5;have HI:U (KY C L e B x _ _ _ _ _ _ _ _ r k v _ a 0 _):=aJ (by
  have hc:=h.cut hv Wt (m:=D a) Q5;have e1:e.kt.take (D a)=base:=by rw[hk,<-n6];simp
  have e2:e.stack.take (D a)=a:=by rw[hs];simp
  rw[e1,e2]at hc;have oo:¬eb=g:=λe=>by have:=(h.fr.2 g Rr);rw[<-e,hn.1]at this;cases this
  have n9:¬pb=g:=λe=>by have:=(h.fr.2 g Rr);rw[<-e,hn.2]at this;cases this
  exact⟨_,_,_,by simpa using hc,(dp _ _ _ _ oo).trans hE,(dp _ _ _ _ n9).trans hP,hn.1,hn.2⟩)
 rw[Wt,hlen]at f3;have HQ:=aJ hQ;have HM:=aJ hm;conv=>arg 2;whnf
 go_wp2_with fail;generalize w.setCell _ _=W0 at HI |-;go_loopw[15] (λiv wr=>∃j:R,iv=O Z (j:A)/\j<=r/\KY C L e B x vF vB vT eb pb ea qa qc r k v base a j wr) λiv _=>r-(intOf iv).toNat
 case atStart=>exact⟨0,rfl,Lz,HI⟩
 obtain⟨j,rfl,hj,hrel⟩:=hrel;obtain⟨ρ1,ka,kc,hd,hE,hP,n1,n2⟩:=hrel;have q1:H wr (Q eb 1 G)=Y (J qa r qc):=by rw[aN hE];rfl
 by_cases IN:j<r
 · obtain⟨⟨_,_,_,f3⟩,hfz,_,_,_,hgl⟩:=hd.top hv;have nv:=hfz (D L*4+3);have TG:(j:A)<r:=by omega
   have p0:H wr (Q pb 0 G)=Y (O Z k):=by rw[aN hP];rfl
   have p1:H wr (Q pb 1 G)=Y (O Z (vR k v)):=by rw[aN hP];rfl
   have TH:=hd.gr Gy;have F:=TH.fs _ _ K1;obtain⟨o1,w3,n7,S4⟩:=lS 80 _ Tryz.infKV underlying80 Q9 Q9 Q9 F.st.1 #[O Z k,O Z (vR k v)] rfl QP jB Sy
   have np:wr.heap[g]? =w3.heap[g]? :=(S4.frm.block g hgl (λe=>by
    have h1:=TH.fr.2 g Rr;have h2:=F.st.2 g e.symm;rw[h1]at h2;cases h2)).symm
   have n3:H w3 _=Y (J _ _ _):=(so np.symm).trans f3;have oz:=(zc np.symm).trans nv;obtain⟨ρ2,n4,ns⟩:=TH.push hv S4;obtain⟨⟨s3,c3,rfl⟩,_⟩:=bD S4.own;have k1:=DW.keepN ns Q6 HM.1 n1 hE;have k2:=DW.keepN ns Q6 HM.2 n2 hP;have HN:U (KY C L e B x _ _ _ _ _ _ _ _ r k v _ a (j+1) (w3.setCell _ (J _ (D (a++List.replicate j v)+1) _))):=aJ ⟨_,_,_,by simpa[List.replicate_succ',MX]using n4,k1.1,k2.1,k1.2,k2.2⟩;simp only[fe,List.length_replicate]at HN;have HR:=aJ n7;have KS:U (∀w',Gr _ _->(λw':T=>H w' _=Y (J _ _ _)/\H w' _=Y _/\H w' _=Y _) w'):=aJ λw' g=>⟨g.cell f3 Q6,g.cell p0 Q6,g.cell p1 Q6⟩
   have n5:=(eJ.1 hP).1;have nn:w3.heap[pb]? =wr.heap[pb]? :=S4.frm.block _ n5 (λe=>by
    have h2:=F.st.2 _ e.symm;rw[n2]at h2;cases h2)
   have d:U ((λw':T=>H w' _=Y _/\H w' _=Y _/\H w' _=Y _) _):=aJ ⟨n3,(so nn).trans p0,(so nn).trans p1⟩;go_wp2_with fail;refine eg [10] (S:=(λw'=>H w' _=Y _/\H w' _=Y _/\H w' _=Y _)) Q7 (KS _ Gy) λhH=>?_;refine tS 0 ?_;refine tS 1 ?_;refine tS 2 ?_;refine tS 3 ?_;refine tS 4 ?_;refine tS 5 ?_;refine dy (i:=6) rfl Q7 λK hK=>?_;refine aW bZ ?_;go_simp
   refine hK _ _ (λ_=>KS _ ((Gy).alloc _)) ?_;try simp only[Act.put,sA,s0,s1]
   refine dy (i:=7) rfl Q7 λK hK=>?_;refine aW bZ (KO _ _ _ _ _ rfl (J ka (D a+j) kc) _ fZ fZ _ _ HR.j ?_);refine hK _ _ (λ_=>d) ?_;try simp only[Act.put,sA,s0,s1]
   refine iO (i:=8) (v:=?ebv8) rfl Q7 Q7 Q7 Q7 (λ_ _ _ h=>h) bZ ?ebhy8 d.j ?ebrest8
   case ebhy8=>exact Qj
   simp only[Act.put,sA,s0,s1];refine iO (i:=9) (v:=?ebv9) rfl Q7 Q7 Q7 Q7 (λ_ _ _ h=>h) bZ ?ebhy9 d.j ?ebrest9
   case ebhy9=>exact Qj
   simp only[Act.put,sA,s0,s1];refine dy (i:=10) rfl Q7 λK hK=>?_;refine aW bZ ?_;go_simp
   refine hK _ _ (λh=>absurd h Q9) ?_;try simp only[Act.put,sA,s0,s1]
   refine mo Q7 ?_ _;go_wp2_with fail;go_roundw
   case rel=>exact⟨_,QZ,Q5,HN⟩
   case measure=>exact Qh
 have n8:j=r:=by omega
 subst n8;have HD:=aJ hd;go_wp2_with fail;exact⟨rfl,HQ _ _ _ _ rfl HD⟩
theorem nu(b:Bool)(w:T):Calls prog 49 #[.bool b] w λx w'=>x=.returned (O Z (fk b))/\w'=w:=by
 cases b<;>(go_enter func49,ntmps49;go_wp2_with fail;go_ret;exact⟨rfl,rfl⟩)
theorem Qa{p:Prop}(h:p:=by
 go_enter func47,ntmps47
 go_wp2_with fail;refine(nu _ _).mono ?_;rintro e w' ⟨rfl,rfl⟩;exact Og):p:=h
theorem zJ(op x y:A)(w:T)(d:op=6\/op=7\/op=8\/op=9\/op=10):Calls prog 47 #[O Z op,O Z x,O Z y] w λr w'=>r=.returned (O Z (jT op x y))/\w'=w:=by
 rcases d with rfl|rfl|rfl|rfl|rfl
 · go_enter func47,ntmps47
   exact Og
 · go_enter func47,ntmps47
   exact Og
 · go_enter func47,ntmps47
   exact Og
 · exact Qa
 exact Qa
section
variable {u:aK} {Ts:R->R->By (I A)} {σ:I A}
theorem FH(hu:rD u){n:R}{f:aQ}{sl:I PV}(d:u.aG[n]? =Y f)(h:gN σ (f.aH++f.aI) sl):D sl<=16:=by
 have h1:=hu.func f (dL d);have F:=h.1;rw[fe]at F;omega
theorem ua(hu:rD u):∀{l:I eZ} {c:R} {L:I RF},nA u Ts σ c l->xQ u Ts c l L->(∀e∈L,gN σ e.ks e.slots/\gN σ e.kt e.stack)/\D (cr L)<=40*D l/\∀i,cZ (cr L) i↔∃r∈dk l,cZ r i
 | [],_,_,_,h=>by
  rw[h];exact⟨λe he=>(by cases he),by simp[cr],λi=>by simp[cr,dk,cZ]⟩
 | x::r,c,_,h1,F=>by
  obtain⟨l',e,g,s,rfl,hg,hs,⟨f,hf,e1,e2,e3,e4,e5,e6⟩,hl⟩:=F;obtain⟨⟨f',i',g',s',k1,k2,k3,k4,k5,k6,k7,k8,k9⟩,ad⟩:=h1;rw[hf]at k1;cases k1;rw[hg]at k5;cases k5;rw[hs]at k6;cases k6;obtain⟨q1,q2,q3⟩:=ua hu ad hl;rw[<-e4,<-e3]at k7;rw[<-e5,<-e6]at k8;have hv:cr (l'++[e])=cr l'++(e.slots++e.stack):=by simp[cr]
  refine⟨λe' d=>?_,?_,λi=>?_⟩
  · rcases F1.1 d with d|d
    · exact q1 _ d
    obtain rfl:=Jm.1 d;exact⟨k7,k8⟩
  · have h1:=FH hu hf (e3▸k7);have F:=k8.1;rw[e5,Bc]at F;rw[hv,fe,fe,Jk];omega
  rw[hv,dU,dU,q3 i,e4,e6,dk];simp only[F1,Ce,Mk,or_false];constructor
  · rintro(⟨r,h1,F⟩|h|h)
    · exact⟨r,.inl h1,F⟩
    · exact⟨_,.inr (.inl rfl),h⟩
    exact⟨_,.inr (.inr rfl),h⟩
  rintro⟨r,h1|rfl|rfl,F⟩
  · exact .inl ⟨r,h1,F⟩
  · exact .inr (.inl F)
  exact .inr (.inr F)
theorem DJ(hu:rD u)(af:u.aC=[])(hT:∀n f,u.aG[n]? =Y f->lf u f (Ts n)){c:R}{y:eZ}(h:tM u Ts σ c y):∃g s,u.aG[c]? =Y g/\Ts y.fn y.pos=Y s/\Ts y.fn (y.pos+1)=Y (s.take (D s-D g.aH)++[g.result]):=by
 obtain⟨fy,iy,g,s,k1,k2,k3,k4,k5,k6,k7,k8,k9⟩:=h;obtain⟨i2,s2,F,ae,T9⟩:=(hT _ _ k1).step _ _ k6;rw[k2]at F;cases F;obtain⟨d,ak,ad,Xg,e1,e2,h6,h7⟩:=vQ hu af (dL k1) (dL k2) ae;have ai:ak=g.aH/\ad=[g.result]:=by
  exact OK
 obtain⟨rfl,rfl⟩:=ai;subst e1 e2;have hm:(if y.pos+1<D fy.code then Y (y.pos+1) else G)∈ch fy y.pos iy:=by unfold ch;simp[k3]
 obtain⟨t',f1,f2⟩:=T9 _ hm;refine⟨g,_,k5,k6,?_⟩;rw[show(d++g.aH).take _=d by simp];split at f1
 · obtain rfl:=tz f1;exact f2
 cases f1
theorem CB{C:oN}{m:PM}{L:I RF}{e:RF}{B:I RK}(hu:rD C.u)(hm:qg C.u Ts σ m)(hl:xQ C.u Ts m.top.fn m.low L)(h1:gN σ e.ks e.slots)(h2:gN σ e.kt e.stack)(h3:e.slots=m.top.slots)(h4:e.stack=m.top.stack)(hB:B.map (·.fs)=m.blks/\∀(j:R) (b:RK),B[j]? =Y b->∃k,σ[j]? =Y k/\C.u.aA[(k-1).toNat]? =Y b.ks)(h0:cT m<=10000):
 ((∀e'∈L++[e],gN σ e'.ks e'.slots/\gN σ e'.kt e'.stack)/\(∀b∈B,gN σ b.ks b.fs)/\D σ=D B/\D (cr (L++[e]))<=10000)/\(∃d:I R,(∀i,cZ (cr (L++[e])) i->i∈d)/\(∀j∈d,∀i,cZ ((B.map (·.fs)).getD j []) i->i∈d)/\gK (B.map (·.fs)) d<=10000)/\∀ms,RO (B.map (·.fs)) (cr (L++[e])) [] ms->gK (B.map (·.fs)) ms=cT m:=by
 obtain⟨q1,q2,q3⟩:=ua hu hm.low hl;have hv:cr (L++[e])=cr L++(e.slots++e.stack):=by simp[cr]
 have hb:D B=D m.blks:=by rw[<-hB.1];simp
 have TQ:D σ=D B:=by rw[hb];exact hm.aA
 obtain⟨g1,g2⟩:=hm.in_;have ad:∀i,cZ (cr _) i↔∃r∈dk (m.top::m.low),cZ r i:=λi=>by
  rw[hv,dU,dU,q3 i,h3,h4,dk];simp only[F1,Ce,Mk,or_false];constructor
  · rintro(⟨r,h1,h2⟩|h|h)
    · exact⟨r,.inl h1,h2⟩
    · exact⟨_,.inr (.inl rfl),h⟩
    exact⟨_,.inr (.inr rfl),h⟩
  rintro⟨r,h1|rfl|rfl,h2⟩
  · exact .inl ⟨r,h1,h2⟩
  · exact .inr (.inl h2)
  exact .inr (.inr h2)
 refine⟨⟨λe' F=>?_,λb af=>?_,TQ,?_⟩,?_,λms ae=>?_⟩
 · rcases F1.1 F with F|F
   · exact q1 _ F
   obtain rfl:=Jm.1 F;exact⟨h1,h2⟩
 · obtain⟨j,hj,rfl⟩:=MU af;obtain⟨k,k1,k2⟩:=hB.2 j _ (dW hj);obtain⟨s,_,s1,s2⟩:=hm.blks j k B[j].fs k1 (by rw[<-hB.1,Ha,dW hj];rfl);rw[k2]at s1;rw[tz s1];exact s2
 · obtain⟨f,s,k1,k2,k3,k4,k5⟩:=hm.top.fn;have l1:=FH hu k1 k3;have l2:=k4.1;have l3:=hm.deep;rw[hv,fe,fe,h3,h4];omega
 · obtain⟨d,n1,n2,n3,n4,n5,n6⟩:=lD g1 g2;refine⟨_,λi hi=>?_,λj hj i hi=>n4 j hj i (by rw[<-hB.1];exact hi),?_⟩
   · obtain⟨r,r1,r2⟩:=(ad i).1 hi;exact n3 r r1 i r2
   rw[hB.1,<-n2];exact h0
 rw[hB.1]at ae |-;exact ae.done ad g1 g2
end
end Go.Proofs.YtghjmnlapcpbiaaGreatDoor
