import Derived.Test.YtghjmnlapcpbiaaGreatDoorLf
import Derived.Test.YtghjmnlapcpbiaaGreatDoorCards
import Derived.Test.YtghjmnlapcpbiaaGreatDoorTie
import Derived.Deep.Slices
import Derived.ChangeSlices
import Derived.ProofKit
import Derived.OpenShut
import Derived.Carry
import Derived.Deep.DeepHandedRow
import Derived.Lib.LaidTab
namespace Go.Proofs.YtghjmnlapcpbiaaGreatDoor
open _root_ renaming Option.some->Y,Option.none->G,Go.Value.int->O,Go.IntKind.i64->Z,Go.Value.slice->J,List->I,Nat->R,Int->A,Go.World.cell?->H,List.length->D,Go.Obj.cells->X,Go.Value->M,Go.World->T,Go.Addr.mk->Q,Go.RowKit.Hid->U,UInt8->AI,Bool.false->AS,Bool.true->AT,Option->By
open Go.Proofs.Tryz
open Go.RowKit
set_option linter.defProp false
variable{a:Act}{t:I AI}{fuel i n q:R}{o oi:Oper}{W w5:T}{u:aK}{DDq:aK ⊕ (A×R)}
def M8:=@of_decide_eq_true
set_option maxRecDepth 100000
set_option maxHeartbeats 4000000
set_option linter.unusedVariables false
set_option linter.unusedSimpArgs false
open Go.RowKit
attribute [local go_sem ↓] Go.wp_at_zero Go.wp_at_succ
def JS(w:T):aK ⊕ (A×R)->Ending->T->Prop
 | .inl u,x,w'=>∃v,x=.returned (.tuple #[v,O Z 0,O Z 0])/\(∀wq:T,(∀b (x:Obj),w.heap.size<=b->w'.heap[b]? =Y x->wq.heap[b]? =Y x)->bV wq v u)/\Gr w w'
 | .inr (e,p),x,w'=>x=.returned (.tuple #[.agg yF,O Z e,O Z p])/\Gr w w'
theorem Nw{p:Prop}(h:p:=by generalize w.alloc _=W at HG HB |-;obtain⟨r0,r1,r2,r3,r4,s0,s1,s2,s3,s4⟩:=HB.j;go_wp2_with fail;rw[fd];have Te:=aJ (fY (y0:=J G 0 0) (y1:=J G 0 0) (y2:=J G 0 0) (y3:=J G 0 0) (y4:=J G 0 0) HG lj);obtain⟨r0,r1,r2,r3,r4,s0,s1,s2,s3,s4⟩:=eI (J G 0 0) (J G 0 0) (J G 0 0) (J G 0 0) (J G 0 0) HB;exact qn (by simp[results,results19,go_sem,r0,r1,r2,r3,r4]) rfl ⟨rfl,Te.j⟩):p:=h
theorem xn(s:ByteArray)(w:T)(hs:s.size<=maxLen)(F:20000<s.size):
 Calls prog 19 #[.string s] w (JS w (.inr (3,0))):=by
 have d:(20000:A)<s.size:=Q5;have HG:=aJ (Gr.alloc (Gr.refl w) (X yF 58));have HB:=aJ (da.new w 58 (J G 0 0) (J G 0 0) (J G 0 0) (J G 0 0) (J G 0 0));go_enter func19,ntmps19
 go_upto_region 2 with fail
 exact Nw
theorem P3{p:Prop}(h:p:=by
 have HG:=aJ (Gr.alloc (Gr.refl w) (X yF 58));have HB:=aJ (da.new w 58 (J G 0 0) (J G 0 0) (J G 0 0) (J G 0 0) (J G 0 0));go_enter func19,ntmps19
 go_upto_region 4 with fail
 exact Nw):p:=h
theorem x_(s:ByteArray)(w:T)(hs:s.size<=maxLen)(hl:s.size<5):
 Calls prog 19 #[.string s] w (JS w (.inr (2,0))):=by
 have d:¬(20000:A)<s.size:=Q5;have F:(s.size:A)<5:=Q5;exact P3
theorem yY(s:ByteArray)(w:T)(hs:s.size<=maxLen)(hl:s.size<=20000)(h5:5<=s.size)(hm:(!(s.extract 0 5).toList ==[75,73,76,78,1])=AT):
 Calls prog 19 #[.string s] w (JS w (.inr (2,0))):=by
 have d:¬(20000:A)<s.size:=Q5;have F:¬(s.size:A)<5:=Q5;exact P3
structure J3(W:T)(cb ub:R)(n:R)(x1 x2 x3 x4 x5:M)(u:aK)(w:T):Prop where
 bx:qy 0 ub w x1 x2 x3 x4 x5 u
 ni:Ip n x1 x2 x3 x4 x5
 low:∀b,b<ub->w.heap[b]? =W.heap[b]?
 hs:ub<w.heap.size
 env:w.os=W.os/\w.tape=W.tape/\w.output=W.output
 fits:tm u
theorem zt{k:R}(h1:1<=k)(h5:k<=5){u:aK}(h:tm u)(r:I AI)(bad:Bool):tm (iN k u r bad).1:=by
 have d:k=1\/k=2\/k=3\/k=4\/k=5:=Q5;rcases d with rfl|rfl|rfl|rfl|rfl
 · exact h
 · exact λx F=>mU qs _ _ _ x F
 · exact h
 · exact h
 exact h
theorem bV.nils(w:T):bV w (.agg yF) ⟨[],[],[],[],[]⟩:=
 ⟨_,_,_,_,_,rfl,⟨G,0,rfl,Lz,λi x h=>by simp at h⟩,⟨G,0,rfl,Lz,λi h=>by simp at h⟩,⟨G,0,rfl,Lz,λi x h=>by simp at h⟩,⟨G,0,rfl,Lz,λi x h=>by simp at h⟩,⟨G,0,rfl,Lz,λi x h=>by simp at h⟩⟩
theorem J3.start(w:T):J3 ((w.alloc (X yF 58)).alloc (X yF 58)) w.heap.size (w.heap.size+1) 1 (J G 0 0) (J G 0 0) (J G 0 0) (J G 0 0) (J G 0 0) ⟨[],[],[],[],[]⟩ ((w.alloc (X yF 58)).alloc (X yF 58)):=by
 have d:=by
  have:=da.new (w.alloc (X yF 58)) 58 (J G 0 0) (J G 0 0) (J G 0 0) (J G 0 0) (J G 0 0)
  simpa using this
 exact⟨⟨d,λwq _=>bV.nils _⟩,⟨λ_=>rfl,λ_=>rfl,λ_=>rfl,λ_=>rfl,λ_=>rfl⟩,λ_ _=>rfl,Q6,⟨rfl,rfl,rfl⟩,λx F=>by simp at F⟩
theorem lW.new(w:T)(s:ByteArray)(q:R)(d:q<=s.size)(hs:s.size<=1000000):lW (w.alloc (X #[.string s,O Z (q:A),.bool AS] 108)) w.heap.size s (s.data.toList.drop q) AS:=
 ⟨q,⟨R5,d,hs⟩,rfl⟩
theorem H7{w:T}(d:Gr w W)(hl:∀b,b<w.heap.size+1->w5.heap[b]? =W.heap[b]?)(he:w5.os=W.os/\w5.tape=W.tape/\w5.output=W.output)(hs:w.heap.size+1<w5.heap.size):Gr w w5:=
 ⟨he.1.trans d.os,he.2.1.trans d.tape,he.2.2.trans d.output,Q5,λb F No=>(hl b Q5).trans (d.block b F No)⟩
theorem GM{c:R}{x0 x1 x2 x3 x4:M}(F:da W c x0 x1 x2 x3 x4)(h:w5.heap[c]? =W.heap[c]?):da w5 c x0 x1 x2 x3 x4:=by
 obtain⟨h0,h1,h2,h3,h4,z0,z1,z2,z3,d⟩:=F;exact⟨(so h).trans h0,(so h).trans h1,(so h).trans h2,(so h).trans h3,(so h).trans h4,(zc h).trans z0,(zc h).trans z1,(zc h).trans z2,(zc h).trans z3,(zc h).trans d⟩
theorem nq{w w3 d:T}(hg:Gr w W)(hc:da W w.heap.size (J G 0 0) (J G 0 0) (J G 0 0) (J G 0 0) (J G 0 0))(F:∀b,b<w.heap.size+1->w3.heap[b]? =W.heap[b]?)(he:w3.os=W.os/\w3.tape=W.tape/\w3.output=W.output)(hs:w.heap.size+1<w3.heap.size)(g4:Gr w3 d):Gr w d/\da d w.heap.size (J G 0 0) (J G 0 0) (J G 0 0) (J G 0 0) (J G 0 0):=
 ⟨(H7 hg F he hs).trans g4,(GM hc (F _ (Nat.lt_succ_self _))).gr g4⟩
theorem oD(F:n<=5)(h:lL t (6-n) n u (t.drop q)=DDq)(d:q<=D t)(hs:sf n u (t.drop q)=G):DDq=.inr (2,q):=by
 obtain⟨m,hm⟩:∃m,6-n=m+1:=⟨5-n,Q5⟩;rw[hm,lL,hs]at h;rw[<-h];simp only[pl,J2];rw[show D t-(D t-q)=q by omega]
theorem Cu{d:aK}{r':I AI}(F:n<=5)(h:lL t (6-n) n u (t.drop q)=DDq)(hs:sf n u (t.drop q)=Y (d,r')):lL t (6-(n+1)) (n+1) d r'=DDq:=by
 obtain⟨m,hm⟩:∃m,6-n=m+1:=⟨5-n,Q5⟩;rw[hm,lL,hs]at h;rw[show 6-(n+1)=m by omega];exact h
theorem DD{w:T}{b g:R}{y0 y1 y2 y3 y4:M}(h:¬g=b):(put5 w b y0 y1 y2 y3 y4).heap[g]? =w.heap[g]? :=by
 exact OX
theorem sO(s:ByteArray)(q m:R)(h:q+m<=s.size):(s.extract q (q+m)).toList=(s.data.toList.drop q).take m:=by
 rw[Md,Mz,Array.toList_extract];simp[List.extract,List.take_drop]
theorem Nr{p:Prop}(h:p:=by subst WG;obtain⟨r0,r1,r2,r3,r4,s0,s1,s2,s3,s4⟩:=HO.2;go_wp2_with fail;rw[fd];have Te:=aJ (fY (y0:=J G 0 0) (y1:=J G 0 0) (y2:=J G 0 0) (y3:=J G 0 0) (y4:=J G 0 0) HO.1 lj);obtain⟨r0,r1,r2,r3,r4,s0,s1,s2,s3,s4⟩:=eI (J G 0 0) (J G 0 0) (J G 0 0) (J G 0 0) (J G 0 0) HO.2;exact qn (by simp[results,results19,go_sem,r0,r1,r2,r3,r4]) rfl ⟨rfl,Te.j⟩):p:=h
theorem yw(s:ByteArray)(w:T)(hT:lR w)(hl:s.size<=20000)(h5:5<=s.size)(hm:(!(s.extract 0 5).toList ==[75,73,76,78,1])=AS)(DDq:aK ⊕ (A×R))(hD:lL s.data.toList 5 1 ⟨[],[],[],[],[]⟩ (s.data.toList.drop 5)=DDq):
 Calls prog 19 #[.string s] w (JS w DDq):=by
 have az:¬(20000:A)<s.size:=Q5;have b5:¬(s.size:A)<5:=Q5;have HT:=aJ hT;have bj:=aJ hD;have HS:=aJ (J3.start w);have Ua:U (Gr w ((w.alloc (X yF 58)).alloc (X yF 58))):=aJ (((Gr.refl w).alloc _).alloc _);have F:U (da ((w.alloc _).alloc (X yF 58)) _ _ _ _ _ _):=aJ ((da.new w 58 (J G 0 0) (J G 0 0) (J G 0 0) (J G 0 0) (J G 0 0)).gr G5);go_enter func19,ntmps19
 go_wp2_with fail;generalize ((w.alloc _).alloc _)=W at HS Ua F |-;go_loopw[6,7] (λa k wr=>∃(n q:R) (x1 x2 x3 x4 x5:M) (u:aK),1<=n/\n<=6/\k=O Z (n:A)/\a=O Z (q:A)/\q<=s.size/\U (J3 W w.heap.size (w.heap.size+1) n x1 x2 x3 x4 x5 u wr)/\U (lL s.data.toList (6-n) n u (s.data.toList.drop q)=DDq)) λ_ k _=>6-(intOf k).toNat
 case atStart=>exact⟨1,5,_,_,_,_,_,_,lj,SF,rfl,rfl,h5,HS,bj⟩
 obtain⟨n,q,x1,x2,x3,x4,x5,u,Ti,b6,rfl,rfl,hq,d,HL⟩:=hrel;have al:q<=D s.data.toList:=by rw[Aj];exact hq
 have bB:D s.data.toList=s.size:=by rw[Aj];rfl
 have av:=aJ bB;by_cases hn:n<=5
 · have HA:=aJ (lW.new wr s q hq Q5);have HX:=aJ ((d.bx.again lj).gr ((G0).alloc (X #[.string s,O Z q,.bool AS] 108)));have IN:=d.hs;have h0:0<w.heap.size:=wI _ _ (HT 0 Q9);have HZ:U (lR (wr.alloc (X #[.string s,O Z q,.bool AS] 108))):=aJ (lR.gr (λj hj=>(so (d.low 0 Q5)).trans ((HT.gr Ua) j hj)) G5);have Tt:=aJ ((Gr.refl wr).alloc (X #[.string s,O Z q,.bool AS] 108));go_wp2_with fail;generalize wr.alloc _=wA at HA HX HZ Tt |-;refine(wK _ s _ _ _ HA).mono ?_;rintro x w1 ⟨v1,rfl,bL,aH,S5⟩;have aL:=aJ (HX.gc IN S5);have UD:=aJ aH;have Td:=aJ S5;subst bL;go_wp2_with fail;refine(qO _ s _ _ _ UD).mono ?_;rintro x w2 ⟨v2,rfl,a7,az,IT⟩;have aF:=aJ (aL.gc IN IT);have a':=aJ az;have OF:=aJ (Td.trans_ IT);subst a7;go_wp2_with fail;have ax:U (lR _):=aJ λj hj=>OF.box Q5 (HZ j hj);refine(F6 n Ti hn _ _ s _ _ _ a' IN ax Q5 _ _ _ _ _ u aF d.ni).mono ?_;rintro x w3 ⟨rfl,y1,y2,y3,y4,y5,hy,a0,hf⟩;have af:=aJ (zt Ti hn d.fits (iS (bm (s.data.toList.drop q) AS).2.1 (bm (s.data.toList.drop q) AS).2.2).2.1 (iS (bm (s.data.toList.drop q) AS).2.1 (bm (s.data.toList.drop q) AS).2.2).2.2);have aM:U (iN n u _ _=t_ n u (s.data.toList.drop q)):=aJ rfl;rw[aM]at hy hf af;have Tv:U (sf n u (s.data.toList.drop q)=_):=aJ (by rw[sf]);generalize t_ n u _=SU at hy hf af Tv;obtain⟨u',r',bad'⟩:=SU;simp only at hy hf af Tv;have ay:U (lR _):=aJ λj hj=>(so (hf.low 0 (wI _ _ (ax 0 Q9)) Q5 Q5)).trans (ax j hj);have ak:U (∀b,b<w.heap.size+1->w3.heap[b]? =W.heap[b]?):=aJ (λb hb=>by
    have e1:=Tt.block b Q5 Q6;have z1:=Tt.size;have e2:=OF.block b Q5 (by intro e;have:=tz e;omega);have z2:=OF.size;exact(hf.low b Q5 Q5 Q5).trans (e2.trans (e1.trans (d.low b hb))))
   have ad:U (w3.os=W.os/\w3.tape=W.tape/\w3.output=W.output):=aJ (by
    rw[hf.env.1,hf.env.2.1,hf.env.2.2,OF.os,OF.tape,OF.output,Tt.os,Tt.tape,Tt.output];exact d.env)
   have UX:U (w.heap.size+1<w3.heap.size):=aJ (by have z1:=Tt.size;have z2:=OF.size;have z3:=hf.hs;omega);obtain⟨a6,bk,bg,b0,a8,ai,k1,k2,k3,k4,k5⟩:=hy.unit;simp only[Ch,FL,Bk,I7]at ai;obtain⟨rfl,rfl,rfl,rfl,rfl⟩:=ai;obtain⟨a1,c1,rfl⟩:=k1.shape;obtain⟨a2,c2,rfl⟩:=k2.shape;obtain⟨a3,c3,rfl⟩:=k3.shape;obtain⟨a4,c4,rfl⟩:=k4.shape;obtain⟨a5,c5,rfl⟩:=k5.shape;have HY:=aJ hy;have HF:=aJ hf;have HN:=aJ a0;have bo:=aJ (qT _ _ _ hy.unit ay);obtain⟨p0,p1,p2,p3,p4,_⟩:=hy.bx;go_wp2_with fail;refine bo.mono ?_;rintro x w4 ⟨rfl,aB⟩;have b1:=(HF.ls.gr aB).bad;have Tg:=aJ aB;cases Tb:bG u'
   · cases bad'<;>(
      have HO:=aJ (nq Ua.j F.j ak.j ad.j UX.j Tg.j);have WG:=oD hn HL.j al (by rw[Tv.j];exact eP λh=>absurd h.2.1 (by rw[Tb];decide));subst WG;obtain⟨r0,r1,r2,r3,r4,s0,s1,s2,s3,s4⟩:=HO.j.2;go_wp2_with fail;rw[fd];have Te:=aJ (fY (b:=w.heap.size) (y0:=J G 0 0) (y1:=J G 0 0) (y2:=J G 0 0) (y3:=J G 0 0) (y4:=J G 0 0) HO.j.1 lj);obtain⟨r0,r1,r2,r3,r4,s0,s1,s2,s3,s4⟩:=eI (J G 0 0) (J G 0 0) (J G 0 0) (J G 0 0) (J G 0 0) HO.j.2;exact qn (v:=.tuple #[.agg yF,O Z 2,O Z (q:A)]) (by simp[results,results19,go_sem,r0,r1,r2,r3,r4]) rfl ⟨rfl,Te.j⟩)
   cases bad' with
   | true=>
    have HO:=aJ (nq Ua F ak ad UX Tg);have WG:=oD hn HL al (by rw[Tv];exact eP λh=>absurd h.1 Q9);exact Nr
   | false=>
    obtain⟨p0,p1,p2,p3,p4,_⟩:=HY.bx.gr Tg;have a9:=aJ (yf n Q5 _ (uk Tb n Ti hn) _ _ _ _ _ _ _ _ _ _ _ _ _ _ _ _ λV g=>Ci _ _ V (HY.unit.gr (Tg.trans g)) (ay.gr (Tg.trans g)) Tb af n Ti hn);go_wp2_with fail;refine a9.mono ?_;rintro x w5 ⟨rfl,Th⟩;have Tu:=aJ (Tg.trans Th);have Tn:D (iY n (oQ u' n))<=2000000:=by have:=AN n (oQ u' n);have:=uk Tb n Ti hn;omega
    generalize iY n _=SE at Tv Tn |-;by_cases b2:(s.size:A)-(q:A)<(D SE:A)
    · have HO:=aJ (nq Ua F ak ad UX Tu);have WG:=oD hn HL al (by rw[Tv];exact eP λh=>by have:=congrArg List.length h.2.2;rw[Bc,J2,av]at this;omega);exact Nr
    have ae:q+D SE<=s.size:=by omega
    have b4:(0:A)<=q:=Q5;have b8:q<=(q:A)+D SE:=Q5;have b9:q+(D SE:A)<=s.size:=Q5;have b3:((q:A)+D SE).toNat=q+D SE:=Q5;have b':(0:A)<=q+D SE:=Q5;have b7:Z.wrap _=q+D SE:=Q_;cases hcut:(!(s.extract q (q+D SE)).toList==SE)
    · have bt:(s.data.toList.drop q).take (D SE)=SE:=by rw[<-sO s q _ ae];simpa using hcut
      have bC:=aJ (Cu hn HL (by rw[Tv];exact mI ⟨by first|trivial|rfl,Tb,bt⟩));go_wp2_with fail;go_roundw
      case rel=>
       refine⟨_,_,_,_,_,_,_,_,Q5,Q5,QZ,QZ,ae,aJ ⟨⟨(HY.gr Tu).bx,λwq hq=>(HY.gr Tu).sr _ λb x h1 h2 h3=>hq b x h1 Q5 h3⟩,HN,λb hb=>(Tu.block b Sk Q6).trans (ak b hb),by have:=UX.j;have:=Tu.size;omega,⟨Tu.os.trans ad.1,Tu.tape.trans ad.2.1,Tu.output.trans ad.2.2⟩,af⟩,aJ ?_⟩;rw[<-List.drop_drop];exact bC
      case measure=>exact Qh
    have HO:=aJ (nq Ua F ak ad UX Tu);have WG:=oD hn HL al (by rw[Tv];exact eP λh=>by rw[<-sO s q _ ae]at h;have h2:=h.2.2;simp[h2]at hcut);exact Nr
 have bF:n=6:=by omega
 subst bF;by_cases bp:q=s.size
 · subst bp;have WG:DDq=.inl u:=by
    rw[<-HL];show(if s.data.toList.drop s.size=[] then _ else _)=_
    rw[mI (by rw[Ma,av];exact lj)]
   subst WG;have HO:=aJ (nq Ua F d.low d.env d.hs G0);obtain⟨a6,bk,bg,b0,a8,ai,k1,k2,k3,k4,k5⟩:=d.bx.unit;simp only[Ch,FL,Bk,I7]at ai;obtain⟨rfl,rfl,rfl,rfl,rfl⟩:=ai;obtain⟨a1,c1,rfl⟩:=k1.shape;obtain⟨a2,c2,rfl⟩:=k2.shape;obtain⟨a3,c3,rfl⟩:=k3.shape;obtain⟨a4,c4,rfl⟩:=k4.shape;obtain⟨a5,c5,rfl⟩:=k5.shape;obtain⟨p0,p1,p2,p3,p4,_⟩:=d.bx.bx;obtain⟨r0,r1,r2,r3,r4,s0,s1,s2,s3,s4⟩:=HO.2;have aI:((s.size:A)==s.size)=AT:=Q6;go_wp2_with fail;rw[fd];have Te:=aJ (fY (y0:=J a1 (D u.aA) c1) (y1:=J a2 (D u.aE) c2) (y2:=J a3 (D u.aG) c3) (y3:=J a4 (D u.aC) c4) (y4:=J a5 (D u.aD) c5) HO.1 lj);have VP:U (∀wq,(∀b (x:Obj),w.heap.size<=b->(put5 _ w.heap.size (J a1 (D u.aA) c1) (J a2 (D u.aE) c2) (J a3 (D u.aG) c3) (J a4 (D u.aC) c4) (J a5 (D u.aD) c5)).heap[b]? =Y x->wq.heap[b]? =Y x)->bV wq _ u):=aJ λwq hq=>d.bx.sr _ λb x h1 h2 h3=>hq b x Q5 ((DD Q5).trans h3);obtain⟨r0,r1,r2,r3,r4,s0,s1,s2,s3,s4⟩:=eI (J a1 (D u.aA) c1) (J a2 (D u.aE) c2) (J a3 (D u.aG) c3) (J a4 (D u.aC) c4) (J a5 (D u.aD) c5) HO.2;exact qn (by simp[results,results19,go_sem,r0,r1,r2,r3,r4]) rfl ⟨_,rfl,VP,Te⟩
 · have aI:¬(q:A)=s.size:=by omega
   have HO:=aJ (nq Ua F d.low d.env d.hs G0);have WG:DDq=.inr (2,q):=by
    rw[<-HL];show(if s.data.toList.drop q=[] then _ else _)=_
    rw[eP (by rw[Ma,av];omega)];simp only[pl,J2,av.j];rw[show s.size-(s.size-q)=q by omega]
   exact Nr
theorem Aw(s:ByteArray)(w:T)(hs:s.size<=maxLen)(hT:lR w):Calls prog 19 #[.string s] w (JS w (lk s.data.toList)):=by
 have F:D s.data.toList=s.size:=by rw[Aj];rfl
 have hD:lk s.data.toList=rG _:=(DB _).symm.trans (Ao _).symm;rw[hD];unfold rG;by_cases h1:20000<s.size
 · rw[mI Q5];exact xn s w hs h1
 rw[eP Q5];have d:jS=[75,73,76,78,1]:=rfl;by_cases h5:s.size<5
 · rw[mI λe=>by have:=congrArg List.length e;rw[Bc,F,d]at this;simp at this;omega];exact x_ s w hs h5
 have hc:=by
  have:=sO s 0 5 Q5
  simpa using this
 by_cases hm:s.data.toList.take 5=jS
 · rw[eP λh=>h hm];exact yw s w hT Q5 Q5 (by rw[hc,hm,d];decide) _ rfl
 rw[mI hm];refine yY s w hs Q5 Q5 ?_;rw[hc];cases hb:(s.data.toList.take 5 ==[75,73,76,78,1])
 · rfl
 exact absurd (eq_of_beq hb) hm
theorem Cw{w:T}{base m size bytes cap:R}{a:Addr}{v:M}{xs news:I M}(t e ty:TypeId)(zero:M)(inf:(prog.info? e).map (λi=>(i.zero,i.size,i.bytes))=Y (Y zero,size,bytes))(ht:prog.underlying t=Y (.slice e))(VR:zero.cells.size=size)(S7:0<size)(Vk:bytes<=1000)
 (Tf:w.ownsRow base e size v n xs) (F:oK w (J (Y a) m cap) m news) (hl:D news=m*size) (h1:∀u∈news,u.oneCell'=AT) (hn:n+m<=3000000) (hb:base<=w.heap.size):
 ∃v' w',(Builtin.append_ #[t,t] ty #[v,J (Y a) m cap]).run prog w=.ok v' w'/\w'.ownsRow base e size v' (n+m) (xs++news)/\w.grownBy w' v.ownBlock/\(v'.ownBlock=v.ownBlock\/v'.ownBlock=Y w.heap.size):=by
 obtain⟨i0,hi,TU,Ty,TO⟩:=Lt inf;obtain⟨ao,Un,e1,d⟩:=F;have VN:∀j u,news[j]? =Y u->H w (a.add j)=Y u:=by
  intro j u hj;obtain⟨b,off,e,S6⟩:=d j u hj;simp only[jj]at e1;rw[<-e1.1]at e;exact Ox
 exact OE
theorem Gu{ss:I (I AI)}{vl:M}{fuel heap:A}{c3 c4 c5 c6 c7 c8 c9 c10 c11 c12 c13 c14 c15 c16 c17 c18 c19 c20 c21 c22 c23 c24 c25 c26 c27 c28 c29 c30 c31 c32 c33 c34 c35 c36 c37 c38 c39 c40 c41 c42 c43 c44 c45 c46 c47 c48 c49 c50 c51 c52 c53 c54 c55 c56 c57 c58 c59 c60 c61 c62 c63 c64 c65 c66 c67 c68 c69 c70 c71 c72 c73 c74 c75 c76 c77 c78 c79 c80 c81 c82 c83 c84 c85 c86 c87 c88 c89 c90 c91 c92 c93 c94 c95 c96 c97 c98 c99 c100 c101 c102 c103 c104 c105 c106 c107 c108 c109 c110 c111 c112 c113 c114 c115 c116 c117 c118 c119 c120 c121 c122 c123 c124 c125 c126 c127 c128 c129 c130 c131 c132 c133 c134 c135 c136 c137 c138 c139 c140 c141 c142 c143 c144 c145 c146 c147 c148 c149 c150 c151 c152 c153 c154 c155 c156 c157 c158 c159 c160 c161 c162 c163 c164 c165 c166 c167 c168 c169 c170 c171:M}(hR:g8 W vl ss)(aF:lR W)(b4:D ss<=2000000):
 Code.wp prog (kw 4 (eU f8) (kw 4 (rS 4 (eU f8)) (kw 3 (rS 8 (eU f8)) (kw 3 (rS 11 (eU f8)) (tr (eU f8)))))) (EQ (RQ W W.heap.size (lY (ft fuel.toNat heap.toNat) ss fuel heap))) ⟨#[vl,O Z fuel,O Z heap,c3,c4,c5,c6,c7,c8,c9,c10,c11,c12,c13,c14,c15,c16,c17,c18,c19,c20,c21,c22,c23,c24,c25,c26,c27,c28,c29,c30,c31,c32,c33,c34,c35,c36,c37,c38,c39,c40,c41,c42,c43,c44,c45,c46,c47,c48,c49,c50,c51,c52,c53,c54,c55,c56,c57,c58,c59,c60,c61,c62,c63,c64,c65,c66,c67,c68,c69,c70,c71,c72,c73,c74,c75,c76,c77,c78,c79,c80,c81,c82,c83,c84,c85,c86,c87,c88,c89,c90,c91,c92,c93,c94,c95,c96,c97,c98,c99,c100,c101,c102,c103,c104,c105,c106,c107,c108,c109,c110,c111,c112,c113,c114,c115,c116,c117,c118,c119,c120,c121,c122,c123,c124,c125,c126,c127,c128,c129,c130,c131,c132,c133,c134,c135,c136,c137,c138,c139,c140,c141,c142,c143,c144,c145,c146,c147,c148,c149,c150,c151,c152,c153,c154,c155,c156,c157,c158,c159,c160,c161,c162,c163,c164,c165,c166,c167,c168,c169,c170,c171],[]⟩ W:=by
 obtain⟨ao,cap,rfl,hm,hc⟩:=hR;have HC:=aJ hc;have a9:=aJ aF;have ae:=aJ (jZ W (X yI 47));have Uf:=aJ ((Gr.refl W).alloc (X yI 47));have Xa:U ((W.alloc (X yI 47)).heap.size=W.heap.size+1):=aJ Q6;generalize hX:(kw 4 (rS 4 _) _)=Xq;have bL:=aJ hX;clear hX hc aF hm;simp only[eU,f8,La,kw];by_cases F:fuel<0\/200000<fuel\/heap<0\/5000<heap
 · have HP:U (lY (ft fuel.toNat heap.toNat) ss _ _=⟨1,0,0,0,0,_,0⟩):=aJ (by unfold lY;rw[mI F]);obtain⟨⟨o0,o1,o2,o3,o4,o5,o6⟩,f0,f1,f2,f3,f4,f5,f6⟩:=fq ae;have hb:decide (fuel<0)=AT\/(decide (fuel<0)=AS/\decide (200000<fuel)=AT)\/(decide (fuel<0)=AS/\decide (200000<fuel)=AS/\decide (heap<0)=AT)\/(decide (fuel<0)=AS/\decide (200000<fuel)=AS/\decide (heap<0)=AS/\decide (5000<heap)=AT):=by
    simp only[xw,zG];omega
   clear F;rcases hb with d1|⟨d1,d2⟩|⟨d1,d2,d3⟩|⟨d1,d2,d3,d4⟩<;>(
    go_wp2_with fail;exact⟨rfl,by rw[HP.j];exact⟨rfl,_,jZ W _,gj _,(Gr.refl W).alloc _⟩⟩)
 · have d1:decide (fuel<0)=AS:=by simp;omega
   have d2:decide (200000<fuel)=AS:=QL
   have d3:decide (heap<0)=AS:=QL
   have d4:decide (5000<heap)=AS:=QL
   have HP:U (lY _ _ _ _=match eN 0 _ with
    | .inr (e,k,p)=>⟨2,k,p,e,0,_,0⟩
    | .inl us=>GJ fuel.toNat heap.toNat _):=aJ (by unfold lY;rw[eP F];cases eN 0 ss<;>rfl)
   have bp:U (fuel.toNat=fuel/\heap.toNat=heap/\fuel.toNat<=200000/\heap.toNat<=5000):=aJ Q5;clear F;go_wp2_with fail;generalize (W.alloc _)=V at ae Uf Xa |-;clear d1 d2 d3 d4;go_loopw[7,8] (λvr i wr=>∃(k:R) (es:I LU),i=O Z (k:A)/\k<=D ss/\D es=k/\wr.ownsRow V.heap.size 58 5 vr (D es) (es.flatMap cU)/\(∀e∈es,bV (mn wr vr.ownBlock) e.v e.u)/\eN 0 ss=mg (es.map (·.u)) (eN k (ss.drop k))/\Gr V wr) λ_ i _=>D ss-(intOf i).toNat
   case atStart=>exact⟨0,[],rfl,Lz,rfl,B5 _ _ _ _,Q6,by cases h:eN 0 ss<;>simp[mg,h],G0⟩
   obtain⟨k,es,rfl,hk,bj,Tf,aM,aB,a6⟩:=hrel;have aH:=aJ bj;have TY:=aJ Tf;have VP:=aJ aM;have ax:=aJ aB;have TS:=aJ a6;obtain⟨b1,rcp,rfl⟩:=aR Tf;clear bj Tf aM aB a6;by_cases IN:k<D ss
   · obtain⟨x,hx⟩:=aU IN;obtain⟨b,off,s,rfl,af,aI,S7⟩:=HC k x hx;have af:=(Uf.trans TS).cell af Q6;have UB:(k:A)<D ss:=by omega
     have b3:(0:A)<=k:=Q5;have hw:Z.wrap _=k+1:=Q_;have a0:U (ss.drop k=x::ss.drop (k+1)):=aJ (by
      rw[Be IN];have:=SI
      rw[this])
     have a':=aJ (Aw s _ S7 (a9.gr (Uf.trans TS)));rw[aI]at a';clear hx aI;go_wp2_with fail;refine a'.mono ?_;intro z w2 hz;cases hd:lk x with
     | inr q=>
      obtain⟨e,p⟩:=q;rw[hd]at hz;obtain⟨rfl,IT⟩:=hz;have No:=yn hd;have VO:(e !=0)=AT:=by simpa using No
      have bo:U (lY _ _ _ _=⟨2,_,p,e,0,_,0⟩):=aJ (by rw[HP,ax,a0,ro hd]);have OF:=aJ ((TS.trans IT).alloc (X yF 58));have Vc:=aJ ((OF.block _ Sm Q6).trans ae);obtain⟨⟨o0,o1,o2,o3,o4,o5,o6⟩,f0,f1,f2,f3,f4,f5,f6⟩:=fq Vc;clear hd IT af;go_wp2_with fail;rw[jG];exact⟨rfl,by rw[bo];exact wn (Uf.trans OF) Vc lj rfl⟩
     | inl u=>
      rw[hd]at hz;obtain⟨v,rfl,ai,IT⟩:=hz;obtain⟨a1,a2,a3,a4,a5,d1,d2,d3,d4,d5,rfl,-⟩:=(ai _ λ_ _ _ h=>h).parts;have b0:U (eN 0 _=mg ((es++[(⟨J a1 (D u.aA) d1,J a2 (D u.aE) d2,J a3 (D u.aG) d3,J a4 (D u.aC) d4,J a5 (D u.aD) d5,u⟩:LU)]).map _) _):=aJ (by rw[ax,a0,sX hd,Ju];rfl);have OF:=aJ (TS.trans IT);have gA:=((Gr.refl w2).alloc (X (yE u a1 d1 a2 d2 a3 d3 a4 d4 a5 d5) 58)).alloc (X (yE u a1 d1 a2 d2 a3 d3 a4 d4 a5 d5) 58);have ak:=eO TY (IT.trans gA);obtain⟨v6,w6,al,av,d,a8⟩:=Cw (ty:=53) _ _ _ Tryz.infUu Tryz.uUu rfl Q9 Q9 ak (jE _ _ _ 1) rfl Sz (by have:=aH.j;omega) (by have:=OF.j.size;simp;omega)
      have aL:(w2.alloc (X (yE u a1 d1 a2 d2 a3 d3 a4 d4 a5 d5) 58)).heap.size=w2.heap.size+1:=Q6;rw[aL]at al;obtain⟨az,ay,rfl⟩:=aR av;have a7:Gr V _:=⟨d.os.trans (OF.trans gA).os,d.tape.trans (OF.trans gA).tape,d.output.trans (OF.trans gA).output,wz (OF.trans gA).size d.size,λi hi No=>(d.block i (tu hi (OF.trans gA).size) λe=>by have:=(TY.lt i e.symm).1;omega).trans ((OF.trans gA).block i hi No)⟩;have ad:∀e∈es++[(⟨J a1 (D u.aA) d1,J a2 (D u.aE) d2,J a3 (D u.aG) d3,J a4 (D u.aC) d4,J a5 (D u.aD) d5,u⟩:LU)],bV (mn w6 (J az (D es+1) ay).ownBlock) e.v e.u:=by
       intro e he;have Xp:=vV ak rfl d a8;rcases F1.1 he with he|he
       · exact PQ
       simp only[Jm]at he;subst he;refine bV.kc (ai _ λq o hq ho=>?_) Xp;have bC:=(eJ.1 ho).1;exact(lu _ _ _ λe=>by have:=(TY.lt q e).2;omega).trans ((gA.block q bC Q6).trans ho)
      have bk:=aJ al;have bB:=aJ av;have bt:=aJ ad;have bF:=aJ a7;clear hd IT ai gA ak al av d a8 a7 ad af aL;go_wp2_with(at_builtin;refine CH _ rfl _ _ _ _ rfl (J b1 (D es) rcp) (J (Y ⟨w2.heap.size+1,0,G⟩) 1 1) fZ fZ _ _ bk.j ?_)
      go_roundw
      case rel=>exact⟨_,_,QZ,IN,by simp[aH.j],by rw[fe,Ka];exact bB,bt,b0,bF⟩
      case measure=>exact Qh
   have bg:k=D ss:=by omega
   have b2:U (lY _ _ _ _=GJ fuel.toNat heap.toNat (es.map (·.u))):=aJ (by rw[HP,ax,bg,Ln];simp[eN,mg]);have UU:=aJ (vC TY λe he=>(VP e he).kc (BW TY rfl));have UB:¬(k:A)<D ss:=Q5;clear bg;go_wp2_with fail;obtain rfl:=bL.j;rw[b2];generalize b6:fuel.toNat=fu at *;generalize b5:heap.toNat=hp at *;obtain⟨rfl,rfl,k1,k2⟩:=bp.j;exact IH UU (a9.gr (Uf.trans TS)) ((TS.block _ Sm Q6).trans ae) (Uf.trans TS) lj k1 k2
theorem GI(ss:I (I AI))(vl:M)(fuel heap:A)(W:T)(hR:g8 W vl ss)(ad:lR W)(F:D ss<=2000000):
 Calls prog 8 #[vl,O Z fuel,O Z heap] W (Jt W (lY (ft fuel.toNat heap.toNat) ss fuel heap)):=by
 go_enter func8,ntmps8
 refine wp_mono (Gu hR ad F) ?_;intro ex a' w' hq;obtain⟨t,d⟩:=a';cases ex with
 | ret=>
  obtain⟨hd,h6,vt,hb,hr,hg⟩:=hq;obtain⟨dO,UI⟩:=Tryz.undOut;exact qn (L0 rfl _ _ _ _ _ _ _ (by show t.getD 6 undef=_;simp[h6]) hb UI rfl Tryz.sizOut) hd ⟨_,rfl,⟨_,rfl,hr⟩,hg⟩
 | _=>exact hq.elim
section
variable {P:Program} {ops:Array Oper} {QQq:Exit->Act->T->Prop} {md:Region.Mode} {S:T->Prop}
def kJ(P:Program)(ops:Array Oper)(S:T->Prop)(o:Oper)(v:M)(a:Act):Prop:=Region.wanted o (yielded ops a.tmps)=AT/\∃f vals,(∀w,(execOp a.eval o).run P w=.ok (.enter f vals) w)/\∀w,S w->Calls P f vals w λx w'=>x=.returned v/\w'=w
theorem kJ.same{v:M}{d:Act}(h:kJ P ops S o v a)(he:execOp d.eval o=execOp a.eval o)(hw:Region.wanted o (yielded ops d.tmps)=Region.wanted o (yielded ops a.tmps)):kJ P ops S o v d:=by
 obtain⟨h1,f,vals,F,h3⟩:=h;exact⟨hw.trans h1,f,_,λw=>by rw[he];exact F w,h3⟩
theorem kJ.step{v:M}(hi:ops[i]? =Y o)(hy:kJ P ops S o v a){K:Act->T->Prop}{w:T}(hS:S w)(h:K (a.put o.dst v) w):wpOp P ops QQq i K a w:=by
 obtain⟨F,f,vals,d,h3⟩:=hy;unfold wpOp;simp only[hi,F,KA];refine .inl ?_;unfold Oper.wp;rw[d w];simp only[Oper.upon];refine(h3 w hS).mono ?_;rintro x w' ⟨rfl,rfl⟩;exact h
theorem kJ.beside{j:R}{oj:Oper}{v:M}(hj:ops[j]? =Y oj)(S4:oi.apart ops oj=AT)(ae:∀cs b,oi.op≠.select cs b)(F:∀cs b,oj.op≠.select cs b)(hQ:∀c a w,QQq (.panic c) (a.put oi.dst v) w->QQq (.panic c) a w){K:Act->T->Prop}{a:Act}{w:T}(hy:kJ P ops S oi v a)(h:wpOp P ops QQq j K (a.put oi.dst v) w):
 wpOp P ops QQq j (λa' w'=>kJ P ops S oi v a'/\K (a'.put oi.dst v) w') a w:=by
 obtain⟨p1,p2,p3⟩:=MF S4;have stay:∀(b:Act) (u:M),kJ P _ S _ v b->kJ P _ S _ v _:=λb u hb=>hb.same (execOp_put _ ae b _ u p3) (Lw _ b _ u p3)
 have turn:∀u w',K _ _->kJ P _ S _ v _/\K ((a.put _ u).put _ v) w':=λu w' hk=>⟨stay a u hy,by rw[<-L8 a v u p2];exact hk⟩
 unfold wpOp at *;simp only[hj]at *;rw[Lw _ a _ v p1]at h;by_cases hw:Region.wanted oj (yielded ops a.tmps)=AT
 · simp only[hw,KA]at h |-;rcases h with h|⟨h1,h2⟩
   · refine .inl ?_;unfold Oper.wp at *;rw[execOp_put _ F a _ v p1]at h;revert h
     generalize (execOp _ _).run P w=r;intro h;match r,h with
     | .ok (.value u) w',h=>exact turn u _ h
     | .ok .skip w',h=>exact turn _ _ h
     | .ok (.defer d) w',h=>
      refine⟨stay _ _ (hy.same rfl rfl),?_⟩;rw[<-L8 _ v _ p2,<-Act.put_defers];exact h
     | .ok (.enter f args) w',h=>
      refine Nb h λe ad he=>?_
      match e,he with
      | .returned u,he=>exact turn u _ he
      | .panicked c,he=>exact hQ _ _ _ he
      | .outgrown,he=>exact he
     | .ok (.row row args) w',h=>exact Rows.mono h λu ad he=>turn u _ he
     | .halt (.panic u) w',h=>exact hQ _ _ _ h
   exact .inr ⟨by unfold Oper.asks at *;rw[execOp_put _ F a _ v p1]at h1;exact h1,h2⟩
 simp only[hw]at h |-;exact turn _ w h
theorem uD{v:M}(hi:ops[i]? =Y oi)(ad:∀(j:R) (o:Oper) cs b,ops[j]? =Y o->o.op≠.select cs b)
 (hQ:∀c a w,QQq (.panic c) (a.put oi.dst v) w->QQq (.panic c) a w):
 ∀(fuel:R) (listed:Array Bool) (a:Act) (w:T),
  (∀j oj,ops[j]? =Y oj->j≠i->listed.getD j AT=AS->(∀e∈oj.after,Region.binds md e=AT->e.on≠i)->oi.apart ops oj=AT)->
  i∈Region.ready md ops listed->kJ P ops S oi v a->S w->
  wpAnyH P md ops QQq S fuel (listed.setIfInBounds i AT) (a.put oi.dst v) w->wpAnyH P md ops QQq S (fuel+1) listed a w:=by
 intro fuel
 induction fuel with
 | zero=>
  intro listed a w _ hr hy hS HHq;refine⟨λh=>RL,λj hj=>?_⟩;by_cases F:j=i
  · subst F;exact hy.step hi hS ⟨hS,HHq⟩
  have:=Ml hj F
  rw[HHq.1]at this;cases this
 | succ fuel ih=>
  intro listed a w UL hr hy hS HHq;refine⟨λh=>RL,λj hj=>?_⟩;by_cases F:j=i
  · subst F;exact hy.step hi hS ⟨hS,HHq⟩
  have h1:=HHq.2 j (Ml hj F);obtain⟨Vw,oj,ae,Tc⟩:=M7.1 hj;have af:∀e∈oj.after,Region.binds _ e=AT->e.on≠i:=λe he hb heq=>by
   exact NO
  have h2:=hy.beside ae (UL j _ ae F Vw af) (λcs b=>ad i _ _ b hi) (λcs b=>ad j _ _ b ae) hQ h1;have d:∀k ok,ops[k]? =Y _->k≠i->(listed.setIfInBounds j _).getD k _=AS->
   (∀e∈ok.after,Region.binds _ e=AT->e.on≠i)->oi.apart _ ok=AT:=λk ok hk UB Wy UZ=>by
   exact Oe
  refine wpOp_mono (λa' w' h3=>⟨h3.2.1,ih _ _ _ d (Ml hr (Nc F)) h3.1 h3.2.1 ?_⟩) h2;rw[Jb _ _ F];exact h3.2.2
end
section
variable {l:I Oper} {QQq:Exit->Act->T->Prop} {md:Region.Mode} {S:T->Prop}
theorem Hm{v:M}{listed:Array Bool}{w:T}(hi:l[i]? =Y oi)(hs:Region.noSelect l.toArray=AT)(hf:Region.free md l.toArray listed i=AT)(hr:(Region.ready md l.toArray listed).contains i=AT)
 (hQ:∀c a w,QQq (.panic c) (a.put oi.dst v) w->QQq (.panic c) a w) (hw:Region.wanted oi (yielded l.toArray a.tmps)=AT) (f:FuncId) (args:Array Operand) (d:Array TypeId) (ho:oi.op=.call { callee:=.value (.func f),args:=args,argTypes:=d }) (vals:Array M) (hv:args.map a.eval=vals) (F:∀w,(callFunc f vals).run prog w=.ok (.enter f vals) w) (hc:∀w,S w->Calls prog f vals w λx w'=>x=.returned v/\w'=w) (hS:S w)
 (h:wpAnyH prog md l.toArray QQq S fuel (listed.setIfInBounds i AT) (a.put oi.dst v) w):wpAnyH prog md l.toArray QQq S (fuel+1) listed a w:=by
 refine uD Q' (Lg hs) hQ _ _ a w (Region.free_spec Q' hf) (by simpa using hr) ⟨hw,f,_,λw=>?_,hc⟩ hS h;subst hv;simp[execOp,ho,resolve,invoke,Act.eval,go_sem]
 exact F w
end
theorem Tryz.callNum(vals:Array M)(w:T):(callFunc 12 vals).run Tryz.prog w=.ok (.enter 12 vals) w:=Q7
theorem Tryz.callNums(vals:Array M)(w:T):(callFunc 11 vals).run Tryz.prog w=.ok (.enter 11 vals) w:=Q7
theorem lR.low{w w':T}{B:R}(h:lR w)(hB:0<B)(g:Below B w w'):lR w':=λj hj=>(g.cell (p:=⟨0,j,G⟩) hB).trans (h j hj)
theorem g8.low{w:T}{v:M}{l:I (I AI)}(h:g8 W v l)(g:∀b,b<W.heap.size->w.heap[b]? =W.heap[b]?):g8 w v l:=by
 obtain⟨a,c,h1,h2,h3⟩:=h;refine⟨a,c,h1,h2,λi x hi=>?_⟩;obtain⟨b,o,s,k1,d,F⟩:=h3 i x hi;exact⟨b,o,s,k1,(so (a:=⟨b,o+i,G⟩) (g b (wI W _ d))).trans d,F⟩
theorem g8.gr{w:T}{v:M}{l:I (I AI)}(h:g8 W v l)(g:Gr W w):g8 w v l:=h.low λb d=>g.block b d Q6
theorem g8.at{w:T}{v:M}{l:I (I AI)}(h:g8 w v l){i:R}{x:I AI}(hi:l[i]? =Y x):∃b off cap,v=J (Y (Q b off G)) (D l) cap/\H w ⟨b,off+i,G⟩=Y (.string ⟨x.toArray⟩):=by
 obtain⟨a,c,h1,h2,d⟩:=h;obtain⟨b,o,s,rfl,k2,F,_⟩:=d i x hi;exact⟨b,o,c,h1,by rw[k2];exact congrArg Y (BE F).symm⟩
theorem Bw{Ts:R->R->By (I A)}(hu:rD u)(F:u.aC=[])(hT:∀n f,u.aG[n]? =Y f->lf u f (Ts n)){h:R}:∀(n s:R) (m:PM) (σ:I A),qg u Ts σ m->(kF u h n s m).told.length<=1000
 | 0,s,m,σ,hm=>hm.told
 | n+1,s,m,σ,hm=>by
  have d:=wX h hu F hT hm;cases hp:cQ u h m with
  | go m'=>
   rw[hp]at d;obtain⟨σ',d,_⟩:=d;rw[wg hp];exact Bw hu F hT n (s+1) m' σ' d
  | stop a b m'=>
   rw[hp]at d;rw[jl hp,show m'=m from d.1];exact hm.told
theorem D'(f h:R)(ss:I (I AI))(fuel heap:A):(lY (ft f h) ss fuel heap).told.length<=1000:=by
 unfold lY;split
 · exact Lz
 cases eN 0 ss with
 | inr q=>exact Lz
 | inl us=>
  show(match dK us with| .inr (e,k)=>_| .inl u=>_:kB).told.length<=1000
  cases hl:dK us with
  | inr q=>exact Lz
  | inl u=>
   show(if (ar u).1≠0 then _ else _:kB).told.length<=1000
   by_cases hv:(ar u).1=0
   · rw[eP (by simp[hv])];have d:=mx hv;unfold ft;cases ad:l8 u with
     | none=>exact Lz
     | some q=>
      obtain⟨g,hq,ae,af⟩:=pq ad;simp only[hq];have h:=pA (qW d) d;have hT:∀n f,u.aG[n]? =Y f->lf u f ((λn=>if F:n<D u.aG then (h u.aG[n] (L2 F)).choose else λ_=>G) n):=λn f hf=>by
       obtain⟨F,rfl⟩:=dm.1 hf;simp only[F,dif_pos];exact(h u.aG[n] (L2 F)).choose_spec
      exact Bw (rD.of (qW d)) (qZ hl) hT _ _ _ _ (sW hT hq ae af)
   rw[mI hv];exact Lz
def K7(db n B0:R)(os:I R)(w:T)(x:Ending)(w':T):Prop:=x=.returned (.bool AT)/\∃ob,Im db (n+1) (B0+4) (os++[ob]) w'/\Below db w w'
theorem sB(db n B0:R)(os:I R)(ss:I (I AI))(vl:M)(fuel heap:A)(w00 w:T)(hd:Im db n B0 os w)(bF:g8 w00 vl ss)(cn:w00.heap.size<=db)(av:Below w00.heap.size w00 w)(bk:D ss<=2000000)(hT:lR w)(hn:n<=100000)(cf:B0<=100000)(b7:D os<=100):
 Calls prog 4 #[.pointer (Y (Q db 0 G)),vl,O Z fuel,O Z heap] w (K7 db n B0 os w):=by
 have hL:=bF.low λb hb=>av.block b hb
 have HL:=aJ hL;obtain⟨aL,cL,rfl,_⟩:=hL;obtain⟨V,Xq,ρ,vo,aH⟩:=hd;have cp:=aH.s.lt;have b6:=aJ aH;have HT:=aJ hT;have aC:=aJ (py w (X #[nS,nS,nS,nS,nS,nS,nS,nS] 43));have ay:=aJ ((Gr.refl w).alloc (X #[nS,nS,nS,nS,nS,nS,nS,nS] 43));have Vd:(w.alloc (X #[nS,nS,nS,nS,nS,nS,nS,nS] 43)).heap.size=w.heap.size+1:=Q6;clear aH hT bF av;go_enter func4,ntmps4
 go_wp2_with fail;generalize w.alloc (X #[nS,nS,nS,nS,nS,nS,nS,nS] 43)=W0 at aC ay Vd |-;refine(df w.heap.size ss _ W0 aC.j (HL.j.gr ay.j) bk).mono ?_;rintro x w1 ⟨sb,tb,c0,rfl,how,hsb,htb,cz,a8,aI⟩;have az:=aJ (((Mt w.heap.size w).grown ay.j lj Q6).trans aI);have Uh:w.heap.size+1<=w1.heap.size:=by have:=aI.size;omega
 have bL:=aJ how;have Va:=aJ a8;have HZ:U (∀b,b=w.heap.size\/b=tb\/b=sb->w.heap.size<=b/\b<w1.heap.size):=aJ λb hb=>by omega
 have Ti:¬sb=w.heap.size:=Q5;have T9:¬sb=tb:=Q5;have hM:¬(fuel<0\/200000<fuel\/heap<0\/5000<heap)->∀us,eN 0 ss=.inl us->Ew (ft fuel.toNat heap.toNat) fuel heap us:=λhb us _=>by
  have h1:(fuel.toNat:A)=fuel:=Q5;have h2:(heap.toNat:A)=heap:=Q5;have h3:=ID fuel.toNat heap.toNat Q5 Q5 us;rw[h1,h2]at h3;exact h3
 have a2:=aJ (EX (ft fuel.toNat heap.toNat) fuel heap ss _ w1 zK Va.j hM Q5);have T7:=aJ λ(W:T) (h1:g8 W (J aL (D ss) cL) ss) (h2:lR W)=>GI ss _ fuel heap W h1 h2 bk
 have bC:=aJ (D' fuel.toNat heap.toNat ss fuel heap);generalize lY (ft fuel.toNat heap.toNat) ss fuel heap=o at a2 T7 bC;clear a8 how aI aC ay Vd hM;go_wp2_with fail;refine a2.j.mono ?_;rintro x w2 ⟨va,rfl,⟨vt,rfl,a0⟩,IT⟩;obtain⟨d,F,rfl⟩:=a0.shape;have aE:=aJ a0;have OF:=aJ IT;have TV:=IT.size;clear a0 IT a2;go_wp2_with fail;have Tt:=aJ ((Gr.refl w2).alloc (X #[O Z o.why,O Z o.unit,O Z o.at_,O Z o.e,O Z o.result,J d (D o.told) F,O Z o.steps] 47));have aD:=aJ (jZ w2 (X #[O Z o.why,O Z o.unit,O Z o.at_,O Z o.e,O Z o.result,J d (D o.told) F,O Z o.steps] 47));have bo:(w2.alloc (X #[O Z o.why,O Z o.unit,O Z o.at_,O Z o.e,O Z o.result,J d (D o.told) F,O Z o.steps] 47)).heap.size=w2.heap.size+1:=Q6;generalize w2.alloc (X #[O Z o.why,O Z o.unit,O Z o.at_,O Z o.e,O Z o.result,J d (D o.told) F,O Z o.steps] 47)=W2 at Tt aD bo |-;generalize cv:w2.heap.size=ab at aD bo TV |-;have TT:U (Below w.heap.size w W2):=aJ (az.j.grown (OF.j.trans Tt.j) Q5 Q6);refine(T7.j W2 (HL.j.low λb hb=>TT.j.block b hb) (HT.j.low Q5 TT.j)).mono ?_;rintro x w3 ⟨vb,rfl,⟨vu,rfl,aF⟩,Ta⟩;obtain⟨ra,rc,rfl⟩:=aF.shape;have cj:=aJ aF;have Te:=aJ Ta;have Wr:=Ta.size;clear aF Ta T7;have Uw:=aJ ((Gr.refl w3).alloc (X #[O Z o.why,O Z o.unit,O Z o.at_,O Z o.e,O Z o.result,J ra (D o.told) rc,O Z o.steps] 47));have ax:=aJ (jZ w3 (X #[O Z o.why,O Z o.unit,O Z o.at_,O Z o.e,O Z o.result,J ra (D o.told) rc,O Z o.steps] 47));have bt:(w3.alloc (X #[O Z o.why,O Z o.unit,O Z o.at_,O Z o.e,O Z o.result,J ra (D o.told) rc,O Z o.steps] 47)).heap.size=w3.heap.size+1:=Q6;go_upto_region 5 with fail
 generalize w3.alloc (X #[O Z o.why,O Z o.unit,O Z o.at_,O Z o.e,O Z o.result,J ra (D o.told) rc,O Z o.steps] 47)=W3 at Uw ax bt |-;generalize cB:w3.heap.size=bb at ax bt Wr |-;have ad:=aJ (Te.j.trans Uw.j);have ak:U (W3.heap[ab]? =Y (X #[O Z o.why,O Z o.unit,O Z o.at_,O Z o.e,O Z o.result,J d (D o.told) F,O Z o.steps] 47 (0,0))):=aJ ((ad.j.block ab Q5 Q6).trans aD.j);have a5:H W3 (Q ab 5 G)=Y (J d (D o.told) F):=by rw[aN ak.j];rfl
 have b5:H W3 (Q bb 5 G)=Y (J ra (D o.told) rc):=by rw[aN ax.j];rfl
 go_wp2_with fail;refine(DA _ _ o.told W3 ((aE.j.f.to.gr (Tt.j.trans ad.j))) (cj.j.f.to.gr Uw.j)).mono ?_;rintro x w4 ⟨rfl,aG⟩;have Tg:=aJ aG;have cu:=aG.size;clear a5 b5 aG;have ai:=aJ (OF.j.trans (Tt.j.trans (ad.j.trans Tg.j)));have b3:=aJ (Va.j.gr ai.j);have ca:=aJ (HL.j.low λb hb=>(az.j.grown ai.j Q5 Q6).block b hb);go_wp2_with fail;go_loopw[14,15] (λkp i wr=>∃k:R,k<=D ss/\kp=.bool AT/\i=O Z k/\Gr w4 wr) λ_ i _=>D ss-(intOf i).toNat
 case atStart=>exact⟨0,Lz,Q6,rfl,G0⟩
 obtain⟨k,hk,rfl,rfl,bj⟩:=hrel;have Um:=aJ bj;clear bj;by_cases IN:k<D ss
 · obtain⟨x,hx⟩:=aU IN;obtain⟨b1,o1,p1,hv,c1⟩:=(b3.j.gr Um.j).at hx;simp only[jj,qN,Ij,I7,Bt]at hv;obtain⟨⟨rfl,rfl⟩,rfl⟩:=hv;obtain⟨b2,o2,p2,hv,c2⟩:=(ca.j.gr Um.j).at hx;simp only[jj,Bt]at hv;obtain⟨rfl,rfl⟩:=hv;rw[Aq]at c1;have UB:(k:A)<(D ss:A):=by omega
   have Vl:(0:A)<=(k:A):=Q5;have hw:Z.wrap ((k:A)+1)=(k:A)+1:=Q_;clear hx;go_wp2_with fail;go_region
   go_wp2_with fail;go_roundw
   case rel=>exact⟨k+1,Q5,Q6,QZ,Um.j.trans Gy⟩
   case measure=>exact Qh
 have Wa:k=D ss:=by omega
 subst Wa;clear IN hk;have af:U (Gr w1 wr):=aJ (ai.j.trans Um.j);have bB:U (Below w.heap.size w wr):=aJ (az.j.grown af.j Q5 Q6);have cl:=Um.j.size;have HOr:=aJ (bL.j.keep λb hb=>af.j.block b (HZ.j b hb).2 Q6);have b0:=aJ (b6.j.below bB.j);have b':U (wr.heap[ab]? =Y (X #[O Z o.why,O Z o.unit,O Z o.at_,O Z o.e,O Z o.result,J d (D o.told) F,O Z o.steps] 47 (0,0))):=aJ (((Tg.j.trans Um.j).block ab Q5 Q6).trans ak.j);have a3:U (wr.heap[bb]? =Y (X #[O Z o.why,O Z o.unit,O Z o.at_,O Z o.e,O Z o.result,J ra (D o.told) rc,O Z o.steps] 47 (0,0))):=aJ (((Tg.j.trans Um.j).block bb Q5 Q6).trans ax.j);have aA:U (gv w1.heap.size wr (J d (D o.told) F) o.told):=aJ (eO aE.j (Tt.j.trans (ad.j.trans (Tg.j.trans Um.j))));go_wp2_with fail;refine(Gg w.heap.size db w.heap.size n B0 vo os V Xq ρ wr b0.j HOr.j HZ.j af.j.size Ti T9 b7).mono ?_;rintro x w6 ⟨rfl,cy,a9,ae,aB⟩;have a7:=aJ (a9.gr Gy);have cx:=aB.size;have U6:∀g,(J d (D o.told) F).ownBlock=Y g->w1.heap.size<=g/\g<wr.heap.size/\g<ab:=λg hg=>⟨(aA.j.lt g hg).1,(aA.j.lt g hg).2,by have:=(aE.j.lt g hg).2;omega⟩
 have a':U (w6.drew.heap[ab]? =Y (X #[O Z o.why,O Z o.unit,O Z o.at_,O Z o.e,O Z o.result,J d (D o.told) F,O Z o.steps] 47 (0,0))):=aJ ((ae _ Q5 Q5).trans b'.j);have ck:U (w6.drew.heap[bb]? =Y (X #[O Z o.why,O Z o.unit,O Z o.at_,O Z o.e,O Z o.result,J ra (D o.told) rc,O Z o.steps] 47 (0,0))):=aJ ((ae _ Q5 Q5).trans a3.j);have a4:U (Below db w w6):=aJ ((bB.j.mono Q5).trans aB);have aM:∀b,w1.heap.size<=b->b<wr.heap.size->ρ b=.no:=λb h1 h2=>by
  by_cases e:ρ b=.no
  · exact e
  exact absurd ⟨h1,h2⟩ (a7.j.zr b e)
 have HK:=aJ (a7.j.nums (K:=λb=>b=ab\/b=bb) (v:=J d (D o.told) F) (l:=o.told) (A2 (bY aA.j λg hg=>ae g (U6 g hg).1 (U6 g hg).2.1) λg hg=>by have:=(U6 g hg).1;omega) (λg hg=>⟨(U6 g hg).1,(U6 g hg).2.1⟩) bC.j hn cf (λb hb=>by
  rcases hb with rfl|rfl
  · exact⟨by show _<w6.heap.size;omega,Q5,aM _ Q5 Q5,λe=>by have:=(U6 _ e).2.2;omega⟩
  exact⟨by show _<w6.heap.size;omega,Q5,aM _ Q5 Q5,λe=>by have:=(U6 _ e).2.2;omega⟩))
 have al:U ((λw':T=>H w' (Q ab 5 G)=Y (J d (D o.told) F)) w6.drew):=aJ (by show H w6.drew _=_;rw[aN a'.j];rfl);clear a9 ae aB U6 aM;go_wp2_with fail;refine xE (S:=(λw':T=>H w' (Q ab 5 G)=Y (J d (D o.told) F))) Q7 (al.j) λhH=>?_;refine tL 0 ?_;refine tL 1 ?_;refine tL 2 ?_;refine tL 3 ?_;refine tL 4 ?_;refine bQ (i:=5) rfl Q7 λK hK=>?_;refine am rfl 11 _ _ rfl #[.pointer (Y (Q db 1 G)),J d (D o.told) F] fZ (Tryz.callNums _ _) (HK.j.mono ?_);rintro x w8 ⟨rfl,bg,TQ,Ui⟩;have b4:=aJ bg;have b8:U (Below db w w8):=aJ (a4.j.drew.trans TQ);have bp:U (w8.heap[ab]? =Y (X #[O Z o.why,O Z o.unit,O Z o.at_,O Z o.e,O Z o.result,J d (D o.told) F,O Z o.steps] 47 (0,0))):=aJ ((Ui ab (.inl rfl)).trans a'.j);have b9:U (w8.heap[bb]? =Y (X #[O Z o.why,O Z o.unit,O Z o.at_,O Z o.e,O Z o.result,J ra (D o.told) rc,O Z o.steps] 47 (0,0))):=aJ ((Ui bb (.inr rfl)).trans ck.j);refine .inl ⟨_,rfl,?_⟩;refine hK.out _ _ (by show H w8 _=_;rw[aN bp.j];rfl) λhH=>?_;clear hK;try simp only[Act.put,sA,s0,s1]
 refine Ev Q7 ?_ _;clear hH TQ bg Ui HK al;have a6:U ((λw':T=>H w' (Q ab 0 G)=Y (O Z o.why)/\H w' (Q ab 1 G)=Y (O Z o.unit)/\H w' (Q ab 2 G)=Y (O Z o.at_)/\H w' (Q ab 3 G)=Y (O Z o.e)/\H w' (Q ab 4 G)=Y (O Z o.result)/\H w' (Q ab 6 G)=Y (O Z o.steps)/\H w' (Q bb 0 G)=Y (O Z o.why)/\H w' (Q bb 1 G)=Y (O Z o.unit)/\H w' (Q bb 2 G)=Y (O Z o.at_)/\H w' (Q bb 3 G)=Y (O Z o.e)/\H w' (Q bb 4 G)=Y (O Z o.result)/\H w' (Q bb 6 G)=Y (O Z o.steps)) w8.drew):=aJ (by refine⟨?_,?_,?_,?_,?_,?_,?_,?_,?_,?_,?_,?_⟩<;>first|(rw[aN (w:=w8.drew) bp.j];rfl)|(rw[aN (w:=w8.drew) b9.j];rfl))
 go_wp2_with fail;refine xE (S:=(λw':T=>H w' (Q ab 0 G)=Y (O Z o.why)/\H w' (Q ab 1 G)=Y (O Z o.unit)/\H w' (Q ab 2 G)=Y (O Z o.at_)/\H w' (Q ab 3 G)=Y (O Z o.e)/\H w' (Q ab 4 G)=Y (O Z o.result)/\H w' (Q ab 6 G)=Y (O Z o.steps)/\H w' (Q bb 0 G)=Y (O Z o.why)/\H w' (Q bb 1 G)=Y (O Z o.unit)/\H w' (Q bb 2 G)=Y (O Z o.at_)/\H w' (Q bb 3 G)=Y (O Z o.e)/\H w' (Q bb 4 G)=Y (O Z o.result)/\H w' (Q bb 6 G)=Y (O Z o.steps))) Q7 (a6.j) λhH=>?_;refine tL 0 ?_;refine tL 1 ?_;refine tL 2 ?_;refine tL 3 ?_;refine tL 4 ?_;refine tL 5 ?_;refine tL 6 ?_;refine tL 7 ?_;refine tL 8 ?_;refine tL 9 ?_;refine tL 10 ?_;refine tL 11 ?_;refine tL 12 ?_;refine tL 13 ?_;refine tL 14 ?_;refine tL 15 ?_;refine tL 16 ?_;refine tL 17 ?_;refine tL 18 ?_;refine tL 19 ?_;refine tL 20 ?_;refine tL 21 ?_;refine Hm (i:=22) (v:=O Z o.e) rfl Q7 Q7 Q7 (λ_ _ _ h=>h) bZ 12 _ _ rfl #[O Z o.e] fZ (λw=>Tryz.callNum _ w) (λw _=>BL _ w) hH ?_;simp only[Act.put,sA,s0,s1];refine tL 23 ?_;refine tL 24 ?_;refine Hm (i:=25) (v:=O Z o.e) rfl Q7 Q7 Q7 (λ_ _ _ h=>h) bZ 12 _ _ rfl #[O Z o.e] fZ (λw=>Tryz.callNum _ w) (λw _=>BL _ w) hH ?_;simp only[Act.put,sA,s0,s1];refine tL 26 ?_;refine tL 27 ?_;refine tL 28 ?_;refine tL 29 ?_;refine tL 30 ?_;refine tL 31 ?_;refine tL 32 ?_;refine tL 33 ?_;refine tL 34 ?_;refine tL 35 ?_;refine tL 36 ?_;refine tL 37 ?_;refine tL 38 ?_;refine tL 39 ?_;refine tL 40 ?_;refine tL 41 ?_;refine tL 42 ?_;refine Ev Q7 ?_ _;go_wp2_with fail;go_ret
 exact⟨rfl,_,(by obtain⟨V9,X9,ρ9,cc,h9⟩:=b4.j;exact⟨V9,X9,ρ9,cc,h9.gr Gy⟩),b8.j.drew⟩
theorem FR(l m:I (I AI))(vl vm:M)(fuel heap:A)(w:T)(hL:g8 w vl l)(hM:g8 w vm m)(F:D l<=2000000)(aA:D m<=2000000)(hT:lR w)(h0:0<w.heap.size):
 Calls prog 3 #[vl,O Z fuel,O Z heap,vm] w (pr w):=by
 have HT:=aJ hT;have HL:=aJ hL;have HM:=aJ hM;obtain⟨aL,cL,rfl,_⟩:=hL;obtain⟨aM,cM,rfl,_⟩:=hM;have HN:=aJ (py w (X #[nS,zI,nS,nS,nS,nS,nS,nS,nS,nS,nS] 35));have HG:=aJ ((Gr.refl w).alloc (X #[nS,zI,nS,nS,nS,nS,nS,nS,nS,nS,nS] 35));go_enter func3,ntmps3
 go_wp2_with fail;generalize hW:w.alloc _=W at HN HG;have ad:=aJ ((Mt _ w).grown HG lj Q6);refine(sB _ 0 0 _ l _ _ _ w W (Im.new HN) HL lj ad F (HT.gr HG) Q9 Q9 Q9).mono ?_;rintro x w1 ⟨rfl,o1,TH,S9⟩;have av:=aJ TH;have d:=aJ (ad.trans S9);go_wp2_with fail;refine(sB _ 1 4 _ m _ _ _ w _ av HM lj d aA (HT.low h0 d) Q5 Q5 Q6).mono ?_;rintro x w2 ⟨rfl,o2,af,ai⟩;have ay:=aJ af;have TT:=aJ (d.trans ai);go_wp2_with fail;refine(sB _ 2 8 _ l _ _ _ w _ ay HL lj TT F (HT.low h0 TT) Q5 Q5 Q6).mono ?_;rintro x w3 ⟨rfl,o3,az,ak⟩;have al:=aJ az;have ae:=aJ (TT.trans ak);go_wp2_with fail;refine(xJ _ 3 _ _ _ al).mono ?_;rintro x w4 ⟨rfl,ax⟩;have VH:=aJ (ae.grown ax ae.size Q6);go_wp2_with fail;go_ret
 exact⟨rfl,VH⟩
open Go.ChangeShapes Go.WideShapes Go.ChangeAt Go.RowKit
section
variable {HHq:Type} {enc:TypeId×M->HHq} {w:T} {spare:R->Bool} {held:Bool}
theorem Tryz.cInt:Tryz.prog.cellsOf 3=1:=Q7
theorem JX:prog.cellsOf 9=1:=Q7
theorem Ee{HHq:Type}:∀(d:DataW HHq),1<=Rows.uptoBulk d:=λd=>by cases d with
 | lit l=>cases l<;>simp[Rows.uptoBulk]
 | _=>simp[Rows.uptoBulk]
theorem xf{HHq:Type}:∀(l:I (DataW HHq)),D l<=Rows.uptoBulkAll l
 | []=>lj
 | d::l=>by have:=Ee d;have:=xf l;simp only[Rows.uptoBulkAll,Jk];omega
theorem tK{v:M}{x:DataW HHq×I MemPlace}(h:DataW.trod enc prog w 0 spare held fuel 22 [v]=Y x):∃l:I (I AI),g8 w v l/\D l<=Rows.uptoBulk x.1:=by
 rcases Go.Deep.open_slice1 underlying22 JX h with⟨e,hx⟩|⟨a,len,cap,m,n,V,DDq,Pl,e,hb,hl,hm,af,rfl,hx⟩
 · obtain rfl:v=J G 0 0:=by simpa using e
   exact⟨[],⟨G,0,rfl,Lz,λi y hi=>by simp at hi⟩,Lz⟩
 obtain rfl:v=J (Y a) len cap:=by simpa using e
 have ai:len<=m:=by rw[af];split<;>omega
 have Tc:∀i:Fin len,∃s:ByteArray,V i.1=.string s/\s.size<=maxLen:=λi=>by
  obtain⟨_,h2⟩:=hx i.1 (by have:=i.2;omega);obtain⟨s,k1,_,k3⟩:=DataW.trod_string underlying9 h2;exact⟨s,by simpa using k1,k3⟩
 obtain⟨f,hf⟩:=Classical.axiomOfChoice Tc;refine⟨List.ofFn λi=>(f i).data.toList,⟨Y a,cap,by rw[List.length_ofFn],by rw[List.length_ofFn];omega,λi y hi=>?_⟩,?_⟩
 · have Ug:i<len:=by have:=(dm.1 hi).1;rwa [List.length_ofFn]at this
   have ae:(f ⟨i,Ug⟩).data.toList=y:=by
    rw[List.getElem?_ofFn,dif_pos Ug]at hi;exact tz hi
   obtain⟨h1,_⟩:=hx i Q5;rw[(hf ⟨i,Ug⟩).1]at h1;obtain⟨ad,_⟩:=hx 0 Q5;obtain⟨b,off,spot⟩:=a;have d:spot=G:=by simpa[Addr.add]using World.cell?_spot ad
   subst d;have F:(⟨b,off,G⟩:Addr).add i=⟨b,off+i,G⟩:=SW
   rw[F]at h1;exact⟨b,off,f ⟨i,Ug⟩,rfl,h1,ae,(hf ⟨i,Ug⟩).2⟩
 rw[List.length_ofFn];have:=xf ((List.range len).map DDq)
 simp only[JY,List.length_range]at this;simp only[Rows.uptoBulk];omega
end
theorem own:ownKnob prog.godebug=G:=Q7
theorem Br:laidOutB prog=AT:=Q7
theorem JN:prog.globalNamed "kiln/kilnref.operands" =some 0:=Q7
theorem D_:(prog.globals[0]?).map (·.type)=Y 250:=Q7
theorem KW:prog.underlying 250=Y (.array 21 3):=Q7
theorem KU:prog.cellsOf 250=21:=Q7
theorem Fm(h:laidMetH prog Rows.runsUptoRow.laid W):lR W:=by
 have F:Lib.TabIs prog W "kiln/kilnref.operands" .i64 [1,1,1,1,0,0,0,0,0,0,0,1,1,1,0,1,2,2,1,1,0]:=Lib.tabIs_of_head (rest:= []) JN D_ KW underlying3 Tryz.cInt KU h;intro j d;have h1:=F.cell JN j d;rw [h1];have h2:∀j,j < 21→([1,1,1,1,0,0,0,0,0,0,0,1,1,1,0,1,2,2,1,1,0]:List Int).getD j 0=ah (j:Int):=SF
 rw[h2 j d]
noncomputable def qP (os:Os):T:=
 { World.holding prog os ⟨#[],#[],[]⟩with heap:=(World.holding prog os ⟨#[],#[],[]⟩).heap.modify 0 fun
  | X _ t frozen=>X #[O Z 1,O Z 1,O Z 1,O Z 1,O Z 0,O Z 0,O Z 0,O Z 0,O Z 0,O Z 0,O Z 0,O Z 1,O Z 1,O Z 1,O Z 0,O Z 1,O Z 2,O Z 2,O Z 1,O Z 1,O Z 0] t frozen
  | o=>o }
theorem td(os:Os):laidMet prog Rows.runsUptoRow.laid ((qP os).forCall (λ_ _=>0) ⟨#[],#[J G 0 0,O Z 0,O Z 0,J G 0 0],[]⟩).memory:=
 laidMet_of_run' 8 Q7 Q7
theorem AJ(os:Os){HHq:Type}(enc:TypeId×M->HHq):∃places,DataW.whole enc prog ((qP os).forCall (λ_ _=>0) ⟨#[],#[J G 0 0,O Z 0,O Z 0,J G 0 0],[]⟩).memory f3.params.toList Rows.runsSpec.vars AS (#[J G 0 0,O Z 0,O Z 0,J G 0 0]:Array M).toList 8=Y ([.nil,.lit (.int Z 0),.lit (.int Z 0),.nil],[],places):=
 ⟨[],Q7⟩
theorem t8(HHq:Type)(enc:TypeId×M->HHq)(F:Stop.Interp)(W:T)(base:R)(args:Array M)(ds gs:I (DataW HHq))(before:I MemPlace)
 (ad:∀(j:R) t v,f3.params[j]? =Y t->args[j]? =Y v->Value.okWide prog W .any base t v)
 (hW:DataW.Whole enc prog f3.params.toList Rows.runsSpec.vars AS W args.toList ds gs before) (af:Rows.uptoSmall HHq (ds++gs)=AT) (hL:laidMetH prog Rows.runsUptoRow.laid W):
 Calls prog 3 args W λe W'=>∃v,e=.returned v/\Rows.runsSpec.post enc prog f3 AS AT AS AS W args v W':=by
 have ak:=hW;obtain⟨p,q,aE,hV,rfl,a9,bB⟩:=hW;have hA:DataW.TrodAll enc prog W 0 (λ_=>AT) AT f3.params.toList args.toList ds p:=aE;rw[params3]at hA ad;obtain⟨v0,bp,d0,bo,p0,q0,aI,rfl,rfl,h0,r0⟩:=trodAll_cons hA;obtain⟨v1,a8,d1,bg,p1,q1,rfl,rfl,rfl,h1,r1⟩:=trodAll_cons r0;obtain⟨v2,bt,d2,bk,p2,q2,rfl,rfl,rfl,h2,r2⟩:=trodAll_cons r1;obtain⟨v3,bj,d3,a',p3,q3,rfl,rfl,rfl,h3,r3⟩:=trodAll_cons r2;obtain⟨rfl,rfl,rfl⟩:=trodAll_nil r3;obtain rfl:args=#[v0,v1,v2,v3]:=by cases args;simp_all
 obtain⟨rfl,rfl⟩:=trodVars_none hV;clear aE;simp only[Ir]at ak af;have TQ:Rows.uptoBulkAll [d0,d1,d2,d3]<=1048576:=M8 af;simp only[Rows.uptoBulkAll]at TQ;obtain⟨a0,aA,az,rfl⟩:=okWide_slice underlying22 (ad 0 22 v0 rfl rfl);obtain⟨fu,rfl⟩:=okWide_int underlying3 (ad 1 3 v1 rfl rfl);obtain⟨he,rfl⟩:=okWide_int underlying3 (ad 2 3 v2 rfl rfl);obtain⟨a3,aD,ax,rfl⟩:=okWide_slice underlying22 (ad 3 22 v3 rfl rfl);have a4:=h0;have a2:=h3;obtain⟨aF,a6⟩:=h0;obtain⟨aG,a7⟩:=h3;have av:∀x∈p0,x.block<W.heap.size:=λx hx=>ak.lt x (by simp[hx])
 have aC:∀x∈p1,x.block<W.heap.size:=λx hx=>ak.lt x (by simp[hx])
 have aB:∀x∈p2,x.block<W.heap.size:=λx hx=>ak.lt x (by simp[hx])
 have ay:∀x∈p3,x.block<W.heap.size:=λx hx=>ak.lt x (by simp[hx])
 have ai:∀(W':T) (v:M) (d:DataW HHq) (p:I MemPlace),DataW.Trod enc prog W 0 (λ_=>AT) AT 22 v d p->(∀x∈p,x.block<W.heap.size)->Below W.heap.size W W'->DataW.Trod enc prog W' 0 (λb=>decide (b<W.heap.size)) AT 22 v d p:=
  λW' v d p h hl hn=>Below.trod Br Q7 (M8 Q7) h hn hl
 have ae:∀(W':T) (v:M) (d:DataW HHq) (p:I MemPlace),DataW.Trod enc prog W 0 (λ_=>AT) AT 3 v d p->(∀x∈p,x.block<W.heap.size)->Below W.heap.size W W'->DataW.Trod enc prog W' 0 (λb=>decide (b<W.heap.size)) AT 3 v d p:=
  λW' v d p h hl hn=>Below.trod Br Q7 (M8 Q7) h hn hl
 obtain⟨u,hu,a5⟩:=tK (v:=J a0 aA az) (x:=(d0,p0)) a6;obtain⟨v,hv,aL⟩:=tK (v:=J a3 aD ax) (x:=(d3,p3)) a7;simp only at a5 aL;have al:=Fm hL;have aM:0<W.heap.size:=wI W _ (al 0 Q9);refine(FR u v _ _ fu he W hu hv Q5 Q5 al aM).mono λe W' ⟨he,hg⟩=>?_
 subst he;exact⟨_,rfl,_,_,_,[],_,[],ak,trodAll_cons_mk (shut_bool underlying4 _) trodAll_mk0,trodAll_cons_mk (ai W' _ _ _ a4 av hg) (trodAll_cons_mk (ae W' _ _ _ h1 aC hg) (trodAll_cons_mk (ae W' _ _ _ h2 aB hg) (trodAll_cons_mk (ai W' _ _ _ a2 ay hg) trodAll_mk0))),rfl,hg.frame _,λh=>nomatch h⟩
theorem yo(os:Os)(started:os.Started)(HHq:Type)(enc:TypeId×M->HHq)(F:Stop.Interp):
 ReturnsInHanded {} checked os 3 .any ((Rows.OpenSpec.upto Rows.runsSpec).preRow enc prog f3 Rows.runsUptoRow.domain AS Rows.runsUptoRow.laid) (((Rows.OpenSpec.upto Rows.runsSpec).at F).post enc prog f3 AS AT AS AS):=by
 obtain⟨places,hx⟩:=AJ os enc;refine returnsInHanded_of_row (C:=checked) (s:=Rows.OpenSpec.upto Rows.runsSpec) own started Q7 func3
  (witness_row_at (enc:=enc) (C:=checked) AS (qP os) #[J G 0 0,O Z 0,O Z 0,J G 0 0] rfl Q7 Q7 Q7
   (OpenSpec.preRow_of_cond 8 hx Q7 (λk hk=>by cases hk;kernel_rfl) Q7 (td os))) ?_
 intro W base args ds gs before ad hW _ d _ hL _ _;exact t8 HHq enc F W base args ds gs before ad hW (d _ rfl) hL
theorem C6:Rows.RunsUptoSaid:=
 OpenClaim.holds_of_cond 3 f3 rfl rfl rfl rfl rfl rfl rfl ⟨rfl,rfl,rfl,rfl,rfl⟩ rfl rfl rfl rfl rfl Q7 func3 Q7
  (M8 Q7) (by unfold Func.isWrapper;first|(rw[mI (by decide+kernel)];kernel_rfl)|(rw[eP (by decide+kernel)];exact⟨rfl,rfl⟩))
  (λos started HHq enc _ F=>by rw[OpenClaim.pre_eq_preRow];exact yo os started HHq enc F)
theorem AQ(f:FuncId)(fn:Func)(hf:Tryz.pinned.checked.prog.funcNamed "kiln/kilnlaw.Runs" =some f)(d:Tryz.pinned.checked.prog.funcs[f]? =some fn):
 AT=Tryz.pinned.checked.prog.looks []/\∀(j:R) t,fn.params[j]? =Y t->Tryz.pinned.checked.prog.wantsStandIn t=AS:=by
 obtain rfl:f=3:=tz ((show prog.funcNamed "kiln/kilnlaw.Runs" =some 3 by kernel_rfl).symm.trans hf) |>.symm;obtain rfl:fn=f3:=(tz (func3.symm.trans d)).symm;refine ⟨Q7,fun j t F=>?_⟩;rw [params3] at F;have hm:=Array.mem_of_getElem? F;have h2:t=22∨t=3:=by
  simp at hm
  rcases hm with h|h|h<;>simp[h]
 rcases h2 with rfl|rfl
 · exact(show prog.wantsStandIn 22=AS by kernel_rfl)
 exact(show prog.wantsStandIn 3=AS by kernel_rfl)
theorem runs_card:Rows.RunsUptoCardSaid:=
 Claim7.holds_tied_plain_at .later [] _ _ _ _ C6 (λ_ h=>by cases h) Q7 (λ_ h=>by cases h) runsUpto_row_tie rfl ⟨rfl,rfl⟩ Q7 rfl AQ Q7
end Go.Proofs.YtghjmnlapcpbiaaGreatDoor
