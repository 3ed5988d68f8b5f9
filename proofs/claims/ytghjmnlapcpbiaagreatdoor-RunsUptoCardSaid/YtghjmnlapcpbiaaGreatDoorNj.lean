import Derived.Test.YtghjmnlapcpbiaaGreatDoorNg
namespace Go.Proofs.YtghjmnlapcpbiaaGreatDoor
open _root_ renaming Option.some->Y,Option.none->G,Go.Value.int->O,Go.IntKind.i64->Z,Go.Value.slice->J,List->I,Nat->R,Int->A,Go.World.cell?->H,List.length->D,Go.Obj.cells->X,Go.Value->M,Go.World->T,Go.Addr.mk->Q,Go.RowKit.Hid->U,UInt8->AI,Bool.false->AS,Bool.true->AT,Option->By
open Go.Proofs.Tryz
open Go.RowKit
set_option linter.defProp false
variable{l:I A}{xs:I M}{b base k n size:R}{e:TypeId}{W w w' w2:T}
def Lc:=@wp_store_row
def L7:=@World.ownsRow.drew
def Mk:=@List.not_mem_nil.{0}
def MB:=@List.mem_map.{0,0}
def MK:=@run_append_own_at
set_option maxRecDepth 100000
set_option maxHeartbeats 4000000
set_option linter.unusedVariables false
set_option linter.unusedSimpArgs false
open Go.RowKit
attribute [local go_sem ↓] Go.wp_at_zero Go.wp_at_succ
theorem Ox{p:Prop}(h:p:=by
 obtain rfl:=tz e;have e2:(⟨b,off,G⟩:Addr).add j=⟨b,off+j,G⟩:=SW
 rw[e2];exact S6):p:=h
theorem dI{v vl:M}(F:w.ownsRow base 3 1 v n xs)(hR:aY w vl l)(hn:n+D l<=1000000)(hb:base<=w.heap.size)(ty:TypeId):
 ∃v' w',(Builtin.append_ #[26,26] ty #[v,vl]).run prog w=.ok v' w'/\w'.ownsRow base 3 1 v' (n+D l) (xs++fK l)/\w.grownBy w' v.ownBlock:=by
 obtain⟨i0,hi,TU,Ty,TO⟩:=Lt Tryz.infF;obtain⟨ao,cap,rfl,hm,hc⟩:=hR;cases ao with
 | none=>
  have hl:l=[]:=by
   cases l with
   | nil=>rfl
   | cons x t=>obtain⟨b,off,e,_⟩:=hc 0 Q6;cases e
  subst hl;refine⟨v,w,?_,by simpa[fK]using F,⟨rfl,rfl,rfl,lj,λ_ _ _=>rfl⟩⟩;rcases F.2 with⟨rfl,rfl⟩|⟨g,cp,cur,rfl,_,_,ad,_⟩
  · simp[Builtin.append_,Lr Tryz.uInts,Go.sizeOf,typeInfo,hi,Builtin.lenOf,Builtin.firstCells]
  simp[Builtin.append_,Lr Tryz.uInts,Go.sizeOf,typeInfo,hi,Builtin.lenOf,Builtin.firstCells,ad,storeCells]
 | some a=>
  have VN:∀j u,(fK l)[j]? =Y u->H w (a.add j)=Y u:=by
   intro j u hj;have d:j<D l:=by
    rw[<-mH l];exact(dm.1 hj).1
   obtain⟨b,off,e,S6⟩:=hc j d;rw[zy d]at hj;obtain rfl:=tz hj;exact Ox
  obtain⟨v',w',hr,h2,h3,_,_⟩:=MK w _ _ ty 3 _ _ 1 8 Tryz.uInts hi TU Ty TO rfl Q9 v n _ F a (D l) cap _ (by rw[mH];omega) VN (by intro u hu;simp[fK]at hu;obtain⟨x,_,rfl⟩:=hu;rfl) QB Q5 hb;exact⟨_,_,hr,h2,h3⟩
def J4(w:T)(l:I A)(e:Ending)(w':T):Prop:=∃v,e=.returned v/\w'.ownsRow w.heap.size 3 1 v (D l) (fK l)/\Gr w w'
theorem aR{B:R}{len:R}{v:M}(h:w.ownsRow B e n v len xs):∃ao cap,v=J ao len cap:=by
 obtain⟨_,d⟩:=h;rcases d with⟨rfl,rfl⟩|⟨g,cap,cur,rfl,_⟩
 · exact⟨_,0,rfl⟩
 exact⟨_,_,rfl⟩
theorem nB{w1:T}{v:M}(h:Gr w w1)(d:w1.ownsRow w.heap.size 3 1 v n xs)(k:w1.grownBy w2 v.ownBlock):Gr w w2:=
 ⟨k.os.trans h.os,k.tape.trans h.tape,k.output.trans h.output,wz h.size k.size,λi hi _=>(k.block i (tu hi h.size) λe=>by have:=(d.lt i e.symm).1;omega).trans (h.block i hi Q6)⟩
theorem QE{p:Prop}(h:p:=by first|rfl|trivial):p:=h
theorem SG{p:Prop}(h:p:=by simp[intOf]):p:=h
theorem sK(h:R)(v1 v2:M)(d l2:I A)(w:T)(al:H w (Q h 0 G)=Y v1)(TD:H w (Q h 1 G)=Y v2)(h1:aY w v1 d)(h2:aY w v2 l2)(aC:D d<=10000)(aB:D l2<=10000):
 Calls prog 129 #[J (Y (Q h 0 G)) 2 2] w (J4 w (d++l2)):=by
 obtain⟨a1,p1,rfl⟩:=h1.shape;obtain⟨a2,p2,rfl⟩:=h2.shape;have H1:=aJ h1;have H2:=aJ h2;have ay:=aJ al;have Tr:=aJ TD;clear h1 h2;go_enter func129,ntmps129
 go_wp2_with fail;go_loopw[3,11] (λs i wr=>w=wr/\((s=O Z 0/\i=O Z 0)\/(s=O Z (D d:A)/\i=O Z 1)\/(s=O Z ((D d:A)+(D l2:A))/\i=O Z 2))) λ_ i _=>2-(intOf i).toNat
 case atStart=>exact⟨rfl,.inl ⟨rfl,rfl⟩⟩
 obtain⟨rfl,hr⟩:=hrel;have Ti:¬(D d:A)<0:=Q5;have T9:¬(D d:A)+D l2<0:=Q5;have av:Z.wrap _=D d:=Q_;have ax:Z.wrap _=D d+D l2:=Q_;rcases hr with⟨rfl,rfl⟩|⟨rfl,rfl⟩|⟨rfl,rfl⟩
 · go_wp2_with fail;exact⟨⟨QE,.inr (.inl ⟨QE,QE⟩)⟩,SG⟩
 · go_wp2_with fail;exact⟨⟨QE,.inr (.inr ⟨QE,QE⟩)⟩,SG⟩
 have ad:D d+D l2=((D d+D l2:R):A):=by omega
 have Ua:=aJ (FF (D d+D l2) Q5 w);rw[<-ad]at Ua;clear ad;go_wp2_with(go_at_call 154;refine Ua.j.mono ?_;rintro e w1 ⟨v3,rfl,ak,Ta⟩;obtain⟨a3,p3,rfl⟩:=aR ak)
 have az:=aJ ak;have Te:=aJ Ta;clear ak Ta av ax Ti T9;go_loopw[6,27] (λv i wr=>∃(k:R) (l:I A),i=O Z (k:A)/\wr.ownsRow w.heap.size 3 1 v (D l) (fK l)/\Gr w wr/\((k=0/\l=[])\/(k=1/\l=d)\/(k=2/\l=d++l2))) λ_ i _=>2-(intOf i).toNat
 case atStart=>exact⟨0,[],rfl,az,Te,.inl ⟨rfl,rfl⟩⟩
 obtain⟨k,l,rfl,ho,hg,hk⟩:=hrel;obtain⟨a4,p4,rfl⟩:=aR ho;have HO:=aJ ho;have HG:=aJ hg;have TH:=hg.cell ay Q6;have aA:=hg.cell Tr Q6;have hle:=hg.size;clear ho hg al TD;rcases hk with⟨rfl,rfl⟩|⟨rfl,rfl⟩|⟨rfl,rfl⟩
 · obtain⟨v5,w5,ae,F,Th⟩:=dI HO (H1.gr HG) jB hle 26;have af:=aJ ae;have ai:=aJ F;have Tu:=aJ (nB HG HO Th);clear ae F Th;go_wp2_with(at_builtin;refine CH _ rfl _ _ _ _ rfl _ _ rfl rfl _ _ af.j ?_)
   exact⟨⟨1,_,rfl,by simpa[fK]using ai.j,Tu,.inr (.inl ⟨rfl,rfl⟩)⟩,SG⟩
 · obtain⟨v5,w5,ae,F,Th⟩:=dI HO (H2.gr HG) Q5 hle 26;have af:=aJ ae;have ai:=aJ F;have Tu:=aJ (nB HG HO Th);clear ae F Th;go_wp2_with(at_builtin;refine CH _ rfl _ _ _ _ rfl _ _ rfl rfl _ _ af.j ?_)
   exact⟨⟨2,_,rfl,by simpa[fK]using ai.j,Tu,.inr (.inr ⟨rfl,rfl⟩)⟩,SG⟩
 go_wp2_with fail;go_ret
 exact⟨_,rfl,HO,HG⟩
theorem xr{α:Type}{f:α->I M}(d:∀x,D (f x)=n):∀(l:I α) (j:R) (u:M),(l.flatMap f)[j]? =Y u->∃i r x,j=i*n+r/\r<n/\l[i]? =Y x/\(f x)[r]? =Y u
 | [],j,u,h=>by simp at h
 | y::l,j,u,h=>by
  rw[I']at h;by_cases F:j<n
  · rw[ze (by rw[d];exact F)]at h;exact⟨0,j,y,Q5,F,rfl,h⟩
  rw[Ag (by rw[d];omega),d]at h;obtain⟨i,r,x,e1,e2,e3,e4⟩:=xr d l _ u h;refine⟨i+1,r,x,?_,e2,by simpa using e3,e4⟩;rw[LV];omega
theorem jK{α:Type}{f:α->I M}(d:∀x,D (f x)=n):∀(l:I α) (i r:R) (x:α),l[i]? =Y x->r<n->(l.flatMap f)[i*n+r]? =(f x)[r]?
 | [],i,r,x,h,_=>by simp at h
 | y::l,0,r,x,h,hr=>by
  simp only[JQ,qN]at h;subst h;rw[I',ze (by rw[d];omega)];simp
 | y::l,i+1,r,x,h,hr=>by
  rw[I',Ag (by rw[d,LV];omega),d,show(i+1)*n+r-n=i*n+r by rw[LV];omega];exact jK d l i r x RY hr
theorem u_{α:Type}{f:α->I M}(d:∀x,D (f x)=n):∀(l:I α),D (l.flatMap f)=D l*n
 | []=>by simp
 | x::l=>by simp[d x,u_ d l,LV];omega
def cC(i:bP):I M:=[O Z i.op,O Z i.a,O Z i.b]
theorem nI(i:bP):D (cC i)=3:=rfl
def oK(w:T)(v:M)(m:R)(xs:I M):Prop:=∃ao cap,v=J ao m cap/\∀j u,xs[j]? =Y u->∃b off,ao=Y (Q b off G)/\H w ⟨b,off+j,G⟩=Y u
theorem OE{p:Prop}(h:p:=by obtain⟨v',w',hr,h2,h3,_,h5⟩:=MK w _ t ty e _ _ _ _ ht hi TU Ty TO VR S7 v n _ Tf a m cap _ hl VN h1 (by unfold maxLen;omega) (wz (MP hn Vk) Q9) hb;exact⟨_,_,hr,h2,h3,h5⟩):p:=h
theorem fG{m bytes:R}{v vx:M}{news:I M}(t e ty:TypeId)(zero:M)(inf:(prog.info? e).map (λi=>(i.zero,i.size,i.bytes))=Y (Y zero,size,bytes))(ht:prog.underlying t=Y (.slice e))(VR:zero.cells.size=size)(S7:0<size)(Vk:bytes<=1000)
 (Tf:w.ownsRow base e size v n xs) (hR:oK w vx m news) (hl:D news=m*size) (h1:∀u∈news,u.oneCell'=AT) (hn:n+m<=1000000) (hb:base<=w.heap.size):
 ∃v' w',(Builtin.append_ #[t,t] ty #[v,vx]).run prog w=.ok v' w'/\w'.ownsRow base e size v' (n+m) (xs++news)/\w.grownBy w' v.ownBlock/\(v'.ownBlock=v.ownBlock\/v'.ownBlock=Y w.heap.size):=by
 obtain⟨i0,hi,TU,Ty,TO⟩:=Lt inf;obtain⟨ao,cap,rfl,F⟩:=hR;cases ao with
 | none=>
  have hx:news=[]:=by
   cases news with
   | nil=>rfl
   | cons x t=>obtain⟨b,off,e,_⟩:=F 0 x rfl;cases e
  subst hx;have hm:m=0:=by
   simp only[LW]at hl;rcases Nat.mul_eq_zero.1 hl.symm with h|h
   · exact h
   omega
  subst hm;refine⟨v,w,?_,by simpa using Tf,⟨rfl,rfl,rfl,lj,λ_ _ _=>rfl⟩,.inl rfl⟩;rcases Tf.2 with⟨rfl,rfl⟩|⟨g,cp,cur,rfl,_,_,d,_⟩
  · simp[Builtin.append_,Lr ht,Go.sizeOf,typeInfo,hi,Builtin.lenOf,Builtin.firstCells]
  simp[Builtin.append_,Lr ht,Go.sizeOf,typeInfo,hi,Builtin.lenOf,Builtin.firstCells,d,storeCells]
 | some a=>
  have VN:∀j u,news[j]? =Y u->H w (a.add j)=Y u:=by
   intro j u hj;obtain⟨b,off,e,S6⟩:=F j u hj;exact Ox
  exact OE
theorem Tryz.infI:(Tryz.prog.info? 3).map (λi=>(i.zero,i.size,i.bytes))=Y (Y (O Z 0),1,8):=Q7
theorem Tryz.infC:(Tryz.prog.info? 87).map (λi=>(i.zero,i.size,i.bytes))=Y (Y (.agg #[O Z 0,O Z 0,O Z 0]),3,24):=Q7
theorem Tryz.uI:Tryz.prog.underlying 26=Y (.slice 3):=Q7
theorem Tryz.uC:Tryz.prog.underlying 72=Y (.slice 87):=Q7
theorem aY.row{v:M}(h:aY w v l):oK w v (D l) (fK l):=by
 obtain⟨ao,cap,rfl,hm,hc⟩:=h;refine⟨_,_,rfl,λj u F=>?_⟩;have d:j<D l:=by rw[<-mH l];exact(dm.1 F).1
 obtain⟨b,off,e,S6⟩:=hc j d;refine⟨b,_,e,S6.trans ?_⟩;rw[<-F];simp[fK,d,mh]
theorem eC.row{v:M}{l:I bP}(h:eC w v l):oK w v (D l) (l.flatMap cC):=by
 obtain⟨ao,cap,rfl,hm,d⟩:=h;refine⟨_,_,rfl,λj u hj=>?_⟩;obtain⟨i,r,x,rfl,hr,F,hu⟩:=xr nI l j u hj;obtain⟨b,off,e,h0,h1,h2⟩:=d i x F;refine⟨b,_,e,?_⟩;rcases(show r=0\/r=1\/r=2 by omega) with rfl|rfl|rfl
 · rw[<-hu];exact h0
 · rw[<-hu];exact h1
 rw[<-hu];exact h2
theorem wJ(l:I A):∀u∈fK l,u.oneCell'=AT:=by
 intro u hu;simp only[fK,MB]at hu;obtain⟨x,_,rfl⟩:=hu;rfl
theorem IJ(l:I bP):∀u∈l.flatMap cC,u.oneCell'=AT:=by
 intro u hu;simp only[List.mem_flatMap,cC,Ce,Mk,or_false]at hu;obtain⟨x,_,rfl|rfl|rfl⟩:=hu<;>rfl
def FM(e:TypeId)(size n:R)(xs:I M)(w:T)(x:Ending)(w':T):Prop:=∃v,x=.returned v/\w'.ownsRow w.heap.size e size v n xs/\Gr w w'
theorem Pe{p:Prop}(h:p:=by
 go_wp2_with(at_builtin;refine CH _ rfl _ _ _ _ rfl _ _ rfl rfl _ _ HR.j ?_)
 go_ret
 exact⟨_,rfl,by simpa using HO.j,HG⟩):p:=h
theorem nh(v:M)(l:I A)(w:T)(d:aY w v l)(hl:D l<=100000):
 Calls prog 126 #[v] w (FM 3 1 (D l) (fK l) w):=by
 obtain⟨v',w',F,ho,hg,_⟩:=fG (ty:=26) _ 3 _ Tryz.infI Tryz.uI rfl Q9 Q9 (B5 w _ 3 1) d.row (by rw[mH];omega) (wJ l) Q5 lj;obtain⟨ao,cap,rfl⟩:=d.shape;have HR:=aJ F;have HO:=aJ ho;have HG:=aJ hg;go_enter func126,ntmps126
 exact Pe
theorem AM(v:M)(l:I bP)(w:T)(d:eC w v l)(hl:D l<=100000):
 Calls prog 152 #[v] w (FM 87 3 (D l) (l.flatMap cC) w):=by
 obtain⟨v',w',F,ho,hg,_⟩:=fG (ty:=72) _ _ _ Tryz.infC Tryz.uC rfl Q9 Q9 (B5 w _ _ 3) d.row (u_ nI l) (IJ l) Q5 lj;obtain⟨ao,cap,rfl⟩:=d.shape;have HR:=aJ F;have HO:=aJ ho;have HG:=aJ hg;go_enter func152,ntmps152
 exact Pe
structure CT(W w:T)(u:aK)(mb:R)(N:I AI->By (aQ×A))(a3:By Addr)(c3:R)(a4:By Addr)(c4:R):Prop where
 gr:Gr W w
 mp:∃n,mA W w mb n N
 fu:eE W (J a3 (D u.aG) c3) u.aG
 im:dS W (J a4 (D u.aC) c4) u.aC
 ok:bG u=AT
theorem CT.step{u:aK}{mb:R}{N:I AI->By (aQ×A)}{F:By Addr}{c3:R}{d:By Addr}{c4:R}(h:CT W w u mb N F c3 d c4)(g:Gr w w'):CT W w' u mb N F c3 d c4:=by
 obtain⟨n,hm⟩:=h.mp;exact⟨h.gr.trans g,⟨n,hm.gr g⟩,h.fu,h.im,h.ok⟩
def oU(N:I AI->By (aQ×A))(n:I AI):A:=match N n with
 | some (_,k)=>k
 | none=>0
theorem vO(u:aK)(mb c f:R)(a1 F a3 d a5:By Addr)(c1 c2 c3 c4 c5:R)(n:R)(w:T)(hc:c<=1000)(hn:n<=65535)(hl:D u.aE<=1000):
 Calls prog 160 #[.agg #[J a1 (D u.aA) c1,J F (D u.aE) c2,J a3 (D u.aG) c3,J d (D u.aC) c4,J a5 (D u.aD) c5,.map (Y mb),O Z (c:A),O Z (f:A)],O Z (n:A)] w λx w'=>x=.returned (O Z (if n<D u.aE then (c:A)+(n:A) else 65535))/\Gr w w':=by
 have hw:Z.wrap _=c+n:=Q_;by_cases h:n<D u.aE
 · have hi:(n:A)<D u.aE:=by omega
   go_enter func160,ntmps160
   go_wp2_with fail;go_ret
   exact⟨by first|rfl|(rw[mI h];rfl),(G0).alloc _⟩
 have hi:¬(n:A)<D u.aE:=by omega
 go_enter func160,ntmps160
 go_wp2_with fail;go_ret
 exact⟨by first|rfl|(rw[eP h];rfl),(G0).alloc _⟩
def oP(N:I AI->By (aQ×A))(u:aK)(f n:R):A:=if n<D u.aG then (f:A)+(n:A) else match u.aC[n-D u.aG]? with
 | some g=>oU N g.name
 | none=>65535
theorem PD{p:Prop}(h:p:=by
 go_enter func161,ntmps161
 go_wp2_with fail;go_ret
 exact⟨by rw[HE];rfl,(G0).alloc _⟩):p:=h
theorem xg(W:T)(u:aK)(mb c f:R)(N:I AI->By (aQ×A))(a1 a2 a3 a4 a5:By Addr)(c1 c2 c3 c4 c5:R)(n:R)(w:T)(hM:CT W w u mb N a3 c3 a4 c4)(hf:f<=1000)(hn:n<=65535):
 Calls prog 161 #[.agg #[J a1 (D u.aA) c1,J a2 (D u.aE) c2,J a3 (D u.aG) c3,J a4 (D u.aC) c4,J a5 (D u.aD) c5,.map (Y mb),O Z (c:A),O Z (f:A)],O Z (n:A)] w λx w'=>x=.returned (O Z (oP N u f n))/\Gr w w':=by
 have al:=λ(a b c d e) w=>Tryz.tgtN a b c d e w
 have F:=jo hM.ok;have hl:=F.1;have ax:=F.2.2.1;have hw:Z.wrap _=f+n:=Q_;have av:Z.wrap _=D u.aG+D u.aC:=Q_;by_cases h:n<D u.aG
 · have hi:(n:A)<D u.aG:=by omega
   have HE:U (oP N u f n=f+n):=aJ (by unfold oP;rw[mI h]);exact PD
 have hi:decide (n<(D u.aG:A))=AS:=Si
 by_cases h2:n<D u.aG+D u.aC
 · have ad:n<(D u.aG:A)+D u.aC:=by omega
   obtain⟨k,hk⟩:∃k,n-D u.aG=k:=⟨_,rfl⟩;have af:k<D u.aC:=Q5;have UB:(k:A)<D u.aC:=Q5;have UR:Z.wrap (n-D u.aG)=k:=Qq
   obtain⟨x,hx⟩:=aU af;have HE:U (oP N u f n=oU N _):=aJ (by unfold oP;rw[eP h,hk,hx]);obtain⟨ao,cap,he,_,hc⟩:=hM.im;simp only[jj,Bt]at he;obtain⟨rfl,rfl⟩:=he;obtain⟨b,off,vs,vp,rfl,k0,_,_,⟨s,rfl,hs,S7⟩,_⟩:=hc k x hx;have k0:=hM.gr.cell k0 Q6;obtain⟨nn,hm⟩:=hM.mp;have hv:∃p1 p2 p3 p4:M,∃kk:A,oU N x.name=kk/\∀w',Gr w w'->(Instr.lookup 164 (.map (Y mb)) (.string s) AS).run prog w'=.ok (.agg #[p1,p2,p3,p4,O Z kk]) w':=by
    rcases hm.find s S7 with⟨e1,_,e2⟩|⟨g,kk,v,e1,⟨_,_,_,_,_,_,_,_,rfl,_⟩,_,e2⟩
    · exact⟨_,_,_,_,0,by unfold oU;rw[<-hs,e1],λw' g=>e2 _ g⟩
    exact⟨_,_,_,_,_,by unfold oU;rw[<-hs,e1],λw' g=>e2 _ g⟩
   obtain⟨p1,p2,p3,p4,kk,ai,ak⟩:=hv;have ae:=aJ ai;have TI:=jZ w (X #[J a1 (D u.aA) c1,J a2 (D u.aE) c2,J a3 (D u.aG) c3,J (Y (Q b off G)) (D u.aC) c4,J a5 (D u.aD) c5,.map (Y mb),O Z c,O Z f] 235);have KS:U (∀w',Gr (w.alloc _) w'->H w' ⟨_,3,_⟩=Y (J _ _ _)/\H w' ⟨_,5,_⟩=Y (.map _)/\H w' _=Y _/\(Instr.lookup _ _ _ _).run _ _=.ok _ _):=aJ (λw' g=>by
    have g0:=((Gr.refl w).alloc _).trans g;have e0:=(g.block _ Q6 Q6).trans TI;exact⟨RR,RR,g0.cell k0 Q6,ak _ g0⟩)
   go_enter func161,ntmps161
   go_upto_region 5 with fail
   refine xE (S:=(λw'=>H w' _=Y _/\H w' _=Y _/\H w' _=Y _/\(Instr.lookup _ _ _ _).run _ w'=.ok _ w')) Q7 (KS _ Gy) λhH=>?_;refine tL 0 ?_;refine tL 1 ?_;refine tL 2 ?_;refine tL 3 ?_;refine tL 4 ?_;refine tL 5 ?_;refine tL 6 ?_;refine tL 7 ?_;refine tL 8 ?_;refine tL 9 ?_;refine tL 10 ?_;refine tL 11 ?_;refine tL 12 ?_;refine tL 13 ?_;refine Ev Q7 ?_ _;go_wp2_with fail;go_ret
   exact⟨by rw[HE,ae];rfl,Gr.drew G5⟩
 have ad:decide (n<D u.aG+(D u.aC:A))=AS:=Si
 have HE:U (oP N u f n=65535):=aJ (by unfold oP;rw[eP h,AK Q5]);exact PD
theorem Tryz.callCn(vals:Array M)(w:T):(callFunc 160 vals).run Tryz.prog w=.ok (.enter 160 vals) w:=Q7
theorem Tryz.callFn(vals:Array M)(w:T):(callFunc 161 vals).run Tryz.prog w=.ok (.enter 161 vals) w:=Q7
def Bl(N:I AI->By (aQ×A))(u:aK)(c f:R)(i:bP):bP:=
 if i.op=0 then { i with a:=if i.a.toNat<D u.aE then (c:A)+(i.a.toNat:A) else 65535 }
 else if i.op=13 then { i with a:=oP N u f i.a.toNat } else i
theorem yl:∀(l:I bP) (k:R) (i:bP) (x:A),l[k]? =Y i->(l.flatMap cC).set (k*3+1) (O Z x)=(l.set k { i with a:=x }).flatMap cC
 | [],k,i,x,h=>by simp at h
 | y::l,0,i,x,h=>by
  simp only[JQ,qN]at h;subst h;rfl
 | y::l,k+1,i,x,h=>by
  have e:(y::l).flatMap cC=.int _ _ :: .int _ _ :: .int _ _::l.flatMap _:=rfl;have d:(k+1)*3+1=(k*3+1)+1+1+1:=Q5;rw[e,d];simp only[List.set_cons_succ];rw[yl l k i x RY];rfl
theorem E3{l:I bP}{i:bP}(h:l[k]? =Y i):l.set k i=l:=by
 obtain⟨d,rfl⟩:=dm.1 h;exact List.set_getElem_self d
theorem eO{v:M}(h:w.ownsRow base e size v n xs)(g:Gr w w'):w'.ownsRow base e size v n xs:=h.kept g (by cases hv:v.ownBlock<;>simp)
def Jj(B n cap cb:R)(l:I bP)(w:T)(x:Ending)(w':T):Prop:=x=.returned (.tuple #[])/\w'.ownsRow B 87 3 (J (Y (Q cb 0 G)) n cap) n (l.flatMap cC)/\w.grownBy w' (Y cb)
theorem NN{p:Prop}(h:p:=by
 rintro z w2 ⟨rfl,IT⟩;have OF:=aJ ((Gy).trans IT);refine .inl ⟨_,rfl,?_⟩;refine hK _ _ (KS _ OF) λhH=>?_;try simp only[Act.put,sA,s0,s1]
 refine tL 7 ?_;refine tL 8 ?_;have WM:=Ua.trans OF;have TO:=(eO WW WM).frozenAt (k*3+1);have TD:=WM.cell VW Q6;refine bQ (i:=9) rfl Q7 λK hK=>?_;refine aW bZ ?_;have HK:=aJ hK;go_simp
 refine HK _ _ (XA _ _ OF) λhH=>?_;try simp only[Act.put,sA,s0,s1]
 refine Ev Q7 ?_ _;go_wp2_with fail;go_end0
 rw[HE];exact T5 _ _ WM):p:=h
theorem wL(W:T)(u:aK)(mb c f:R)(N:I AI->By (aQ×A))(a1 a2 a3 a4 a5:By Addr)(c1 c2 c3 c4 c5:R)(B n cap cb k:R)(l:I bP)(i:bP)(w:T)(hM:CT W w u mb N a3 c3 a4 c4)(hc:c<=1000)(hf:f<=1000)
 (Tf:w.ownsRow B 87 3 (J (Y (Q cb 0 G)) n cap) n (l.flatMap cC)) (ax:n=D l) (hi:l[k]? =Y i) (Tb:bl i=AT):
 Calls prog 153 #[.agg #[J a1 (D u.aA) c1,J a2 (D u.aE) c2,J a3 (D u.aG) c3,J a4 (D u.aC) c4,J a5 (D u.aD) c5,.map (Y mb),O Z (c:A),O Z (f:A)],.pointer (Y ⟨cb,k*3,G⟩)] w (Jj B n cap cb (l.set k (Bl N u c f i)) w):=by
 subst ax;have aH:=(dm.1 hi).1;have ak:H w ⟨cb,k*3,G⟩=Y (O Z i.op):=by rw[Tf.cellAt _ Q5];exact jK nI l k 0 i hi Q5
 have VW:H w ⟨cb,k*3+1,G⟩=Y (O Z i.a):=by rw[Tf.cellAt _ Q5];exact jK nI l k 1 i hi Q5
 have az:cb<w.heap.size:=wI w _ ak;have TI:=jZ w (X #[J a1 (D u.aA) c1,J a2 (D u.aE) c2,J a3 (D u.aG) c3,J a4 (D u.aC) c4,J a5 (D u.aD) c5,.map (Y mb),O Z c,O Z f] 235);have ai:=(Gr.refl w).alloc (X #[J a1 (D u.aA) c1,J a2 (D u.aE) c2,J a3 (D u.aG) c3,J a4 (D u.aC) c4,J a5 (D u.aD) c5,.map (Y mb),O Z c,O Z f] 235);have KS:U (∀w',Gr _ w'->H w' ⟨_,0,_⟩=Y (J _ _ _)/\H w' ⟨_,1,_⟩=Y (J _ _ _)/\H w' ⟨_,2,_⟩=Y (J _ _ _)/\H w' ⟨_,3,_⟩=Y (J _ _ _)/\H w' ⟨_,4,_⟩=Y (J _ _ _)/\H w' ⟨_,5,_⟩=Y (.map _)/\H w' ⟨_,6,_⟩=Y (.int _ _)/\H w' ⟨_,7,_⟩=Y (.int _ f)):=aJ (λw' g=>by
  have e0:=(g.block _ Q6 Q6).trans TI;refine⟨?_,?_,?_,?_,?_,?_,?_,?_⟩<;>(rw[aP e0];rfl))
 have XA:U (∀w' v,Gr _ w'->H (w'.setCell _ v) ⟨_,0,_⟩=Y (J _ _ _)/\H (w'.setCell _ v) ⟨_,1,_⟩=Y (J _ _ _)/\H (w'.setCell _ v) ⟨_,2,_⟩=Y (J _ _ _)/\H (w'.setCell _ v) ⟨_,3,_⟩=Y (J _ _ _)/\H (w'.setCell _ v) ⟨_,4,_⟩=Y (J _ _ _)/\H (w'.setCell _ v) ⟨_,5,_⟩=Y (.map _)/\H (w'.setCell _ v) ⟨_,6,_⟩=Y (.int _ _)/\H (w'.setCell _ v) ⟨_,7,_⟩=Y (.int _ _)):=aJ (λw' v g=>by
  have e0:(w'.setCell ⟨_,k*3+1,G⟩ v).heap[w.heap.size]? =_:=(dp _ _ _ _ (by show w.heap.size≠cb;omega)).trans ((g.block _ Q6 Q6).trans TI);refine⟨?_,?_,?_,?_,?_,?_,?_,?_⟩<;>(rw[aP e0];rfl))
 have ae:=ai.cell ak Q6;have Ua:=aJ ai;have WW:=aJ Tf;have HM:=aJ hM;have HI:=aJ hi;have T5:U (∀w' x,Gr w w'->Jj B _ _ _ _ w _ _):=aJ (λw' x g=>by
  obtain⟨h1,h2⟩:=(eO WW g).stored (k*3+1) (O Z x);rw[yl l k i x HI]at h1;exact⟨rfl,h1,rz (Bb g) h2⟩)
 obtain⟨i_op,d,F⟩:=i;have aB:=(jo hM.ok).2.1;by_cases h0:i_op=0
 · subst h0;have av:0<=d/\d<=65535:=by
    simp only[bl,bR,ah,wB]at Tb;simp at Tb;omega
   obtain⟨a,rfl⟩:∃a:R,d=a:=⟨d.toNat,Q5⟩;obtain⟨q,hq⟩:∃q:A,(if a<D u.aE then (c:A)+a else 65535)=q:=⟨_,rfl⟩;have HE:U (Bl N u c f ⟨0,a,F⟩=⟨0,q,F⟩):=aJ (by rw[<-hq];simp[Bl]);have al:U (∀w',Calls _ _ #[.agg #[J a1 _ c1,J a2 _ c2,J a3 _ c3,J a4 _ c4,J a5 _ c5,.map (Y mb),.int _ _,.int _ f],.int _ a] _ λx w2=>x=.returned (.int _ q)/\Gr w' _):=aJ (λw'=>by rw[<-hq];exact vO u _ c f _ _ _ _ _ _ _ _ _ _ a _ hc Q5 Q5);go_enter func153,ntmps153
   go_upto_region 3 with fail
   have ad:=Ua.cell VW Q6;generalize w.alloc _=W1 at KS XA Ua ae ad |-;refine xE (S:=(λw'=>H w' _=Y _/\H w' _=Y _/\H w' _=Y _/\H w' _=Y _/\H w' _=Y _/\H w' _=Y _/\H w' _=Y _/\H w' _=Y _)) Q7 (KS _ Gy) λhH=>?_;refine tL 0 ?_;refine tL 1 ?_;refine tL 2 ?_;refine tL 3 ?_;refine tL 4 ?_;refine bQ (i:=5) rfl Q7 λK hK=>?_;refine aW bZ ?_;have HK:=aJ hK;go_simp
   refine HK _ _ (KS _ Gy) λhH=>?_;try simp only[Act.put,sA,s0,s1]
   refine bQ (i:=6) rfl Q7 λK hK=>?_;refine am rfl _ _ _ rfl _ fZ (Tryz.callCn _ _) ((al _).mono ?_);exact NN
 · by_cases af:i_op=13
   · subst af;have av:0<=d/\d<=65535:=by
      simp only[bl,bR,ah,wB]at Tb;simp at Tb;omega
     obtain⟨a,rfl⟩:∃a:R,d=a:=⟨d.toNat,Q5⟩;have HE:U (Bl N u c f ⟨13,a,F⟩=⟨13,oP N u f a,F⟩):=aJ (by simp[Bl]);go_enter func153,ntmps153
     go_upto_region 5 with fail
     have ad:=Ua.cell VW Q6;generalize w.alloc _=W1 at KS XA Ua ae ad |-;refine xE (S:=(λw'=>H w' _=Y _/\H w' _=Y _/\H w' _=Y _/\H w' _=Y _/\H w' _=Y _/\H w' _=Y _/\H w' _=Y _/\H w' _=Y _)) Q7 (KS _ Gy) λhH=>?_;refine tL 0 ?_;refine tL 1 ?_;refine tL 2 ?_;refine tL 3 ?_;refine tL 4 ?_;refine bQ (i:=5) rfl Q7 λK hK=>?_;refine aW bZ ?_;have HK:=aJ hK;go_simp
     refine HK _ _ (KS _ Gy) λhH=>?_;try simp only[Act.put,sA,s0,s1]
     refine bQ (i:=6) rfl Q7 λK hK=>?_;refine am rfl _ _ _ rfl _ fZ (Tryz.callFn _ _) ((xg W u _ c f N a1 a2 _ _ a5 c1 c2 _ _ c5 a _ (HM.step (Ua.trans Gy)) hf Q5).mono ?_);exact NN
   · have HE:U (l.set k (Bl N u c f _)=l):=aJ (by
      have:Bl N u c f ⟨i_op,d,F⟩=⟨i_op,d,F⟩:=by simp[Bl,h0,af]
      rw[this];exact E3 HI)
     have aF:(i_op==0)=AS:=by simpa using h0
     have ay:(i_op==13)=AS:=by simpa using af
     go_enter func153,ntmps153
     go_wp2_with fail;go_end0
     rw[HE];exact⟨rfl,eO WW Ua,Bb Ua⟩
theorem Tryz.callCpI(vals:Array M)(w:T):(callFunc 126 vals).run Tryz.prog w=.ok (.enter 126 vals) w:=Q7
theorem Tryz.callRen(vals:Array M)(w:T):(callFunc 153 vals).run Tryz.prog w=.ok (.enter 153 vals) w:=Q7
theorem Tryz.callClo(vals:Array M)(w:T):(callFunc 151 vals).run Tryz.prog w=.ok (.enter 151 vals) w:=Q7
theorem Tryz.infFn:(Tryz.prog.info? 74).map (·.size)=Y 4:=Q7
theorem Tryz.infEx:(Tryz.prog.info? 71).map (·.size)=Y 2:=Q7
def He(N:I AI->By (aQ×A))(u:aK)(c f:R)(g:aQ):aQ:={ g with code:=g.code.map (Bl N u c f) }
def Fw(v v':M):Prop:=∀k,v.ownBlock=Y k->¬v'.ownBlock=Y k
theorem Fw.symm{v v':M}(h:Fw v v'):Fw v' v:=λk F d=>h k d F
def LH(g:aQ)(w:T)(x:Ending)(w':T):Prop:=∃vp vl vc,x=.returned (.agg #[vp,O Z g.result,vl,vc])/\w'.ownsRow w.heap.size 3 1 vp (D g.aH) (fK g.aH)/\w'.ownsRow w.heap.size 3 1 vl (D g.aI) (fK g.aI)/\w'.ownsRow w.heap.size 87 3 vc (D g.code) (g.code.flatMap cC)/\Fw vp vl/\Fw vp vc/\Fw vl vc/\Gr w w'
theorem Jd{α:Type}{m:α->α}{l:I α}{x:α}(h:l[k]? =Y x):((l.take k).map m++l.drop k)[k]? =Y x/\((l.take k).map m++l.drop k).set k (m x)=(l.take (k+1)).map m++l.drop (k+1):=by
 obtain⟨d,rfl⟩:=dm.1 h;have e:D ((l.take k).map m)=k:=QL
 constructor
 · rw[Ag Q5,e,Lf,Be d];rfl
 rw[List.set_append_right _ _ Q5,e,Lf,Be d,List.set_cons_zero,AB d,Ju,zx];rfl
theorem rH{d:R}{v:M}(h:w.ownsRow b e size v n xs)(F:d<=b):w.ownsRow d e size v n xs:=by
 refine⟨h.1,?_⟩;rcases h.2 with h|⟨g,cap,cur,e1,e2,r⟩
 · exact .inl h
 exact .inr ⟨g,_,_,e1,wz F e2,r⟩
theorem DT{cb:R}(h:Gr W w)(g:w.grownBy w' (Y cb))(d:W.heap.size<=cb):Gr W w':=D1 h g d
theorem rQ{g:R}{cs:Array M}(h:Gr W w)(d:W.heap.size<=g):Gr W (w.setRow g cs):=
 ⟨h.os,h.tape,h.output,Rh,λi hi No=>by rw[Kk w g i _ Q5];exact h.block i hi No⟩
theorem wC{b2:R}{e2:TypeId}{s s2:R}{v v2:M}{n2:R}{d:I M}(h:w.ownsRow b e s v n xs)(F:w2.ownsRow b2 e2 s2 v2 n2 d)(hb:w.heap.size<=b2):Fw v v2:=λk h1 h3=>by
 have:=(h.lt k h1).2
 have:=(F.lt k h3).1
 omega
theorem Qr{p:Prop}(h:p:=by simp[Value.oneCell']):p:=h
theorem Rq{p:Prop}(h:p:=by rw[aP VI];rfl):p:=h
theorem DZ(W:T)(u:aK)(mb c f:R)(N:I AI->By (aQ×A))(a1 a2 a3 a4 a5:By Addr)(c1 c2 c3 c4 c5:R)(g:aQ)(ap al ac:By Addr)(cp cl cc:R)(w:T)(hM:CT W w u mb N a3 c3 a4 c4)(hc:c<=1000)(hf:f<=1000)
 (rp:aY w (J ap (D g.aH) cp) g.aH) (rl:aY w (J al (D g.aI) cl) g.aI) (rc:eC w (J ac (D g.code) cc) g.code) (b4:D g.aH<=1000) (b1:D g.aI<=1000) (b2:D g.code<=1000) (Tb:g.code.all bl=AT):
 Calls prog 127 #[.agg #[J a1 (D u.aA) c1,J a2 (D u.aE) c2,J a3 (D u.aG) c3,J a4 (D u.aC) c4,J a5 (D u.aD) c5,.map (Y mb),O Z (c:A),O Z (f:A)],.agg #[J ap (D g.aH) cp,O Z g.result,J al (D g.aI) cl,J ac (D g.code) cc]] w (LH (He N u c f g) w):=by
 have TI:=jZ w (X #[J a1 (D u.aA) c1,J a2 (D u.aE) c2,J a3 (D u.aG) c3,J a4 (D u.aC) c4,J a5 (D u.aD) c5,.map (Y mb),O Z c,O Z f] 235);have S9:=jZ (w.alloc (X #[J a1 (D u.aA) c1,J a2 (D u.aE) c2,J a3 (D u.aG) c3,J a4 (D u.aC) c4,J a5 (D u.aD) c5,.map (Y mb),O Z c,O Z f] 235)) (X #[J ap (D g.aH) cp,O Z g.result,J al (D g.aI) cl,J ac (D g.code) cc] 74);have a0:=jZ ((w.alloc (X #[J a1 (D u.aA) c1,J a2 (D u.aE) c2,J a3 (D u.aG) c3,J a4 (D u.aC) c4,J a5 (D u.aD) c5,.map (Y mb),O Z c,O Z f] 235)).alloc (X #[J ap (D g.aH) cp,O Z g.result,J al (D g.aI) cl,J ac (D g.code) cc] 74)) (X #[J G 0 0,O Z 0,J G 0 0,J G 0 0] 74);have s9:(w.alloc (X #[J a1 (D u.aA) c1,J a2 (D u.aE) c2,J a3 (D u.aG) c3,J a4 (D u.aC) c4,J a5 (D u.aD) c5,.map (Y mb),O Z c,O Z f] 235)).heap.size=w.heap.size+1:=Q6;have s2:((w.alloc (X #[J a1 (D u.aA) c1,J a2 (D u.aE) c2,J a3 (D u.aG) c3,J a4 (D u.aC) c4,J a5 (D u.aD) c5,.map (Y mb),O Z c,O Z f] 235)).alloc (X #[J ap (D g.aH) cp,O Z g.result,J al (D g.aI) cl,J ac (D g.code) cc] 74)).heap.size=w.heap.size+2:=Q6;have s3:(((w.alloc (X #[J a1 (D u.aA) c1,J a2 (D u.aE) c2,J a3 (D u.aG) c3,J a4 (D u.aC) c4,J a5 (D u.aD) c5,.map (Y mb),O Z c,O Z f] 235)).alloc (X #[J ap (D g.aH) cp,O Z g.result,J al (D g.aI) cl,J ac (D g.code) cc] 74)).alloc (X #[J G 0 0,O Z 0,J G 0 0,J G 0 0] 74)).heap.size=w.heap.size+3:=Q6;rw[s9]at S9;rw[s2]at a0;have Ta:Gr w (((w.alloc (X #[J a1 (D u.aA) c1,J a2 (D u.aE) c2,J a3 (D u.aG) c3,J a4 (D u.aC) c4,J a5 (D u.aD) c5,.map (Y mb),O Z c,O Z f] 235)).alloc (X #[J ap (D g.aH) cp,O Z g.result,J al (D g.aI) cl,J ac (D g.code) cc] 74)).alloc (X #[J G 0 0,O Z 0,J G 0 0,J G 0 0] 74)):=(((Gr.refl w).alloc _).alloc _).alloc _;have g2:Gr _ (((w.alloc (X #[J a1 (D u.aA) c1,J a2 (D u.aE) c2,J a3 (D u.aG) c3,J a4 (D u.aC) c4,J a5 (D u.aD) c5,.map (Y mb),O Z c,O Z f] 235)).alloc (X #[J ap (D g.aH) cp,O Z g.result,J al (D g.aI) cl,J ac (D g.code) cc] 74)).alloc (X #[J G 0 0,O Z 0,J G 0 0,J G 0 0] 74)):=(G0).alloc _;have g1:Gr _ (((w.alloc (X #[J a1 (D u.aA) c1,J a2 (D u.aE) c2,J a3 (D u.aG) c3,J a4 (D u.aC) c4,J a5 (D u.aD) c5,.map (Y mb),O Z c,O Z f] 235)).alloc (X #[J ap (D g.aH) cp,O Z g.result,J al (D g.aI) cl,J ac (D g.code) cc] 74)).alloc (X #[J G 0 0,O Z 0,J G 0 0,J G 0 0] 74)):=(G5).alloc _;have KH:U (∀w',Gr _ w'->w'.heap[w.heap.size]? =Y _/\w'.heap[w.heap.size+1]? =Y _/\w'.heap[w.heap.size+2]? =Y _):=aJ (λw' g=>
  ⟨((g1.trans g).block _ (by rw[s9];omega) Q6).trans TI,((g2.trans g).block _ (by rw[s2];omega) Q6).trans S9,(g.block _ (by rw[s3];omega) Q6).trans a0⟩)
 have KM:U (∀w',Gr _ w'->H w' ⟨_,0,_⟩=Y (J _ _ _)/\H w' ⟨_,1,_⟩=Y (J _ _ _)/\H w' ⟨_,2,_⟩=Y (J _ _ _)/\H w' ⟨_,3,_⟩=Y (J _ _ _)/\H w' ⟨_,4,_⟩=Y (J _ _ _)/\H w' ⟨_,5,_⟩=Y (.map _)/\H w' ⟨_,6,_⟩=Y (.int _ c)/\H w' ⟨_,7,_⟩=Y (.int _ _)):=aJ (λw' g=>by
  have e0:=(KH _ g).1;refine⟨?_,?_,?_,?_,?_,?_,?_,?_⟩<;>(rw[aP e0];rfl))
 have KF:U (∀w',Gr _ w'->H w' ⟨_,0,_⟩=Y (J _ _ _)/\H w' ⟨_,1,_⟩=Y (.int _ _)/\H w' ⟨_,2,_⟩=Y (J _ _ _)/\H w' ⟨_,3,_⟩=Y (J _ _ _)):=aJ (λw' g=>by
  have e0:=(KH _ g).2.1;refine⟨?_,?_,?_,?_⟩<;>(rw[aP e0];rfl))
 have Te:=aJ Ta;have HM:=aJ hM;have bB:=aJ rp;have b0:=aJ rl;have UF:=aJ Tb;have a6:=aJ (AM _ _ _ (rc.gr Ta) Q5);have az:=aJ s3;go_enter func127,ntmps127
 go_upto_region 1 with fail
 generalize (((w.alloc _).alloc _).alloc _)=V3 at KH KM KF Te a6 az |-;obtain⟨f0,f1,f2,f3⟩:=KF _ G0;go_wp2_with fail;refine a6.mono ?_;rintro x w4 ⟨vc,rfl,aL,bF⟩;obtain⟨acc,d,rfl⟩:=aR aL;have aB:=aJ aL;have Tg:=aJ bF;go_wp2_with fail;go_loopw[12] (λi wr=>∃k:R,i=O Z (k:A)/\k<=D g.code/\wr.ownsRow V3.heap.size 87 3 (J acc (D g.code) d) (D g.code) (((g.code.take k).map (Bl N u c f)++g.code.drop k).flatMap cC)/\Gr V3 wr) λi _=>D g.code-(intOf i).toNat
 case atStart=>exact⟨0,rfl,Lz,by simpa using aB.j,Tg⟩
 obtain⟨k,rfl,hk,ho,bp⟩:=hrel;have HO:=aJ ho;have TS:=aJ bp;by_cases IN:k<D g.code
 · obtain⟨i,hi⟩:=aU IN;obtain⟨cb,cap,aM,bj,b3⟩:∃cb cap,J _ _ _=J _ _ cap/\V3.heap.size<=cb/\cb<wr.heap.size:=by
    rcases HO.2 with⟨e,e2⟩|⟨cb,cap,cur,e,hB,hh,_⟩
    · omega
    exact⟨_,_,e,hB,(eJ.1 hh).1⟩
   simp only[jj,Bt]at aM;obtain⟨rfl,rfl⟩:=aM;obtain⟨m1,m2⟩:=Jd (m:=Bl N u c f) hi;have bt:=zl.1 UF i (dL hi);have a8:=aJ (wL W u _ c f N a1 a2 _ _ a5 c1 c2 _ _ c5 _ _ _ _ k _ i _ (HM.step (Te.trans TS.drew)) hc hf (L7 HO) jB m1 bt);rw[m2]at a8;have UB:(k:A)<D g.code:=Q5;have hw:Z.wrap _=k+1:=Q_;go_upto_region 5 with fail
   refine xE (S:=(λw'=>H w' _=Y _/\H w' _=Y _/\H w' _=Y _/\H w' _=Y _/\H w' _=Y _/\H w' _=Y _/\H w' _=Y _/\H w' _=Y _)) Q7 (KM _ (Gr.drew TS)) λhH=>?_;refine tL 0 ?_;refine tL 1 ?_;refine tL 2 ?_;refine tL 3 ?_;refine bQ (i:=4) rfl Q7 λK hK=>?_;refine am rfl _ _ _ rfl _ fZ (Tryz.callRen _ _) (a8.mono ?_);rintro z w5 ⟨rfl,bo,Th⟩;have Tu:=aJ (DT TS.drew Th bj);have bk:=aJ bo;refine .inl ⟨_,rfl,?_⟩;refine hK _ _ (KM _ Tu) λhH=>?_;try simp only[Act.put,sA,s0,s1]
   refine Ev Q7 ?_ _;go_wp2_with fail;refine⟨⟨_,Q6,IN,bk,Tu⟩,Qh⟩
 · have bL:k=D g.code:=by omega
   subst bL;have TE:=aJ (by have:=HO.j;simpa using this);have a7:w.heap.size+3<=wr.heap.size:=by have:=TS.size;have:=az.j;omega
   go_upto_region 7 with fail
   refine xE (S:=(λw'=>H w' _=Y _/\H w' _=Y _/\H w' _=Y _/\H w' _=Y _)) Q7 (KF _ (Gr.drew TS)) λhH=>?_;refine tL 0 ?_;refine tL 1 ?_;refine tL 3 ?_;refine tL 4 ?_;refine tL 5 ?_;refine tL 6 ?_;refine tL 8 ?_;refine bQ (i:=2) rfl Q7 λK hK=>?_;refine am rfl _ _ _ rfl _ fZ (Tryz.callCpI _ _) ((nh _ _ _ (bB.gr (Te.trans TS.drew)) Q5).mono ?_);rintro x w1 ⟨v,rfl,av,S5⟩;obtain⟨ad,af,rfl⟩:=aR av;have Td:=aJ S5;have ax:=aJ av;refine .inl ⟨_,rfl,?_⟩;refine hK _ _ (KF _ (TS.drew.trans Td)) λhH=>?_;try simp only[Act.put,sA,s0,s1]
   refine bQ (i:=7) rfl Q7 λK hK=>?_;refine am rfl _ _ _ rfl _ fZ (Tryz.callCpI _ _) ((nh _ _ _ (b0.gr (Te.trans (TS.drew.trans Td))) Q5).mono ?_);rintro x w2 ⟨v,rfl,ay,IT⟩;obtain⟨ae,F,rfl⟩:=aR ay;have bg:=aJ (wC ax ay lj);have a9:=aJ (eO ax IT);have a':=aJ (rH ay Td.size);have ai:=TS.drew.trans (Td.trans IT);have OF:=aJ (Td.trans IT);refine .inl ⟨_,rfl,?_⟩;refine hK _ _ (KF _ ai) λhH=>?_;try simp only[Act.put,sA,s0,s1]
   have bC:U (H (w2.setRow _ _) ⟨_,0,_⟩=Y (J _ _ _)/\H (w2.setRow _ _) ⟨_,1,_⟩=Y (.int _ _)/\H (w2.setRow _ _) ⟨_,2,_⟩=Y (J _ _ _)/\H (w2.setRow _ _) ⟨_,3,_⟩=Y (J _ _ _)):=aJ (by
    have e0:=(KH _ ai).2.1;have e1:(w2.setRow (w.heap.size+2) #[J ad (D g.aH) af,O Z g.result,J ae (D g.aI) F,J acc (D g.code) d]).heap[w.heap.size+1]? =_:=(Kk _ _ _ _ Q5).trans e0;refine⟨?_,?_,?_,?_⟩<;>(rw[aP e1];rfl))
   refine tL 9 ?_;refine bQ (i:=10) rfl Q7 λK hK=>?_;refine aW bZ (Lc 74 _ _ rfl _ #[J ad (D g.aH) af,O Z g.result,J ae (D g.aI) F,J acc (D g.code) d] bZ fZ 74 _ (KH.j w2 ai).2.2 Tryz.infFn rfl Qr ?_);refine hK _ _ (bC) λhH=>?_;try simp only[Act.put,sA,s0,s1]
   refine Ev Q7 ?_ _;have VI:=Kg _ _ _ #[J ad (D g.aH) af,O Z g.result,J ae (D g.aI) F,J acc (D g.code) d] _ _ (KH _ ai).2.2;have e0:H (w2.setRow (w.heap.size+2) #[J ad (D g.aH) af,O Z g.result,J ae (D g.aI) F,J acc (D g.code) d]) ⟨w.heap.size+2,0,G⟩=Y (J ad (D g.aH) af):=Rq
   have e1:H (w2.setRow (w.heap.size+2) #[J ad (D g.aH) af,O Z g.result,J ae (D g.aI) F,J acc (D g.code) d]) ⟨w.heap.size+2,1,G⟩=Y (O Z g.result):=Rq
   have e2:H (w2.setRow (w.heap.size+2) #[J ad (D g.aH) af,O Z g.result,J ae (D g.aI) F,J acc (D g.code) d]) ⟨w.heap.size+2,2,G⟩=Y (J ae (D g.aI) F):=Rq
   have e3:H (w2.setRow (w.heap.size+2) #[J ad (D g.aH) af,O Z g.result,J ae (D g.aI) F,J acc (D g.code) d]) ⟨w.heap.size+2,3,G⟩=Y (J acc (D g.code) d):=Rq
   go_wp2_with fail;refine qn (v:=.agg #[J ad (D g.aH) af,O Z g.result,J ae (D g.aI) F,J acc (D g.code) d]) (by simp[results,results127,go_sem,e0,e1,e2,e3]) rfl ?_;have aF:=rQ (cs:=#[J ad (D g.aH) af,O Z g.result,J ae (D g.aI) F,J acc (D g.code) d]) (Te.trans ai) (g:=w.heap.size+2) Q5;have ak:∀(b:R) (e:TypeId) (s:R) (v:M) (n:R) (xs:I _),w.heap.size+3<=b->w2.ownsRow b e s v n xs->(w2.setRow (w.heap.size+2) #[J ad (D g.aH) af,O Z g.result,J ae (D g.aI) F,J acc (D g.code) d]).ownsRow w.heap.size e s v n xs:=by
    intro b e s v n xs hb ho;refine rH (b:=b) ?_ Q5;refine⟨ho.1,?_⟩;rcases ho.2 with h|⟨gg,cap,cur,e1,e2,e3,r⟩
    · exact .inl h
    exact .inr ⟨_,_,_,e1,e2,by rw[Kk _ _ _ _ Q5];exact e3,r⟩
   have Wr:=az.j;have aB:=eO (L7 TE) OF;refine⟨_,_,_,rfl,ak _ _ _ _ _ _ a7 a9,ak _ _ _ _ _ _ a7 a',?_,bg,?_,?_,aF⟩
   · have:=ak _ _ _ _ _ _ Q5 aB
     simpa[He]using this
   · exact(wC (L7 TE) a9 lj).symm
   exact(wC (L7 TE) a' lj).symm
end Go.Proofs.YtghjmnlapcpbiaaGreatDoor
