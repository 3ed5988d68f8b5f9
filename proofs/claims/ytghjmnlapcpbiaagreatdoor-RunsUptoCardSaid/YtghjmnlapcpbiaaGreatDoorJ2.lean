import Derived.Deep.RegionLaw
import Derived.Test.YtghjmnlapcpbiaaGreatDoorZ7
namespace Go.Proofs.YtghjmnlapcpbiaaGreatDoor
open _root_ renaming Option.some->Y,Option.none->G,Go.Value.int->O,Go.IntKind.i64->Z,Go.Value.slice->J,List->I,Nat->R,Int->A,Go.World.cell?->H,List.length->D,Go.Obj.cells->X,Go.Value->M,Go.World->T,Go.Addr.mk->Q,Go.RowKit.Hid->U,UInt8->AI,Bool.false->AS,Bool.true->AT,Option->By
open Go.Proofs.Tryz
open Go.RowKit
set_option linter.defProp false
variable{arr:Array M}{res:A}{l l' ps s sl ts:I A}{B N b c c1 g k lb lo mb n o q:R}{dn:R->Bool}{m:R->By M}{P:R->Prop}{a1 ao:By Addr}{t:TypeId}{v1 v2 v3 v4 v5 vc vp vs vt vw vw' x x0 x1 x10 x11 x2 x3 x4 x5 x6 x7 x8 x9 y0 y1 y2 y3 y4 y5 y6 y7:M}{W W0 a w w' w1 w2:T}{u:aK}{i:bP}
def Lm:=@World.ownsRow.lt
def Lu:=@Option.isSome_some.{0}
def L6:=@Option.isSome_none.{0}
def ML:=@Go.IntWalk.wrap64_in
set_option maxRecDepth 100000
set_option maxHeartbeats 4000000
set_option linter.unusedVariables false
set_option linter.unusedSimpArgs false
open Go.RowKit
attribute [local go_sem ↓] Go.wp_at_zero Go.wp_at_succ
theorem mD(ao:By Addr)(n cap:R)(w:T):Calls prog 131 #[J ao n cap] w λx w'=>x=.returned (O Z (n:A))/\w'=w:=by
 go_enter func131,ntmps131
 go_wp2;go_ret
 exact⟨rfl,rfl⟩
theorem Ae(B g cap i j:R)(l:I A)(w:T)(h:fF w B (J (Y (Q g 0 G)) (D l) cap) l)(hi:i<D l)(F:j<D l):
 Calls prog 185 #[J (Y (Q g 0 G)) (D l) cap,O Z (i:A),O Z (j:A)] w λx w'=>x=.returned (.bool (decide (dg l i<dg l j)))/\Gr w w':=by
 obtain⟨g',Un,he,_,_,d,_⟩:=h.at Q5;simp only[jj,qN,Ij,I7,Bt]at he;obtain⟨rfl,rfl⟩:=he;have h1:=d i hi;have h2:=d j F;generalize dg l i=x at h1 |-;generalize dg l j=y at h2 |-;generalize (D l)=n at hi F;have S9:(i:A)<n:=Q5;have ad:(j:A)<n:=Q5;go_enter func185,ntmps185
 go_wp2_with fail;go_quiet (fail)
 go_wp2_with fail;go_ret
 exact⟨rfl,⟨rfl,rfl,rfl,lj,λ_ _ _=>rfl⟩⟩
theorem fF.swap{cap:R}(h:fF w B (J (Y (Q g 0 G)) (D l) cap) l)(i j:R):fF ((w.setCell (Q g i G) (O Z (dg l j))).setCell (Q g j G) (O Z (dg l i))) B (J (Y (Q g 0 G)) (D l) cap) (i7 l i j):=by
 have h1:=h.set i (dg l j);have d:D (l.set i (dg l j))=D l:=Q6;rw[<-d]at h1;have F:=h1.set j (dg l i);rw[d]at F;exact F
theorem Bg{v:M}:w.grownBy (w.setCell (Q g o G) v) (Y g):=⟨rfl,rfl,rfl,Q6,λk _ d=>dp _ _ _ _ λe=>d (by rw[e])⟩
theorem lF{b c:T}(h:a.grownBy b (Y g))(k:b.grownBy c (Y g)):a.grownBy c (Y g):=⟨k.os.trans h.os,k.tape.trans h.tape,k.output.trans h.output,wz h.size k.size,λi hi No=>(k.block i (tu hi h.size) No).trans (h.block i hi No)⟩
theorem Ad(B g cap i j:R)(l:I A)(w:T)(h:fF w B (J (Y (Q g 0 G)) (D l) cap) l)(hi:i<D l)(hj:j<D l):
 Calls prog 187 #[J (Y (Q g 0 G)) (D l) cap,O Z (i:A),O Z (j:A)] w λx w'=>x=.returned (.tuple #[])/\fF w' B (J (Y (Q g 0 G)) (D l) cap) (i7 l i j)/\w.grownBy w' (Y g):=by
 have HH:=aJ h;obtain⟨g',Un,he,_,_,hc,hz⟩:=h.at Q5;simp only[jj,qN,Ij,I7,Bt]at he;obtain⟨rfl,rfl⟩:=he;have h1:=hc i hi;have h2:=hc j hj;have z1:=hz i;have z2:=hz j;clear hc hz h;have d:=aJ (HH.swap i j);generalize dg l i=x at h1 d;generalize dg l j=y at h2 d;have k1:H (w.setCell (Q g i G) (O Z y)) (Q g j G)=Y (O Z y):=by
  by_cases e:i=j
  · subst e;exact tO _ _ _ h1
  rw[Cn _ _ _ _ (by intro h;simp only[Ij,Bt,I7]at h;exact e h)];exact h2
 generalize hn:D l=n at hi hj;have S9:(i:A)<n:=Q5;have ad:(j:A)<n:=Q5;go_enter func187,ntmps187
 go_wp2_with fail;go_region
 all_goals go_wp2_with fail
 all_goals go_end0
 all_goals exact⟨rfl,(by subst hn;exact d.j),by first|exact lF Bg Bg|(have F:w.grownBy ((w.setCell (Q g i G) (O Z y)).setCell (Q g j G) (O Z x)) (Y g):=lF Bg Bg;exact⟨F.os,F.tape,F.output,F.size,F.block⟩)⟩
theorem Pz{p:Prop}(h:p:=by obtain⟨a,n,c,rfl⟩:=hv;rw[e];simp[go_sem,h]):p:=h
theorem Hq(w:World)(lb lo:Nat)(v:Value)(h:w.cell? ⟨lb,lo,none⟩=some v)(hv:∃a n c,v=.slice a n c):(method 397 242 (.pointer (some ⟨lb,lo,none⟩)) "Len").run prog w=.ok (131,v) w:=by
 have e:(method 397 242 (.pointer (some ⟨lb,lo,none⟩)) "Len").run prog w=(do let x←loadVar 172 ⟨lb,lo,none⟩;pure (131,x):Sem _).run prog w:=Q7;exact Pz
theorem rV(w:World)(lb lo:Nat)(v:Value)(h:w.cell? ⟨lb,lo,none⟩=some v)(hv:∃a n c,v=.slice a n c):(method 397 242 (.pointer (some ⟨lb,lo,none⟩)) "Less").run prog w=.ok (185,v) w:=by
 have e:(method 397 242 (.pointer (some ⟨lb,lo,none⟩)) "Less").run prog w=(do let x←loadVar 172 ⟨lb,lo,none⟩;pure (185,x):Sem _).run prog w:=Q7;exact Pz
theorem sP(w:World)(lb lo:Nat)(v:Value)(h:w.cell? ⟨lb,lo,none⟩=some v)(hv:∃a n c,v=.slice a n c):(method 397 242 (.pointer (some ⟨lb,lo,none⟩)) "Swap").run prog w=.ok (187,v) w:=by
 have e:(method 397 242 (.pointer (some ⟨lb,lo,none⟩)) "Swap").run prog w=(do let x←loadVar 172 ⟨lb,lo,none⟩;pure (187,x):Sem _).run prog w:=Q7;exact Pz
theorem IQ(w:World)(lb lo:Nat):(method 397 242 (.pointer (some ⟨lb,lo,none⟩)) "Push").run prog w=.ok (189,.pointer (some ⟨lb,lo,none⟩)) w:=Q7
theorem Jg(w:World)(lb lo:Nat):(method 397 242 (.pointer (some ⟨lb,lo,none⟩)) "Pop").run prog w=.ok (188,.pointer (some ⟨lb,lo,none⟩)) w:=Q7
structure mi(w:T)(lb lo B g cap n:R)(l:I A):Prop where
 cell:H w (Q lb lo G)=Y (J (Y (Q g 0 G)) n cap)
 len:D l=n
 row:fF w B (J (Y (Q g 0 G)) n cap) l
 lb:lb<B
 small:n<=1000000
theorem mi.ge{cap:R}(h:mi w lb lo B g cap n l):B<=g:=(Lm h.row g rfl).1
theorem mi.gr{cap:R}(h:mi w lb lo B g cap n l)(k:Gr w w'):mi w' lb lo B g cap n l:=
 ⟨k.cell h.cell Q6,h.len,h.row.keep λb d=>k.block b (Lm h.row b d).2 Q6,h.lb,h.small⟩
theorem mi.swap{cap:R}(h:mi w lb lo B g cap n l)(k:w.grownBy w' (Y g))(d:fF w' B (J (Y (Q g 0 G)) n cap) l')(F:D l'=D l):mi w' lb lo B g cap n l':=
 ⟨k.cell h.cell (by have:=h.ge;have:=h.lb;simp;omega),F.trans h.len,d,h.lb,h.small⟩
theorem yx{b c:T}(h:a.grownBy b (Y g))(k:Gr b c):a.grownBy c (Y g):=⟨k.os.trans h.os,k.tape.trans h.tape,k.output.trans h.output,wz h.size k.size,λi hi No=>(k.block i (tu hi h.size) Q6).trans (h.block i hi No)⟩
theorem Bz(g:R)(a:T):a.grownBy a (Y g):=⟨rfl,rfl,rfl,lj,λ_ _ _=>rfl⟩
theorem nU{cap i j:R}(F:D l=n)(h:fF w B (J (Y (Q g 0 G)) n cap) l)(hi:i<n)(d:j<n):
 Calls prog 185 #[J (Y (Q g 0 G)) n cap,O Z (i:A),O Z (j:A)] w λx w'=>x=.returned (.bool (decide (dg l i<dg l j)))/\Gr w w':=by
 subst F;exact Ae B g _ i j l w h hi d
theorem nT{cap i j:R}(d:D l=n)(h:fF w B (J (Y (Q g 0 G)) n cap) l)(hi:i<n)(F:j<n):
 Calls prog 187 #[J (Y (Q g 0 G)) n cap,O Z (i:A),O Z (j:A)] w λx w'=>x=.returned (.tuple #[])/\fF w' B (J (Y (Q g 0 G)) n cap) (i7 l i j)/\w.grownBy w' (Y g):=by
 subst d;exact Ad B g _ i j l w h hi F
def Ih(w:T)(lb lo B g cap n:R)(l:I A)(w':T):Prop:=∃l',mi w' lb lo B g cap n l'/\Hp (dg l') n/\kC (dg l) (dg l') n/\w.grownBy w' (Y g)
theorem Hy(lb lo B g cap n j:R)(l:I A)(w:T)(h:mi w lb lo B g cap n l)(hj:j<n)(hu:yP (dg l) n j):
 Calls prog 162 #[.iface 242 (.pointer (Y (Q lb lo G))),O Z (j:A)] w λx w'=>x=.returned (.tuple #[])/\Ih w lb lo B g cap n l w':=by
 have HH:=aJ h;have HU:=aJ hu;have az:=h.small;clear h hu;go_enter func162,ntmps162
 go_wp2_with fail;go_loopw[1] (λi wr=>∃(k:R) (l':I A),i=O Z (k:A)/\k<n/\mi wr lb lo B g cap n l'/\yP (dg l') n k/\kC (dg l) (dg l') n/\w.grownBy wr (Y g)) λi _=>(intOf i).toNat
 case atStart=>exact⟨j,l,rfl,hj,HH,HU,kC.refl _ _,Bz _ _⟩
 obtain⟨k,l',rfl,hk,h1,h2,h3,h4⟩:=hrel;have H1:=aJ h1;have H2:=aJ h2;have H3:=aJ h3;have H4:=aJ h4;have hc:=h1.cell;clear h1 h2 h3 h4;by_cases Vl:0<k
 · obtain⟨p1,Uz⟩:∃p1:R,p1+1=k:=⟨k-1,Q5⟩;obtain⟨q,hq⟩:∃q:R,p1/2=q:=⟨_,rfl⟩;have ai:Z.wrap (k-1)=p1:=by rw[Q_];omega
   have al:Z.wrap (p1/2)=q:=Qq
   have ay:wrap64 (p1/2)=q:=by rw[ML _ Q5];omega
   have No:¬q=k:=Q5;have ax:¬(q:A)=k:=Q5;have V7:((q:A)==k)=AS:=Rp
   have af:q=(k-1)/2:=Q5;have F:=aJ af;have d:q<n:=Q5;clear af Uz hq;have ak:=rV _ _ _ _ hc ⟨_,_,_,rfl⟩;go_wp2_with fail;refine(nU H1.len H1.row hk d).mono ?_;rintro x w2 ⟨rfl,IT⟩;have Uv:=aJ (H1.gr IT);have OF:=aJ (yx H4 IT);have TD:=Uv.cell;have ae:=sP _ _ _ _ TD ⟨_,_,_,rfl⟩;clear ak hc IT;by_cases IN:dg l' k<dg l' q
   · have hd:decide (dg l' k<dg l' q)=AT:=by simpa using IN
     rw[hd];have VQ:=aJ IN;clear hd IN;go_wp2_with fail;refine(nT Uv.len Uv.row d hk).mono ?_;rintro x w3 ⟨rfl,ad,Ta⟩;have av:=aJ (Uv.swap Ta ad (l9 _ _ _));have Te:=aJ (lF OF Ta);clear ad Ta ae TD;go_wp2_with fail;have e1:=ng (by rw[Uv.len];exact d) (by rw[Uv.len];exact hk);have Tj:=H2.step hk Vl (by have:=VQ.j;rw[F]at this;exact this);rw[<-F,<-e1]at Tj;have Vs:kC (dg l') (dg (i7 l' q k)) n:=by rw[e1];exact pt d hk
     refine⟨⟨q,_,rfl,d,av,Tj,H3.trans Vs,Te⟩,?_⟩;have:=F.j
     simp[intOf];omega
   have hd:decide (dg l' k<dg l' q)=AS:=by simpa using IN
   rw[hd];have VQ:=aJ IN;clear hd IN ae TD;go_wp2_with fail;go_end0
   exact⟨rfl,_,Uv,H2.stop (.inr (by have:=VQ.j;rw[F]at this;omega)),H3,OF⟩
 obtain rfl:k=0:=by omega
 have ai:Z.wrap (((0:R):A)-1)=-1:=SF
 have al:Z.wrap ((-1:A).tdiv 2)=0:=SF
 go_wp2_with fail;go_end0
 exact⟨rfl,_,H1,H2.stop (.inl rfl),H3,H4⟩
def Jv(P:T->Prop)(x:Ending)(w':T):Prop:=∃b,x=.returned (.bool b)/\P w'
def Gk(w:T)(lb lo B g cap N n:R)(l:I A)(w':T):Prop:=∃l',mi w' lb lo B g cap N l'/\Hp (dg l') n/\kC (dg l) (dg l') n/\dg l' n=dg l n/\w.grownBy w' (Y g)
theorem Qs{p:Prop}(h:p:=by have:=HJ.j;omega):p:=h
theorem N2{p:Prop}(h:p:=by
 rw[<-e1]at Tj;have Vs:kC (dg l') (dg (i7 l' k j1)) n:=by rw[e1];exact pt Qs Qs
 have Wb:dg (i7 l' k j1) n=dg l' n:=by rw[e1];unfold oL;rw[eP Qs,eP Qs]
 exact⟨⟨_,_,rfl,Qs,Xm,Tj,H3.trans Vs,Wb.trans H5,Xn⟩,by have:=HJ.j;simp[intOf];omega⟩):p:=h
theorem OB{p:Prop}(h:p:=by exact⟨_,rfl,_,VB,H2.stop (λd h1 h2 h3=>by have:=Vv d h1 h2 h3;have:=VQ.j;omega),H3,H5,Xc⟩):p:=h
theorem Rn{p:Prop}(h:p:=by rw[VB.len];have:=HJ.j;omega):p:=h
theorem Fq(lb lo B g cap N n:R)(l:I A)(w:T)(h:mi w lb lo B g cap N l)(hN:n<N)(hu:xL (dg l) n 0):
 Calls prog 158 #[.iface 242 (.pointer (Y (Q lb lo G))),O Z 0,O Z (n:A)] w (Jv (Gk w lb lo B g cap N n l)):=by
 have HH:=aJ h;have HU:=aJ hu;have a4:=h.small;clear h hu;go_enter func158,ntmps158
 go_wp2_with fail;go_loopw[7] (λi wr=>∃(k:R) (l':I A),i=O Z (k:A)/\k<N/\mi wr lb lo B g cap N l'/\xL (dg l') n k/\kC (dg l) (dg l') n/\dg l' n=dg l n/\w.grownBy wr (Y g)) λi _=>N-(intOf i).toNat
 case atStart=>exact⟨0,l,rfl,Q5,HH,HU,kC.refl _ _,rfl,Bz _ _⟩
 obtain⟨k,l',rfl,hk,h1,h2,h3,h5,h4⟩:=hrel;have H1:=aJ h1;have H2:=aJ h2;have H3:=aJ h3;have H4:=aJ h4;have H5:=aJ h5;have hc:=h1.cell;clear h1 h2 h3 h4 h5;obtain⟨m,hm⟩:∃m:R,2*k=m:=⟨_,rfl⟩;obtain⟨j1,UC⟩:∃j1:R,m+1=j1:=⟨_,rfl⟩;obtain⟨j2,Vq⟩:∃j2:R,j1+1=j2:=⟨_,rfl⟩;have ae:Z.wrap (2*k)=m:=Qq
 have af:Z.wrap (m+1)=j1:=Qq
 have ad:Z.wrap (j1+1)=j2:=Qq
 have ak:wrap64 (2*k)=m:=by rw[ML _ Q5];omega
 have ai:wrap64 (m+1)=j1:=by rw[ML _ Q5];omega
 have F:wrap64 (j1+1)=j2:=by rw[ML _ Q5];omega
 have al:=aJ (And.intro ae (And.intro af (And.intro ad (And.intro ak (And.intro ai F)))));clear ae af ad ak ai F;have HJ:U (j1=2*k+1/\j2=2*k+2):=aJ ⟨Q5,Q5⟩;have aL:=HJ.j;obtain⟨aE,aF⟩:=aL;have a3:¬(j1:A)<0:=Q5;clear hm UC Vq;by_cases a5:n<=j1
 · have aM:(n:A)<=j1:=by omega
   clear aE aF;obtain⟨ae,af,ad,ak,ai,F⟩:=al.j;go_wp2_with fail;clear ae af ad ak ai F;go_ret
   exact⟨_,rfl,_,H1,H2.stop (λd h1 h2 h3=>by have:=HJ.j;omega),H3,H5,H4⟩
 have aM:¬(n:A)<=j1:=by omega
 by_cases aI:j2<n
 · have a0:(j2:A)<n:=by omega
   have a2:=rV _ _ _ _ hc ⟨_,_,_,rfl⟩;have aH:j1<N:=Q5;have aG:j2<N:=Q5;clear aE aF;obtain⟨ae,af,ad,ak,ai,F⟩:=al.j;go_wp2_with fail;clear ae af ad ak ai F;refine(nU H1.len H1.row aG aH).mono ?_;rintro x w2 ⟨rfl,IT⟩;have Uv:=aJ (H1.gr IT);have OF:=aJ (yx H4 IT);clear a2 IT hc;by_cases aA:dg l' j2<dg l' j1
   · have aB:decide (dg l' j2<dg l' j1)=AT:=by simpa using aA
     rw[aB];have aD:=aJ aA;clear aB aA;have aC:=rV _ _ _ _ Uv.cell ⟨_,_,_,rfl⟩;obtain⟨ae,af,ad,ak,ai,F⟩:=al.j;go_wp2_with fail;clear ae af ad ak ai F;refine(nU Uv.len Uv.row Qs Qs).mono ?_;rintro x wl ⟨rfl,av⟩;have VB:=aJ (Uv.gr av);have Xc:=aJ (yx OF av);have ay:=sP _ _ _ _ VB.cell ⟨_,_,_,rfl⟩;clear aC av;by_cases IN:dg l' j2<dg l' k
     · have hd:decide (dg l' j2<dg l' k)=AT:=by simpa using IN
       rw[hd];have VQ:=aJ IN;clear hd IN;obtain⟨ae,af,ad,ak,ai,F⟩:=al.j;go_wp2_with fail;clear ae af ad ak ai F;refine(nT VB.len VB.row Qs Qs).mono ?_;rintro x ws ⟨rfl,az,ax⟩;have Xm:=aJ (VB.swap ax az (l9 _ _ _));have Xn:=aJ (lF Xc ax);clear az ax ay;obtain⟨ae,af,ad,ak,ai,F⟩:=al.j;go_wp2_with fail;clear ae af ad ak ai F;have e1:dg _=oL _ k _:=ng Rn Rn;have Tj:=H2.step Qs Qs Qs VQ λd h1 h2 h3=>by rcases(show d=j1\/d=j2 by have:=HJ.j;omega) with rfl|rfl<;>(have:=aD.j;omega)
       rw[<-e1]at Tj;have Vs:kC (dg l') (dg (i7 l' k j2)) n:=by rw[e1];exact pt Qs Qs
       have Wb:dg (i7 l' k j2) n=dg l' n:=by rw[e1];unfold oL;rw[eP Qs,eP Qs]
       exact⟨⟨_,_,rfl,Qs,Xm,Tj,H3.trans Vs,Wb.trans H5,Xn⟩,by have:=HJ.j;simp[intOf];omega⟩
     have hd:decide (dg l' j2<dg l' k)=AS:=by simpa using IN
     rw[hd];have VQ:=aJ IN;clear hd IN ay;obtain⟨ae,af,ad,ak,ai,F⟩:=al.j;go_wp2_with fail;clear ae af ad ak ai F;go_ret
     have Vv:∀d,0<d->d<n->(d-1)/2=k->dg l' j2<=dg l' d:=λd h1 h2 h3=>by rcases(show d=j1\/d=j2 by have:=HJ.j;omega) with rfl|rfl<;>(have:=aD.j;omega)
     exact OB
   have aB:decide (dg l' j2<dg l' j1)=AS:=by simpa using aA
   rw[aB];have aD:=aJ aA;clear aB aA;have aC:=rV _ _ _ _ Uv.cell ⟨_,_,_,rfl⟩;obtain⟨ae,af,ad,ak,ai,F⟩:=al.j;go_wp2_with fail;clear ae af ad ak ai F;refine(nU Uv.len Uv.row Qs Qs).mono ?_;rintro x wl ⟨rfl,av⟩;have VB:=aJ (Uv.gr av);have Xc:=aJ (yx OF av);have ay:=sP _ _ _ _ VB.cell ⟨_,_,_,rfl⟩;clear aC av;by_cases IN:dg l' j1<dg l' k
   · have hd:decide (dg l' j1<dg l' k)=AT:=by simpa using IN
     rw[hd];have VQ:=aJ IN;clear hd IN;obtain⟨ae,af,ad,ak,ai,F⟩:=al.j;go_wp2_with fail;clear ae af ad ak ai F;refine(nT VB.len VB.row Qs Qs).mono ?_;rintro x ws ⟨rfl,az,ax⟩;have Xm:=aJ (VB.swap ax az (l9 _ _ _));have Xn:=aJ (lF Xc ax);clear az ax ay;obtain⟨ae,af,ad,ak,ai,F⟩:=al.j;go_wp2_with fail;clear ae af ad ak ai F;have e1:dg _=oL _ k j1:=ng Rn Rn;have Tj:=H2.step Qs Qs Qs VQ λd h1 h2 h3=>by rcases(show d=j1\/d=j2 by have:=HJ.j;omega) with rfl|rfl<;>(have:=aD.j;omega)
     exact N2
   have hd:decide (dg l' j1<dg l' k)=AS:=by simpa using IN
   rw[hd];have VQ:=aJ IN;clear hd IN ay;obtain⟨ae,af,ad,ak,ai,F⟩:=al.j;go_wp2_with fail;clear ae af ad ak ai F;go_ret
   have Vv:∀d,0<d->d<n->(d-1)/2=k->dg l' j1<=dg l' d:=λd h1 h2 h3=>by rcases(show d=j1\/d=j2 by have:=HJ.j;omega) with rfl|rfl<;>(have:=aD.j;omega)
   exact OB
 have a0:¬(j2:A)<n:=by omega
 have VY:=aJ aI;clear aE aF;have aC:=rV _ _ _ _ H1.cell ⟨_,_,_,rfl⟩;obtain⟨ae,af,ad,ak,ai,F⟩:=al.j;go_wp2_with fail;clear ae af ad ak ai F;refine(nU H1.len H1.row Qs Qs).mono ?_;rintro x wl ⟨rfl,av⟩;have VB:=aJ (H1.gr av);have Xc:=aJ (yx H4 av);have ay:=sP _ _ _ _ VB.cell ⟨_,_,_,rfl⟩;clear aC av;by_cases IN:dg l' j1<dg l' k
 · have hd:decide (dg l' j1<dg l' k)=AT:=by simpa using IN
   rw[hd];have VQ:=aJ IN;clear hd IN;obtain⟨ae,af,ad,ak,ai,F⟩:=al.j;go_wp2_with fail;clear ae af ad ak ai F;refine(nT VB.len VB.row Qs Qs).mono ?_;rintro x ws ⟨rfl,az,ax⟩;have Xm:=aJ (VB.swap ax az (l9 _ _ _));have Xn:=aJ (lF Xc ax);clear az ax ay;obtain⟨ae,af,ad,ak,ai,F⟩:=al.j;go_wp2_with fail;clear ae af ad ak ai F;have e1:dg _=oL _ k j1:=ng Rn Rn;have Tj:=H2.step Qs Qs Qs VQ (λd h1 h2 h3=>Int.le_of_eq (congrArg _ (by have:=HJ.j;have:=VY.j;omega)));exact N2
 have hd:decide (dg l' j1<dg l' k)=AS:=by simpa using IN
 rw[hd];have VQ:=aJ IN;clear hd IN ay;obtain⟨ae,af,ad,ak,ai,F⟩:=al.j;go_wp2_with fail;clear ae af ad ak ai F;go_ret
 have Vv:∀d,0<d->d<n->(d-1)/2=k->dg _ j1<=dg l' d:=λd h1 h2 h3=>Int.le_of_eq (congrArg _ (by have:=HJ.j;have:=VY.j;omega))
 exact OB
theorem GN(w:T)(ys:Array M)(t:TypeId):∀j u,ys.toList[j]? =Y u->H (w.alloc (X ys t)) ((⟨w.heap.size,0,G⟩:Addr).add j)=Y u:=by
 exact Ov
theorem Tryz.infZ:(Tryz.prog.info? 3).map (λi=>(i.zero,i.size,i.bytes))=Y (Y (O Z 0),1,8):=Q7
theorem Tryz.uIs:Tryz.prog.underlying 172=Y (.slice 3):=Q7
theorem tf{ops:Array Oper}{o:Oper}{a:Act}{K:Act->T->Prop}{QQq:Exit->Act->T->Prop}{E:Prop}(w:T)(TA:o.guard=G)(s x:Operand)
 (ho:o.op=.call { callee:=.builtin .append,args:=#[s,x],argTypes:=#[172,172] })
 (base:R) (v:M) (l:I A) (y:A) (hs:a.eval s=v) (Tf:fF w base v l) (HHq:R) (hx:a.eval x=J (Y (Q HHq 0 G)) 1 1) (hH:w.heap.size=HHq) (hlen:D l<=1000000) (d:base<=w.heap.size)
 (h:∀ao cap w',fF w' base (J ao (D l+1) cap) (l++[y])->w.grownBy w' v.ownBlock->(∀k,(J ao (D l+1) cap).ownBlock=Y k->v.ownBlock=Y k\/w.heap.size<=k)->K (a.put o.dst (J ao (D l+1) cap)) w'):
 if Region.wanted o (yielded ops a.tmps)=AT then Oper.wp prog o a (w.alloc (X #[O Z y] 3)) K QQq else E:=by
 subst hH;obtain⟨i0,hi,TU,Ty,TO⟩:=Lt Tryz.infZ;refine step_append_lies _ TA s x _ ho _ 3 _ _ 1 8 Tryz.uIs hi TU Ty TO rfl Q9 v _ _ hs (Mu Tf _) _ 1 1 [.int _ y] hx rfl (GN _ _ _) Qw Q9 QB Q5 jB _ rfl ?_;intro g cap w' k1 k2 k3 _;refine h _ _ _ ?_ ((zp w _ _).trans k2) λk F=>?_
 · unfold fF;have e1:D (l++[y])=D l+1:=by simp
   have e2:fK (l++[y])=fK l++[O Z y]:=by simp[fK]
   rw[e1,e2];exact k1
 simp only[Value.ownBlock,qN]at F;subst F;rcases k3 with e|e
 · exact .inl e
 right;simp at e;omega
structure oS(w:T)(lb lo B:R)(v:M)(l:I A):Prop where
 cell:H w (Q lb lo G)=Y v
 fz:w.frozen? ⟨lb,lo,G⟩=AS
 row:fF w B v l
 lb:lb<B
 bs:B<=w.heap.size
 small:D l<=100000
structure yd(w w':T)(lb lo:R)(v v':M):Prop where
 os:w'.os=w.os
 tape:w'.tape=w.tape
 output:w'.output=w.output
 size:w.heap.size<=w'.heap.size
 box:w'.heap[lb]? =(w.setCell (Q lb lo G) v').heap[lb]?
 rest:∀b,b<w.heap.size->¬b=lb->¬v.ownBlock=Y b->w'.heap[b]? =w.heap[b]?
 lies:∀b,v'.ownBlock=Y b->v.ownBlock=Y b\/w.heap.size<=b
theorem Bu{v:M}(h:w1.heap[lb]? =w2.heap[lb]?):(w1.setCell (Q lb lo G) v).heap[lb]? =(w2.setCell (Q lb lo G) v).heap[lb]? :=by
 cases d:w2.heap[lb]? with
 | none=>
  rw[d]at h;have e1:¬lb<w1.heap.size:=λF=>by rw[Ly F]at h;cases h
  have e2:¬lb<w2.heap.size:=λF=>by rw[Ly F]at d;cases d
  rw[Lx jB,Lx jB]
 | some o=>
  rw[d]at h;unfold World.setCell;simp[Array.getElem?_modify,h,d]
theorem yp(v:M)(w:T):(Instr.typeAssert (.iface 3 v) 20 3 AS).run prog w=.ok v w:=Q7
def Jq(w:T)(lb lo B:R)(v:M)(l:I A)(x:A)(e:Ending)(w':T):Prop:=∃v',e=.returned (.tuple #[])/\oS w' lb lo B v' (l++[x])/\yd w w' lb lo v v'
theorem CY(lb lo B:R)(v:M)(l:I A)(x:A)(w:T)(h:oS w lb lo B v l)(hl:D l<100000):
 Calls prog 189 #[.pointer (Y (Q lb lo G)),.iface 3 (O Z x)] w (Jq w lb lo B v l x):=by
 have HH:=aJ h;obtain⟨⟨ao,cap,rfl⟩,_⟩:=h.row.form;have hc:=h.cell;have hz:=h.fz;have has:=λv w=>yp v w
 have aA:B<=w.drew.heap.size:=h.bs;have HR:U (fF w.drew B _ l):=aJ h.row;have av:D l<=1000000:=Q5;have No:Y lb≠(J _ _ _).ownBlock:=λe=>by have:=(Lm h.row _ e.symm).1;have:=h.lb;omega
 have ay:∀w3,w.drew.grownBy w3 _->H w3 _=Y _/\w3.frozen? _=AS/\w3.heap[lb]? =w.heap[lb]? :=λw3 hg=>
  ⟨hg.cell hc No,(zc (hg.block _ (wI w _ hc) No)).trans hz,hg.block _ (wI w _ hc) No⟩
 have af:=aJ ay;have VW:H (w.alloc (X #[O Z x] 3)) _=Y _:=(zp w _ G).cell hc Q6;go_enter func189,ntmps189
 go_wp2_with fail;go_region_law (refine tf w.drew rfl _ _ rfl B (J ao (D l) cap) l x rfl HR.j w.heap.size rfl rfl av aA ?_;intro a3 c3 w3 ae d al;obtain⟨ak,ai,_⟩:=af.j w3 d)
 all_goals go_end0
 all_goals
  have ax:=(af.j w3 d).2.2;have az:=HH.j.lb;have ad:¬(J a3 (D l+1) c3).ownBlock=Y lb:=λe=>by have:=(Lm ae lb e).1;omega
  have F:∀b,¬b=lb->(w3.setCell (Q lb lo G) (J a3 (D l+1) c3)).heap[b]? =w3.heap[b]? :=λb hb=>dp _ _ _ _ hb
  have Ul:(w3.setCell (Q lb lo G) (J a3 (D l+1) c3)).heap[lb]? =(w.setCell (Q lb lo G) (J a3 (D l+1) c3)).heap[lb]? :=Bu ax;exact⟨J a3 (D l+1) c3,rfl,⟨tO _ _ _ ak,by rw[iI];exact ai,ae.keep λb hb=>F b λe=>ad (e▸hb),az,by have:=d.size;have:=HH.j.bs;simp at this |-;exact wz HH.j.bs d.size,QL⟩,⟨d.os,d.tape,d.output,by simpa using d.size,Ul,λb hb h1 h2=>(F b h1).trans (d.block b hb λe=>h2 e.symm),al⟩⟩
theorem Hp.congr{a b:R->A}(h:Hp a n)(e:∀k,k<n->a k=b k):Hp b n:=λi d hi=>by
 rw[<-e i hi,<-e _ Q5];exact h i d hi
theorem kC.congr{a b c:R->A}(h:kC a b n)(e:∀k,k<n->b k=c k):kC a c n:=
 ⟨λx=>(h.mem x).trans ⟨λ⟨i,hi,d⟩=>⟨i,hi,(e i hi).symm.trans d⟩,λ⟨i,hi,d⟩=>⟨i,hi,(e i hi).trans d⟩⟩,λF i j hi hj d=>h.inj F i j hi hj (by rw[e i hi,e j hj];exact d)⟩
def KQ(w:T)(lb lo B:R)(v:M)(l:I A)(e:Ending)(w':T):Prop:=∃v',e=.returned (.iface 3 (O Z (dg l (D l-1))))/\oS w' lb lo B v' (l.take (D l-1))/\yd w w' lb lo v v'
theorem Dv(lb lo B:R)(v:M)(l:I A)(w:T)(h:oS w lb lo B v l)(hl:0<D l):
 Calls prog 188 #[.pointer (Y (Q lb lo G))] w (KQ w lb lo B v l):=by
 have HH:=aJ h;obtain⟨g,cap,rfl,aA,az,ad,VR⟩:=h.row.at hl;have hc:=h.cell;have hz:=h.fz;have ay:=h.small;have av:=h.lb;obtain⟨n,hn⟩:∃n:R,n+1=D l:=⟨D l-1,Q5⟩;have hx:=ad n Q5;have HX:U (dg l (D l-1)=dg l n):=aJ (by rw[show D l-1=n by omega]);have al:D l<=cap:=by
  rcases h.row.2 with⟨e,_⟩|⟨g',c',cur,e,_,_,h4,_⟩
  · simp at e
  simp only[jj,qN,Ij,I7,Bt]at e;omega
 generalize dg l n=y at hx HX;have ai:=aJ (h.row.cut (n:=n) Q5);have ae:U (l.take (D l-1)=l.take n):=aJ (by rw[show D l-1=n by omega]);have hw:Z.wrap (D l-1)=n:=Qq
 have S9:(n:A)<D l:=Q5;have ax:(n:A)<=cap:=Q5;go_enter func188,ntmps188
 go_wp2_with(go_at_call 131;refine(mD _ _ _ _).mono ?_;rintro e w' ⟨rfl,af⟩;obtain rfl:=af.symm)
 go_ret
 have ak:=HH.lb;have d:∀b,¬b=lb->(w.setCell (Q _ lo G) (J (Y (Q g 0 G)) n cap)).heap[b]? =w.heap[b]? :=λb F=>dp _ _ _ _ F
 refine⟨_,by rw[HX];rfl,⟨tO _ _ _ hc,by rw[iI];exact hz,?_,ak,by simpa using HH.j.bs,QL⟩,⟨rfl,rfl,rfl,Q6,rfl,λb _ h1 _=>d b h1,λb F=>.inl F⟩⟩;rw[ae];refine ai.keep λb F=>d b λe=>?_;simp only[Value.ownBlock,qN]at F;omega
def Ft(w:T)(lb lo B:R)(v:M)(l:I A)(x:A)(e:Ending)(w':T):Prop:=∃v' l',e=.returned (.tuple #[])/\oS w' lb lo B v' l'/\D l'=D l+1/\Hp (dg l') (D l+1)/\kC (λk=>if k=D l then x else dg l k) (dg l') (D l+1)/\yd w w' lb lo v v'
def Hg(w:T)(lb lo B:R)(v:M)(l:I A)(n:R)(e:Ending)(w':T):Prop:=∃v' l',e=.returned (.iface 3 (O Z (dg l 0)))/\oS w' lb lo B v' l'/\D l'=n/\Hp (dg l') n/\kC (oL (dg l) 0 n) (dg l') n/\yd w w' lb lo v v'
theorem oS.hp{v:M}(h:oS w lb lo B v l)(d:0<D l):∃g cap,v=J (Y (Q g 0 G)) (D l) cap/\mi w lb lo B g cap (D l) l:=by
 obtain⟨g,cap,rfl,_⟩:=h.row.at d;exact⟨g,_,rfl,h.cell,rfl,h.row,h.lb,by have:=h.small;omega⟩
theorem yd.row{cap:R}{v:M}(h:yd w w1 lb lo v (J (Y (Q g 0 G)) n cap))(d:mi w1 lb lo B g cap n l)(k:w1.grownBy w2 (Y g)):yd w w2 lb lo v (J (Y (Q g 0 G)) n cap):=by
 have ae:=d.ge;have ad:=d.lb;have F:lb<w1.heap.size:=wI _ _ d.cell;refine⟨k.os.trans h.os,k.tape.trans h.tape,k.output.trans h.output,wz h.size k.size,(k.block _ F jB).trans h.box,λb hb h1 h2=>(k.block b (tu hb h.size) λe=>?_).trans (h.rest b hb h1 h2),h.lies⟩;simp only[qN]at e;rcases h.lies g rfl with e2|e2
 · exact h2 (e▸e2)
 omega
theorem mi.wt{cap:R}(h:mi w1 lb lo B g cap n l)(F:w1.frozen? ⟨lb,lo,G⟩=AS)(d:B<=w1.heap.size)(hs:n<=100000):oS w1 lb lo B (J (Y (Q g 0 G)) n cap) l:=
 ⟨h.cell,F,h.row,h.lb,d,by rw[h.len];exact hs⟩
theorem Co(lb lo B:R)(v:M)(l:I A)(x:A)(w:T)(h:oS w lb lo B v l)(hl:D l<100000)(hp:Hp (dg l) (D l)):
 Calls prog 156 #[.iface 242 (.pointer (Y (Q lb lo G))),.iface 3 (O Z x)] w (Ft w lb lo B v l x):=by
 have HH:=aJ h;have HP:=aJ hp;have av:=IQ w lb lo;go_enter func156,ntmps156
 go_wp2_with fail;refine(CY _ _ B v l x w HH hl).mono ?_;rintro e w1 ⟨v1,rfl,ae,ak⟩;have hlen:D (l++[x])=D l+1:=Q6;obtain⟨g,cap,rfl,Tl⟩:=ae.hp Q5;have F:=aJ ae;have ad:=aJ ak;have d:=aJ Tl;have ai:=Hq _ _ _ _ Tl.cell ⟨_,_,_,rfl⟩;rw[hlen]at d ai ad;have hw:Z.wrap (((D l+1:R):A)-1)=D l:=Qq
 have ax:Z.wrap (D l+1-1)=D l:=Qq
 go_wp2_with(go_at_call 131;refine(mD _ _ _ _).mono ?_;rintro e w' ⟨rfl,af⟩;obtain rfl:=af.symm)
 refine(Hy _ _ B g _ _ _ _ _ d Q5 (by rw[zQ];exact HP.push x)).mono ?_;rintro e w2 ⟨rfl,l2,VX,al,TV,IT⟩;rw[zQ]at TV;have TO:=(zc (IT.block _ (wI _ _ d.cell) (by have:=d.ge;have:=d.lb;simp;omega))).trans F.fz;have HR:U (Ft w _ _ B v l x _ _):=aJ ⟨_,_,rfl,VX.wt TO (wz F.bs IT.size) Q5,VX.len,al,TV,ad.row d IT⟩;go_wp2_with fail;go_end0
 exact HR
theorem Fo(lb lo B:R)(v:M)(l:I A)(n:R)(w:T)(h:oS w lb lo B v l)(hl:D l=n+1)(hp:Hp (dg l) (n+1)):
 Calls prog 133 #[.iface 242 (.pointer (Y (Q lb lo G)))] w (Hg w lb lo B v l n):=by
 have HH:=aJ h;have HP:=aJ hp;obtain⟨g,cap,rfl,ha⟩:=h.hp Q5;rw[hl]at ha;have HA:=aJ ha;have ax:=h.small;have ay:=Hq w _ _ _ ha.cell ⟨_,_,_,rfl⟩;have az:=sP w _ _ _ ha.cell ⟨_,_,_,rfl⟩;have HL:=aJ hl;have hn:n<=99999:=Q5;clear h hp ha;rw[hl];clear hl ax;have hw:Z.wrap (((n+1:R):A)-1)=n:=Qq
 have aH:Z.wrap (n+1-1)=n:=Qq
 have aG:Z.wrap _=n:=Q_;go_enter func133,ntmps133
 go_wp2_with(go_at_call 131;refine(mD _ _ _ _).mono ?_;rintro e w' ⟨rfl,aA⟩;obtain rfl:=aA.symm)
 refine(nT (i:=0) HA.len HA.row Q5 Q5).mono ?_;rintro e w1 ⟨rfl,ak,S5⟩;have e1:dg _=oL _ 0 n:=ng (by rw[HL];omega) (by rw[HL];omega);have aB:=aJ (HA.swap S5 ak (l9 _ _ _));have Td:=aJ S5;clear ak S5 ay az;go_wp2_with fail;refine(Fq _ _ B g _ _ n _ _ aB Q5 (by rw[e1];exact HP.pop)).mono ?_;rintro e w2 ⟨b,rfl,l2,VX,al,TV,ae,IT⟩;rw[e1]at TV ae;have Uv:=aJ VX;have aE:=aJ TV;have aC:=aJ al;have OF:=aJ (lF Td IT);have aD:U (dg _ n=dg l 0):=aJ (by
  rw[ae];unfold oL;by_cases h0:n=0
  · subst h0;simp
  rw[eP h0,mI rfl])
 have aF:=Jg w2 lb lo;clear VX al TV ae IT;go_wp2_with fail;have F:lb<w.heap.size:=wI w _ HH.cell;have ad:Y lb≠Y g:=by have:=HA.ge;have:=HA.lb;simp;omega
 have TO:=(zc (OF.block _ F ad)).trans HH.fz;have av:=Uv.wt TO (wz HH.bs OF.size) Q5;refine(Dv _ _ B _ _ _ av (by rw[Uv.len];omega)).mono ?_;rintro e w3 ⟨v3,rfl,af,d⟩;have ai:=Uv.len;have HR:U (Hg w _ _ B _ l n _ _):=aJ (by
  rw[show D l2-1=n by omega]at af;have hk:∀k,k<n->dg l2 k=dg _ k:=λk hk=>(Ed hk).symm
  refine⟨_,_,rfl,af,Sj,aC.congr hk,aE.congr hk,⟨d.os.trans OF.os,d.tape.trans OF.tape,d.output.trans OF.output,wz OF.size d.size,d.box.trans (Bu (OF.block _ F ad)),λb hb h1 h2=>(d.rest b (tu hb OF.size) h1 h2).trans (OF.block b hb λe=>h2 e.symm),λb hb=>?_⟩⟩;rcases d.lies b hb with e|e
  · exact .inl e
  exact .inr (wz OF.size e))
 have HX:U (dg _ (D l2-1)=dg l 0):=aJ (by rw[show D l2-1=n by omega];exact aD);clear af d av TO ai;go_wp2_with fail;go_ret
 have h5:=HR.j;rw[<-HX]at h5;exact h5
def dY(P:R->Prop)(w:T)(v:M)(l:I A):Prop:=
 ∃ao cap,v=J ao (D l) cap/\(D l<=maxLen/\D l<=cap)/\∀i,i<D l->∃b off,ao=Y (Q b off G)/\P b/\H w ⟨b,off+i,G⟩=Y (O Z (l.getD i 0))
theorem dY.to{v:M}(h:dY P w v l):aY w v l:=by
 obtain⟨ao,cap,h1,F,h3⟩:=h;exact⟨_,_,h1,F.1,λi hi=>by obtain⟨b,off,e1,_,d⟩:=h3 i hi;exact⟨b,_,e1,d⟩⟩
theorem dY.cap(h:dY P w (J ao n c) l):D l<=c:=by
 obtain⟨ad,cap,d,F,h3⟩:=h;simp only[jj]at d;obtain⟨_,_,rfl⟩:=d;exact F.2
theorem dY.mono{P':R->Prop}{v:M}(h:dY P w v l)(g:∀b,P b->b<w.heap.size->w'.heap[b]? =w.heap[b]? /\P' b):dY P' w' v l:=by
 obtain⟨ao,cap,h1,h2,h3⟩:=h;refine⟨_,_,h1,h2,λi hi=>?_⟩;obtain⟨b,off,e1,e2,d⟩:=h3 i hi;have hb:=wI w _ d;obtain⟨g1,F⟩:=g b e2 hb;exact⟨b,_,e1,F,(so g1).trans d⟩
theorem ji(P:R->Prop)(w:T):dY P w (J G 0 0) []:=⟨G,0,rfl,⟨SF,SF⟩,λi h=>by simp at h⟩
def Sb(B:R)(vw:M)(b:R):Prop:=B<=b/\¬vw.ownBlock=Y b
def Ho(v1 v2 v3 v4 v5 vs:M)(N res:A)(n:R)(vc:M)(mb:R)(vw:M):Array M:=#[v1,v2,v3,v4,v5,vs,O Z N,O Z res,O Z (n:A),vc,.map (Y mb),vw]
structure oh(W0 w:T)(lb mb B:R)(v1 v2 v3 v4 v5 vs:M)(sl:I A)(N:R)(res:A)(n:R)(vc vw:M)(st:R->By (I A))(dn:R->Bool)(m:R->By M)(l:I A)(k:R):Prop where
 box:w.heap[lb]? =Y (X (Ho v1 v2 v3 v4 v5 vs (N:A) res n vc mb vw) 176 (0,0))
 row:fF w B vw l
 lbB:lb<B
 bs:B<=w.heap.size
 mp:jD w mb k m
 mbB:mb<B
 mbl:¬mb=lb
 sts:∀j s,st j=Y s->∃v,m j=Y v/\dY (Sb B vw) w v s
 len:∀j s,st j=Y s->D s<=20
 non:∀j,st j=G->m j=G
 wait:pX N (dg l) (D l) st dn
 bound:k+dh N (λj=>(st j).isSome)<=N
 small:N<=1000
 wl:D l<=k
 slt:dY (λb=>¬b=lb/\¬b=mb/\b<B) w vs sl
 low:Below W0.heap.size W0 w
 w0l:W0.heap.size<=lb
 w0m:W0.heap.size<=mb
structure Kb(w w':T)(lb mb:R)(vw:M):Prop where
 size:w.heap.size<=w'.heap.size
 rest:∀b,b<w.heap.size->¬b=lb->¬b=mb->¬vw.ownBlock=Y b->w'.heap[b]? =w.heap[b]?
theorem aS{f:R×R}(h:w.heap[b]? =Y (X arr t f)):H w (Q b o G)=arr[o]? :=by
 simp[World.cell?,h]
theorem bE(h:w.heap[b]? =Y (X arr t (0,0))):w.frozen? ⟨b,o,G⟩=AS:=by
 simp[World.frozen?,h]
theorem oh.wt{st:R->By (I A)}(h:oh W0 w lb mb B v1 v2 v3 v4 v5 vs sl N res n vc vw st dn m l k):oS w lb 11 B vw l:=
 ⟨by rw[aS h.box];rfl,bE h.box,h.row,h.lbB,h.bs,by have:=h.wl;have:=h.small;have:=h.bound;omega⟩
theorem oh.gr{st:R->By (I A)}(h:oh W0 w lb mb B v1 v2 v3 v4 v5 vs sl N res n vc vw st dn m l k)(g:Gr w w'):oh W0 w' lb mb B v1 v2 v3 v4 v5 vs sl N res n vc vw st dn m l k:=by
 have ad:lb<w.heap.size:=by have:=h.lbB;have:=h.bs;omega
 have F:=h.mp.lt;refine⟨(g.block _ ad Q6).trans h.box,h.row.keep λb d=>g.block b (Lm h.row b d).2 Q6,h.lbB,wz h.bs g.size,h.mp.kept (g.block _ F Q6),h.mbB,h.mbl,λj s hs=>?_,h.len,h.non,h.wait,h.bound,h.small,h.wl,h.slt.mono λb d hl=>⟨g.block b hl Q6,d⟩,h.low.grown g h.low.size Q6,h.w0l,h.w0m⟩;obtain⟨v,e1,e2⟩:=h.sts j s hs;exact⟨v,e1,e2.mono λb d hl=>⟨g.block b hl Q6,d⟩⟩
theorem uN(lb n at_:R)(w:T)(d:H w (Q lb 8 G)=Y (O Z (n:A))):
 Calls prog 155 #[.pointer (Y (Q lb 0 G)),O Z (at_:A)] w λx w'=>x=.returned (.agg #[O Z 10,O Z (n:A),O Z (at_:A)])/\Gr w w':=by
 have F:=(zp w (X #[O Z 0,O Z 0,O Z 0] 91) G).cell d Q6;go_enter func155,ntmps155
 go_wp2_with fail;exact qn (by simp[results,results155,go_sem]) rfl ⟨rfl,(Gr.refl w).alloc _⟩
theorem Ok{p:Prop}(h:p:=by rw[AF]at he;obtain⟨k,hk,e⟩:=he;cases e;simp):p:=h
theorem DK{f:aQ}(he:bU u f i=Y (ts,ps)):D ps<=2:=by
 unfold bU at he;generalize (if 1<=i.a then u.aA[(i.a-1).toNat]? else G)=S at he;by_cases c0:i.op=0
 · rw[mI c0]at he;exact OV
 rw[eP c0]at he;by_cases c1:i.op=1
 · rw[mI c1]at he;cases he;simp
 rw[eP c1]at he;by_cases c2:i.op=2
 · rw[mI c2]at he;exact Ok
 rw[eP c2]at he;by_cases c3:i.op=3
 · rw[mI c3]at he;exact Ok
 rw[eP c3]at he;by_cases c4:i.op=4
 · rw[mI c4]at he;cases he;simp
 rw[eP c4]at he;by_cases c5:i.op=5
 · rw[mI c5]at he;cases he;simp
 rw[eP c5]at he;by_cases d:i.op=6\/i.op=7\/i.op=8\/i.op=9\/i.op=10
 · rw[mI d]at he;cases he;simp
 rw[eP d]at he;by_cases c7:i.op=11
 · rw[mI c7]at he;exact OV
 rw[eP c7]at he;by_cases c8:i.op=12
 · rw[mI c8]at he;exact OV
 rw[eP c8]at he;by_cases c9:i.op=13
 · rw[mI c9]at he;split at he
   · cases he;simp
   rw[AF]at he;obtain⟨g,F,e⟩:=he;cases e;simp
 rw[eP c9]at he;by_cases c10:i.op=14
 · rw[mI c10]at he;cases he;simp
 rw[eP c10]at he;by_cases c11:i.op=15
 · rw[mI c11]at he;exact Ok
 rw[eP c11]at he;by_cases c12:i.op=16
 · rw[mI c12]at he;rw[Mw]at he;obtain⟨s,hs,he⟩:=he;exact Ok
 rw[eP c12]at he;by_cases c13:i.op=17
 · rw[mI c13]at he;rw[Mw]at he;obtain⟨s,hs,he⟩:=he;exact Ok
 rw[eP c13]at he;by_cases c14:i.op=18
 · rw[mI c14]at he;exact Ok
 rw[eP c14]at he;by_cases c15:i.op=19
 · rw[mI c15]at he;exact Ok
 exact Ps
theorem uT{f:aQ}(he:bq u f i s=Y (ts,ps)):D ps<=2:=by
 unfold bq at he;by_cases c4:i.op=4
 · rw[mI c4,AF]at he;obtain⟨k,d,e⟩:=he;cases e;simp
 rw[eP c4]at he;by_cases c5:i.op=5
 · rw[mI c5,AF]at he;obtain⟨k,d,e⟩:=he;cases e;simp
 rw[eP c5]at he;exact DK he
theorem uq{f:aQ}(he:bq u f i s=Y (ts,ps))(hop:i.op=11\/i.op=12):i.a<D f.code:=by
 unfold bq bU at he;rcases hop with h|h<;>simp[h]at he<;>exact he.1
theorem Ai(h:aY w (J ao (D l) c) l)(hc:D l<=c){d:R}(hd:d<=D l):aY w (J (if c=d then ao else Option.map (λx=>x.add d) ao) (D l-d) (c-d)) (l.drop d):=by
 obtain⟨ad,c',F,h2,h3⟩:=h;simp only[jj,Bt]at F;obtain⟨rfl,rfl⟩:=F;refine⟨_,_,by rw[J2],by rw[J2];omega,λi hi=>?_⟩;rw[J2]at hi;obtain⟨b,off,rfl,S6⟩:=h3 (d+i) Q5;rw[eP Q5];refine⟨b,off+d,SW,?_⟩;have e:(l.drop d).getD i 0=l.getD (d+i) 0:=by rw[mh,mh,List.getElem?_drop]
 rw[e,<-S6,MX]
theorem tE(h:aY w (J ao (D l) c) l){d:R}(hd:d<=D l):aY w (J ao d c) (l.take d):=by
 obtain⟨ad,c',h1,h2,h3⟩:=h;simp only[jj,Bt]at h1;obtain⟨rfl,rfl⟩:=h1;have F:D (l.take d)=d:=Sj
 refine⟨_,_,by rw[F],Q5,λi hi=>?_⟩;rw[F]at hi;obtain⟨b,off,rfl,S6⟩:=h3 i Q5;refine⟨b,_,rfl,?_⟩;have e:(l.take d).getD i 0=l.getD i 0:=by rw[mh,mh,Lh,mI hi]
 rw[e,<-S6]
theorem uP{v:M}{p:Addr}(h:aY w v l)(hp:H w p=Y (J ao n c)):aY (w.setCell p x) v l:=by
 obtain⟨a,cap,hv,hm,F⟩:=h;refine⟨a,_,hv,hm,λi hi=>?_⟩;obtain⟨b,off,h1,d⟩:=F i hi;refine⟨b,_,h1,?_⟩;rw[Cn _ _ _ _ (by intro e;rw[<-e,hp]at d;cases d)];exact d
theorem mL{v y:M}{F:R}(h:aY w v l)(d:H w (Q g 0 G)=Y (J ao n c))(h1:H w (Q g 1 G)=Y (J a1 F c1)):aY ((w.setCell (Q g 0 G) x).setCell (Q g 1 G) y) v l:=
 uP (uP h d) (by rw[Cn _ _ _ _ (by intro e;simp at e)];exact h1)
theorem Sb.of(h:Sb B vw b){w:T}(F:b<w.heap.size)(g:∀b,vw'.ownBlock=Y b->vw.ownBlock=Y b\/w.heap.size<=b):Sb B vw' b:=
 ⟨h.1,λe=>by
  rcases g b e with d|d
  · exact h.2 d
  omega⟩
def Hi(W0 w:T)(lb mb B:R)(v1 v2 v3 v4 v5 vs:M)(sl:I A)(N:R)(res:A)(n:R)(vc vw:M)(st:R->By (I A))(dn:R->Bool)(t:R)(s:I A)(x:Ending)(w':T):Prop:=
 (∃s0,st t=Y s0/\¬s0=s/\x=.panicked (oG 10 n t)/\Below W0.heap.size W0 w')\/
 (x=.returned (.tuple #[])/\∃vw' m' l' k',oh W0 w' lb mb B v1 v2 v3 v4 v5 vs sl N res n vc vw' (λj=>if j=t then Y s else st j) dn m' l' k'/\Kb w w' lb mb vw/\(∀b,vw'.ownBlock=Y b->vw.ownBlock=Y b\/w.heap.size<=b)/\(st t=G\/st t=Y s))
theorem pf(W0 w:T)(lb mb B:R)(v1 v2 v3 v4 v5 vs:M)(sl:I A)(N:R)(res:A)(n:R)(vc vw:M)(st:R->By (I A))(dn:R->Bool)(m:R->By M)(l:I A)(k:R)(t:R)(s:I A)(v:M)
 (h:oh W0 w lb mb B v1 v2 v3 v4 v5 vs sl N res n vc vw st dn m l k) (ht:t<N) (hs:dY (Sb B vw) w v s) (Tn:D s<=20):
 Calls prog 130 #[.pointer (Y (Q lb 0 G)),O Z (t:A),v] w (Hi W0 w lb mb B v1 v2 v3 v4 v5 vs sl N res n vc vw st dn t s):=by
 have HH:=aJ h;have HS:=aJ hs;obtain⟨av,cv,rfl⟩:=hs.to.shape;have hN:=h.small;have aG:H w (Q lb 8 G)=Y (O Z n):=by rw[aS h.box];rfl
 have a6:H w (Q lb 10 G)=Y (.map (Y mb)):=by rw[aS h.box];rfl
 have ae:=h.mp.look t Q5;cases Tj:st t with
 | some s0=>
  obtain⟨v0,a2,aC⟩:=h.sts t _ Tj;rw[a2]at ae;obtain⟨a0,c0,rfl⟩:=aC.to.shape;simp only[La,Lu]at ae;have aD:=aJ aC.to;have Tv:=aJ Tj;have aE:=aJ (uN _ n t w aG);go_enter func130,ntmps130
  go_wp2_with fail;refine aE.mono ?_;rintro x w1 ⟨rfl,S5⟩;have Td:=aJ S5;go_wp2_with fail;refine(oF _ _ s _ _ (HS.to.gr Td) (aD.gr Td)).mono ?_;rintro x w2 ⟨rfl,IT⟩;have OF:=aJ (Td.trans IT);by_cases he:s=s0
  · have hd:decide (s=s0)=AT:=by simpa using he
    rw[hd];have HE:=aJ he;go_wp2_with fail;refine(dP _ _ _ _).mono ?_;rintro x w3 ⟨rfl,Ta⟩;have Te:=aJ (OF.trans Ta);go_wp2_with fail;go_end0
    refine .inr ⟨rfl,_,m,l,k,?_,⟨Te.size,λb F _ _ _=>Te.block b F Q6⟩,λb F=>.inl F,.inr (by rw[Tv,HE])⟩;have e:(λj=>if j=t then Y s else st j)=st:=by
     funext j
     by_cases hj:j=t
     · rw[mI hj,hj,Tv,HE]
     rw[eP hj]
    rw[e];exact HH.gr Te
  have hd:decide (s=s0)=AS:=by simpa using he
  rw[hd];have HE:=aJ he;go_wp2_with fail;refine(dq _ _ _ _).mono ?_;rintro x w3 ⟨rfl,Ta⟩;have Te:=aJ (OF.trans Ta);exact⟨rfl,.inl ⟨_,Tv,λe=>HE e.symm,rfl,HH.low.grown Te HH.low.size Q6⟩⟩
 | none=>
  rw[h.non t Tj]at ae;simp only[Option.getD_none,L6]at ae;unfold Am at ae;obtain⟨w1,a5,aH,S5⟩:=h.mp.store t Q5 (by have:=h.bound;omega) (J av (D s) cv);have Tv:=aJ Tj;have aI:=aJ aH;have Td:=aJ S5;have ay:oS w1 lb 11 B vw l:=by
   have hw:=h.wt;have az:lb<w.heap.size:=by have:=h.lbB;have:=h.bs;omega
   have S9:=S5.block _ az (by have:=h.mbl;simp;omega);exact⟨(so S9).trans hw.cell,(zc S9).trans hw.fz,hw.row.keep λb F=>S5.block b (Lm hw.row b F).2 (by have:=(Lm hw.row b F).1;have:=h.mbB;simp;omega),hw.lb,wz hw.bs S5.size,hw.small⟩
  have aL:D l<100000:=by have:=h.wl;have:=h.bound;omega
  have HP:=aJ (Co _ _ B _ l t _ ay aL h.wait.hp);go_enter func130,ntmps130
  go_wp2_with fail;refine HP.mono ?_;rintro x w2 ⟨vw',l2,rfl,ai,ak,aA,Vs,d⟩;have HR:U (Hi _ w _ _ B v1 v2 v3 v4 v5 _ _ N res n vc _ _ dn t s _ _):=aJ (by
   have h:=HH.j;have S5:=Td.j;have a3:=S5.size;have a4:=d.size;have aF:=h.lbB;have a8:=h.bs;have aM:=h.mbB;have af:=h.mbl;have a9:=h.bound;have a7:=h.wl;have a':=h.mp.lt;have ax:=λb F=>Lm h.row b F
   have S9:=(S5.block _ Q5 jB).trans h.box;have aB:∀b,b<w.heap.size->Sb B _ b->w2.heap[b]? =w.heap[b]? :=λb F hs=>(d.rest b Q5 (by have:=hs.1;omega) hs.2).trans (S5.block b F (by have:=hs.1;simp;omega))
   have al:∀b,b<w.heap.size->¬b=lb->¬b=mb->¬vw.ownBlock=Y b->w2.heap[b]? =w.heap[b]? :=λb F e1 e2 e3=>(d.rest b Q5 e1 e3).trans (S5.block b F jB)
   have ad:∀b,vw'.ownBlock=Y b->vw.ownBlock=Y b\/w.heap.size<=b:=λb F=>by
    rcases d.lies b F with e|e
    · exact .inl e
    right;omega
   refine .inr ⟨rfl,_,_,_,_,⟨?_,ai.row,aF,ai.bs,aI.kept (d.rest _ Q5 af λe=>by have:=(ax _ e).1;omega),aM,af,λj s' hj=>?_,λj s' hj=>?_,λj hj=>?_,?_,?_,h.small,Q5,h.slt.mono λb F hl=>⟨al b hl F.1 F.2.1 (λe=>by have:=(ax b e).1;have:=F.2.2;omega),F⟩,?_,h.w0l,h.w0m⟩,⟨Q5,al⟩,ad,.inl Tv⟩
   · rw[d.box,wS _ _ _ _ _ _ S9];rfl
   · by_cases e:j=t
     · subst e;rw[mI rfl]at hj;obtain rfl:=tz hj;exact⟨_,mI rfl,HS.mono λb F hl=>⟨aB b hl F,F.of hl ad⟩⟩
     rw[eP e]at hj;obtain⟨v0,e1,e2⟩:=h.sts j _ hj;exact⟨_,by rw[eP e];exact e1,e2.mono λb F hl=>⟨aB b hl F,F.of hl ad⟩⟩
   · by_cases e:j=t
     · rw[mI e]at hj;obtain rfl:=tz hj;exact Tn
     rw[eP e]at hj;exact h.len j _ hj
   · by_cases e:j=t
     · rw[mI e]at hj;cases hj
     rw[eP e]at hj |-;exact h.non j hj
   · rw[ak];exact h.wait.push ht Tv aA Vs
   · have e:(λj=>(if j=t then Y s else st j).isSome)=λj=>decide (j=t) ||(st j).isSome:=by
      funext j
      by_cases hj:j=t<;>simp[hj]
     rw[e];have:=j7 N t (λj=>(st j).isSome) ht (by simp only[Tv.j];rfl)
     omega
   · refine⟨d.os.trans (S5.os.trans h.low.os),d.tape.trans (S5.tape.trans h.low.tape),d.output.trans (S5.output.trans h.low.output),?_,?_⟩
     · have:=h.low.size;omega
     intro b F;have:=h.w0l
     have:=h.w0m
     exact(al b (by have:=h.low.size;omega) Q5 Q5 λe=>by have:=(ax b e).1;omega).trans (h.low.block b F))
  go_wp2_with fail;go_end0
  exact HR
theorem qK(h:Below W0.heap.size W0 w):Gr W0 w:=⟨h.os,h.tape,h.output,h.size,λk d _=>h.block k d⟩
def Hj(W0:T)(lb mb B:R)(v1 v2 v3 v4 v5 vs:M)(sl:I A)(N:R)(res:A)(n:R)(vc:M)(dn:R->Bool)(o:R ⊕ (R->By (I A)))(x:Ending)(w':T):Prop:=match o with
 | .inl t=>x=.panicked (oG 10 n t)/\Below W0.heap.size W0 w'
 | .inr st'=>x=.returned (.tuple #[])/\∃vw m l k,oh W0 w' lb mb B v1 v2 v3 v4 v5 vs sl N res n vc vw st' dn m l k
def iR(u:aK)(f:aQ)(q:R)(i:bP)(s:I A)(st:R->By (I A)):R ⊕ (R->By (I A)):=
 match kL u f i s with
 | none=>.inl q
 | some s'=>dB s' q (ch f q i) st
theorem D8{f:aQ}{st:R->By (I A)}(hu:bG u=AT)(d:f∈u.aG):iR u f q i s st=nW u f q i s st:=by
 unfold iR nW;rw[Eb s (A4 hu d)];cases et u f i s<;>rfl
def Hs(W0:T)(lb mb B:R)(v1 v2 v3 v4 v5 vs:M)(sl:I A)(u:aK)(f:aQ)(n:R)(vc:M):Prop:=∀(w:T) (vw:M) (st:R->By (I A)) (dn:R->Bool) (m:R->By M) (l:I A) (k q:R) (i:bP) (s:I A),
 oh W0 w lb mb B v1 v2 v3 v4 v5 vs sl (D f.code) f.result n vc vw st dn m l k->f.code[q]? =Y i->st q=Y s->
 Calls prog 132 #[.pointer (Y (Q lb 0 G)),O Z (q:A)] w (Hj W0 lb mb B v1 v2 v3 v4 v5 vs sl (D f.code) f.result n vc dn (iR u f q i s st))
def Hn(W0:T)(n:R)(o:By R)(x:Ending)(w':T):Prop:=Below W0.heap.size W0 w'/\match o with
 | some t=>x=.panicked (oG 10 n t)
 | none=>x=.returned (.tuple #[])
theorem iz:∀n,dh n (λ_=>AS)=n
 | 0=>rfl
 | n+1=>by rw[dh,iz n];simp
theorem oh.popped{st:R->By (I A)}{nn:R}(h:oh W0 w lb mb B v1 v2 v3 v4 v5 vs sl N res n vc vw st dn m l k)(hl:D l=nn+1)(hq:dg l 0=(q:A))(ae:oS w' lb 11 B vw' l')(af:D l'=nn)(hp:Hp (dg l') nn)(hs:kC (oL (dg l) 0 nn) (dg l') nn)(hf:yd w w' lb 11 vw vw'):
 oh W0 w' lb mb B v1 v2 v3 v4 v5 vs sl N res n vc vw' st (λj=>decide (j=q)||dn j) m l' k:=by
 have ak:=h.lbB;have ai:=h.mbB;have ad:=λb F=>Lm h.row b F
 have d:=h.wait;rw[hl]at d;refine⟨?_,ae.row,ak,ae.bs,h.mp.kept (hf.rest _ h.mp.lt h.mbl λe=>by have:=(ad _ e).1;omega),ai,h.mbl,λj s hj=>?_,h.len,h.non,?_,h.bound,h.small,by have:=h.wl;omega,h.slt.mono λb F hl=>⟨hf.rest b hl F.1 (λe=>by have:=(ad b e).1;have:=F.2.2;omega),F⟩,?_,h.w0l,h.w0m⟩
 · rw[hf.box,wS w _ _ _ _ _ h.box];rfl
 · obtain⟨v,e1,e2⟩:=h.sts j s hj;exact⟨v,e1,e2.mono λb F IN=>⟨hf.rest b IN (by have:=F.1;omega) F.2,F.of IN hf.lies⟩⟩
 · rw[af];exact d.pop hq hp hs
 refine⟨hf.os.trans h.low.os,hf.tape.trans h.low.tape,hf.output.trans h.low.output,by have:=h.low.size;have:=hf.size;omega,λb F=>?_⟩;have:=h.w0l
 exact(hf.rest b (by have:=h.low.size;omega) Q5 λe=>by have:=(ad b e).1;omega).trans (h.low.block b F)
theorem Af(W0 w:T)(lb mb B:R)(v1 v2 v3 v4 v5 vs:M)(sl:I A)(u:aK)(f:aQ)(n:R)(vc:M)(HL:Hs W0 lb mb B v1 v2 v3 v4 v5 vs sl u f n vc)(hu:bG u=AT)(hf:f∈u.aG)(hN:0<D f.code)
 (h:oh W0 w lb mb B v1 v2 v3 v4 v5 vs sl (D f.code) f.result n vc (J G 0 0) (λ_=>G) (λ_=>AS) (λ_=>G) [] 0):
 Calls prog 81 #[.pointer (Y (Q lb 0 G))] w (Hn W0 n (fj u f)):=by
 have Wn:=aJ HL;have a5:=aJ (pf _ w _ _ B _ _ _ _ _ _ _ _ _ n _ _ _ _ _ _ 0 0 _ _ h hN (ji _ _) Q6);have HW:U (fj u f=j5 u f (dh _ _+1) _ _):=aJ (by rw[iz];rfl);clear h;go_enter func81,ntmps81
 go_wp2_with fail;refine a5.mono ?_;rintro x w1 (⟨s0,e1,_⟩|⟨rfl,a',m1,l1,k1,aD,_⟩)
 · cases e1
 have UD:=aJ aD;clear aD;go_wp2_with fail;go_loopg [4] (D f.code+1) λgk _ wr=>∃(vw:M) (st:R->By (I A)) (dn:R->Bool) (m:R->By M) (l:I A) (k:R),gk=dh (D f.code) dn+1/\oh W0 wr lb mb B v1 v2 v3 v4 v5 vs sl (D f.code) f.result n vc vw st dn m l k/\fj u f=j5 u f (dh (D f.code) dn+1) st dn
 case atStart=>exact⟨_,_,_,_,_,_,by rw[iz],UD,HW⟩
 obtain⟨vw,st,dn,m,l,k,rfl,hl,hw⟩:=hrel;have ad:=aJ hl;have aH:=aJ hw;obtain⟨⟨ao,cap,rfl⟩,_⟩:=hl.row.form;have hc:=hl.wt.cell;clear hl hw;have has:=λv w=>yp v w
 by_cases ae:D l=0
 · have ax:=List.length_eq_zero_iff.1 ae;have aM:U (fj u f=G):=aJ (by
    have aB:=ad.wait;rw[ae]at aB;rw[aH,sG aB.nothing])
   rw[ae]at hc;have a7:=aJ ad.low;clear ax ae;go_wp2_with(go_at_call 131;refine(mD _ _ _ _).mono ?_;rintro e w' ⟨rfl,ak⟩;obtain rfl:=ak.symm)
   go_end0
   exact⟨a7,by rw[aM]⟩
 · obtain⟨nn,af⟩:∃nn,D l=nn+1:=⟨D l-1,Q5⟩;have d:=aJ ad.wait;obtain⟨q,aE,az,F,aL,hle⟩:=d.top Q5;obtain⟨s,F⟩:=MY.1 F;obtain⟨i,al⟩:=aU az;have av:=aJ (Fo _ _ B _ l _ _ ad.wt af (by have:=d.hp;rw[af]at this;exact this));have HQ:=aJ aE;have a0:=aJ af;have Tv:=aJ F;have HI:=aJ al;have HU:=aJ (j7 _ q _ az aL);have ai:U (fj u f=match nW u f q i s _ with| .inl t=>Y t| .inr a2=>j5 u f _ _ _):=aJ (by rw[aH,tD hle al F];cases nW u f q i s st<;>rfl)
   have a8:(0:A)<D l:=Q5;clear ae af F al hle aL;go_wp2_with(go_at_call 131;refine(mD _ _ _ _).mono ?_;rintro e w' ⟨rfl,ak⟩;obtain rfl:=ak.symm)
   refine av.mono ?_;rintro x w2 ⟨a9,l2,rfl,aI,ay,aF,TV,aA⟩;rw[HQ];have a6:=aJ (ad.popped a0 HQ aI ay aF TV aA);clear aI ay aF TV aA hc aE;go_wp2_with fail;refine(Wn _ _ _ _ m _ k q i s a6 HI Tv).mono ?_;intro x w3 h3;unfold Hj at h3;rw[D8 hu hf]at h3;generalize a4:nW u f q i s _=SP at h3 ai;clear a4;cases SP with
   | inl t=>
    obtain⟨rfl,hb⟩:=h3;exact⟨rfl,hb,by rw[ai]⟩
   | inr a2=>
    obtain⟨rfl,bg,m4,l4,k4,aC⟩:=h3;have a3:=aJ aC;clear aC;go_wp2_with fail;go_roundg (dh (D f.code) (λj=>decide (j=q)||dn j)+1)
    case measure=>have:=HU.j;omega
    case rel=>exact⟨_,_,_,_,_,_,rfl,a3,by rw[ai,HU]⟩
def lm(w:T)(g:R)(y0 y1 y2 y3 y4 y5 y6 y7:M):T:=(((((((w.setCell (Q g 0 G) y0).setCell (Q g 1 G) y1).setCell (Q g 2 G) y2).setCell (Q g 3 G) y3).setCell (Q g 4 G) y4).setCell (Q g 5 G) y5).setCell (Q g 6 G) y6).setCell (Q g 7 G) y7
theorem F4(w:T)(g:R)(y0 y1 y2 y3 y4 y5 y6 y7:M):(((((((w.setCell (Q g 0 G) y0).setCell (Q g 1 G) y1).setCell (Q g 2 G) y2).setCell (Q g 3 G) y3).setCell (Q g 4 G) y4).setCell (Q g 5 G) y5).setCell (Q g 6 G) y6).setCell (Q g 7 G) y7=lm w g y0 y1 y2 y3 y4 y5 y6 y7:=rfl
theorem ma(h:¬b=g):(lm w g y0 y1 y2 y3 y4 y5 y6 y7).heap[b]? =w.heap[b]? :=by
 unfold lm;rw[dp _ _ _ _ h,dp _ _ _ _ h,dp _ _ _ _ h,dp _ _ _ _ h,dp _ _ _ _ h,dp _ _ _ _ h,dp _ _ _ _ h,dp _ _ _ _ h]
theorem GO(h:Gr w w1)(d:w.heap.size<=g):Gr w (lm w1 g y0 y1 y2 y3 y4 y5 y6 y7):=(cA (cA (cA (cA (cA (cA (cA (cA h d) d) d) d) d) d) d) d)
theorem Ej(h:w.heap[g]? =Y (X #[x0,x1,x2,x3,x4,x5,x6,x7] t (0,0))):(lm w g y0 y1 y2 y3 y4 y5 y6 y7).heap[g]? =Y (X #[y0,y1,y2,y3,y4,y5,y6,y7] t (0,0)):=by
 unfold lm;have d:=wS w g 0 _ t y0 h;have h1:=wS _ g 1 _ t y1 d;have h2:=wS _ g 2 _ t y2 h1;have h3:=wS _ g 3 _ t y3 h2;have h4:=wS _ g 4 _ t y4 h3;have F:=wS _ g 5 _ t y5 h4;have h6:=wS _ g 6 _ t y6 F;have h7:=wS _ g 7 _ t y7 h6;simpa using h7
def Dj(w:T)(b:R):Prop:=∃arr,w.heap[b]? =Y (X arr 3 (0,0))
def KX(w:T)(v1 v2 v3 v4 v5:M)(N:R)(res:A)(sl:I A)(x:Ending)(w':T):Prop:=∃vs,x=.returned (.agg #[v1,v2,v3,v4,v5,vs,O Z (N:A),O Z res])/\Gr w w'/\dY (λb=>w.heap.size<=b/\Dj w' b) w' vs sl
theorem i_{v:M}(h:w.ownsRow B 3 1 v (D l) (fK l)):dY (λb=>B<=b/\Dj w b) w v l:=by
 obtain⟨h1,h2⟩:=h;rcases h2 with⟨rfl,h3⟩|⟨g,cap,cur,rfl,F,d,h4,h5,h6,h7⟩
 · have:=List.length_eq_zero_iff.1 h3
   subst this;exact ji _ _
 refine⟨_,_,rfl,⟨Q5,Q5⟩,λi hi=>⟨g,0,rfl,⟨F,_,d⟩,?_⟩⟩;have e:=aS (o:=0+i) d;rw[e,<-Lk];have h8:(cur.toList.take (D l*1))[i]? =cur.toList[i]? :=by rw[Lh,mI Q5]
 rw[Aq,<-h8,h7,zy hi];rfl
def yz(w:T)(v1 v2 v3 v4 v5 vp vl vc:M)(res:A):T:=((w.alloc (X #[v1,v2,v3,v4,v5] 58)).alloc (X #[vp,O Z res,vl,vc] 74)).alloc (X #[J G 0 0,J G 0 0,J G 0 0,J G 0 0,J G 0 0,J G 0 0,O Z 0,O Z 0] 169)
theorem F9(w:T)(v1 v2 v3 v4 v5 vp vl vc:M)(res:A):((w.alloc (X #[v1,v2,v3,v4,v5] 58)).alloc (X #[vp,O Z res,vl,vc] 74)).alloc (X #[J G 0 0,J G 0 0,J G 0 0,J G 0 0,J G 0 0,J G 0 0,O Z 0,O Z 0] 169)=yz w v1 v2 v3 v4 v5 vp vl vc res:=rfl
theorem zv(w:T)(v1 v2 v3 v4 v5 vp vl vc:M)(res:A):Gr w (yz w v1 v2 v3 v4 v5 vp vl vc res)/\(yz w v1 v2 v3 v4 v5 vp vl vc res).heap.size=w.heap.size+1+1+1/\(yz w v1 v2 v3 v4 v5 vp vl vc res).heap[w.heap.size]? =Y (X #[v1,v2,v3,v4,v5] 58 (0,0))/\(yz w v1 v2 v3 v4 v5 vp vl vc res).heap[w.heap.size+1]? =Y (X #[vp,O Z res,vl,vc] 74 (0,0))/\(yz w v1 v2 v3 v4 v5 vp vl vc res).heap[w.heap.size+1+1]? =Y (X #[J G 0 0,J G 0 0,J G 0 0,J G 0 0,J G 0 0,J G 0 0,O Z 0,O Z 0] 169 (0,0)):=by
 have s1:(w.alloc (X #[v1,v2,v3,v4,v5] 58)).heap.size=w.heap.size+1:=Q6;have s2:((w.alloc (X #[v1,v2,v3,v4,v5] 58)).alloc (X #[vp,O Z res,vl,vc] 74)).heap.size=w.heap.size+1+1:=Q6;have h1:=jZ w (X #[v1,v2,v3,v4,v5] 58);have h2:=jZ (w.alloc (X #[v1,v2,v3,v4,v5] 58)) (X #[vp,O Z res,vl,vc] 74);have d:=jZ ((w.alloc (X #[v1,v2,v3,v4,v5] 58)).alloc (X #[vp,O Z res,vl,vc] 74)) (X #[J G 0 0,J G 0 0,J G 0 0,J G 0 0,J G 0 0,J G 0 0,O Z 0,O Z 0] 169);rw[s1]at h2;rw[s2]at d;have g2:=Gr.alloc (Gr.refl (w.alloc (X #[v1,v2,v3,v4,v5] 58))) (X #[vp,O Z res,vl,vc] 74);have F:=Gr.alloc (Gr.refl ((w.alloc (X #[v1,v2,v3,v4,v5] 58)).alloc (X #[vp,O Z res,vl,vc] 74))) (X #[J G 0 0,J G 0 0,J G 0 0,J G 0 0,J G 0 0,J G 0 0,O Z 0,O Z 0] 169);exact⟨(((Gr.refl w).alloc _).alloc _).alloc _,by simp[yz],((g2.trans F).block _ Q5 Q6).trans h1,(F.block _ Q5 Q6).trans h2,d⟩
theorem Qu{p:Prop}(h:p:=by repeat (first|with_reducible exact G0|with_reducible refine Gr.drew ?_|with_reducible refine Gr.alloc ?_ _|with_reducible refine Gr.trans ?_ (by with_reducible assumption))):p:=h
theorem CQ(v1 v2 v3 v4 v5 vp vl vc:M)(f:aQ)(w:T)(hu:∀v∈[v1,v2,v3,v4,v5],∃a n c,v=J a n c)(hp:aY w vp f.aH)(hl:aY w vl f.aI)(hc:∃a c,vc=J a (D f.code) c)(aA:D f.aH<=10000)(ay:D f.aI<=10000):
 Calls prog 80 #[.agg #[v1,v2,v3,v4,v5],.agg #[vp,O Z f.result,vl,vc]] w (KX w v1 v2 v3 v4 v5 (D f.code) f.result (f.aH++f.aI)):=by
 obtain⟨q1,n1,c1,rfl⟩:=hu v1 Q6;obtain⟨q2,n2,c2,rfl⟩:=hu v2 Q6;obtain⟨q3,n3,c3,rfl⟩:=hu v3 Q6;obtain⟨q4,n4,c4,rfl⟩:=hu v4 Q6;obtain⟨q5,n5,c5,rfl⟩:=hu v5 Q6;obtain⟨qp,cp,rfl⟩:=hp.shape;obtain⟨ql,cl,rfl⟩:=hl.shape;obtain⟨qc,cc,rfl⟩:=hc;have HP:=aJ hp;have az:=aJ hl;have HF:=aJ (zv w (J q1 n1 c1) (J q2 n2 c2) (J q3 n3 c3) (J q4 n4 c4) (J q5 n5 c5) (J qp (D f.aH) cp) (J ql (D f.aI) cl) (J qc (D f.code) cc) f.result);clear hu hp hl;go_enter func80,ntmps80
 go_wp2_with fail;rw[F9];generalize yz w _ _ _ _ _ _ _ _ _=V at HF |-;obtain⟨av,al,TI,S9,af⟩:=HF.j;have KS:U (∀w',Gr V w'->H w' ⟨_,0,_⟩=Y (J _ _ _)/\H w' ⟨_,1,_⟩=Y (J _ _ _)/\H w' ⟨_,2,_⟩=Y (J _ _ _)/\H w' ⟨_,3,_⟩=Y (J _ _ _)/\H w' ⟨_,4,_⟩=Y (J _ _ _)/\H w' ⟨_,0,_⟩=Y (J _ _ cp)/\H w' ⟨_,1,_⟩=Y (.int _ _)/\H w' ⟨_,2,_⟩=Y (J _ _ cl)/\H w' ⟨_,3,_⟩=Y (J _ _ cc)):=aJ (λw' g=>by
  have e0:=(g.block _ Q5 Q6).trans TI;have e1:=(g.block _ Q5 Q6).trans S9;refine⟨?_,?_,?_,?_,?_,?_,?_,?_,?_⟩<;>first|(rw[aS e0];rfl)|(rw[aS e1];rfl))
 have KR:U (∀w',Gr V w'->w'.heap[w.heap.size+1+1]? =Y _):=aJ λw' g=>(g.block _ Q5 Q6).trans af;have KP:U (∀(w':T) (y0 y1 y2 y3 y4 y5 y6 y7:M),Gr V _->H (lm _ _ _ _ _ _ _ _ _ _) ⟨_,0,_⟩=Y (J _ _ _)/\H (lm _ _ _ _ _ _ _ _ _ _) ⟨_,1,_⟩=Y (J _ _ _)/\H (lm _ _ _ _ _ _ _ _ _ _) ⟨_,2,_⟩=Y (J _ _ _)/\H (lm w' _ _ _ _ _ _ _ _ _) ⟨_,3,_⟩=Y (J _ _ _)/\H (lm _ _ _ _ _ _ _ _ _ _) ⟨_,4,_⟩=Y (J _ _ _)/\H (lm _ _ _ _ _ _ _ _ _ _) ⟨_,0,_⟩=Y (J _ _ cp)/\H (lm _ _ _ _ _ _ _ _ _ _) ⟨_,1,_⟩=Y (.int _ _)/\H (lm _ _ _ _ _ _ _ _ _ _) ⟨_,2,_⟩=Y (J _ _ cl)/\H (lm _ _ _ _ _ _ _ _ _ _) ⟨_,3,_⟩=Y (J _ _ cc)):=aJ (λw' y0 y1 y2 y3 y4 y5 y6 y7 g=>by
  have e0:(lm _ (w.heap.size+1+1) y0 y1 y2 y3 y4 y5 y6 y7).heap[w.heap.size]? =_:=(ma Q5).trans ((g.block _ Q5 Q6).trans TI);have e1:(lm _ (w.heap.size+1+1) y0 y1 y2 y3 y4 y5 y6 y7).heap[w.heap.size+1]? =_:=(ma Q5).trans ((g.block _ Q5 Q6).trans S9);refine⟨?_,?_,?_,?_,?_,?_,?_,?_,?_⟩<;>first|(rw[aS e0];rfl)|(rw[aS e1];rfl))
 have HG:=aJ av;have UX:=aJ al;obtain⟨s0,s1,s2,s3,s4,s5,s6,s7,s8⟩:=KS V (Gr.refl V);clear av TI S9 af al;go_region_held3 (λw'=>H w' (Q w.heap.size 0 G)=Y (J q1 n1 c1)/\H w' (Q w.heap.size 1 G)=Y (J q2 n2 c2)/\H w' (Q w.heap.size 2 G)=Y (J q3 n3 c3)/\H w' (Q w.heap.size 3 G)=Y (J q4 n4 c4)/\H w' (Q w.heap.size 4 G)=Y (J q5 n5 c5)/\H w' ⟨w.heap.size+1,0,G⟩=Y (J qp (D f.aH) cp)/\H w' ⟨w.heap.size+1,1,G⟩=Y (O Z f.result)/\H w' ⟨w.heap.size+1,2,G⟩=Y (J ql (D f.aI) cl)/\H w' ⟨w.heap.size+1,3,G⟩=Y (J qc (D f.code) cc)) (first|with_reducible exact KS.j _ OF.j|exact KP.j w2 _ _ _ _ _ _ _ _ OF.j|exact KS.j _ Qu) (first|(go_at_call 129;refine(sK V.heap.size (J qp (D f.aH) cp) (J ql (D f.aI) cl) f.aH f.aI _ Ql Ql (HP.j.gr (HG.j.trans Qu)) (az.j.gr (HG.j.trans Qu)) aA ay).mono ?_;rintro x w2 ⟨v2,rfl,ad,IT⟩;obtain⟨q9,c9,rfl⟩:=aR ad;have TE:=aJ ad;clear ad;have OF:U (Gr V w2):=aJ (Gr.trans (Gr.drew (Gr.alloc (Gr.refl V) _)) IT);clear IT;have d:=aJ (KR.j w2 OF.j);have r0:=aS (o:=0) d.j;have f0:=bE (o:=0) d.j;have r1:=aS (o:=1) d.j;have f1:=bE (o:=1) d.j;have r2:=aS (o:=2) d.j;have f2:=bE (o:=2) d.j;have r3:=aS (o:=3) d.j;have f3:=bE (o:=3) d.j;have r4:=aS (o:=4) d.j;have f4:=bE (o:=4) d.j;have r5:=aS (o:=5) d.j;have f5:=bE (o:=5) d.j;have r6:=aS (o:=6) d.j;have f6:=bE (o:=6) d.j;have r7:=aS (o:=7) d.j;have f7:=bE (o:=7) d.j;simp at r0 r1 r2 r3 r4 r5 r6 r7))
 all_goals go_wp2_with fail
 all_goals rw[F4]
 all_goals
  have F:=Ej (y0:=J q1 n1 c1) (y1:=J q2 n2 c2) (y2:=J q3 n3 c3) (y3:=J q4 n4 c4) (y4:=J q5 n5 c5) (y5:=J q9 (D (f.aH++f.aI)) c9) (y6:=O Z (D f.code:A)) (y7:=O Z f.result) d.j;have p0:=(aS (o:=0) F).trans (show _=Y (J q1 n1 c1) from rfl);have p1:=(aS (o:=1) F).trans (show _=Y (J q2 n2 c2) from rfl);have p2:=(aS (o:=2) F).trans (show _=Y (J q3 n3 c3) from rfl);have p3:=(aS (o:=3) F).trans (show _=Y (J q4 n4 c4) from rfl);have p4:=(aS (o:=4) F).trans (show _=Y (J q5 n5 c5) from rfl);have p5:=(aS (o:=5) F).trans (show _=Y (J q9 (D (f.aH++f.aI)) c9) from rfl);have p6:=(aS (o:=6) F).trans (show _=Y (O Z (D f.code:A)) from rfl);have p7:=(aS (o:=7) F).trans (show _=Y (O Z f.result) from rfl);have S7:=UX.j;have hG:Gr w (lm w2 (w.heap.size+1+1) (J q1 n1 c1) (J q2 n2 c2) (J q3 n3 c3) (J q4 n4 c4) (J q5 n5 c5) (J q9 (D (f.aH++f.aI)) c9) (O Z (D f.code:A)) (O Z f.result)):=GO (HG.j.trans OF.j) Q5;have ai:dY (λb=>w.heap.size<=b/\Dj (lm w2 (w.heap.size+1+1) (J q1 n1 c1) (J q2 n2 c2) (J q3 n3 c3) (J q4 n4 c4) (J q5 n5 c5) (J q9 (D (f.aH++f.aI)) c9) (O Z (D f.code:A)) (O Z f.result)) b) (lm w2 (w.heap.size+1+1) (J q1 n1 c1) (J q2 n2 c2) (J q3 n3 c3) (J q4 n4 c4) (J q5 n5 c5) (J q9 (D (f.aH++f.aI)) c9) (O Z (D f.code:A)) (O Z f.result)) (J q9 (D (f.aH++f.aI)) c9) (f.aH++f.aI):=(i_ TE.j).mono (λb hb hl=>by
   have aB:V.heap.size+1<=b:=by simpa using hb.1
   obtain⟨arr,ae⟩:=hb.2;exact⟨ma Q5,Q5,arr,(ma Q5).trans ae⟩)
  have ak:=aJ hG;have ax:=aJ ai;clear F hG ai;simp only[fe]at p0 p1 p2 p3 p4 p5 p6 p7 ak ax |-;exact qn (v:=.agg #[J q1 n1 c1,J q2 n2 c2,J q3 n3 c3,J q4 n4 c4,J q5 n5 c5,J q9 (D f.aH+D f.aI) c9,O Z (D f.code:A),O Z f.result]) (by simp[results,results80,go_sem,p0,p1,p2,p3,p4,p5,p6,p7]) rfl ⟨_,rfl,ak.j,ax.j⟩
def bH(u:aK)(a:A):By (I A):=if 1<=a then u.aA[(a-1).toNat]? else G
theorem N4{p:Prop}(h:p:=by
 unfold bl bR wB at h;simp only[sQ,xw]at h;obtain⟨h1,h2,h3⟩:=h;refine⟨h1,?_⟩;by_cases e:i.op=1
 · exact .inl e
 right
 rw[eP e]at h2;constructor
 · by_cases c:1<=ah i.op
   · rw[mI c]at h2;simpa using h2
   rw[eP c]at h2;simp at h2;omega
 by_cases c:2<=ah i.op
 · rw[mI c]at h3;simpa using h3
 rw[eP c]at h3;simp at h3;omega):p:=h
theorem kj(h:bl i=AT):(0<=i.op/\i.op<=20)/\(i.op=1\/((0<=i.a/\i.a<=65535)/\0<=i.b/\i.b<=65535)):=by
 exact N4
theorem BC{f:aQ}(d:i.op=15):bU u f i=(bH u i.a).map λs=>(s,[i.a]):=by unfold bU;simp[d,bH]
theorem Bh{f:aQ}(d:i.op=16):bU u f i=(bH u i.a).bind λs=>s[i.b.toNat]?.map λk=>([i.a],[k]):=by unfold bU;simp[d,bH]
theorem Bf{f:aQ}(d:i.op=17):bU u f i=(bH u i.a).bind λs=>s[i.b.toNat]?.map λk=>([i.a,k],[]):=by unfold bU;simp[d,bH]
theorem BU{f:aQ}(d:i.op=18):bU u f i=(bH u i.a).map λ_=>([],[i.a]):=by unfold bU;simp[d,bH]
theorem Bm{f:aQ}(d:i.op=19):bU u f i=(bH u i.a).map λ_=>([i.a],[0]):=by unfold bU;simp[d,bH]
theorem rX{a:A}{F:R}{α:Type}{h:A->α}(d:¬F<D ((bH u a).getD [])):((bH u a).bind λs=>s[F]?.map h)=G:=by
 cases hs:bH u a with
 | none=>rfl
 | some s=>rw[hs]at d;simp at d;simp[AK d]
def r_(o:By (I A×I A))(w:T)(x:Ending)(w':T):Prop:=Gr w w'/\∃vt vp ts ps,x=.returned (.tuple #[.agg #[vt,vp],.bool o.isSome])/\aY w' vt ts/\aY w' vp ps/\D ts<=1000000/\D ps<=2/\(o.isSome=AT->o=Y (ts,ps))
theorem cE{cs:Array M}(h:Gr W w)(d:W.heap.size<=g):Gr W (w.setRow g cs):=
 ⟨h.os,h.tape,h.output,Rh,λi hi No=>by rw[Kk w g i _ Q5];exact h.block i hi No⟩
theorem eF{o:By (I A×I A)}(h:o=Y (ts,ps))(g:Gr w w')(rt:aY w' vt ts)(rp:aY w' vp ps)(lt:D ts<=1000000)(d:D ps<=2):r_ o w (.returned (.tuple #[.agg #[vt,vp],.bool AT])) w':=by
 subst h;exact⟨g,_,_,_,_,rfl,rt,rp,lt,d,λ_=>rfl⟩
theorem kg{o:By (I A×I A)}(h:o=G)(g:Gr w w')(rt:aY w' vt ts)(rp:aY w' vp ps)(lt:D ts<=1000000)(d:D ps<=2):r_ o w (.returned (.tuple #[.agg #[vt,vp],.bool AS])) w':=by
 subst h;exact⟨g,_,_,_,_,rfl,rt,rp,lt,d,λh=>by cases h⟩
structure Fy(w wx:T)(u:aK)(f:aQ)(i:bP)(a1 a2 a3 a4 a5 ap al ac:By Addr)(c1 c2 c3 c4 c5 cp cl cc:R):Prop where
 gr:Gr w wx
 sz:w.heap.size+4<=wx.heap.size
 cs:H wx (Q w.heap.size 0 G)=Y (J a1 (D u.aA) c1)/\H wx (Q w.heap.size 1 G)=Y (J a2 (D u.aE) c2)/\H wx (Q w.heap.size 2 G)=Y (J a3 (D u.aG) c3)/\H wx (Q w.heap.size 3 G)=Y (J a4 (D u.aC) c4)/\H wx (Q w.heap.size 4 G)=Y (J a5 (D u.aD) c5)/\H wx ⟨w.heap.size+1,0,G⟩=Y (J ap (D f.aH) cp)/\H wx ⟨w.heap.size+1,1,G⟩=Y (O Z f.result)/\H wx ⟨w.heap.size+1,2,G⟩=Y (J al (D f.aI) cl)/\H wx ⟨w.heap.size+1,3,G⟩=Y (J ac (D f.code) cc)/\H wx ⟨w.heap.size+1+1,0,G⟩=Y (O Z i.op)/\H wx ⟨w.heap.size+1+1,1,G⟩=Y (O Z i.a)/\H wx ⟨w.heap.size+1+1,2,G⟩=Y (O Z i.b)
 eb:wx.heap[w.heap.size+1+1+1]? =Y (X #[J G 0 0,J G 0 0] 125 (0,0))
theorem Fy.new(w:T)(u:aK)(f:aQ)(i:bP)(a1 a2 a3 F a5 ap al ac:By Addr)(c1 c2 c3 c4 c5 cp d cc:R):Fy w ((((w.alloc (X (yE u a1 c1 a2 c2 a3 c3 F c4 a5 c5) 58)).alloc (X #[J ap (D f.aH) cp,O Z f.result,J al (D f.aI) d,J ac (D f.code) cc] 74)).alloc (X #[O Z i.op,O Z i.a,O Z i.b] 87)).alloc (X #[J G 0 0,J G 0 0] 125)) u f i a1 a2 a3 F a5 ap al ac c1 c2 c3 c4 c5 cp d cc:=by
 refine⟨((((Gr.refl w).alloc _).alloc _).alloc _).alloc _,Q6,?_,?_⟩
 · refine⟨?_,?_,?_,?_,?_,?_,?_,?_,?_,?_,?_,?_⟩<;>simp[go_sem]
 have:=jZ (((w.alloc (X (yE u a1 c1 a2 c2 a3 c3 F c4 a5 c5) 58)).alloc (X #[J ap (D f.aH) cp,O Z f.result,J al (D f.aI) d,J ac (D f.code) cc] 74)).alloc (X #[O Z i.op,O Z i.a,O Z i.b] 87)) (X #[J G 0 0,J G 0 0] 125)
 simpa using this
theorem Fy.go{wx wy:T}{f:aQ}{a2 a3 a4 a5 ap al ac:By Addr}{c2 c3 c4 c5 cp cl cc:R}(h:Fy w wx u f i a1 a2 a3 a4 a5 ap al ac c1 c2 c3 c4 c5 cp cl cc)(g:Gr wx wy):Fy w wy u f i a1 a2 a3 a4 a5 ap al ac c1 c2 c3 c4 c5 cp cl cc:=by
 have hs:=h.sz;obtain⟨k0,k1,k2,k3,k4,k5,k6,k7,k8,k9,F,d⟩:=h.cs;exact⟨h.gr.trans g,wz h.sz g.size,⟨g.cell k0 Q6,g.cell k1 Q6,g.cell k2 Q6,g.cell k3 Q6,g.cell k4 Q6,g.cell k5 Q6,g.cell k6 Q6,g.cell k7 Q6,g.cell k8 Q6,g.cell k9 Q6,g.cell F Q6,g.cell d Q6⟩,(g.block _ Q5 Q6).trans h.eb⟩
theorem lg{p0 p1 p2 p3 p4 p5 p6 p7 p8 p9 d F:Addr}(g:Gr w1 w2)(h:H w1 p0=Y x0/\H w1 p1=Y x1/\H w1 p2=Y x2/\H w1 p3=Y x3/\H w1 p4=Y x4/\H w1 p5=Y x5/\H w1 p6=Y x6/\H w1 p7=Y x7/\H w1 p8=Y x8/\H w1 p9=Y x9/\H w1 d=Y x10/\H w1 F=Y x11):H w2 p0=Y x0/\H w2 p1=Y x1/\H w2 p2=Y x2/\H w2 p3=Y x3/\H w2 p4=Y x4/\H w2 p5=Y x5/\H w2 p6=Y x6/\H w2 p7=Y x7/\H w2 p8=Y x8/\H w2 p9=Y x9/\H w2 d=Y x10/\H w2 F=Y x11:=by
 obtain⟨h0,h1,h2,h3,h4,h5,h6,h7,h8,h9,ad,TC⟩:=h;exact⟨g.cell h0 Q6,g.cell h1 Q6,g.cell h2 Q6,g.cell h3 Q6,g.cell h4 Q6,g.cell h5 Q6,g.cell h6 Q6,g.cell h7 Q6,g.cell h8 Q6,g.cell h9 Q6,g.cell ad Q6,g.cell TC Q6⟩
theorem ag{cs:Array M}(h:¬b=g)(e:H w (Q b o G)=Y x):H (w.setRow g cs) (Q b o G)=Y x:=
 (so (a:=⟨b,o,G⟩) (Kk w g b cs h)).trans e
theorem vG{s:R}{cs:Array M}(h:H w1 (Q s 0 G)=Y x0/\H w1 (Q s 1 G)=Y x1/\H w1 (Q s 2 G)=Y x2/\H w1 (Q s 3 G)=Y x3/\H w1 (Q s 4 G)=Y x4/\H w1 ⟨s+1,0,G⟩=Y x5/\H w1 ⟨s+1,1,G⟩=Y x6/\H w1 ⟨s+1,2,G⟩=Y x7/\H w1 ⟨s+1,3,G⟩=Y x8/\H w1 ⟨s+1+1,0,G⟩=Y x9/\H w1 ⟨s+1+1,1,G⟩=Y x10/\H w1 ⟨s+1+1,2,G⟩=Y x11):H (w1.setRow (s+1+1+1) cs) (Q s 0 G)=Y x0/\H (w1.setRow (s+1+1+1) cs) (Q s 1 G)=Y x1/\H (w1.setRow (s+1+1+1) cs) (Q s 2 G)=Y x2/\H (w1.setRow (s+1+1+1) cs) (Q s 3 G)=Y x3/\H (w1.setRow (s+1+1+1) cs) (Q s 4 G)=Y x4/\H (w1.setRow (s+1+1+1) cs) ⟨s+1,0,G⟩=Y x5/\H (w1.setRow (s+1+1+1) cs) ⟨s+1,1,G⟩=Y x6/\H (w1.setRow (s+1+1+1) cs) ⟨s+1,2,G⟩=Y x7/\H (w1.setRow (s+1+1+1) cs) ⟨s+1,3,G⟩=Y x8/\H (w1.setRow (s+1+1+1) cs) ⟨s+1+1,0,G⟩=Y x9/\H (w1.setRow (s+1+1+1) cs) ⟨s+1+1,1,G⟩=Y x10/\H (w1.setRow (s+1+1+1) cs) ⟨s+1+1,2,G⟩=Y x11:=by
 obtain⟨F,h1,h2,h3,h4,h5,h6,h7,h8,h9,d,TC⟩:=h;exact⟨ag Q5 F,ag Q5 h1,ag Q5 h2,ag Q5 h3,ag Q5 h4,ag Q5 h5,ag Q5 h6,ag Q5 h7,ag Q5 h8,ag Q5 h9,ag Q5 d,ag Q5 TC⟩
theorem Tryz.infErf:(Tryz.prog.info? 125).map (·.size)=Y 2:=Q7
def re(W:T)(y:A)(v:M)(w:T):Prop:=∃b,v=J (Y (Q b 0 G)) 1 1/\W.heap.size<=b/\H w (Q b 0 G)=Y (O Z y)
theorem re.gr{y:A}{v:M}(h:re W y v w)(g:Gr w w'):re W y v w':=by
 obtain⟨b,F,d,h3⟩:=h;exact⟨b,F,d,g.cell h3 Q6⟩
end Go.Proofs.YtghjmnlapcpbiaaGreatDoor
