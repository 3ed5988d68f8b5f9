import Derived.Test.YtghjmnlapcpbiaaGreatDoorW7
import Derived.Defers
import Derived.Recover
namespace Go.Proofs.YtghjmnlapcpbiaaGreatDoor
open _root_ renaming Option.some->Y,Option.none->G,Go.Value.int->O,Go.IntKind.i64->Z,Go.Value.slice->J,List->I,Nat->R,Int->A,Go.World.cell?->H,List.length->D,Go.Obj.cells->X,Go.Value->M,Go.World->T,Go.Addr.mk->Q,Go.RowKit.Hid->U,UInt8->AI,Bool.false->AS,Bool.true->AT,Option->By
open Go.Proofs.Tryz
open Go.RowKit
set_option linter.defProp false
variable{x:Ending}{l r r' t:I AI}{B B' b cb g n o sb:R}{x0 x1 x2 x3 x4:M}{W w w' w1:T}{u:aK}
def L9:=@decide_eq_true
def Md:=@ByteArray.toList_eq
set_option maxRecDepth 100000
set_option maxHeartbeats 8000000
set_option linter.unusedVariables false
set_option linter.unusedSimpArgs false
open Go.RowKit
def da(w:T)(b:R)(x0 x1 x2 x3 x4:M):Prop:=
 w.cell? (Q b 0 G)=Y x0/\H w (Q b 1 G)=Y x1/\H w (Q b 2 G)=Y x2/\H w (Q b 3 G)=Y x3/\H w (Q b 4 G)=Y x4/\w.frozen? ⟨b,0,G⟩=AS/\w.frozen? ⟨b,1,G⟩=AS/\w.frozen? ⟨b,2,G⟩=AS/\w.frozen? ⟨b,3,G⟩=AS/\w.frozen? ⟨b,4,G⟩=AS
theorem da.gc(h:da w b x0 x1 x2 x3 x4)(g:Gc cb w w')(d:¬b=cb):da w' b x0 x1 x2 x3 x4:=by
 obtain⟨h0,h1,h2,h3,F,z0,z1,z2,z3,z4⟩:=h;exact⟨g.box d h0,g.box d h1,g.box d h2,g.box d h3,g.box d F,g.boxz d h0 z0,g.boxz d h1 z1,g.boxz d h2 z2,g.boxz d h3 z3,g.boxz d F z4⟩
theorem da.gr(h:da w b x0 x1 x2 x3 x4)(g:Gr w w'):da w' b x0 x1 x2 x3 x4:=
 h.gc (cb:=b+1) g.toGc Q5
theorem da.new(w:T)(t:TypeId)(x0 x1 x2 x3 x4:M):da (w.alloc (X #[x0,x1,x2,x3,x4] t)) w.heap.size x0 x1 x2 x3 x4:=by
 refine⟨?_,?_,?_,?_,?_,?_,?_,?_,?_,?_⟩<;>simp[go_sem]
theorem Ss{p:Prop}(h:p:=by rw[iI];exact z4):p:=h
theorem da.other{v:M}(h:da w b x0 x1 x2 x3 x4)(hb:¬g=b):da (w.setCell (Q g o G) v) b x0 x1 x2 x3 x4:=by
 obtain⟨h0,h1,h2,F,h4,z0,z1,z2,z3,z4⟩:=h;have d:∀q,H (w.setCell (Q g o G) v) (Q b q G)=H w _:=λq=>Cn w _ _ _ Rw
 exact⟨(d 0).trans h0,(d 1).trans h1,(d 2).trans h2,(d 3).trans F,(d 4).trans h4,QF,QD,QS,Rk,Ss⟩
theorem da.set0(v:M)(h:da w b x0 x1 x2 x3 x4):da (w.setCell (Q b 0 G) v) b v x1 x2 x3 x4:=by
 obtain⟨F,h1,h2,h3,d,z0,z1,z2,z3,z4⟩:=h;exact⟨tO _ _ _ F,(aO Q5).trans h1,(aO Q5).trans h2,(aO Q5).trans h3,(aO Q5).trans d,QF,QD,QS,Rk,Ss⟩
theorem da.set1(v:M)(h:da w b x0 x1 x2 x3 x4):da (w.setCell (Q b 1 G) v) b x0 v x2 x3 x4:=by
 obtain⟨F,h1,h2,h3,d,z0,z1,z2,z3,z4⟩:=h;exact⟨(aO Q5).trans F,tO _ _ _ h1,(aO Q5).trans h2,(aO Q5).trans h3,(aO Q5).trans d,QF,QD,QS,Rk,Ss⟩
theorem da.set2(v:M)(h:da w b x0 x1 x2 x3 x4):da (w.setCell (Q b 2 G) v) b x0 x1 v x3 x4:=by
 obtain⟨F,h1,h2,h3,d,z0,z1,z2,z3,z4⟩:=h;exact⟨(aO Q5).trans F,(aO Q5).trans h1,tO _ _ _ h2,(aO Q5).trans h3,(aO Q5).trans d,QF,QD,QS,Rk,Ss⟩
theorem da.set3(v:M)(h:da w b x0 x1 x2 x3 x4):da (w.setCell (Q b 3 G) v) b x0 x1 x2 v x4:=by
 obtain⟨F,h1,h2,h3,d,z0,z1,z2,z3,z4⟩:=h;exact⟨(aO Q5).trans F,(aO Q5).trans h1,(aO Q5).trans h2,tO _ _ _ h3,(aO Q5).trans d,QF,QD,QS,Rk,Ss⟩
theorem da.set4(v:M)(h:da w b x0 x1 x2 x3 x4):da (w.setCell (Q b 4 G) v) b x0 x1 x2 x3 v:=by
 obtain⟨F,h1,h2,h3,d,z0,z1,z2,z3,z4⟩:=h;exact⟨(aO Q5).trans F,(aO Q5).trans h1,(aO Q5).trans h2,(aO Q5).trans h3,tO _ _ _ d,QF,QD,QS,Rk,Ss⟩
theorem iZ{w2:T}(h:Gr w w1)(k:Gc cb w1 w2)(d:w.heap.size<=cb):Gr w w2:=
 ⟨k.os.trans h.os,k.tape.trans h.tape,k.output.trans h.output,wz h.size k.size,λi hi _=>(k.block i (tu hi h.size) Su).trans (h.block i hi Q6)⟩
theorem dC{v:M}(h:Gr w w1)(d:w.heap.size<=g):Gr w (w1.setCell (Q g o G) v):=
 ⟨h.os,h.tape,h.output,Rh,λi hi No=>by rw[dp _ _ _ _ (by show i≠g;omega)];exact h.block i hi No⟩
theorem f_(h:Below W.heap.size W w){p:Addr}{x:M}(d:H W p=Y x)(F:W.frozen? p=AS):w.frozen? p=AS:=
 (h.frozen (wI W p d)).trans F
theorem y_{d:T}(g:Gr W d)(h:Below d.heap.size d w):Below W.heap.size W w:=
 ((Mt _ _).grown g lj Q6).trans (h.mono g.size)
theorem Je(v:M)(w:T):(Instr.typeAssert (.iface 91 v) 20 91 AT).run prog w=.ok (.tuple #[v,.bool AT]) w:=Q7
def Bv(e n a:A):I PanicEntry:=[{ v:=.iface 91 (.agg #[O Z e,O Z n,O Z a]),recovered:=AS }]
theorem eQ.below(h:eQ w b x0 x1 x2)(g:Below w.heap.size w w'):eQ w' b x0 x1 x2:=by
 obtain⟨d,h1,F,z0,z1,z2⟩:=h;exact⟨a_ g d,a_ g h1,a_ g F,f_ g d z0,f_ g h1 z1,f_ g F z2⟩
def put3(w:T)(b:R)(x0 x1 x2:M):T:=((w.setCell (Q b 0 G) x0).setCell (Q b 1 G) x1).setCell (Q b 2 G) x2
theorem F8(w:T)(b:R)(x0 x1 x2:M):((w.setCell (Q b 0 G) x0).setCell (Q b 1 G) x1).setCell (Q b 2 G) x2=put3 w b x0 x1 x2:=rfl
theorem zL(y0 y1 y2:M)(h:eQ w b x0 x1 x2):eQ (put3 w b y0 y1 y2) b y0 y1 y2:=((h.set0 y0).set1 y1).set2 y2
theorem BJ(w:T)(b:R)(y0 y1 y2:M):Gc b w (put3 w b y0 y1 y2):=(((Gc.refl b w).set 0 y0).set 1 y1).set 2 y2
theorem Ig(e n a:A)(w:T):
 Calls prog 52 #[.iface 91 (.agg #[O Z e,O Z n,O Z a])] w λx w'=>
  x=.returned (.agg #[O Z e,O Z n,O Z a])/\Gr w w':=by
 have has:=λv w=>Je v w
 go_enter func52,ntmps52
 go_wp2;exact qn (by simp[results,results52,go_sem]) rfl ⟨rfl,(G5).alloc _⟩
theorem DE(wb:R)(e n a:A)(x0 x1 x2:M)(d:I PanicEntry)(w:T)(hb:eQ w wb x0 x1 x2):
 CallsD prog 51 #[.pointer (Y (Q wb 0 G))] (.panicking ({ v:=.iface 91 (.agg #[O Z e,O Z n,O Z a]),recovered:=AS }::d)) w λx u' w'=>
  x=.returned (.tuple #[])/\u'=.panicking ({ v:=.iface 91 (.agg #[O Z e,O Z n,O Z a]),recovered:=AT }::d)/\∃w1,Gr w w1/\w'=put3 w1 wb (O Z e) (O Z n) (O Z a):=by
 refine callsD_of_wpS func51 rfl λc₀ cs F=>?_
 apply wpS_seq
 apply wpS_region
 simp[wpOpsS,go_sem,recoverD,F,ntmps51,Exit.thenS]
 refine wpS_of_wp ?_;have ad:(#[Value.pointer (Y (Q wb 0 G))]++((Array.replicate 6 undef).setIfInBounds 1 _).setIfInBounds 0 _:Array _)=#[Value.pointer _,Value.iface 91 (Value.agg #[O Z e,O Z n,O Z a]),Value.iface 91 (Value.agg #[O Z e,O Z n,O Z a]),undef,undef,undef,undef]:=rfl;rw[ad];go_wp2_with(go_at_call 52;refine(Ig e n a _).mono ?_;rintro x w1 ⟨rfl,S5⟩;obtain⟨h0,h1,h2,z0,z1,z2⟩:=hb.gr S5)
 simp[bodyPostS,results,results51]
 exact⟨_,S5,rfl⟩
theorem Fe(p:Addr)(w:T):
 CallsD prog 51 #[.pointer (Y p)] .returning w λx u' w'=>x=.returned (.tuple #[])/\u'=.returning/\w'=w:=by
 refine callsD_of_wpS func51 rfl λF cs hu=>?_
 apply wpS_seq
 apply wpS_region
 simp[wpOpsS,go_sem,recoverD,hu,ntmps51,Exit.thenS]
 refine wpS_of_wp ?_;have d:(#[Value.pointer _]++((Array.replicate 6 undef).setIfInBounds 1 _).setIfInBounds 0 _:Array _)=#[Value.pointer (Y p),Value.nilIface,Value.nilIface,undef,undef,undef,undef]:=rfl;rw[d];go_wp2;cases F
 simp_all[bodyPostS,results,results51]
theorem nJ(f:R)(caps:Array M)(W:T)(ok:T->Prop)(bad:A->A->A->T->Prop)
 (ai:∀w,(callFunc f caps).run prog w=.ok (.enter f caps) w)
 (hw:Calls prog f caps (W.alloc (X #[O Z 0,O Z 0,O Z 0] 91)) λx w1=>eQ w1 W.heap.size (O Z 0) (O Z 0) (O Z 0)/\((x=.returned (.tuple #[])/\ok w1)\/∃e n a,x=.panicked (Bv e n a)/\bad e n a w1)):
 Calls prog 27 #[.func (.func f) #[] caps] W λx w'=>∃w1,Gc W.heap.size w1 w'/\W.heap.size<w1.heap.size/\((x=.returned (.agg #[O Z 0,O Z 0,O Z 0])/\ok w1)\/∃e n a,x=.returned (.agg #[O Z e,O Z n,O Z a])/\bad e n a w1):=by
 have HW:=aJ hw;go_enter_defers func27,ntmps27
 go_wp2_with fail;refine HW.mono ?_;rintro x w1 ⟨d,h⟩;have UR:W.heap.size<w1.heap.size:=wI _ _ d.1;rcases h with⟨rfl,Tb⟩|⟨e,n,a,rfl,ad⟩
 · have HO:=aJ Tb;have ae:=zL (O Z 0) (O Z 0) (O Z 0) d;obtain⟨F,h1,h2,z0,z1,z2⟩:=d;go_wp2;refine leaves_cons (f:=51) (args:=#[.pointer (Y (Q W.heap.size 0 G))]) Q6 Ql ?_;refine(Fe _ _).mono ?_;rintro e u' af ⟨rfl,rfl,rfl⟩;rw[F8];obtain⟨F,h1,h2,z0,z1,z2⟩:=ae;simp[Leaves,settle,results,results27,go_sem,F,h1,h2]
   exact⟨_,BJ _ _ _ _ _,UR,.inl HO⟩
 have HO:=aJ ad;refine leaves_cons (f:=51) (args:=#[.pointer (Y (Q W.heap.size 0 G))]) Q6 Ql ?_;refine(DE _ e n a _ _ _ _ _ d).mono ?_;rintro x u' af ⟨rfl,rfl,w2,IT,rfl⟩;obtain⟨F,h1,h2,z0,z1,z2⟩:=zL (O Z e) (O Z n) (O Z a) (d.gr IT);have HG:=aJ (IT.toGc.trans (BJ _ W.heap.size (O Z e) (O Z n) (O Z a)));generalize put3 _ _ _ _ _=WF at F h1 h2 z0 z1 z2 HG |-;simp[Leaves,settle,results,results27,go_sem,F,h1,h2]
 exact⟨_,HG,UR,.inr ⟨e,n,a,⟨rfl,rfl,rfl⟩,HO⟩⟩
attribute [local go_sem ↓] Go.wp_at_zero Go.wp_at_succ
theorem Em(l:I AI):(l ==[75,73,76,78,1])=decide (l=jS):=by rw[KZ,beq_iff_eq,xw];rfl
theorem tj(s:ByteArray)(w:T)(hs:s.size<=maxLen):
 Calls prog 108 #[.string s,.string ⟨#[75,73,76,78,1]⟩] w λx w'=>x=.returned (.bool (decide (s.data.toList.take 5=jS)))/\w'=w:=by
 unfold maxLen at hs;by_cases h5:5<=s.size
 · have F:(5:A)<=s.size:=by omega
   have d:decide ((5:A)<=s.size)=AT:=by simpa using F
   have hex:=sE s 5;go_enter func108,ntmps108
   go_wp2;go_ret
   exact⟨by rw[<-Em];rfl,rfl⟩
 have d:decide ((5:A)<=s.size)=AS:=Si
 have hl:D s.data.toList=s.size:=by rw[Aj];rfl
 go_enter func108,ntmps108
 go_wp2;go_ret
 have hf:decide (s.data.toList.take 5=jS)=AS:=by
  rw[zG];intro h;have:=congrArg List.length h
  rw[Bc]at this;have hm:D jS=5:=rfl;omega
 exact⟨by rw[hf];rfl,rfl⟩
def JT{α:Type}(sb:R)(t:I AI)(p B:R)(w:T)(RRq:R->T->M->I α->Prop):By (I α×I AI)->Ending->T->Prop
 | some (y,r),x,w'=>∃v,x=.returned (.tuple #[v,.agg #[O Z 2,O Z 0,O Z (p:A)]])/\RRq B w' v y/\qe w' sb t (D t-D r)/\Gc sb w w'
 | none,x,w'=>x=.panicked (iT 2 p)/\Gc sb w w'
def iV(K fn:FuncId)(z:A)(n:R){α:Type}(RRq:R->T->M->I α->Prop)(rd:I AI->By (I α×I AI)):Prop:=
 ∀(sb B:R) (t:I AI) (p:R) (w:T),qe w sb t p->sb<B->B<=w.heap.size->
  Calls prog K #[.pointer (Y (Q sb 0 G)),.int .u8 z,.func (.func fn) #[] #[]] w (JT sb t p B w RRq (bW n rd (t.drop p)))
structure xM:Prop where
 s1:iV 55 56 1 1 gH (aV cP)
 s2:iV 58 59 2 2 gO (aV bn)
 s3:iV 61 62 3 3 iM (aV dR)
 s4:iV 64 65 4 4 fO (aV er)
 s5:iV 67 68 5 5 fB (aV fH)
def A0(t:I AI)(sh:I (I A))(cs:I A)(fs:I aQ)(im:I eL)(r4:I AI):aK ⊕ (A×R):=match bW 5 (aV fH) r4 with
 | none=>.inr (2,pl t r4)
 | some (ex,r5)=>if cH ex (D fs)=AS then .inr (2,pl t r4) else if r5=[] then .inl ⟨sh,cs,fs,im,ex⟩ else .inr (2,pl t r5)
def A_(t:I AI)(sh:I (I A))(cs:I A)(fs:I aQ)(r3:I AI):aK ⊕ (A×R):=match bW 4 (aV er) r3 with
 | none=>.inr (2,pl t r3)
 | some (im,r4)=>if cG im (D sh)=AS then .inr (2,pl t r3) else A0 t sh cs fs im r4
def z'(t:I AI)(sh:I (I A))(cs:I A)(r2:I AI):aK ⊕ (A×R):=match bW 3 (aV dR) r2 with
 | none=>.inr (2,pl t r2)
 | some (fs,r3)=>if cO fs (D sh)=AS then .inr (2,pl t r2) else A_ t sh cs fs r3
def Ac(t:I AI)(sh:I (I A))(r1:I AI):aK ⊕ (A×R):=match bW 2 (aV bn) r1 with
 | none=>.inr (2,pl t r1)
 | some (cs,r2)=>if cm cs=AS then .inr (2,pl t r1) else z' t sh cs r2
theorem yT(F:¬20000<D t)(d:t.take 5=jS):lk t=match bW 1 (aV cP) (t.drop 5) with
 | none=>.inr (2,5)
 | some (sh,r1)=>if bh sh=AS then .inr (2,5) else Ac t sh r1:=by
 unfold lk;rw[eP F,eP λh=>h d];rfl
theorem pY{x:I AI}{p:R}(h:t.drop p=x++r):t.drop (pl t r)=r:=by
 have e:r=t.drop (p+D x):=by rw[<-List.drop_drop,h];simp
 unfold pl;by_cases hp:p+D x<=D t
 · have d:D r=D t-(p+D x):=by rw[e,J2]
   rw[d,show D t-(D t-(p+D x))=p+x.length by omega];exact e.symm
 have F:r=[]:=by rw[e];exact List.drop_eq_nil_of_le Q5
 rw[F];simp
theorem gu{α:Type}{f:I AI->By (I α×I AI)}{y:I α}(h:bW n f r=Y (y,r')):∃x,r=x++r':=by
 unfold bW at h;cases d:eK n r with
 | none=>rw[d]at h;cases h
 | some p=>
  obtain⟨b,r1⟩:=p;rw[d]at h;simp only at h;cases F:cY f b with
  | none=>rw[F]at h;cases h
  | some z=>
   rw[F]at h;simp only[qN,H9]at h;rw[<-h.2];exact⟨_,zM d⟩
def mX(B:R)(w:T)(v:M)(u:aK):Prop:=
 ∃v1 v2 v3 v4 v5,v=.agg #[v1,v2,v3,v4,v5]/\gH B w v1 u.aA/\gO B w v2 u.aE/\iM B w v3 u.aG/\fO B w v4 u.aC/\fB B w v5 u.aD
theorem mX.to{v:M}(h:mX B w v u):bV w v u:=by
 obtain⟨v1,v2,v3,v4,v5,h,h1,h2,h3,d,F⟩:=h;exact⟨_,_,_,_,_,h,h1.to,h2.to,h3.to,d.to,F.to⟩
theorem mX.kp{v:M}(h:mX B w v u)(g:Kp B w w'):mX B w' v u:=by
 obtain⟨v1,v2,v3,v4,v5,h,h1,h2,h3,d,F⟩:=h;exact⟨_,_,_,_,_,h,h1.kp g,h2.kp g,h3.kp g,d.kp g,F.kp g⟩
def I_(w:T):aK ⊕ (A×R)->Ending->T->Prop
 | .inl u,x,w'=>∃v B,x=.returned v/\w.heap.size<=B/\mX B w' v u/\Gr w w'
 | .inr (e,p),x,w'=>x=.panicked (iT e p)/\Gr w w'
theorem gH.shape{v:M}{l:I (I A)}(h:gH B w v l):∃ao cap,v=J ao (D l) cap:=by
 exact NR
theorem iM.shape{v:M}{l:I aQ}(h:iM B w v l):∃ao cap,v=J ao (D l) cap:=by
 exact NR
theorem fO.shape{v:M}{l:I eL}(h:fO B w v l):∃ao cap,v=J ao (D l) cap:=by
 exact NR
theorem fB.shape{v:M}{l:I cJ}(h:fB B w v l):∃ao cap,v=J ao (D l) cap:=by
 exact NR
theorem gH.mono{v:M}{l:I (I A)}(h:gH B' w v l)(d:B<=B'):gH B w v l:=by
 obtain⟨ao,cap,hv,hm,F⟩:=h;refine⟨_,_,hv,hm,λi x hi=>?_⟩;obtain⟨b,off,vx,h1,h2,h3,h4⟩:=F i x hi;exact⟨b,_,_,h1,wz d h2,h3,h4.mono d⟩
theorem iM.mono{v:M}{l:I aQ}(h:iM B' w v l)(d:B<=B'):iM B w v l:=by
 obtain⟨ao,cap,hv,hm,F⟩:=h;refine⟨_,_,hv,hm,λi x hi=>?_⟩;obtain⟨b,off,vp,vl,vc,h1,h2,h3,h4,h5,h6,h7,h8,h9⟩:=F i x hi;exact⟨b,_,_,_,_,h1,wz d h2,h3,h4,h5,h6,h7.mono d,h8.mono d,h9.mono d⟩
theorem fO.mono{v:M}{l:I eL}(h:fO B' w v l)(d:B<=B'):fO B w v l:=by
 obtain⟨ao,cap,hv,hm,F⟩:=h;refine⟨_,_,hv,hm,λi x hi=>?_⟩;obtain⟨b,off,vs,vp,h1,h2,h3,h4,h5,h6,h7⟩:=F i x hi;exact⟨b,_,_,_,h1,wz d h2,h3,h4,h5,h6,h7.mono d⟩
theorem fB.mono{v:M}{l:I cJ}(h:fB B' w v l)(hB:B<=B'):fB B w v l:=by
 obtain⟨ao,cap,hv,hm,d⟩:=h;refine⟨_,_,hv,hm,λi x hi=>?_⟩;obtain⟨b,off,vs,h1,h2,h3,F,h5⟩:=d i x hi;exact⟨b,_,_,h1,wz hB h2,h3,F,h5⟩
theorem qe.set{v:M}{p:R}(h:qe w sb t p)(No:¬g=sb):qe (w.setCell (Q g o G) v) sb t p:=by
 obtain⟨⟨s,F,hs⟩,hl,hp,h1,z1⟩:=h;have d:∀q,H (w.setCell (Q g o G) v) _=H w (Q _ q G):=λq=>Cn w _ _ _ (by intro e;simp only[Ij]at e;exact No e.1)
 exact⟨⟨s,(d 0).trans F,hs⟩,hl,hp,(d 1).trans h1,QD⟩
theorem eQ.put(v v' v2:M)(h:eQ w b x0 x1 x2):eQ (((w.setCell (Q b 0 G) v).setCell (Q b 1 G) v').setCell (Q b 2 G) v2) b v v' v2:=((h.set0 v).set1 v').set2 v2
theorem pI(w:T):
 (w.alloc (X #[O Z 0,O Z 0,O Z 0] 91)).cell? (Q w.heap.size 0 G)=Y (O Z 0)/\
 (w.alloc (X #[O Z 0,O Z 0,O Z 0] 91)).cell? (Q w.heap.size 1 G)=Y (O Z 0)/\
 (w.alloc (X #[O Z 0,O Z 0,O Z 0] 91)).cell? (Q w.heap.size 2 G)=Y (O Z 0)/\
 (w.alloc (X #[O Z 0,O Z 0,O Z 0] 91)).frozen? ⟨w.heap.size,0,G⟩=AS/\
 (w.alloc (X #[O Z 0,O Z 0,O Z 0] 91)).frozen? ⟨w.heap.size,1,G⟩=AS/\
 (w.alloc (X #[O Z 0,O Z 0,O Z 0] 91)).frozen? ⟨w.heap.size,2,G⟩=AS:=by
 refine⟨?_,?_,?_,?_,?_,?_⟩<;>simp[go_sem]
theorem pg(h:Gc cb w w'){g:R}{v v' v2:M}(d:w.heap.size<=g):Gc cb w (((w'.setCell (Q g 0 G) v).setCell (Q g 1 G) v').setCell (Q g 2 G) v2).drew:=(bw (bw (bw h d) d) d).drew
theorem LR{α:Type}{F:I AI->By (I α×I AI)}(d:eK n l=G):bW n F l=G:=by simp[bW,d]
theorem LS{α:Type}{F:I AI->By (I α×I AI)}{b:I AI}(ho:eK n l=Y (b,r))(d:F b=G):bW n F l=G:=by simp[bW,cY,ho,d]
theorem Iv{α:Type}{F:I AI->By (I α×I AI)}{b:I AI}{y:I α}(ho:eK n l=Y (b,r))(d:F b=Y (y,[])):bW n F l=Y (y,r):=by simp[bW,cY,ho,d]
theorem LQ{α:Type}{F:I AI->By (I α×I AI)}{b:I AI}{y:I α}(ho:eK n l=Y (b,r))(d:F b=Y (y,r'))(hr:¬r'=[]):bW n F l=G:=by
 obtain _|⟨c,q⟩:=r'
 · exact absurd rfl hr
 simp[bW,cY,ho,d]
theorem tX.cs{α:Type}{e a:A}{RRq:T->M->α->Prop}{o:By (α×I AI)}(h:tX cb e a w RRq o x w'):(o=G/\x=.panicked (iT e a)/\Gc cb w w')\/∃y r v,o=Y (y,r)/\x=.returned v/\RRq w' v y/\mE w' cb r e a/\Gc cb w w':=by
 obtain _|⟨y,r⟩:=o
 · exact .inl ⟨rfl,h⟩
 obtain⟨v,h⟩:=h;exact .inr ⟨y,r,v,rfl,h⟩
theorem H'.cs{p:R}{o:By (I AI×I AI)}(h:H' sb t p w o x w'):(o=G/\x=.panicked (iT 2 p)/\Gc sb w w')\/∃body r d,o=Y (body,r)/\x=.returned (.pointer (Y (Q d 0 G)))/\w.heap.size<=d/\d<w'.heap.size/\mE w' d body 2 p/\qe w' sb t (D t-D r)/\Gc sb w w':=by
 obtain _|⟨b,r⟩:=o
 · exact .inl ⟨rfl,h⟩
 obtain⟨d,h⟩:=h;exact .inr ⟨b,r,_,rfl,h⟩
theorem set3{y0 y1 y2:M}(d:H w (Q g 0 G)=Y x0)(h1:H w (Q g 1 G)=Y x1)(F:H w (Q g 2 G)=Y x2):(((w.setCell (Q g 0 G) y0).setCell (Q g 1 G) y1).setCell (Q g 2 G) y2).drew.cell? (Q g 0 G)=Y y0/\(((w.setCell (Q g 0 G) y0).setCell (Q g 1 G) y1).setCell (Q g 2 G) y2).drew.cell? (Q g 1 G)=Y y1/\(((w.setCell (Q g 0 G) y0).setCell (Q g 1 G) y1).setCell (Q g 2 G) y2).drew.cell? (Q g 2 G)=Y y2:=
 ⟨(aO Q5).trans ((aO Q5).trans (tO w _ _ d)),(aO Q5).trans (tO _ _ _ ((aO Q5).trans h1)),tO _ _ _ ((aO Q5).trans ((aO Q5).trans F))⟩
theorem Gc.boxs(h:Gc cb w w')(d:¬g=cb)(F:H w (Q g 0 G)=Y x0)(q1:H w (Q g 1 G)=Y x1)(q2:H w (Q g 2 G)=Y x2)(z0:w.frozen? ⟨g,0,G⟩=AS)(z1:w.frozen? ⟨g,1,G⟩=AS)(z2:w.frozen? ⟨g,2,G⟩=AS):H w' (Q g 0 G)=Y x0/\H w' (Q g 1 G)=Y x1/\H w' (Q g 2 G)=Y x2/\w'.frozen? ⟨g,0,G⟩=AS/\w'.frozen? ⟨g,1,G⟩=AS/\w'.frozen? ⟨g,2,G⟩=AS:=
 ⟨h.box d F,h.box d q1,h.box d q2,h.boxz d F z0,h.boxz d q1 z1,h.boxz d q2 z2⟩
theorem DL{P:Prop}(h:P:=by
 intro sb B t p w hS hb hB;have Tn:sb<w.heap.size:=wI w _ hS.2.2.2.1;have HS:=aJ hS;go_enter a1.j,a2.j
 go_wp2_with fail;obtain⟨q0,q1,q2,z0,z1,z2⟩:=pI w;have VJ:=Gr.alloc (Gr.refl w) (X #[O Z 0,O Z 0,O Z 0] 91);have Vd:(w.alloc (X #[O Z 0,O Z 0,O Z 0] 91)).heap.size=w.heap.size+1:=Q6;refine(nX sb t p _ Q9 _ (HS.j.gc (cb:=w.heap.size) VJ.toGc Q5)).mono ?_;generalize (w.alloc (X #[O Z 0,O Z 0,O Z 0] 91))=W0 at q0 q1 q2 z0 z1 z2 VJ Vd |-;intro x w1 h;rcases h.cs with⟨ho,rfl,hg⟩|⟨body,r,nb,ho,rfl,VO,XB,IS,TL,hg⟩
 · exact⟨rfl,by rw[LR ho];exact⟨rfl,Gc.trans_ VJ.toGc hg⟩⟩
 obtain⟨p0,p1,p2,y0,y1,y2⟩:=hg.boxs (show ¬w.heap.size=sb by omega) q0 q1 q2 z0 z1 z2;have HG:=aJ (Gc.trans_ (VJ.toGc (cb:=sb)) hg);have Uh:w.heap.size<w1.heap.size:=by have:=hg.size;omega
 have HC:=aJ IS;have T4:=aJ TL;have HO:=aJ ho;go_wp2_with fail;refine(a3.j nb w1.heap.size body 2 p _ HC.j XB lj).mono ?_;intro x w2 h;rcases h.cs with⟨hl,rfl,IT⟩|⟨y,r2,v,hl,rfl,hy,Xj,IT⟩
 · exact⟨rfl,by rw[LS HO.j hl];exact⟨rfl,HG.j.over IT Q5⟩⟩
 obtain⟨a1,c1,rfl⟩:=hy.shape;have HY:=aJ hy;have HL:=aJ hl;obtain⟨m0,m1,m2,n0,n1,n2⟩:=IT.boxs (show ¬w.heap.size=nb by omega) p0 p1 p2 y0 y1 y2;have OF:=aJ (HG.j.over IT Q5);have Xd:=aJ (T4.j.gc IT Q5);have TV:w1.heap.size<=w2.heap.size:=IT.size;obtain⟨⟨s,e0,es⟩,el,e1,e2,ez,e3⟩:=Xj;by_cases T2:r2=[]
 · subst T2;have Wh:s=⟨#[]⟩:=by
    cases s with|mk d=>simp at es;rw[es]
   subst Wh;have HF:=aJ (Iv HO.j HL.j);go_wp2;go_region_held3 (λw'=>H w' (Q nb 0 G)=Y (.string ⟨#[]⟩)/\H w' (Q nb 1 G)=Y (O Z 2)/\H w' (Q nb 3 G)=Y (O Z (p:A))/\H w' (Q nb 2 G)=Y (O Z 0)) (first|go_keep|(refine⟨?_,?_,?_,?_⟩<;>exact BY.cell Q8 Q6)) (first|(go_at_call 53;refine(aj _ _ _).mono ?_;rintro e w' ⟨rfl,BY⟩))
   have Tp:=Gr.trans Gy BY;obtain⟨k0,k1,k2,f0,f1,f2⟩:=(Tp.toGc (cb:=nb)).boxs Q5 m0 m1 m2 n0 n1 n2;have g1:=Tp.cell e1 Q6;have g2:=Tp.cell e2 Q6;have g3:=Tp.cell e3 Q6;have XF:=aJ (HY.j.kp Tp.kp);have Te:=aJ (Gc.trans_ OF.j Tp.toGc);have Wv:=aJ (Xd.j.gc (Tp.toGc (cb:=nb)) Q5);have hn:¬w.heap.size=nb:=Q5;have Xt:¬nb=w.heap.size:=Q5;have Wr:w1.heap.size<=w'.heap.size:=wz TV Tp.size;generalize w'=W3 at k0 k1 k2 f0 f1 f2 g1 g2 g3 XF Te Wv Wr |-;go_wp2;go_region_held3 (λw'=>H w' (Q nb 1 G)=Y (O Z 2)/\H w' (Q nb 3 G)=Y (O Z (p:A))/\H w' (Q nb 2 G)=Y (O Z 0)) (go_keep) (fail)
   obtain⟨t0,t1,t2⟩:=set3 (y0:=O Z 2) (y1:=O Z 0) (y2:=O Z (p:A)) k0 k1 k2;have XG:=aJ (((((XF.j.kp (aX (o:=0) (v:=O Z 2) Uh)).kp (aX (o:=1) (v:=O Z 0) Uh)).kp (aX (o:=2) (v:=O Z (p:A)) Uh)).kp (Gy).kp).mono (B:=B) Q5);have WB:=aJ (((((Wv.j.set (g:=w.heap.size) (o:=0) (v:=O Z 2) Q5).set (g:=w.heap.size) (o:=1) (v:=O Z 0) Q5).set (g:=w.heap.size) (o:=2) (v:=O Z (p:A)) Q5)).gc (cb:=w.heap.size) (Gy).toGc Q5);have Tg:=aJ (pg (v:=O Z 2) (v':=O Z 0) (v2:=O Z (p:A)) Te.j lj);generalize (((W3.setCell (Q w.heap.size 0 G) (O Z 2)).setCell (Q w.heap.size 1 G) (O Z 0)).setCell (Q w.heap.size 2 G) (O Z (p:A))).drew=W4 at t0 t1 t2 XG WB Tg |-;go_wp2;exact qn (v:=.tuple #[J a1 (D y) c1,.agg #[O Z 2,O Z 0,O Z (p:A)]]) (by simp[results,a4.j,go_sem,t0,t1,t2]) rfl (by rw[HF.j];exact⟨_,rfl,XG.j,WB.j,Tg.j⟩)
 · have TQ:s.toList.isEmpty=AS:=by
    rw[Md,es];cases r2 with
    | nil=>exact absurd rfl T2
    | cons b l=>rfl
   have HF:=aJ (LQ HO.j HL.j T2);go_wp2;go_region_with (first|(go_at_call 53;refine(bA _ _ _).mono ?_;rintro e w' ⟨rfl,BY⟩;refine an ?_))
   all_goals exact⟨rfl,by rw[HF.j];exact⟨rfl,OF.j.trans (Gr.trans (Gr.drew (Gr.refl w2)) BY).toGc⟩⟩):P:=h
theorem xu:iV 55 56 1 1 gH (aV cP):=by
 have a1:=aJ func55;have a2:=aJ ntmps55;have a3:=aJ yk;have a4:=aJ results55;exact DL
theorem xN:iV 58 59 2 2 gO (aV bn):=by
 have a1:=aJ func58;have a2:=aJ ntmps58;have a3:=aJ vY;have a4:=aJ results58;exact DL
theorem AV:iV 61 62 3 3 iM (aV dR):=by
 have a1:=aJ func61;have a2:=aJ ntmps61;have a3:=aJ Al;have a4:=aJ results61;exact DL
theorem Cs:iV 64 65 4 4 fO (aV er):=by
 have a1:=aJ func64;have a2:=aJ ntmps64;have a3:=aJ C_;have a4:=aJ results64;exact DL
theorem Dg:iV 67 68 5 5 fB (aV fH):=by
 have a1:=aJ func67;have a2:=aJ ntmps67;have a3:=aJ Cc;have a4:=aJ results67;exact DL
theorem FN:xM:=⟨xu,xN,AV,Cs,Dg⟩
theorem qe.new(w:T)(s:ByteArray)(t:I AI)(hs:s.data.toList=t)(d:D t<=1000000)(F:5<=D t):qe (w.alloc (X #[.string s,O Z 5] 139)) w.heap.size t 5:=by
 refine⟨⟨s,Ql,hs⟩,d,F,Ql,Ql⟩
theorem Oa{p:Prop}(h:p:=by rintro e w' ⟨rfl,BY⟩;exact⟨rfl,by rw[HE];exact⟨rfl,Tu.trans BY⟩⟩):p:=h
theorem OD{p:Prop}(h:p:=by exact⟨rfl,by rw[hE];exact⟨rfl,iZ Tg hg Q5⟩⟩):p:=h
theorem Q4{p:Prop}(h:p:=by have h1:=Vg.j;have h2:=hg.size;simp;omega):p:=h
theorem FG(S:xM)(s:ByteArray)(w:T)(hs:s.size<=maxLen):
 Calls prog 29 #[.string s] w (I_ w (lk s.data.toList)):=by
 have cp:=hs;unfold maxLen at hs;have S7:D s.data.toList=s.size:=by rw[Aj];rfl
 have cy:=aJ (da.new w 58 (J G 0 0) (J G 0 0) (J G 0 0) (J G 0 0) (J G 0 0));have a':=aJ (Gr.alloc (Gr.refl w) (X yF 58));by_cases ck:20000<s.size
 · have hd:decide ((s.size:A)<=20000)=AS:=by rw[zG];omega
   have HE:U (lk s.data.toList=.inr _):=aJ (by unfold lk;rw[mI Q5]);go_enter func29,ntmps29
   go_wp2_with(go_at_call 53;refine(bA _ _ _).mono ?_;rintro e w1 ⟨rfl,S5⟩)
   exact⟨rfl,by rw[HE];exact⟨rfl,a'.trans S5⟩⟩
 have hd:(s.size:A)<=20000:=Q5;have b4:∀V,U (Calls _ 54 #[.string s,.string _] V λx w'=>x=.returned (.bool _)/\w'=V):=λV=>aJ (by
  go_enter func54,ntmps54
  go_wp2_with(go_at_call 108;refine(tj s _ cp).mono ?_;rintro x w2 ⟨rfl,e2⟩;subst e2)
  go_ret
  exact⟨rfl,rfl⟩)
 by_cases ay:s.data.toList.take 5=jS
 rotate_left
 · have HE:U (lk s.data.toList=.inr _):=aJ (by unfold lk;rw[eP Q5,mI ay]);have cL:decide _=AS:=zG.2 ay;go_enter func29,ntmps29
   go_wp2_with fail;refine(aj _ _ _).mono ?_;rintro e w1 ⟨rfl,S5⟩;go_wp2_with fail;refine(b4 _).j.mono ?_;rintro e w2 ⟨rfl,e2⟩;subst e2;rw[cL];go_wp2_with fail;refine(bA _ _ _).mono ?_;rintro e w3 ⟨rfl,Ta⟩;exact⟨rfl,by rw[HE];exact⟨rfl,(a'.trans S5).trans Ta⟩⟩
 have b7:=L9 ay;have bo:=b7;have h5:5<=D s.data.toList:=by have:=congrArg List.length ay;rw[Bc]at this;have hm:D jS=5:=rfl;omega
 have aB:=aJ (yT Q5 ay);have aC:=λV=>aJ (qe.new V s _ rfl Q5 h5)
 generalize hT:s.data.toList=Tq at aB aC h5 b7 S7 ay;have UX:=aJ S7;go_enter func29,ntmps29
 go_wp2_with fail;refine(aj _ _ _).mono ?_;rintro e w1 ⟨rfl,S5⟩;go_wp2_with fail;refine(b4 _).j.mono ?_;rintro e w2 ⟨rfl,e2⟩;subst e2;rw[bo];go_wp2_with fail;refine(aj _ _ _).mono ?_;rintro e w3 ⟨rfl,Ta⟩;go_wp2_with fail;have c6:=(a'.trans S5).trans Ta;have cB:w.heap.size<w3.heap.size:=by have h1:=S5.size;have h3:=Ta.size;simp at h1;omega
 have bp:=((cy.gr S5).gr Ta);have Tg:=aJ (((c6.alloc (X yF 58)).alloc (X #[O Z 0,O Z 0,O Z 0] 91)).alloc (X #[.string s,O Z 5] 139));have aI:=Gr.alloc (Gr.refl ((w3.alloc (X yF 58)).alloc (X #[O Z 0,O Z 0,O Z 0] 91))) (X #[.string s,O Z 5] 139);have aE:=Gr.trans (Gr.alloc G0 _) aI;have T7:=aJ ((bp.gr (Gr.alloc G0 _)).gr aE);have ak:=aJ ((da.new _ _ _ _ _ _ _).gr aE);have TZ:=(eQ.new _ _ _ _ _).gr aI;rw[show(w3.alloc _).heap.size=w3.heap.size+1 by simp]at TZ;have al:=aJ TZ;have TL:=(aC ((w3.alloc (X yF 58)).alloc (X #[O Z 0,O Z 0,O Z 0] 91))).j;rw[show((w3.alloc _).alloc _).heap.size=w3.heap.size+2 by simp]at TL;have T4:=aJ TL;have Vg:U (w3.heap.size+3<=(((w3.alloc (X yF 58)).alloc (X #[O Z 0,O Z 0,O Z 0] 91)).alloc (X #[.string s,O Z 5] 139)).heap.size):=aJ Q6;generalize ((w3.alloc _).alloc _).alloc _=W at Tg T7 ak al T4 Vg |-;rw[show w3.heap.size+1+1=w3.heap.size+2 from rfl];generalize w3.heap.size=d at cB ak al T4 Vg |-;refine(S.s1 _ _ Tq 5 _ T4 Q5 Vg).mono ?_;intro x bB h;cases hr:bW 1 (aV cP) (Tq.drop 5) with
 | none=>
  rw[hr]at h;obtain⟨rfl,hg⟩:=h;have hE:lk Tq=.inr (2,5):=by rw[aB,hr]
  exact OD
 | some q=>
 obtain⟨y1,r1⟩:=q;rw[hr]at h;obtain⟨v1,rfl,hy,TL,hg⟩:=h;obtain⟨a1,c1,hv⟩:=hy.shape;subst hv;have dw:=aJ (hy.choose_spec.choose_spec.2.1);have Va:U (Tq.drop (D Tq-D r1)=r1):=aJ (by
  obtain⟨xx,hx⟩:=gu hr;exact pY (hx))
 generalize az:D Tq-D r1=p1 at TL Va;have ca:=aJ az;have aL:=aJ hr;have T1:=ak.gc hg Q5;have TZ:=al.gc hg Q5;have Tu:=aJ (dC (g:=d+1) (o:=2) (v:=O Z 5) (dC (g:=d+1) (o:=1) (v:=O Z 0) (dC (g:=d+1) (o:=0) (v:=O Z 2) (dC (g:=d) (o:=0) (v:=J a1 (D y1) c1) (iZ Tg hg Q5) Q5) Q5) Q5) Q5);have af:=aJ (((((T7.gc hg Q5).other (g:=d) (o:=0) (v:=J a1 (D y1) c1) Q5).other (g:=d+1) (o:=0) (v:=O Z 2) Q5).other (g:=d+1) (o:=1) (v:=O Z 0) Q5).other (g:=d+1) (o:=2) (v:=O Z 5) Q5);have ad:=aJ ((((T1.set0 (J a1 (D y1) c1)).other (g:=d+1) (o:=0) (v:=O Z 2) Q5).other (g:=d+1) (o:=1) (v:=O Z 0) Q5).other (g:=d+1) (o:=2) (v:=O Z 5) Q5);have ae:=aJ ((TZ.other (g:=d) (o:=0) (v:=J a1 (D y1) c1) Q5).put (O Z 2) (O Z 0) (O Z 5));have F:=aJ ((((qe.set (g:=d) (o:=0) (v:=J a1 (D y1) c1) TL Q5).set (g:=d+1) (o:=0) (v:=O Z 2) Q5).set (g:=d+1) (o:=1) (v:=O Z 0) Q5).set (g:=d+1) (o:=2) (v:=O Z 5) Q5);have ai:U (d+3<=((((bB.setCell (Q d 0 G) (J a1 (D y1) c1)).setCell ⟨d+1,0,G⟩ (O Z 2)).setCell ⟨d+1,1,G⟩ (O Z 0)).setCell ⟨d+1,2,G⟩ (O Z 5)).heap.size):=aJ Q4;have Y1:=aJ ((((hy.kp (aX (g:=d) (o:=0) (v:=J a1 (D y1) c1) Q5)).kp (aX (g:=d+1) (o:=0) (v:=O Z 2) Q5)).kp (aX (g:=d+1) (o:=1) (v:=O Z 0) Q5)).kp (aX (g:=d+1) (o:=2) (v:=O Z 5) Q5));obtain⟨l0,l1,l2,l3,l4,n0,n1,n2,n3,n4⟩:=T1;obtain⟨b0,b1,b2,d0,d1,d2⟩:=TZ;go_wp2_with fail;generalize (((bB.setCell _ _).setCell _ _).setCell _ _).setCell _ _=W1 at Tu af ad ae F ai Y1 |-;cases ho:bh y1
 · have HE:U (lk Tq=.inr (2,5)):=aJ (by rw[aB,aL];simp only[ho,KA]);have HO:=aJ ho;refine(iW (iD _ _ 2 5 _ (by exact Y1.to)) HO).mono ?_;exact Oa
 have bg:U (lk Tq=Ac Tq _ _):=aJ (by rw[aB,aL];simp only[ho];rfl);have cl:=aJ ho;refine(dX (iD _ _ 2 5 _ (by exact Y1.to)) cl).mono ?_;rintro e w' ⟨rfl,Tp⟩;have Tg:=aJ (Tu.trans Tp);have T7:=aJ (af.gr Tp);have ak:=aJ (ad.gr Tp);have al:=aJ (ae.gr Tp);have T4:=aJ (F.gc (Tp.toGc (cb:=d)) Q5);have Vg:=aJ (wz ai Tp.size);have av:=aJ (Y1.kp (Tp.kp));have Y1:=av;generalize w'=X1 at Tg T7 ak al T4 Vg Y1 |-;go_wp2_with fail;refine(S.s2 _ _ Tq _ _ T4 Q5 Vg).mono ?_;intro x b6 h;rw[Va]at h;cases hr:bW 2 (aV bn) (r1) with
 | none=>
  rw[hr]at h;obtain⟨rfl,hg⟩:=h;have hE:lk Tq=.inr (2,p1):=by rw[bg,Ac,hr];simp only[pl,ca.j]
  exact OD
 | some q=>
 obtain⟨y2,r2⟩:=q;rw[hr]at h;obtain⟨v2,rfl,hy,TL,hg⟩:=h;obtain⟨a2,c2,hv⟩:=hy.shape;subst hv;have M2:=aJ hy.to.choose_spec.choose_spec.2.1;have ds:=aJ (hy.choose_spec.choose_spec.2.1);have bj:U (Tq.drop (D Tq-D r2)=r2):=aJ (by
  obtain⟨xx,hx⟩:=gu hr;exact pY (Va.trans hx))
 generalize az:D Tq-D r2=p2 at TL bj;have b':=aJ az;have aF:=aJ hr;have T1:=ak.gc hg Q5;have TZ:=al.gc hg Q5;have Tu:=aJ (dC (g:=d+1) (o:=2) (v:=O Z p1) (dC (g:=d+1) (o:=1) (v:=O Z 0) (dC (g:=d+1) (o:=0) (v:=O Z 2) (dC (g:=d) (o:=1) (v:=J a2 (D y2) c2) (iZ Tg hg Q5) Q5) Q5) Q5) Q5);have af:=aJ (((((T7.gc hg Q5).other (g:=d) (o:=1) (v:=J a2 (D y2) c2) Q5).other (g:=d+1) (o:=0) (v:=O Z 2) Q5).other (g:=d+1) (o:=1) (v:=O Z 0) Q5).other (g:=d+1) (o:=2) (v:=O Z p1) Q5);have ad:=aJ ((((T1.set1 (J a2 (D y2) c2)).other (g:=d+1) (o:=0) (v:=O Z 2) Q5).other (g:=d+1) (o:=1) (v:=O Z 0) Q5).other (g:=d+1) (o:=2) (v:=O Z p1) Q5);have ae:=aJ ((TZ.other (g:=d) (o:=1) (v:=J a2 (D y2) c2) Q5).put (O Z 2) (O Z 0) (O Z p1));have F:=aJ ((((qe.set (g:=d) (o:=1) (v:=J a2 (D y2) c2) TL Q5).set (g:=d+1) (o:=0) (v:=O Z 2) Q5).set (g:=d+1) (o:=1) (v:=O Z 0) Q5).set (g:=d+1) (o:=2) (v:=O Z p1) Q5);have ai:U (d+3<=((((b6.setCell (Q d 1 G) (J a2 (D y2) c2)).setCell ⟨d+1,0,G⟩ (O Z 2)).setCell ⟨d+1,1,G⟩ (O Z 0)).setCell ⟨d+1,2,G⟩ (O Z p1)).heap.size):=aJ Q4;have av:=aJ (((((Y1.kp (hg.kp Q5)).kp (aX (g:=d) (o:=1) (v:=J a2 (D y2) c2) Q5)).kp (aX (g:=d+1) (o:=0) (v:=O Z 2) Q5)).kp (aX (g:=d+1) (o:=1) (v:=O Z 0) Q5)).kp (aX (g:=d+1) (o:=2) (v:=O Z p1) Q5));have Y2:=aJ ((((hy.kp (aX (g:=d) (o:=1) (v:=J a2 (D y2) c2) Q5)).kp (aX (g:=d+1) (o:=0) (v:=O Z 2) Q5)).kp (aX (g:=d+1) (o:=1) (v:=O Z 0) Q5)).kp (aX (g:=d+1) (o:=2) (v:=O Z p1) Q5));have Y1:=av;obtain⟨l0,l1,l2,l3,l4,n0,n1,n2,n3,n4⟩:=T1;obtain⟨b0,b1,b2,d0,d1,d2⟩:=TZ;go_wp2_with fail;generalize (((b6.setCell _ _).setCell _ _).setCell _ _).setCell _ _=W2 at Tu af ad ae F ai Y2 Y1 |-;cases ho:cm y2
 · have HE:U (lk Tq=.inr (2,p1)):=aJ (by rw[bg,Ac,aF];simp only[ho,KA,pl,ca.j]);have HO:=aJ ho;refine(iW (iq _ _ 2 _ _ ⟨_,_,rfl⟩ (by exact M2)) HO).mono ?_;exact Oa
 have a9:U (lk Tq=z' Tq _ _ _):=aJ (by rw[bg,Ac,aF];simp only[ho];rfl);have TE:=aJ ho;refine(dX (iq _ _ 2 _ _ ⟨_,_,rfl⟩ (by exact M2)) TE).mono ?_;rintro e w' ⟨rfl,Tp⟩;have Tg:=aJ (Tu.trans Tp);have T7:=aJ (af.gr Tp);have ak:=aJ (ad.gr Tp);have al:=aJ (ae.gr Tp);have T4:=aJ (F.gc (Tp.toGc (cb:=d)) Q5);have Vg:=aJ (wz ai Tp.size);have av:=aJ (Y1.kp (Tp.kp));have Y1:=av;have ax:=aJ (Y2.kp (Tp.kp));have Y2:=ax;generalize w'=X2 at Tg T7 ak al T4 Vg Y1 Y2 |-;go_wp2_with fail;refine(S.s3 _ _ Tq _ _ T4 Q5 Vg).mono ?_;intro x b3 h;rw[bj]at h;cases hr:bW 3 (aV dR) (r2) with
 | none=>
  rw[hr]at h;obtain⟨rfl,hg⟩:=h;have hE:lk Tq=.inr (2,p2):=by rw[a9,z',hr];simp only[pl,b'.j]
  exact OD
 | some q=>
 obtain⟨y3,r3⟩:=q;rw[hr]at h;obtain⟨v3,rfl,hy,TL,hg⟩:=h;obtain⟨a3,c3,hv⟩:=hy.shape;subst hv;have cx:=aJ (hy.choose_spec.choose_spec.2.1);have c':D y3<=9223372036854775807:=by have:=cx.j;unfold maxLen at this;omega
 have a7:U (Tq.drop (D Tq-D r3)=r3):=aJ (by
  obtain⟨xx,hx⟩:=gu hr;exact pY (bj.trans hx))
 generalize az:D Tq-D r3=p3 at TL a7;have cf:=aJ az;have aH:=aJ hr;have T1:=ak.gc hg Q5;have TZ:=al.gc hg Q5;have Tu:=aJ (dC (g:=d+1) (o:=2) (v:=O Z p2) (dC (g:=d+1) (o:=1) (v:=O Z 0) (dC (g:=d+1) (o:=0) (v:=O Z 2) (dC (g:=d) (o:=2) (v:=J a3 (D y3) c3) (iZ Tg hg Q5) Q5) Q5) Q5) Q5);have af:=aJ (((((T7.gc hg Q5).other (g:=d) (o:=2) (v:=J a3 (D y3) c3) Q5).other (g:=d+1) (o:=0) (v:=O Z 2) Q5).other (g:=d+1) (o:=1) (v:=O Z 0) Q5).other (g:=d+1) (o:=2) (v:=O Z p2) Q5);have ad:=aJ ((((T1.set2 (J a3 (D y3) c3)).other (g:=d+1) (o:=0) (v:=O Z 2) Q5).other (g:=d+1) (o:=1) (v:=O Z 0) Q5).other (g:=d+1) (o:=2) (v:=O Z p2) Q5);have ae:=aJ ((TZ.other (g:=d) (o:=2) (v:=J a3 (D y3) c3) Q5).put (O Z 2) (O Z 0) (O Z p2));have F:=aJ ((((qe.set (g:=d) (o:=2) (v:=J a3 (D y3) c3) TL Q5).set (g:=d+1) (o:=0) (v:=O Z 2) Q5).set (g:=d+1) (o:=1) (v:=O Z 0) Q5).set (g:=d+1) (o:=2) (v:=O Z p2) Q5);have ai:U (d+3<=((((b3.setCell (Q d 2 G) (J a3 (D y3) c3)).setCell ⟨d+1,0,G⟩ (O Z 2)).setCell ⟨d+1,1,G⟩ (O Z 0)).setCell ⟨d+1,2,G⟩ (O Z p2)).heap.size):=aJ Q4;have av:=aJ (((((Y1.kp (hg.kp Q5)).kp (aX (g:=d) (o:=2) (v:=J a3 (D y3) c3) Q5)).kp (aX (g:=d+1) (o:=0) (v:=O Z 2) Q5)).kp (aX (g:=d+1) (o:=1) (v:=O Z 0) Q5)).kp (aX (g:=d+1) (o:=2) (v:=O Z p2) Q5));have ax:=aJ (((((Y2.kp (hg.kp Q5)).kp (aX (g:=d) (o:=2) (v:=J a3 (D y3) c3) Q5)).kp (aX (g:=d+1) (o:=0) (v:=O Z 2) Q5)).kp (aX (g:=d+1) (o:=1) (v:=O Z 0) Q5)).kp (aX (g:=d+1) (o:=2) (v:=O Z p2) Q5));have Y3:=aJ ((((hy.kp (aX (g:=d) (o:=2) (v:=J a3 (D y3) c3) Q5)).kp (aX (g:=d+1) (o:=0) (v:=O Z 2) Q5)).kp (aX (g:=d+1) (o:=1) (v:=O Z 0) Q5)).kp (aX (g:=d+1) (o:=2) (v:=O Z p2) Q5));have Y1:=av;have Y2:=ax;obtain⟨l0,l1,l2,l3,l4,n0,n1,n2,n3,n4⟩:=T1;obtain⟨b0,b1,b2,d0,d1,d2⟩:=TZ;go_wp2_with fail;generalize (((b3.setCell _ _).setCell _ _).setCell _ _).setCell _ _=W3 at Tu af ad ae F ai Y3 Y1 Y2 |-;cases ho:cO y3 (D y1)
 · have HE:U (lk Tq=.inr (2,p2)):=aJ (by rw[a9,z',aH];simp only[ho,KA,pl,b'.j]);have HO:=aJ ho;refine(iW (kY _ _ _ 2 _ _ (by exact Y3.to)) HO).mono ?_;exact Oa
 have a6:U (lk Tq=A_ Tq _ _ _ _):=aJ (by rw[a9,z',aH];simp only[ho];rfl);have cc:=aJ ho;refine(dX (kY _ _ _ 2 _ _ (by exact Y3.to)) cc).mono ?_;rintro e w' ⟨rfl,Tp⟩;have Tg:=aJ (Tu.trans Tp);have T7:=aJ (af.gr Tp);have ak:=aJ (ad.gr Tp);have al:=aJ (ae.gr Tp);have T4:=aJ (F.gc (Tp.toGc (cb:=d)) Q5);have Vg:=aJ (wz ai Tp.size);have av:=aJ (Y1.kp (Tp.kp));have Y1:=av;have ax:=aJ (Y2.kp (Tp.kp));have Y2:=ax;have aA:=aJ (Y3.kp (Tp.kp));have Y3:=aA;generalize w'=X3 at Tg T7 ak al T4 Vg Y1 Y2 Y3 |-;go_wp2_with fail;refine(S.s4 _ _ Tq _ _ T4 Q5 Vg).mono ?_;intro x b5 h;rw[a7]at h;cases hr:bW 4 (aV er) (r3) with
 | none=>
  rw[hr]at h;obtain⟨rfl,hg⟩:=h;have hE:lk Tq=.inr (2,p3):=by rw[a6,A_,hr];simp only[pl,cf.j]
  exact OD
 | some q=>
 obtain⟨y4,r4⟩:=q;rw[hr]at h;obtain⟨v4,rfl,hy,TL,hg⟩:=h;obtain⟨a4,c4,hv⟩:=hy.shape;subst hv;have di:=aJ (hy.choose_spec.choose_spec.2.1);have a8:U (Tq.drop (D Tq-D r4)=r4):=aJ (by
  obtain⟨xx,hx⟩:=gu hr;exact pY (a7.trans hx))
 generalize az:D Tq-D r4=p4 at TL a8;have bC:=aJ az;have aG:=aJ hr;have T1:=ak.gc hg Q5;have TZ:=al.gc hg Q5;have Tu:=aJ (dC (g:=d+1) (o:=2) (v:=O Z p3) (dC (g:=d+1) (o:=1) (v:=O Z 0) (dC (g:=d+1) (o:=0) (v:=O Z 2) (dC (g:=d) (o:=3) (v:=J a4 (D y4) c4) (iZ Tg hg Q5) Q5) Q5) Q5) Q5);have af:=aJ (((((T7.gc hg Q5).other (g:=d) (o:=3) (v:=J a4 (D y4) c4) Q5).other (g:=d+1) (o:=0) (v:=O Z 2) Q5).other (g:=d+1) (o:=1) (v:=O Z 0) Q5).other (g:=d+1) (o:=2) (v:=O Z p3) Q5);have ad:=aJ ((((T1.set3 (J a4 (D y4) c4)).other (g:=d+1) (o:=0) (v:=O Z 2) Q5).other (g:=d+1) (o:=1) (v:=O Z 0) Q5).other (g:=d+1) (o:=2) (v:=O Z p3) Q5);have ae:=aJ ((TZ.other (g:=d) (o:=3) (v:=J a4 (D y4) c4) Q5).put (O Z 2) (O Z 0) (O Z p3));have F:=aJ ((((qe.set (g:=d) (o:=3) (v:=J a4 (D y4) c4) TL Q5).set (g:=d+1) (o:=0) (v:=O Z 2) Q5).set (g:=d+1) (o:=1) (v:=O Z 0) Q5).set (g:=d+1) (o:=2) (v:=O Z p3) Q5);have ai:U (d+3<=((((b5.setCell (Q d 3 G) (J a4 (D y4) c4)).setCell ⟨d+1,0,G⟩ (O Z 2)).setCell ⟨d+1,1,G⟩ (O Z 0)).setCell ⟨d+1,2,G⟩ (O Z p3)).heap.size):=aJ Q4;have av:=aJ (((((Y1.kp (hg.kp Q5)).kp (aX (g:=d) (o:=3) (v:=J a4 (D y4) c4) Q5)).kp (aX (g:=d+1) (o:=0) (v:=O Z 2) Q5)).kp (aX (g:=d+1) (o:=1) (v:=O Z 0) Q5)).kp (aX (g:=d+1) (o:=2) (v:=O Z p3) Q5));have ax:=aJ (((((Y2.kp (hg.kp Q5)).kp (aX (g:=d) (o:=3) (v:=J a4 (D y4) c4) Q5)).kp (aX (g:=d+1) (o:=0) (v:=O Z 2) Q5)).kp (aX (g:=d+1) (o:=1) (v:=O Z 0) Q5)).kp (aX (g:=d+1) (o:=2) (v:=O Z p3) Q5));have aA:=aJ (((((Y3.kp (hg.kp Q5)).kp (aX (g:=d) (o:=3) (v:=J a4 (D y4) c4) Q5)).kp (aX (g:=d+1) (o:=0) (v:=O Z 2) Q5)).kp (aX (g:=d+1) (o:=1) (v:=O Z 0) Q5)).kp (aX (g:=d+1) (o:=2) (v:=O Z p3) Q5));have Y4:=aJ ((((hy.kp (aX (g:=d) (o:=3) (v:=J a4 (D y4) c4) Q5)).kp (aX (g:=d+1) (o:=0) (v:=O Z 2) Q5)).kp (aX (g:=d+1) (o:=1) (v:=O Z 0) Q5)).kp (aX (g:=d+1) (o:=2) (v:=O Z p3) Q5));have Y1:=av;have Y2:=ax;have Y3:=aA;obtain⟨l0,l1,l2,l3,l4,n0,n1,n2,n3,n4⟩:=T1;obtain⟨b0,b1,b2,d0,d1,d2⟩:=TZ;go_wp2_with fail;generalize (((b5.setCell _ _).setCell _ _).setCell _ _).setCell _ _=W4 at Tu af ad ae F ai Y4 Y1 Y2 Y3 |-;cases ho:cG y4 (D y1)
 · have HE:U (lk Tq=.inr (2,p3)):=aJ (by rw[a6,A_,aG];simp only[ho,KA,pl,cf.j]);have HO:=aJ ho;refine(iW (jx _ _ _ 2 _ _ (by exact Y4.to)) HO).mono ?_;exact Oa
 have bk:U (lk Tq=A0 Tq _ _ _ _ _):=aJ (by rw[a6,A_,aG];simp only[ho];rfl);have cM:=aJ ho;refine(dX (jx _ _ _ 2 _ _ (by exact Y4.to)) cM).mono ?_;rintro e w' ⟨rfl,Tp⟩;have Tg:=aJ (Tu.trans Tp);have T7:=aJ (af.gr Tp);have ak:=aJ (ad.gr Tp);have al:=aJ (ae.gr Tp);have T4:=aJ (F.gc (Tp.toGc (cb:=d)) Q5);have Vg:=aJ (wz ai Tp.size);have av:=aJ (Y1.kp (Tp.kp));have Y1:=av;have ax:=aJ (Y2.kp (Tp.kp));have Y2:=ax;have aA:=aJ (Y3.kp (Tp.kp));have Y3:=aA;have aD:=aJ (Y4.kp (Tp.kp));have Y4:=aD;generalize w'=X4 at Tg T7 ak al T4 Vg Y1 Y2 Y3 Y4 |-;go_wp2_with fail;refine(S.s5 _ _ Tq _ _ T4 Q5 Vg).mono ?_;intro x b9 h;rw[a8]at h;cases hr:bW 5 (aV fH) (r4) with
 | none=>
  rw[hr]at h;obtain⟨rfl,hg⟩:=h;have hE:lk Tq=.inr (2,p4):=by rw[bk,A0,hr];simp only[pl,bC.j]
  exact OD
 | some q=>
 obtain⟨y5,r5⟩:=q;rw[hr]at h;obtain⟨v5,rfl,hy,TL,hg⟩:=h;obtain⟨a5,c5,hv⟩:=hy.shape;subst hv;have dd:=aJ (hy.choose_spec.choose_spec.2.1);have cz:U (Tq.drop (D Tq-D r5)=r5):=aJ (by
  obtain⟨xx,hx⟩:=gu hr;exact pY (a8.trans hx))
 generalize az:D Tq-D r5=p5 at TL cz;have b8:=aJ az;have aM:=aJ hr;have T1:=ak.gc hg Q5;have TZ:=al.gc hg Q5;have Tu:=aJ (dC (g:=d+1) (o:=2) (v:=O Z p4) (dC (g:=d+1) (o:=1) (v:=O Z 0) (dC (g:=d+1) (o:=0) (v:=O Z 2) (dC (g:=d) (o:=4) (v:=J a5 (D y5) c5) (iZ Tg hg Q5) Q5) Q5) Q5) Q5);have af:=aJ (((((T7.gc hg Q5).other (g:=d) (o:=4) (v:=J a5 (D y5) c5) Q5).other (g:=d+1) (o:=0) (v:=O Z 2) Q5).other (g:=d+1) (o:=1) (v:=O Z 0) Q5).other (g:=d+1) (o:=2) (v:=O Z p4) Q5);have ad:=aJ ((((T1.set4 (J a5 (D y5) c5)).other (g:=d+1) (o:=0) (v:=O Z 2) Q5).other (g:=d+1) (o:=1) (v:=O Z 0) Q5).other (g:=d+1) (o:=2) (v:=O Z p4) Q5);have ae:=aJ ((TZ.other (g:=d) (o:=4) (v:=J a5 (D y5) c5) Q5).put (O Z 2) (O Z 0) (O Z p4));have F:=aJ ((((qe.set (g:=d) (o:=4) (v:=J a5 (D y5) c5) TL Q5).set (g:=d+1) (o:=0) (v:=O Z 2) Q5).set (g:=d+1) (o:=1) (v:=O Z 0) Q5).set (g:=d+1) (o:=2) (v:=O Z p4) Q5);have ai:U (d+3<=((((b9.setCell (Q d 4 G) (J a5 (D y5) c5)).setCell ⟨d+1,0,G⟩ (O Z 2)).setCell ⟨d+1,1,G⟩ (O Z 0)).setCell ⟨d+1,2,G⟩ (O Z p4)).heap.size):=aJ Q4;have av:=aJ (((((Y1.kp (hg.kp Q5)).kp (aX (g:=d) (o:=4) (v:=J a5 (D y5) c5) Q5)).kp (aX (g:=d+1) (o:=0) (v:=O Z 2) Q5)).kp (aX (g:=d+1) (o:=1) (v:=O Z 0) Q5)).kp (aX (g:=d+1) (o:=2) (v:=O Z p4) Q5));have ax:=aJ (((((Y2.kp (hg.kp Q5)).kp (aX (g:=d) (o:=4) (v:=J a5 (D y5) c5) Q5)).kp (aX (g:=d+1) (o:=0) (v:=O Z 2) Q5)).kp (aX (g:=d+1) (o:=1) (v:=O Z 0) Q5)).kp (aX (g:=d+1) (o:=2) (v:=O Z p4) Q5));have aA:=aJ (((((Y3.kp (hg.kp Q5)).kp (aX (g:=d) (o:=4) (v:=J a5 (D y5) c5) Q5)).kp (aX (g:=d+1) (o:=0) (v:=O Z 2) Q5)).kp (aX (g:=d+1) (o:=1) (v:=O Z 0) Q5)).kp (aX (g:=d+1) (o:=2) (v:=O Z p4) Q5));have aD:=aJ (((((Y4.kp (hg.kp Q5)).kp (aX (g:=d) (o:=4) (v:=J a5 (D y5) c5) Q5)).kp (aX (g:=d+1) (o:=0) (v:=O Z 2) Q5)).kp (aX (g:=d+1) (o:=1) (v:=O Z 0) Q5)).kp (aX (g:=d+1) (o:=2) (v:=O Z p4) Q5));have Y5:=aJ ((((hy.kp (aX (g:=d) (o:=4) (v:=J a5 (D y5) c5) Q5)).kp (aX (g:=d+1) (o:=0) (v:=O Z 2) Q5)).kp (aX (g:=d+1) (o:=1) (v:=O Z 0) Q5)).kp (aX (g:=d+1) (o:=2) (v:=O Z p4) Q5));have Y1:=av;have Y2:=ax;have Y3:=aA;have Y4:=aD;obtain⟨l0,l1,l2,l3,l4,n0,n1,n2,n3,n4⟩:=T1;obtain⟨b0,b1,b2,d0,d1,d2⟩:=TZ;go_wp2_with fail;generalize (((b9.setCell _ _).setCell _ _).setCell _ _).setCell _ _=W5 at Tu af ad ae F ai Y5 Y1 Y2 Y3 Y4 |-;have HL:U ((D y3:A)<=1000000):=aJ (by have:=cc.j;simp[cO,wB]at this;omega);cases ho:cH y5 (D y3)
 · have HE:U (lk Tq=.inr (2,p4)):=aJ (by rw[bk,A0,aM];simp only[ho,KA,pl,bC.j]);have HO:=aJ ho;refine(iW (lM _ _ _ 2 _ _ Q5 (by exact HL) (by exact Y5.to)) HO).mono ?_;exact Oa
 have bF:=aJ ho;refine(dX (lM _ _ _ 2 _ _ Q5 (by exact HL) (by exact Y5.to)) bF).mono ?_;rintro e w' ⟨rfl,Tp⟩;have Tg:=aJ (Tu.trans Tp);have T7:=aJ (af.gr Tp);have ak:=aJ (ad.gr Tp);have al:=aJ (ae.gr Tp);have T4:=aJ (F.gc (Tp.toGc (cb:=d)) Q5);have Vg:=aJ (wz ai Tp.size);have av:=aJ (Y1.kp (Tp.kp));have Y1:=av;have ax:=aJ (Y2.kp (Tp.kp));have Y2:=ax;have aA:=aJ (Y3.kp (Tp.kp));have Y3:=aA;have aD:=aJ (Y4.kp (Tp.kp));have Y4:=aD;have cu:=aJ (Y5.kp (Tp.kp));have Y5:=cu;generalize w'=X5 at Tg T7 ak al T4 Vg Y1 Y2 Y3 Y4 Y5 |-;have bL:U (lk Tq=if r5=[] then .inl _ else .inr _):=aJ (by rw[bk,A0,aM];simp only[bF.j];rfl);have cj:=b8.j;have dO:=UX.j;obtain⟨⟨sx,e0,ex⟩,el,ep,T0,f1⟩:=T4.j;by_cases a0:r5=[]
 · have hq:p5=s.size:=by rw[a0]at cj;simp at cj;omega
   have cv:((p5:A)==s.size)=AT:=by rw[hq];simp
   have bt:(p5==s.size)=AT:=by rw[hq];simp
   have HE:U (lk Tq=.inl _):=aJ (by rw[bL,mI a0]);go_wp2;go_region_held3 (λw'=>H w' ⟨d+2,1,G⟩=Y (O Z p5)) (first|exact BY.cell Q8 Q6|go_keep) (first|(go_at_call 53;refine(aj _ _ _).mono ?_;rintro e w' ⟨rfl,BY⟩))
   have Tp:=Gr.trans Gy BY;obtain⟨l0,l1,l2,l3,l4,n0,n1,n2,n3,n4⟩:=ak.gr Tp;obtain⟨m0,m1,m2,m3,m4,k0,k1,k2,k3,k4⟩:=T7.gr Tp;have Z1:=aJ (Y1.kp Tp.kp);have Z2:=aJ (Y2.kp Tp.kp);have Z3:=aJ (Y3.kp Tp.kp);have Z4:=aJ (Y4.kp Tp.kp);have Z5:=aJ (Y5.kp Tp.kp);have cn:=aJ (Tg.trans Tp);go_wp2;exact qn (v:=.agg #[J a1 (D y1) c1,J a2 (D y2) c2,J a3 (D y3) c3,J a4 (D y4) c4,J a5 (D y5) c5]) (by simp[results,results29,go_sem,m0,m1,m2,m3,m4]) rfl (by
    rw[HE];exact⟨_,_,rfl,Q5,⟨_,_,_,_,_,rfl,((((((Z1).kp (aX Q5)).kp (aX Q5)).kp (aX Q5)).kp (aX Q5)).kp (aX Q5)),((((((Z2).kp (aX Q5)).kp (aX Q5)).kp (aX Q5)).kp (aX Q5)).kp (aX Q5)),((((((Z3).kp (aX Q5)).kp (aX Q5)).kp (aX Q5)).kp (aX Q5)).kp (aX Q5)),((((((Z4).kp (aX Q5)).kp (aX Q5)).kp (aX Q5)).kp (aX Q5)).kp (aX Q5)),((((((Z5).kp (aX Q5)).kp (aX Q5)).kp (aX Q5)).kp (aX Q5)).kp (aX Q5))⟩,dC (dC (dC (dC (dC cn lj) lj) lj) lj) lj⟩)
 have hq:¬p5=s.size:=by
  have h1:1<=D r5:=by cases r5 with|nil=>exact absurd rfl a0|cons b l=>simp
  omega
 have cv:((p5:A)==s.size)=AS:=Rp
 have bt:(p5==s.size)=AS:=by rw[IL];exact hq
 have HE:U (lk Tq=.inr (2,p5)):=aJ (by rw[bL,eP a0];simp only[pl,b8.j]);go_wp2;go_region_with (first|(go_at_call 53;refine(bA _ _ _).mono ?_;rintro e w' ⟨rfl,BY⟩;refine an ?_))
 all_goals exact⟨rfl,by rw[HE.j];exact⟨rfl,Tg.j.trans (Gr.trans Gy BY)⟩⟩
end Go.Proofs.YtghjmnlapcpbiaaGreatDoor
