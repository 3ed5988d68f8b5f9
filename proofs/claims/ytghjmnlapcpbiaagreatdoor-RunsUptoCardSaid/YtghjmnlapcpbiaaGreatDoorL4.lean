import Derived.Test.YtghjmnlapcpbiaaGreatDoorDb
namespace Go.Proofs.YtghjmnlapcpbiaaGreatDoor
open _root_ renaming Option.some->Y,Option.none->G,Go.Value.int->O,Go.IntKind.i64->Z,Go.Value.slice->J,List->I,Nat->R,Int->A,Go.World.cell?->H,List.length->D,Go.Obj.cells->X,Go.Value->M,Go.World->T,Go.Addr.mk->Q,Go.RowKit.Hid->U,UInt8->AI,Bool.false->AS,Bool.true->AT,Option->By
open Go.Proofs.Tryz
open Go.RowKit
set_option linter.defProp false
variable{r:BR}{AAq:BR->Prop}{s:ByteArray}{n:A}{l:I A}{ys:I M}{db o q rb sz:R}{t:TypeId}{u v':M}
def Ma:=@List.drop_eq_nil_iff.{0}
set_option maxRecDepth 100000
set_option maxHeartbeats 2000000
set_option linter.unusedVariables false
set_option linter.unusedSimpArgs false
open Go.RowKit
structure mF(w0 W0:T)(ub:R)(v1:M)(w:T)(ρ:R->BR)(v2 v3 v5:M)(cs:I A)(fs:I LF)(xs:I LX):Prop where
 box:w.heap[ub]? =Y (X #[v1,v2,v3,J G 0 0,v5] 58 (0,0))
 o2:jC ρ (.ls 1 0) w (ub+1) 3 1 v2 (D cs) (fK cs)
 o3:jC ρ (.ls 2 0) w (ub+1) 74 4 v3 (D fs) (fs.flatMap cF)
 o5:jC ρ (.ls 4 0) w (ub+1) 71 2 v5 (D xs) (xs.flatMap cX)
 fc:∀e∈fs,aY w0 e.vp e.f.aH/\aY w0 e.vl e.f.aI/\kG (λb=>ρ b=.dn) w e.vc e.f.code
 pl:∀b,ρ b≠.no->ub<b/\b<w.heap.size
 low:∀b,b<ub->w.heap[b]? =W0.heap[b]?
 ubl:W0.heap.size<=ub
 env:w.os=W0.os/\w.tape=W0.tape/\w.output=W0.output
section
variable {w0 W0:T} {ub:R} {v1:M} {w w':T} {ρ ρ':R->BR} {v2 v3 v5:M} {cs:I A} {fs:I LF} {xs:I LX}
theorem mF.lt(h:mF w0 W0 ub v1 w ρ v2 v3 v5 cs fs xs):ub<w.heap.size:=(eJ.1 h.box).1
theorem mF.gr(h:mF w0 W0 ub v1 w ρ v2 v3 v5 cs fs xs):Gr W0 w:=⟨h.env.1,h.env.2.1,h.env.2.2,by have:=h.lt;have:=h.ubl;omega,λb d _=>h.low b (by have:=h.ubl;omega)⟩
theorem mF.no(h:mF w0 W0 ub v1 w ρ v2 v3 v5 cs fs xs){b:R}(d:b<=ub):ρ b=.no:=by
 by_cases e:ρ b=.no
 · exact e
 have:=(h.pl b e).1;omega
theorem mF.mv(h:mF w0 W0 ub v1 w ρ v2 v3 v5 cs fs xs)(m:jt ub AAq w w' ρ ρ')(d:¬AAq (.ls 1 0)/\¬AAq (.ls 2 0)/\¬AAq (.ls 4 0)/\¬AAq .dn/\¬AAq .no)(hb:w'.heap[ub]? =w.heap[ub]?):mF w0 W0 ub v1 w' ρ' v2 v3 v5 cs fs xs:=by
 have F:=h.lt;have st:=m.stay d.2.2.2.1 (by rw[h.no lj];nofun);refine⟨hb.trans h.box,h.o2.mv m d.1,h.o3.mv m d.2.1,h.o5.mv m d.2.2.1,λe he=>⟨(h.fc e he).1,(h.fc e he).2.1,(h.fc e he).2.2.stay st⟩,λb hb=>?_,λb hb=>?_,h.ubl,m.env.1.trans h.env.1,m.env.2.1.trans h.env.2.1,m.env.2.2.trans h.env.2.2⟩
 · exact Ou
 exact(m.blk b Q5 Q5 (by rw[h.no (Nat.le_of_lt hb)];exact d.2.2.2.2)).trans (h.low b hb)
theorem mF.mvg(h:mF w0 W0 ub v1 w ρ v2 v3 v5 cs fs xs)(g:Gr w w'):jt ub (λ_=>False) w w' ρ ρ:=
 ⟨g.size,λ_ _=>rfl,λk d _ _=>g.block k d Q6,λk _ F=>tu (h.pl k F).2 g.size,g.os,g.tape,g.output⟩
theorem mF.grow(h:mF w0 W0 ub v1 w ρ v2 v3 v5 cs fs xs)(g:Gr w w'):mF w0 W0 ub v1 w' ρ v2 v3 v5 cs fs xs:=
 h.mv (h.mvg g) ⟨id,id,id,id,id⟩ (g.block ub h.lt Q6)
theorem sC{w1:T}{v:M}{e:TypeId}{L d:R}{xs:I M}(h:jC ρ r w (db+1) e sz v L xs)(S4:Ap (db+1) e sz w v w1 v' d ys):jC (nH w.heap.size v' r ρ) r w1 (db+1) e sz v' d ys:=by
 exact O'
theorem jt.setdb{w1:T}{x:M}(h:jt db AAq w w1 ρ ρ'):jt db AAq w (w1.setCell (Q db o G) x) ρ ρ':=
 ⟨Rh,h.old,λk d F hA=>(dp _ _ _ _ F).trans (h.blk k d F hA),λk d hn=>by simpa using h.new k d hn,h.env⟩
theorem jC.setdb{x:M}{v:M}{e:TypeId}{L:R}{xs:I M}(h:jC ρ r w (db+1) e sz v L xs):jC ρ r (w.setCell (Q db o G) x) (db+1) e sz v L xs:=
 ⟨bY h.1 λk d=>dp _ _ _ _ (by have:=(h.1.lt k d).1;show k≠db;omega),h.2⟩
theorem mF.rest{w1:T}{v:M}{e:TypeId}{L:R}(h:mF w0 W0 ub v1 w ρ v2 v3 v5 cs fs xs)(S4:Ap (ub+1) e sz w v w1 v' L ys)(hr:∀k,v.ownBlock=Y k->ρ k=r)(d:r≠.dn)(F:r≠.no):
 jt ub (· =r) w (w1.setCell (Q ub o G) v') ρ (nH w.heap.size v' r ρ)/\(∀e∈fs,aY w0 e.vp e.f.aH/\aY w0 e.vl e.f.aI/\kG (λb=>nH w.heap.size v' r ρ b=.dn) (w1.setCell (Q ub o G) v') e.vc e.f.code)/\(∀b,nH w.heap.size v' r ρ b≠.no->ub<b/\b<(w1.setCell (Q ub o G) v').heap.size)/\(∀b,b<ub->(w1.setCell (Q ub o G) v').heap[b]? =W0.heap[b]?):=by
 have ad:=h.lt;have m:jt _ _ w (w1.setCell ⟨_,o,_⟩ v') _ _:=(oR S4 hr).setdb;have st:=m.stay (λe=>d e.symm) (by rw[h.no lj];nofun);refine⟨m,λe he=>⟨(h.fc e he).1,(h.fc e he).2.1,(h.fc e he).2.2.stay st⟩,λb hb=>?_,λb hb=>?_⟩
 · exact Ou
 exact(m.blk b Q5 Q5 (by rw[h.no (Nat.le_of_lt hb)];exact λe=>F e.symm)).trans (h.low b hb)
theorem Aa{w1:T}{v:M}{e:TypeId}{L:R}{cur:Array M}(F:w.heap[ub]? =Y (X cur 58 (0,0)))(S4:Ap (ub+1) e sz w v w1 v' L ys)(d:¬v.ownBlock=Y ub):(w1.setCell (Q ub o G) v').heap[ub]? =Y (X (cur.setIfInBounds o v') 58 (0,0)):=
 bK ((S4.frm.block ub (eJ.1 F).1 λe=>d e.symm).trans F)
theorem mS{e:TypeId}{n len:R}{v:M}(h:w.ownsRow (ub+1) e n v len ys):¬v.ownBlock=Y ub:=λe=>by have:=(h.lt _ e).1;omega
theorem mF.app2{w1:T}(h:mF w0 W0 ub v1 w ρ v2 v3 v5 cs fs xs)(d:Ap (ub+1) 3 1 w v2 w1 v' (D cs+D l) (fK cs++fK l)):mF w0 W0 ub v1 (w1.setCell (Q ub 1 G) v') (nH w.heap.size v' (.ls 1 0) ρ) v' v3 v5 (cs++l) fs xs:=by
 obtain⟨m,h1,h2,F⟩:=h.rest (o:=1) d h.o2.2 nofun nofun;refine⟨(Aa h.box d (mS h.o2.1)).trans Q6,?_,h.o3.mv m nofun,h.o5.mv m nofun,h1,h2,F,h.ubl,m.env.1.trans h.env.1,m.env.2.1.trans h.env.2.1,m.env.2.2.trans h.env.2.2⟩;have:=(sC h.o2 d).setdb (o:=1) (x:=v')
 rw[fe,show fK _=fK cs++fK l by simp[fK]];exact this
theorem mF.app3{w1:T}{e:LF}(h:mF w0 W0 ub v1 w ρ v2 v3 v5 cs fs xs)(F:Ap (ub+1) 74 4 w v3 w1 v' (D fs+1) (fs.flatMap cF++cF e))(he:aY w0 e.vp e.f.aH/\aY w0 e.vl e.f.aI/\kG (λb=>ρ b=.dn) w e.vc e.f.code):mF w0 W0 ub v1 (w1.setCell (Q ub 2 G) v') (nH w.heap.size v' (.ls 2 0) ρ) v2 v' v5 cs (fs++[e]) xs:=by
 obtain⟨m,h1,h2,h3⟩:=h.rest (o:=2) F h.o3.2 nofun nofun;have st:=m.stay nofun (by rw[h.no lj];nofun);refine⟨(Aa h.box F (mS h.o3.1)).trans Q6,h.o2.mv m nofun,?_,h.o5.mv m nofun,λx d=>?_,h2,h3,h.ubl,m.env.1.trans h.env.1,m.env.2.1.trans h.env.2.1,m.env.2.2.trans h.env.2.2⟩
 · have:=(sC h.o3 F).setdb (o:=2) (x:=v')
   rw[fe,Ka];simpa using this
 rcases F1.1 d with d|d
 · exact h1 x d
 rw[Jm.1 d];exact⟨he.1,he.2.1,he.2.2.stay st⟩
theorem mF.app5{w1:T}{e:LX}(h:mF w0 W0 ub v1 w ρ v2 v3 v5 cs fs xs)(d:Ap (ub+1) 71 2 w v5 w1 v' (D xs+1) (xs.flatMap cX++cX e)):mF w0 W0 ub v1 (w1.setCell (Q ub 4 G) v') (nH w.heap.size v' (.ls 4 0) ρ) v2 v3 v' cs fs (xs++[e]):=by
 obtain⟨m,h1,h2,F⟩:=h.rest (o:=4) d h.o5.2 nofun nofun;refine⟨(Aa h.box d (mS h.o5.1)).trans Q6,h.o2.mv m nofun,h.o3.mv m nofun,?_,h1,h2,F,h.ubl,m.env.1.trans h.env.1,m.env.2.1.trans h.env.2.1,m.env.2.2.trans h.env.2.2⟩;have:=(sC h.o5 d).setdb (o:=4) (x:=v')
 rw[fe,Ka];simpa using this
theorem mF.fin_(h:mF w0 W0 ub v1 w ρ v2 v3 v5 cs fs xs):mF w0 W0 ub v1 w (fin (.ls 8 0) ρ) v2 v3 v5 cs fs xs:=by
 have d:∀(r:BR) (e:TypeId) (n len:R) (v:M) (ys:I _),r≠.ls 8 0->jC ρ r w (ub+1) e n v _ ys->jC (fin _ ρ) r w _ e n v len _:=λr e n len v ys hr F=>⟨F.1,λk d=>by unfold fin;rw[F.2 k d,eP hr]⟩
 refine⟨h.box,d _ _ _ _ _ _ nofun h.o2,d _ _ _ _ _ _ nofun h.o3,d _ _ _ _ _ _ nofun h.o5,λe he=>⟨(h.fc e he).1,(h.fc e he).2.1,(h.fc e he).2.2.stay D7⟩,λb hb=>h.pl b λe=>hb ?_,h.low,h.ubl,h.env⟩;unfold fin;rw[e,eP nofun]
end
def xG(v:M)(r:BR)(ρ:R->BR)(k:R):BR:=if v.ownBlock=Y k then r else ρ k
theorem jC.asgn{ρ:R->BR}{r':BR}{w:T}{b:R}{n len:R}{v:M}{xs:I M}(h:jC ρ r' w b t n v len xs)(F:r'≠.no)(hu:∀k,u.ownBlock=Y k->ρ k=.no):jC (xG u r ρ) r' w b t n v len xs:=
 ⟨h.1,λk d=>by
  have e:=h.2 k d;unfold xG;rw[eP λe2=>F (e.symm.trans (hu k e2))];exact e⟩
section
variable {C:oN} {w w' w1:T} {ρ ρ':R->BR} {L:I RF} {B:I RK} {x:RX} {vF vB vT:M} {e:RF}
theorem DW.asgn(h:DW C w ρ L B x vF vB vT){u:M}(hu:∀k,u.ownBlock=Y k->ρ k=.no)(hl:∀k,u.ownBlock=Y k->C.mb<k/\k<w.heap.size)(r:BR):DW C w (xG u r ρ) L B x vF vB vT:=by
 refine⟨h.box,λb d=>?_,h.low,h.env,h.fr.asgn nofun hu,λi e hi=>⟨(h.fs i e hi).sl.asgn nofun hu,(h.fs i e hi).st.asgn nofun hu,(h.fs i e hi).ls,(h.fs i e hi).lt⟩,h.bk.asgn nofun hu,λj e F=>⟨(h.bs j e F).fl.asgn nofun hu,(h.bs j e F).ln⟩,h.tl.asgn nofun hu⟩;unfold xG at d;by_cases e:u.ownBlock=Y b
 · exact hl b e
 rw[eP e]at d;exact h.pl b d
theorem Fs{ρ:R->BR}{k:R}(h:u.ownBlock=Y k):xG u r ρ k=r:=mI h
theorem DW.box1{d:M}{len:R}{xs:I M}(h:DW C w ρ L B x vF vB vT)(F:Ap (C.mb+1) t sz w d w1 v' len xs)(ho:∀k,d.ownBlock=Y k->C.mb<k):w1.heap[C.mb]? =w.heap[C.mb]? :=F.frm.block C.mb h.lt λe=>by have:=ho _ e.symm;omega
theorem DW.pushF(h:DW C w ρ L B x vF vB vT){g:RF}{d:M}(hs:w.ownsRow (C.mb+1) 122 2 g.vs (D g.slots) (fN g.ks g.slots))(hn:∀k,g.vs.ownBlock=Y k->ρ k=.no)(af:D g.ks=D g.slots)(F:g.vk=J G 0 0)(Tj:g.stack=[])(ae:g.kt=[])(S4:Ap (C.mb+1) 82 4 w vF w1 d (D L+1) (L.flatMap zW++zW g)):
 ∃ρ',DW C (w1.setCell (Q C.mb 5 G) d) ρ' (L++[g]) B x d vB vT:=by
 have h':=h.asgn hn (λk F=>⟨by have:=(hs.lt k F).1;omega,(hs.lt k F).2⟩) (.ls 0 (D L));have m:=oR S4 h'.fr.2;have mm:=m.setdb (o:=5) (x:=d);have hb:=bK (o:=5) (v:=d) ((h.box1 S4 λk F=>by have:=(h.fr.1.lt k F).1;omega).trans h.box);refine⟨_,⟨hb.trans Q6,h'.plA mm,h'.lowA mm nofun,h'.envA mm,?_,λi f hi=>?_,h'.bk.mv mm nofun,λj e hj=>(h'.bs j e hj).mv mm nofun,h'.tl.mv mm nofun⟩⟩
 · have:=(sC h'.fr S4).setdb (o:=5) (x:=d)
   rw[Ka,fe];simpa using this
 by_cases Ug:i<D L
 · rw[ze Ug]at hi;exact(h'.fs i f hi).mv mm nofun nofun
 have ad:i=D L:=RI
 subst ad;rw[Ag lj,Lf]at hi;obtain rfl:=Q'
 have Tn:jC (xG _ _ ρ) (.ls 0 (D L)) w _ _ 2 _ _ _:=⟨hs,λk F=>Fs F⟩;refine⟨Tn.mv mm nofun,?_,af,by simp[Tj,ae]⟩;rw[F,Tj,ae];exact⟨B5 _ _ _ _,λk F=>by simp[Value.ownBlock]at F⟩
theorem DW.popF(h:DW C w ρ (L++[e]) B x vF vB vT){a:By Addr}{n c:R}(hv:vF=J a n c):DW C (w.setCell (Q C.mb 5 G) (J a (D L) c)) ρ L B x (J a (D L) c) vB vT:=by
 obtain⟨m,hb⟩:=h.setBox 5 (J a (D L) c);have hl:D (L++[e])=D L+1:=Q6;have F:=h.fr.1;rw[hl]at F;obtain⟨⟨a',c',d⟩,_⟩:=bD F;rw[hv]at d;simp only[jj]at d;obtain⟨rfl,rfl,rfl⟩:=d;rw[hv]at F;have ho:=vW F (m:=D L) Q5;rw[Ka,My (by rw[kV pV];omega),JH (by rw[kV pV];omega)]at ho;have ad:jC _ _ w _ _ 4 _ _ _:=⟨ho,λk hk=>h.fr.2 k (by rw[hv,pM a _ (D L)];exact hk)⟩;exact⟨hb.trans Q6,h.plA m,h.lowA m id,h.envA m,ad.mv m id,λi f hi=>(h.fs i f (by rw[ze (dm.1 hi).1];exact hi)).mv m id id,h.bk.mv m id,λj e hj=>(h.bs j e hj).mv m id,h.tl.mv m id⟩
theorem DW.pushB(h:DW C w ρ L B x vF vB vT){b:RK}{d:M}(hs:w.ownsRow (C.mb+1) 122 2 b.v (D b.fs) (fN b.ks b.fs))(hn:∀k,b.v.ownBlock=Y k->ρ k=.no)(af:D b.ks=D b.fs)(S4:Ap (C.mb+1) 130 1 w vB w1 d (D B+1) (B.map (·.v)++[b.v])):
 ∃ρ',DW C (w1.setCell (Q C.mb 6 G) d) ρ' L (B++[b]) x vF d vT/\jt C.mb (· =.row 6) w (w1.setCell (Q C.mb 6 G) d) (xG b.v (.ls 2 (D B)) ρ) ρ':=by
 have h':=h.asgn hn (λk hk=>⟨by have:=(hs.lt k hk).1;omega,(hs.lt k hk).2⟩) (.ls 2 (D B));have m:=oR S4 h'.bk.2;have F:=m.setdb (o:=6) (x:=d);have hb:=bK (o:=6) (v:=d) ((h.box1 S4 λk hk=>by have:=(h.bk.1.lt k hk).1;omega).trans h.box);refine⟨_,⟨hb.trans Q6,h'.plA F,h'.lowA F nofun,h'.envA F,h'.fr.mv F nofun,λi f hi=>(h'.fs i f hi).mv F nofun nofun,?_,λj f hj=>?_,h'.tl.mv F nofun⟩,F⟩
 · have:=(sC h'.bk S4).setdb (o:=6) (x:=d)
   rw[Ju,fe];simpa using this
 by_cases ae:j<D B
 · rw[ze ae]at hj;exact(h'.bs j f hj).mv F nofun
 have ad:j=D B:=by have:=(dm.1 hj).1;simp at this;omega
 subst ad;rw[Ag lj,Lf]at hj;obtain rfl:=by simpa using hj
 have Tn:jC (xG _ _ ρ) (.ls 2 (D B)) w _ _ 2 _ _ _:=⟨hs,λk hk=>Fs hk⟩;exact⟨Tn.mv F nofun,af⟩
theorem DW.setB(h:DW C w ρ L B x vF vB vT){j:R}{b:RK}(hj:B[j]? =Y b){g cap n a:R}(hv:b.v=J (Y (Q g 0 G)) n cap){k:A}(hk:b.ks[a]? =Y k)(v:PV):DW C ((w.setCell ⟨g,a*2,G⟩ (O Z k)).setCell ⟨g,a*2+1,G⟩ (O Z (vR k v))) ρ L (B.set j { b with fs:=b.fs.set a v }) x vF vB vT:=by
 have F:=h.bs j b hj;have hg:b.v.ownBlock=Y g:=Rr
 have ae:a<D b.fs:=by rw[<-F.ln];exact(dm.1 hk).1
 obtain⟨o1,m1⟩:=F.fl.set hg (a*2) Q5 (O Z k) λb hb=>(h.pl b hb).2;obtain⟨o2,m2⟩:=o1.set hg (a*2+1) Q5 (O Z (vR k v)) (λb hb=>by simpa using(h.pl b hb).2);have m:=m1.trans m2;rw[rn v hk]at o2;have TA:g≠C.mb:=by have:=(F.fl.1.lt g hg).1;omega
 have ad:=h.bk.mv m nofun;have d:=(dm.1 hj).1;refine⟨(dp _ _ _ _ λe=>TA e.symm).trans ((dp _ _ _ _ λe=>TA e.symm).trans h.box),h.plA m,h.lowA m nofun,h.envA m,h.fr.mv m nofun,λi f hi=>(h.fs i f hi).mv m nofun nofun,?_,λi f hi=>?_,h.tl.mv m nofun⟩
 · have e:(B.set j { b with fs:=b.fs.set a v }).map (·.v)=B.map (·.v):=by
    rw[List.map_set];apply Mq
    intro i;by_cases e:j=i
    · subst e;rw[Mf (by simpa using d),Ha,hj];rfl
    rw[Mr e]
   rw[e,List.length_set];exact ad
 · by_cases e:j=i
   · subst e;rw[Mf d]at hi;obtain rfl:=tz hi;exact⟨by simpa using o2,by simp[F.ln]⟩
   rw[Mr e]at hi;exact(h.bs i f hi).mv m jB
theorem DW.tell(h:DW C w ρ L B x vF vB vT){n:A}{d:M}(S4:Ap (C.mb+1) 3 1 w vT w1 d (D x.told+1) (fK x.told++[O Z n])):
 ∃ρ',DW C (w1.setCell (Q C.mb 13 G) d) ρ' L B { x with told:=x.told++[n] } vF vB d/\jt C.mb (· =.row 13) w (w1.setCell (Q C.mb 13 G) d) ρ ρ':=by
 have m:=oR S4 h.tl.2;have F:=m.setdb (o:=13) (x:=d);have hb:=bK (o:=13) (v:=d) ((h.box1 S4 λk hk=>by have:=(h.tl.1.lt k hk).1;omega).trans h.box);refine⟨_,⟨hb.trans Q6,h.plA F,h.lowA F nofun,h.envA F,h.fr.mv F nofun,λi f hi=>(h.fs i f hi).mv F nofun nofun,h.bk.mv F nofun,λj f hj=>(h.bs j f hj).mv F nofun,?_⟩,F⟩;have:=(sC h.tl S4).setdb (o:=13) (x:=d)
 have e:fK (x.told++[n])=fK x.told++[O Z n]:=by simp[fK]
 simp only[fe,MI];rw[e];exact this
end
def LA(db n B0:R)(os:I R)(K:R->Prop)(w:T)(x:Ending)(w':T):Prop:=x=.returned (.tuple #[])/\Im db (n+1) (B0+4) os w'/\Below db w w'/\∀b,K b->w'.heap[b]? =w.heap[b]?
theorem yX.nums{Z' K:R->Prop}{n B0:R}{os:I R}{w:T}{V:R->M}{Xq:R->I M}{ρ:R->BR}{vo v:M}(h:yX Z' db n B0 os w V Xq ρ vo)(hO:w.ownsRow (db+1) 3 1 v (D l) (fK l))(hz:∀g,v.ownBlock=Y g->Z' g)(hl:D l<=1000)(hn:n<=100000)(hB:B0<=100000)(hK:∀b,K b->b<w.heap.size/\b≠db/\ρ b=.no/\¬v.ownBlock=Y b):
 Calls prog 11 #[.pointer (Y (Q db 1 G)),v] w (LA db n B0 os K w):=by
 have ad:∀k,¬Z' k->xG v (.ls 9 0) _ k=ρ k:=λk F=>eP λe=>F (hz k e)
 have af:ew db w vo n V Xq (xG v (.ls 9 0) ρ):=by
  refine⟨h.s.box,λi i2 i10=>⟨(h.s.row i i2 i10).1,λk F=>?_⟩,λb d=>?_⟩
  · have e:=(h.s.row i i2 i10).2 k F;rw[ad k (h.zr k Sd),e]
  by_cases e:v.ownBlock=Y b
  · have:=hO.lt b e;exact⟨Q5,this.2⟩
  unfold xG at d;rw[eP e]at d;exact h.s.pl b d
 have al:=h.e.stay λb d _=>⟨rfl,by show xG v (.ls 9 0) ρ b=.dn;rw[ad b (h.zr b (by rw[d];nofun))];exact d⟩
 have hx:=h.x;refine(zA _ _ n V Xq _ w 9 0 v _ _ af al ⟨hO,λk F=>mI F⟩ Q5 Q5 λi=>by have:=hx i;omega).mono ?_;rintro x w' ⟨rfl,V',X',ρ',ae,T8,hM,ai⟩;have S7:=hM.size;have UZ:∀k,k<w.heap.size->k≠db->ρ k=.no->¬v.ownBlock=Y k->ρ' k=.no/\w'.heap[k]? =w.heap[k]? :=λk F hd hr hv=>by
  have e:xG v (.ls 9 0) _ k=.no:=(eP hv).trans hr;exact⟨by rw[(hM.old k F).2 Sd];exact e,hM.blk k F hd Sd Sd⟩
 refine⟨rfl,⟨_,_,_,_,ae,T8,λi=>by have:=ai i;have:=hx i;omega,?_,?_,λb d=>by have:=(ae.pl b d).2;omega,by have:=ae.lt;omega,λob ak=>?_⟩,⟨hM.env.1,hM.env.2.1,hM.env.2.2,hM.size,λk F=>?_⟩,λb d=>?_⟩
 · refine bY h.o λq hq=>?_
   obtain⟨q1,q2⟩:=h.on q hq;exact(UZ q (h.o.lt q hq).2 (by have:=(h.o.lt q hq).1;omega) q1 λe=>q2 (hz q e)).2
 · intro q hq;obtain⟨q1,q2⟩:=h.on q hq;have hl:=h.o.lt q hq;exact⟨(UZ q hl.2 Q5 q1 λe=>q2 (hz q e)).1,Q5⟩
 · obtain⟨tb,sb,m,c,k1,k2⟩:=(h.k _ ak).is;have hq:=λb d=>by
    obtain⟨q1,q2,q3,q4,q5⟩:=k2 b d;exact UZ b q1 q3 q2 λe=>q5 (hz b e)
   refine⟨_,_,m,c,k1.keep λb d=>(hq b d).2,λb d=>?_⟩;obtain⟨q1,q2,q3,q4,q5⟩:=k2 b d;exact⟨Q5,(hq b d).1,q3,q4,Q5⟩
 · have av:=h.s.lt;have Wa:ρ k=.no:=by
    by_cases e:ρ k=.no
    · exact e
    have:=(h.s.pl k e).1;omega
   exact(UZ k Q5 Q5 Wa λe=>by have:=(hO.lt k e).1;omega).2
 · obtain⟨h1,h2,h3,h4⟩:=hK b d;exact(UZ b h1 h2 h3 h4).2
def Dk{α:Type}(f:I AI->By (α×I AI))(g:α->I AI)(QQq:α->Prop):Prop:=∀y r,QQq y->f (g y++r)=Y (y,r)
theorem uO{x:A}:kK (qC x)=x:=by
 unfold kK qC;split
 · rw[mI Q5];omega
 rw[eP Q5];omega
def Fx(x:A):Prop:=-9223372036854775808<=x/\x<=9223372036854775807
def Whole(x:A):Prop:=0<=x/\x<=9223372036854775807
theorem tA:Dk bn dE Fx:=by
 intro y r h;unfold bn dE;rw[pO r (Dy h.1 h.2)];simp[uO]
theorem jk:Dk cI cK Whole:=by
 intro y r h;unfold cI cK;have d:=h.1;have F:=h.2;rw[pO r Q5];simp only;rw[mI Q5];simp;omega
theorem yM:Dk iB h_ (λs=>D s<18446744073709551616):=by
 intro y r h;unfold iB h_;rw[zx,pO _ h];exact xv y r
theorem BV{α:Type}{f:I AI->By (α×I AI)}{g:α->I AI}{QQq:α->Prop}(d:Dk f g QQq):∀(ys:I α) (r:I AI),(∀y∈ys,QQq y)->jf f (D ys) (ys.flatMap g++r)=Y (ys,r)
 | [],r,_=>rfl
 | y::ys,r,h=>by
  have h1:=d y (ys.flatMap g++r) (h y J9);have F:=BV d _ r λz hz=>h z (Jw _ hz);simp only[I',Jk,zx];unfold jf;rw[h1];simp only[F]
theorem BH{α:Type}{g:α->I AI}(d:∀y,1<=D (g y)):∀ys:I α,D ys<=D (ys.flatMap g)
 | []=>by simp
 | y::ys=>by
  have:=BH d ys
  have:=d y
  simp only[I',Jk,fe];omega
theorem k_{α:Type}{f:I AI->By (α×I AI)}{g:α->I AI}{QQq:α->Prop}(d:Dk f g QQq)(F:∀y,1<=D (g y)):Dk (aV f) (fM g) (λys=>D ys<18446744073709551616/\∀y∈ys,QQq y):=by
 intro ys r h;unfold aV fM;rw[zx,pO _ h.1];simp only;rw[mI (by have:=BH F ys;simp only[fe];omega)];exact BV d _ r h.2
theorem v_(n:R):1<=D (num n):=(nO 10 n).2
theorem ny:Dk cP bu (λys=>D ys<18446744073709551616/\∀y∈ys,Whole y):=k_ jk λy=>v_ _
theorem Gt:Dk er fQ (λi=>D i.name<18446744073709551616/\(D i.aH<18446744073709551616/\∀y∈i.aH,Whole y)/\Whole i.result):=by
 intro y r h;unfold er fQ;rw[zx,yM _ _ h.1];simp only;rw[zx,ny _ _ h.2.1];simp only;have:=jk _ r h.2.2
 unfold cK at this;rw[this]
theorem F':Dk fH fU (λe=>D e.name<18446744073709551616/\Whole e.func):=by
 intro y r h;unfold fH fU;rw[zx,yM _ _ h.1];simp only;have:=jk _ r h.2
 unfold cK at this;rw[this]
theorem Sw{p:Prop}(h:p:=by rw[hN]at h3;simpa[bR]using h3):p:=h
theorem Gb:Dk ey cq (λi=>bl i=AT):=by
 intro y r h;unfold bl at h;simp only[sQ]at h;obtain⟨h1,F,h3⟩:=h;have ae:=by simpa[wB]using h1
 have hb:=(Gv ae.1 ae.2).symm;unfold ey cq;simp only[Ls,fI,hb];rw[mI h1];by_cases e1:y.op=1
 · rw[mI e1,mI e1];rw[mI e1]at F;have ad:=by simpa[wB]using F
   have hN:ah y.op=1:=by rw[e1];decide
   have d:=Sw
   have hs:=tA y.a r ⟨Q5,Q5⟩;unfold dE at hs;rw[hs];simp only;rw[<-d]
 rw[eP e1,eP e1];rw[eP e1]at F;rcases kI y.op with hN|hN|hN
 · rw[mI hN];have ad:=by rw[hN]at F;simpa[bR]using F
   have d:=Sw
   simp only[hN];simp
   cases y;simp_all
 · rw[eP Q5];have ad:=by rw[hN]at F;simpa[bR,wB]using F
   have d:=Sw
   have hs:=jk y.a r ⟨Q5,Q5⟩;unfold cK at hs;simp only[hN];simp only[show(1:A)<=1 by decide,show ¬(2:A)<=1 by decide,KA,L3,Ir,hs];rw[<-d]
 rw[eP Q5];have ad:=by rw[hN]at F;simpa[bR,wB]using F
 have d:=by rw[hN]at h3;simpa[bR,wB]using h3
 have hs:=jk y.a (num y.b.toNat++r) ⟨Q5,Q5⟩;have TV:=jk y.b r ⟨Q5,Q5⟩;unfold cK at hs TV;simp only[hN];simp only[show(1:A)<=2 by decide,show(2:A)<=2 by decide,KA,zx,hs,show ¬(2:A)=1 by decide,L3,TV]
theorem qR(d:n<=1000000){x:A}(h:iH n x=AT):Whole x:=by
 have:=by simpa[iH,wB]using h
 exact⟨this.1,Q5⟩
theorem nj(d:n<=1000000){l:I A}(h:l.all (iH n)=AT):∀y∈l,Whole y:=λy hy=>qR d (zl.1 h y hy)
theorem fh{l m:A}(h:wB n l m=AT):l<=n/\n<=m:=by simpa[wB]using h
theorem E_(d:n<=1000000):Dk dR d_ (λf=>dA n f=AT):=by
 intro y r h;unfold dA iG ir at h;simp only[sQ]at h;obtain⟨⟨p1,p2,p3⟩,l1,l2,c1,c2⟩:=h;have q1:=fh p1;have q2:=fh l1;have F:=fh c1;unfold dR d_;rw[zx,ny _ _ ⟨Q5,nj d p2⟩];simp only;rw[zx,ny _ _ ⟨Q5,nj d l2⟩];simp only;have hs:=jk _ (fM cq y.code++r) (qR d p3);unfold cK at hs;rw[zx,hs];simp only;rw[k_ Gb (λi=>by unfold cq;simp) _ r ⟨Q5,λi hi=>zl.1 c2 i hi⟩]
theorem nC{α:Type}{f:I AI->By (I α×I AI)}{g:I α->I AI}{QQq:I α->Prop}(d:Dk f g QQq){y:I α}(hy:QQq y):cY f (g y)=Y y:=by
 have h:=d y [] hy;rw[Ir]at h;unfold cY;rw[h]
theorem km{u:aK}(h:bG u=AT):bh u.aA=AT/\cm u.aE=AT/\cO u.aG (D u.aA)=AT/\cG u.aC (D u.aA)=AT/\cH u.aD (D u.aG)=AT:=by
 unfold bG at h;simp only[sQ]at h;obtain⟨h1,h2,h3,d,F⟩:=h;exact⟨h1,h2,h3,d,F⟩
structure IB(u:aK):Prop where
 b1:cY (aV cP) (tT u)=Y u.aA
 b2:cY (aV bn) (rq u)=Y u.aE
 b3:cY (aV dR) (tH u)=Y u.aG
 b4:cY (aV er) (rh u)=Y u.aC
 b5:cY (aV fH) (sH u)=Y u.aD
theorem j6{u:aK}(h:bG u=AT)(hF:tm u):IB u:=by
 obtain⟨h1,h2,h3,d,F⟩:=km h;have k2:=fh h2;unfold bh at h1;unfold cO at h3;unfold cG at d;unfold cH at F;simp only[sQ]at h1 h3 d F;have k1:=fh h1.1;have k3:=fh h3.1;have k4:=fh d.1;have k5:=fh F.1;refine⟨?_,?_,?_,?_,?_⟩
 · refine nC (k_ ny λy=>by unfold bu;exact xS) ⟨Q5,λy hy=>?_⟩;have h:=zl.1 h1.2 y hy;unfold dM at h;simp only[sQ]at h;have:=fh h.1
   exact⟨Q5,nj Q5 h.2⟩
 · exact nC (k_ tA λy=>v_ _) ⟨Q5,λy hy=>hF y hy⟩
 · refine nC (k_ (E_ Q5) λy=>?_) ⟨Q5,λy hy=>zl.1 h3.2 y hy⟩;unfold d_;have:1<=D (bu y.aH):=by unfold bu;exact xS
   simp only[fe];omega
 · refine nC (k_ Gt λy=>?_) ⟨Q5,λy hy=>?_⟩
   · unfold fQ h_;have:=v_ (D y.name);simp only[fe];omega
   have h:=zl.1 d.2 y hy;unfold gC fC iG at h;simp only[sQ]at h;have q1:=fh h.1;have q2:=fh h.2.1;exact⟨Q5,⟨Q5,nj Q5 h.2.2.1⟩,qR Q5 h.2.2.2⟩
 refine nC (k_ F' λy=>?_) ⟨Q5,λy hy=>?_⟩
 · unfold fU h_;have:=v_ (D y.name);simp only[fe];omega
 have h:=zl.1 F.2 y hy;unfold fi fC at h;simp only[sQ]at h;have q1:=fh h.1;have q2:=fh h.2;exact⟨Q5,⟨Q5,Q5⟩⟩
theorem lh(n:R)(b:I AI):D b<=D (iY n b):=by unfold iY;simp only[fe];omega
def bm(r:I AI)(bad:Bool):R×I AI×Bool:=
 match r with
 | []=>(0,[],AT)
 | b::r'=>(b.toNat,r',bad)
def lq:R->R->R->I AI->Bool->R×I AI×Bool
 | 0,_,_,r,_=>(0,r,AT)
 | k+1,v,un,r,bad=>
  if (bm r bad).1<128 then ((v+un*((bm r bad).1%128))%18446744073709551616,(bm r bad).2)
  else lq k ((v+un*((bm r bad).1%128))%18446744073709551616) (un*128%18446744073709551616) (bm r bad).2.1 (bm r bad).2.2
def iS(r:I AI)(bad:Bool):R×I AI×Bool:=lq 10 0 1 r bad
def aZ(most:R)(r:I AI)(bad:Bool):A×I AI×Bool:=
 if most<(iS r bad).1 then (0,(iS r bad).2.1,AT) else (((iS r bad).1:A),(iS r bad).2)
def b_(r:I AI)(bad:Bool):A×I AI×Bool:=(kK (iS r bad).1,(iS r bad).2)
def kz{α:Type}(f:I AI->Bool->α×I AI×Bool):R->I AI->Bool->I α×I AI×Bool
 | 0,r,bad=>([],r,bad)
 | k+1,r,bad=>((f r bad).1::(kz f k (f r bad).2.1 (f r bad).2.2).1,(kz f k (f r bad).2.1 (f r bad).2.2).2)
def au(r:I AI)(bad:Bool):I A×I AI×Bool:=kz (aZ 65535) (aZ 20 r bad).1.toNat (aZ 20 r bad).2.1 (aZ 20 r bad).2.2
def fP(r:I AI)(bad:Bool):I AI×I AI×Bool:=
 if (aZ 20 r bad).2.1.length<(aZ 20 r bad).1.toNat then ([],(aZ 20 r bad).2.1,AT)
 else ((aZ 20 r bad).2.1.take (aZ 20 r bad).1.toNat,(aZ 20 r bad).2.1.drop (aZ 20 r bad).1.toNat,(aZ 20 r bad).2.2)
def rF{α:Type}(f:I AI->Bool->α×I AI×Bool)(g:α->I AI)(QQq:α->Prop):Prop:=∀y r bad,QQq y->f (g y++r) bad=(y,r,bad)
theorem ux:∀(k v un m:R) (r:I AI) (bad:Bool),0<un->v+un*m<18446744073709551616->m<128 ^ (k+1)->lq (k+1) v un (jL k m++r) bad=(v+un*m,r,bad)
 | 0,v,un,m,r,bad,h0,h1,h2=>by
  have hm:=RG
  have d:(UInt8.ofNat m).toNat=m:=QL
  simp only[jL,List.singleton_append,lq,bm,d,mI hm];rw[Lb hm,Lb h1]
 | k+1,v,un,m,r,bad,h0,h1,h2=>by
  by_cases hm:m<128
  · have d:(UInt8.ofNat m).toNat=m:=by simp;omega
    rw[jL,mI hm,List.singleton_append,lq];simp only[bm,d,mI hm];rw[Lb hm,Lb h1]
  have d:(UInt8.ofNat (m%128+128)).toNat=m%128+128:=QL
  rw[jL,eP hm,Ls,lq];simp only[bm,d];rw[eP Q5];have e1:(m%128+128)%128=m%128:=Q5;have hle:un*128<=un*m:=Nat.mul_le_mul_left _ Q5;have e2:un*m=un*(m%128)+un*128*(m/128):=by
   rw[Nat.mul_assoc,<-Nat.mul_add];congr 1;omega
  have F:un*128*(m/128)<=un*m:=Q5;rw[e1,Lb Q5,Lb (show un*128<18446744073709551616 by omega)];rw[ux k _ _ _ r _ Q5 Q5 (by
   rw[Nat.pow_succ]at h2;exact Nat.div_lt_of_lt_mul Q5)]
  congr 1;omega
theorem se:rF iS num (λn=>n<18446744073709551616):=by
 intro n r bad F;have d:num n=jL 9 n:=by
  have:∀k m,m<128 ^ (k+1)->jL (k+1) m=jL k m:=by
   intro k
   induction k with
   | zero=>
    intro m hm;have h1:=by simpa using hm
    simp[jL,h1]
   | succ k ih=>
    intro m hm;show(if m<128 then [UInt8.ofNat m] else UInt8.ofNat (m%128+128)::jL (k+1) (m/128))=(if m<128 then [UInt8.ofNat m] else UInt8.ofNat (m%128+128)::jL k (m/128))
    rw[ih _ (by rw[Nat.pow_succ]at hm;exact Nat.div_lt_of_lt_mul Q5)]
  exact this 9 n (tu F Q9)
 unfold iS;rw[d,ux 9 0 1 n r _ Q9 Q5 (tu F Q9)];simp
theorem gP(most:R)(hm:most<18446744073709551616):rF (aZ most) cK (λx=>0<=x/\x<=most):=by
 intro x r bad d;unfold aZ cK;rw[se _ r _ Q5];simp only;rw[eP Q5];congr 1;omega
theorem qj:rF b_ dE Fx:=by
 intro x r bad F;unfold b_ dE;have d:qC x<18446744073709551616:=by unfold Fx at F;unfold qC;split<;>omega
 rw[se _ r _ d];simp only[uO]
theorem uj{α:Type}{f:I AI->Bool->α×I AI×Bool}{g:α->I AI}{QQq:α->Prop}(d:rF f g QQq):∀(ys:I α) (r:I AI) (bad:Bool),(∀y∈ys,QQq y)->kz f (D ys) (ys.flatMap g++r) bad=(ys,r,bad)
 | [],r,bad,_=>by simp[kz]
 | y::ys,r,bad,h=>by
  rw[I',zx,Jk,kz,d y _ _ (h y Q6)];simp only;rw[uj d _ r _ λz F=>h z (by simp[F])]
theorem oB:rF au bu (λys=>D ys<=20/\∀y∈ys,0<=y/\y<=65535):=by
 intro ys r bad h;have d:=gP 20 Q9 (D ys) (ys.flatMap cK++r) bad ⟨Q5,by have:=h.1;omega⟩;unfold au bu fM;rw[zx];unfold cK at d;simp only[A7]at d;rw[show(λx=>num _)=cK from rfl]at d;rw[d];simp only[A7];exact uj (gP _ Q9) _ r _ h.2
theorem uV:rF fP h_ (λs=>D s<=20):=by
 intro s r bad h;have d:=gP 20 Q9 (D s) (s++r) bad ⟨Q5,Q5⟩;unfold cK at d;simp only[A7]at d;unfold fP h_;rw[zx,d];simp only[A7];rw[eP (by rw[fe];omega)];simp
theorem pQ(n:A):ah n=0\/ah n=1\/ah n=2:=by
 exact OL
def xC(op:R)(r:I AI)(bad:Bool):A×I AI×Bool:=if op=1 then b_ r bad else if 0<ah op then aZ 65535 r bad else (0,r,bad)
def CM(op:R)(r:I AI)(bad:Bool):A×I AI×Bool:=if 1<ah op then aZ 65535 r bad else (0,r,bad)
def oq(op:R)(r:I AI)(bad:Bool):bP×I AI×Bool:=
 (⟨op,(xC op r bad).1,(CM op (xC op r bad).2.1 (xC op r bad).2.2).1⟩,(CM op (xC op r bad).2.1 (xC op r bad).2.2).2)
def gJ:R->I AI->Bool->I bP×I AI×Bool
 | 0,r,bad=>([],r,bad)
 | k+1,r,bad=>
  if 20<(bm r bad).1 then ([],(bm r bad).2.1,AT)
  else ((oq (bm r bad).1 (bm r bad).2.1 (bm r bad).2.2).1::(gJ k (oq (bm r bad).1 (bm r bad).2.1 (bm r bad).2.2).2.1 (oq (bm r bad).1 (bm r bad).2.1 (bm r bad).2.2).2.2).1,
   (gJ k (oq (bm r bad).1 (bm r bad).2.1 (bm r bad).2.2).2.1 (oq (bm r bad).1 (bm r bad).2.1 (bm r bad).2.2).2.2).2)
theorem EZ(i:bP)(h:bl i=AT)(r:I AI)(bad:Bool):∃b t,cq i++r=b::(t++r)/\b.toNat<=20/\oq b.toNat (t++r) bad=(i,r,bad):=by
 obtain⟨op,a,b⟩:=i;unfold bl wB bR wB at h;simp only[sQ,xw]at h;obtain⟨hop,d⟩:=h;obtain⟨n,rfl⟩:∃n:R,op=n:=⟨op.toNat,Q5⟩;have hb:(UInt8.ofNat n).toNat=n:=QL
 refine⟨UInt8.ofNat n,(if (n:A)=1 then num (qC a) else (if 1<=ah n then num a.toNat else [])++(if 2<=ah n then num b.toNat else [])),by simp[cq],by rw[hb];omega,?_⟩;rw[hb];unfold oq xC CM;by_cases h1:n=1
 · subst h1;have F:ah ((1:R):A)=1:=by decide
   simp only[F]at d |-;have ha:=qj a r bad (by unfold Fx;simp at d;omega);unfold dE at ha;simp only[Int.natCast_one,KA,ha];simp at d |-
   omega
 have ae:¬((n:A)=1):=by omega
 simp only[eP h1,eP ae]at d |-;obtain⟨ha,ad⟩:=d;have F:=pQ n;have f1:=λx r (hx:0<=x/\x<=65535)=>gP 65535 Q9 x r bad hx
 unfold cK at f1;rcases F with F|F|F<;>rw[F]at ha ad |-<;>simp at ha ad |-
 · omega
 · rw[f1 a r Q5];simp;omega
 rw[f1 a _ Q5];simp only;rw[f1 b r Q5];simp
theorem um:∀(ys:I bP) (r:I AI) (bad:Bool),ys.all bl=AT->gJ (D ys) (ys.flatMap cq++r) bad=(ys,r,bad)
 | [],r,bad,_=>by simp[gJ]
 | y::ys,r,bad,h=>by
  simp only[List.all_cons,sQ]at h;rw[I',zx,Jk];obtain⟨b,t,h1,h2,d⟩:=EZ y h.1 (ys.flatMap cq++r) bad;have F:bm (b::(t++(ys.flatMap cq++r))) _=(b.toNat,t++(ys.flatMap _++r),bad):=rfl;rw[h1,gJ,F,eP (by simp only;omega)];simp only;rw[d];simp only;rw[um _ r _ h.2]
def fL(r:I AI)(bad:Bool):aQ×I AI×Bool:=
 let p:=au r bad
 let l:=au p.2.1 p.2.2
 let v:=aZ 65535 l.2.1 l.2.2
 let n:=aZ 200 v.2.1 v.2.2
 let c:=gJ n.1.toNat n.2.1 n.2.2
 (⟨p.1,v.1,l.1,c.1⟩,c.2)
def jQ(r:I AI)(bad:Bool):eL×I AI×Bool:=
 let t:=fP r bad
 let p:=au t.2.1 t.2.2
 let v:=aZ 65535 p.2.1 p.2.2
 (⟨t.1,p.1,v.1⟩,v.2)
def jN(r:I AI)(bad:Bool):cJ×I AI×Bool:=
 let t:=fP r bad
 let v:=aZ 65535 t.2.1 t.2.2
 (⟨t.1,v.1⟩,v.2)
def be{α:Type}(f:I AI->Bool->α×I AI×Bool):R->I AI->Bool->I α×I AI×Bool
 | 0,r,bad=>([],r,bad)
 | k+1,r,bad=>if bad then ([],r,AT) else ((f r AS).1::(be f k (f r AS).2.1 (f r AS).2.2).1,(be f k (f r AS).2.1 (f r AS).2.2).2)
def dF{α:Type}(f:I AI->Bool->α×I AI×Bool)(r:I AI)(bad:Bool):I α×I AI×Bool:=be f (aZ 50 r bad).1.toNat (aZ 50 r bad).2.1 (aZ 50 r bad).2.2
theorem tI{α:Type}{f:I AI->Bool->α×I AI×Bool}{g:α->I AI}{QQq:α->Prop}(d:rF f g QQq):∀(ys:I α) (r:I AI),(∀y∈ys,QQq y)->be f (D ys) (ys.flatMap g++r) AS=(ys,r,AS)
 | [],r,_=>by simp[be]
 | y::ys,r,h=>by
  rw[I',zx,Jk,be,eP Q9,d y _ _ (h y Q6)];simp only;rw[tI d _ r λz F=>h z (by simp[F])]
theorem CJ{α:Type}{f:I AI->Bool->α×I AI×Bool}{g:α->I AI}{QQq:α->Prop}(F:rF f g QQq)(ys:I α)(r:I AI)(hl:D ys<=50)(h:∀y∈ys,QQq y):dF f (fM g ys++r) AS=(ys,r,AS):=by
 have d:=gP 50 Q9 (D ys) (ys.flatMap g++r) AS ⟨Q5,Q5⟩;unfold cK at d;simp only[A7]at d;unfold dF fM;rw[zx,d];simp only[A7];exact tI F _ r h
theorem qY(x:A):num x.toNat=cK x:=rfl
theorem Cp:rF fL d_ (λf=>(D f.aH<=20/\∀y∈f.aH,0<=y/\y<=65535)/\(D f.aI<=20/\∀y∈f.aI,0<=y/\y<=65535)/\(0<=f.result/\f.result<=65535)/\D f.code<=200/\f.code.all bl=AT):=by
 intro f r bad ⟨hp,F,hr,hc,hi⟩;unfold fL d_;have d:=gP 200 Q9 (D f.code) (f.code.flatMap cq++r) bad ⟨Q5,Q5⟩;unfold cK at d;simp only[A7]at d;rw[qY];simp only[zx];rw[oB _ _ _ hp];simp only;rw[oB _ _ _ F];simp only;rw[gP _ Q9 _ _ _ hr];simp only;unfold fM;rw[zx,d];simp only[A7];rw[um _ r _ hi]
theorem ED:rF jQ fQ (λi=>D i.name<=20/\(D i.aH<=20/\∀y∈i.aH,0<=y/\y<=65535)/\0<=i.result/\i.result<=65535):=by
 intro i r bad ⟨F,hp,d⟩;unfold jQ fQ;rw[qY];simp only[zx];rw[uV _ _ _ F];simp only;rw[oB _ _ _ hp];simp only;rw[gP _ Q9 _ _ _ d]
theorem Ec:rF jN fU (λe=>D e.name<=20/\0<=e.func/\e.func<=65535):=by
 intro e r bad ⟨F,d⟩;unfold jN fU;rw[qY];simp only[zx];rw[uV _ _ _ F];simp only;rw[gP _ Q9 _ _ _ d]
def rC(w:T)(rb:R)(s:ByteArray)(q:R)(bad:Bool):Prop:=
 w.heap[rb]? =Y (X #[.string s,O Z (q:A),.bool bad] 108 (0,0))/\q<=s.size/\s.size<=1000000
def lW(w:T)(rb:R)(s:ByteArray)(r:I AI)(bad:Bool):Prop:=∃q,rC w rb s q bad/\r=s.data.toList.drop q
theorem rC.cells{w:T}{bad:Bool}(h:rC w rb s q bad):H w (Q rb 0 G)=Y (.string s)/\H w (Q rb 1 G)=Y (O Z (q:A))/\H w (Q rb 2 G)=Y (.bool bad)/\(∀j,w.frozen? ⟨rb,j,G⟩=AS):=
 ⟨by rw[aN h.1];rfl,by rw[aN h.1];rfl,by rw[aN h.1];rfl,λj=>aT h.1⟩
theorem rC.step{w:T}{bad:Bool}(h:rC w rb s q bad)(d:R)(F:d<=s.size):rC (w.setCell (Q rb 1 G) (O Z (d:A))) rb s d bad:=⟨bK h.1,F,h.2.2⟩
theorem rC.spoil{w:T}{bad:Bool}(h:rC w rb s q bad):rC (w.setCell (Q rb 2 G) (.bool AT)) rb s q AT:=⟨bK h.1,h.2.1,h.2.2⟩
theorem rC.gr{w w':T}{bad:Bool}(h:rC w rb s q bad)(g:Gr w w'):rC w' rb s q bad:=⟨(g.block rb (bM h.1) Q6).trans h.1,h.2⟩
theorem lW.gr{w w':T}{r:I AI}{bad:Bool}(h:lW w rb s r bad)(g:Gr w w'):lW w' rb s r bad:=by
 obtain⟨q,F,d⟩:=h;exact⟨q,F.gr g,d⟩
theorem lW.spoil{w:T}{r:I AI}{bad:Bool}(h:lW w rb s r bad):lW (w.setCell (Q rb 2 G) (.bool AT)) rb s r AT:=by
 obtain⟨q,F,d⟩:=h;exact⟨q,F.spoil,d⟩
theorem lW.bad{w:T}{r:I AI}{bad:Bool}(h:lW w rb s r bad):H w (Q rb 2 G)=Y (.bool bad)/\w.frozen? ⟨rb,2,G⟩=AS:=by
 obtain⟨q,d,_⟩:=h;exact⟨d.cells.2.2.1,d.cells.2.2.2 2⟩
theorem CZ(s:ByteArray)(q:R)(h:q<s.size):s.data.toList.drop q=s[q]::s.data.toList.drop (q+1):=by
 have d:q<D s.data.toList:=by rw[Aj];exact h
 rw[Be d];rfl
def Ic{α:Type}(rb:R)(s:ByteArray)(w:T)(RRq:T->M->α->Prop)(r:α×I AI×Bool)(x:Ending)(w':T):Prop:=∃v,x=.returned v/\RRq w' v r.1/\lW w' rb s r.2.1 r.2.2/\Gc rb w w'
theorem wK(rb:R)(s:ByteArray)(r:I AI)(bad:Bool)(w:T)(h:lW w rb s r bad):
 Calls prog 37 #[.pointer (Y (Q rb 0 G))] w (Ic rb s w (λ_ v (n:R)=>v=O Z (n:A)) (bm r bad)):=by
 obtain⟨q,h,hr⟩:=h;obtain⟨c0,c1,c2,cz⟩:=h.cells;have z1:=cz 1;have z2:=cz 2;have hq:=h.2.1;have hs:=h.2.2;have HL:=aJ h;have F:=aJ hr;clear h cz hr;by_cases IN:q<s.size
 · have HR:U (bm r _=(s[q].toNat,s.data.toList.drop (q+1),bad)):=aJ (by rw[F,CZ s q IN];rfl);have hd:¬((s.size:A)<=q):=by omega
   have av:Z.wrap _=q+1:=Q_;have ax:Z.wrap (q+1-1)=q:=Qq
   have al:Z.wrap _=q:=Q_;have af:=s[q].toNat_lt;generalize d:s[q]=b at HR af;have ai:s[q]!.toNat=b.toNat:=by rw[getElem!_pos s q IN,d]
   have ae:Z.wrap _=b.toNat:=Q_;have ad:=aJ d;clear d;have S9:(0:A)<=q:=Q5;have ak:(q:A)<s.size:=Q5;have hc:((q+1:R):A)=q+1:=Q5;have HN:=aJ (HL.step (q+1) Q5);rw[hc]at HN;obtain⟨e0,e1,-,-⟩:=HN.cells;rw[hc]at e1;have HG:U (Gc _ w (w.setCell _ (O Z (q+1)))):=aJ ((Gc.refl rb w).set 1 _);clear hc;go_enter func37,ntmps37
   go_wp2;go_region_held3 (λw'=>H w' (Q rb 0 G)=Y (.string s)/\H w' (Q rb 1 G)=Y (O Z (q:A))) (go_keep) (fail)
   go_wp2;generalize w.setCell _ _=W at e0 e1 HN HG |-;go_region_held3 (λw'=>H w' (Q rb 0 G)=Y (.string s)/\H w' (Q rb 1 G)=Y (O Z ((q:A)+1))) (go_keep) (fail)
   go_wp2;go_ret
   rw[HR];refine⟨_,rfl,?_,⟨_,HN,rfl⟩,(by first|exact HG.j|exact HG.j.drew|exact HG.j.drew.drew)⟩;show O Z (Z.wrap (s[q].toNat:A))=O Z (b.toNat:A)
   rw[ad,ae]
 have HR:U (bm r bad=(0,[],AT)):=aJ (by
  have:s.data.toList.drop q=[]:=by rw[Ma];rw[Aj];show s.size<=q;omega
  rw[F,this];rfl)
 have hd:(s.size:A)<=q:=Q5;go_enter func37,ntmps37
 go_wp2;go_region_held3 (λw'=>H w' (Q rb 0 G)=Y (.string s)/\H w' (Q rb 1 G)=Y (O Z (q:A))) (go_keep) (fail)
 go_wp2;go_ret
 rw[HR];exact⟨_,rfl,rfl,⟨q,HL.spoil,(List.drop_eq_nil_of_le (by rw[Aj];show s.size<=q;omega)).symm⟩,(by first|exact(Gc.refl rb w).set 2 _|exact((Gc.refl rb w).set 2 _).drew|exact((Gc.refl rb w).set 2 _).drew.drew)⟩
attribute [local go_sem ↓] Go.wp_at_zero Go.wp_at_succ
theorem mK(n:R):IntKind.u64.wrap (n:A)=((n%18446744073709551616:R):A):=by
 simp[IntKind.wrap,IntKind.bits,IntKind.signed]
theorem Du(r:I AI)(bad:Bool):(bm r bad).1<256:=by
 cases r with
 | nil=>simp[bm]
 | cons b r=>exact b.toNat_lt
theorem qO(rb:R)(s:ByteArray)(r:I AI)(bad:Bool)(w:T)(h:lW w rb s r bad):
 Calls prog 38 #[.pointer (Y (Q rb 0 G))] w (Ic rb s w (λ_ v (n:R)=>v=.int .u64 (n:A)) (iS r bad)):=by
 go_enter func38,ntmps38
 go_wp2_with fail;go_loopw[3,4,5] (λvv uu ii wr=>∃(k v un:R) (r':I AI) (b':Bool),k<=10/\v<18446744073709551616/\un<18446744073709551616/\vv=.int .u64 (v:A)/\uu=.int .u64 (un:A)/\ii=O Z (k:A)/\lq (10-k) v un r' b'=iS r bad/\lW wr rb s r' b'/\Gc rb w wr) λ_ _ ii _=>10-(intOf ii).toNat
 case atStart=>exact⟨0,0,1,r,_,SF,SF,SF,rfl,rfl,rfl,rfl,h,Gc.refl _ _⟩
 obtain⟨k,v,un,r',b',hk,hv,Wy,rfl,rfl,rfl,hF,ay,ax⟩:=hrel;have HF:=aJ hF;have ai:=aJ ay;have HG:=aJ ax;clear hF ay ax h;by_cases aB:k<10
 · have HN:=aJ (wK _ s _ _ _ ai);have hc:=Du r' b';obtain⟨low,ae⟩:∃low,low=(bm r' b').1%128:=⟨_,rfl⟩;have HS:U (iS r _=if (bm _ _).1<128 then ((v+un*low)%18446744073709551616,(bm _ _).2) else lq (10-(k+1)) _ _ _ _):=aJ (by
    rw[<-HF,show 10-k=(10-(k+1))+1 by omega,lq,<-ae])
   have az:((bm r' b').1:A).tmod 128=low:=R0
   obtain⟨m,hm⟩:∃m,m=un*low%18446744073709551616:=⟨_,rfl⟩;obtain⟨v2,ak⟩:∃v2,v2=(v+un*low)%18446744073709551616:=⟨_,rfl⟩;obtain⟨af,F⟩:∃af,af=un*128%18446744073709551616:=⟨_,rfl⟩;have aC:IntKind.u64.wrap _=low:=FP _ Q5;have aE:IntKind.u64.wrap (un*low)=m:=by rw[<-Int.natCast_mul,mK,<-hm]
   have aF:IntKind.u64.wrap (v+m)=v2:=by rw[<-Int.natCast_add,mK,hm,ak,Nat.add_mod_mod]
   have aD:IntKind.u64.wrap (un*128)=af:=by rw[show un*128=((un*128:R):A) by omega,mK,<-F]
   have av:v2<18446744073709551616:=Q5;have al:af<18446744073709551616:=Q5;rw[<-ak,<-F]at HS;generalize bm _ _=L at HN HS hc az;obtain⟨c,r2,b2⟩:=L;simp only at HS hc az;clear hm ak F ae;go_wp2_with fail;refine HN.mono ?_;rintro x w1 ⟨v1,rfl,rfl,ad,S5⟩;have UD:=aJ ad;have Td:=aJ (HG.trans S5);clear ad S5;by_cases d:c<128
   · have aA:(c:A)<128:=by omega
     have HE:U (iS r _=(v2,r2,b2)):=aJ (by rw[HS,mI d]);go_wp2;go_ret
     rw[HE];exact⟨_,rfl,rfl,UD,Td⟩
   have aA:¬((c:A)<128):=by omega
   have HE:U (lq _ _ _ _ _=iS r _):=aJ (by rw[HS,eP d]);have aG:Z.wrap _=k+1:=Q_;go_wp2;go_roundw
   case rel=>exact⟨_,_,_,_,_,Q5,av,al,rfl,rfl,QZ,HE,UD,Td⟩
   case measure=>exact Qh
 · have TN:k=10:=by omega
   subst TN;obtain⟨c2,z2⟩:=ai.bad;have HE:U (iS r _=(0,r',AT)):=aJ (by rw[<-HF];rfl);go_wp2;go_ret
   rw[HE];exact⟨_,rfl,rfl,ai.spoil,(by first|exact HG.j.set 2 _|exact(HG.j.set 2 _).drew)⟩
end Go.Proofs.YtghjmnlapcpbiaaGreatDoor
