import Derived.Test.YtghjmnlapcpbiaaGreatDoorEo
import Derived.Lib.AppendZeros
namespace Go.Proofs.YtghjmnlapcpbiaaGreatDoor
open _root_ renaming Option.some->Y,Option.none->G,Go.Value.int->O,Go.IntKind.i64->Z,Go.Value.slice->J,List->I,Nat->R,Int->A,Go.World.cell?->H,List.length->D,Go.Obj.cells->X,Go.Value->M,Go.World->T,Go.Addr.mk->Q,Go.RowKit.Hid->U,UInt8->AI,Bool.false->AS,Bool.true->AT,Option->By
open Go.Proofs.Tryz
open Go.RowKit
set_option linter.defProp false
variable{xe xs y ys:I M}{B L Le c lo m sz:R}{e:TypeId}{v' x:M}{w1 w2:T}
def Jm:=@List.mem_singleton.{0}
def J7:=@List.prefix_rfl.{0}
def La:=@Option.getD_some.{0}
def Mx:=@List.getElem?_replicate.{0}
def Na:=@heap_alloc_old
set_option maxRecDepth 100000
set_option maxHeartbeats 8000000
set_option linter.unusedVariables false
set_option linter.unusedSimpArgs false
open Go.RowKit
def pK(x:I AI):M:=.string ⟨x.toArray⟩
theorem BE{s:ByteArray}{x:I AI}(h:s.data.toList=x):pK x=.string s:=by
 subst h;obtain⟨d⟩:=s;simp[pK]
theorem Tryz.ownStr:(Tryz.prog.info? 9).map (λi=>(i.zero,i.size,i.bytes))=Y (Y (Value.string ⟨#[]⟩),1,16):=Q7
theorem Tryz.ownRow6:(Tryz.prog.info? 22).map (λi=>(i.zero,i.size,i.bytes))=Y (Y (J G 0 0),1,24):=Q7
theorem fx{cur:Array M}{l:I (I AI)}(hs:cur.size=D l+2):∀k,AS=AT\/D l<=k->k<D l+2->((cur.setIfInBounds (D l) oI).setIfInBounds (D l+1) oI)[k]? =Y oI:=λk d F=>by
 have:k=D l\/k=D l+1:=by simp at d;omega
 rcases this with rfl|rfl
 · rw[Lj Q5,K4 Q5]
 rw[K4 jB]
def i4(ob:R)(l:I (I AI))(w:T)(x:Ending)(w':T):Prop:=∃sb tb c,x=.returned (J (Y (Q sb 0 G)) (D l) (D l+2))/\OT AS w' ob tb sb (D l) c/\w.heap.size<=sb/\sb<tb/\tb<w'.heap.size/\g8 w' (J (Y (Q sb 0 G)) (D l) (D l+2)) l/\Below ob w w'
theorem Ro{p:Prop}(h:p:=by simp[Value.ownBlock]):p:=h
theorem df(ob:R)(l:I (I AI))(vl:M)(w:T)(h:w.heap[ob]? =Y (X #[nS,nS,nS,nS,nS,nS,nS,nS] 43 (0,0)))(hl:g8 w vl l)(hn:D l<=2000000):
 Calls prog 6 #[.pointer (Y (Q ob 0 G)),vl] w (i4 ob l w):=by
 obtain⟨ao,cap,rfl,hm,hc⟩:=hl;have HC:=aJ hc;have F:=bM h;have ak:¬w.heap.size=ob:=Q5;have aH:Z.wrap _=D l+2:=Q_;have aG:Z.wrap _=D l+1:=Q_;have aD:=λV=>pJ (n:=D l+2) (m:=D l+2) underlying22 Tryz.ownStr Q9 Q5 Q6 V
 have S7:(madeCells (Value.string ⟨#[]⟩).cells ((D l+2)*1)).size=D l+2:=by rw[Lv,Nat.mul_one]
 generalize hM:madeCells _ _=S8 at aD S7;have H0:U ((w.alloc (X S8 9)).heap[w.heap.size]? =Y (X S8 9 (0,0))):=aJ R5;have HP:U (0<D l->∃ad,ao=Y ad/\∀j v,(l.map λx=>pK x)[j]? =Y v->H (w.alloc (X S8 9)) (ad.add j)=Y v):=aJ (by
  intro h0;obtain⟨x0,US⟩:∃x,l[0]? =Y x:=⟨_,dW h0⟩;obtain⟨b,off,_,rfl,_⟩:=HC 0 _ US;refine⟨_,rfl,λj v hj=>?_⟩;rw[Ha,AF]at hj;obtain⟨x,hx,rfl⟩:=hj;obtain⟨b',aI,s,e,S6,h1,_⟩:=HC j x hx;simp only[qN,Ij]at e;obtain⟨rfl,rfl,-⟩:=e;have al:(⟨b,off,G⟩:Addr).add j=⟨b,off+j,G⟩:=by unfold Addr.add;split<;>simp_all
  rw[al,BE h1];exact(zp w _ G).cell S6 Q6)
 have HE:=aJ (Ik w S8 9 (l.map λx=>pK x));have aA:=λty=>
  AY _ 22 22 ty 9 1 _ (D l+2) (D l+2) _ _ cap S8 9 _ underlying22 (Cv Tryz.ownStr) H0 Q5 Q6 HP (by rw[S7];simp) (by intro v hv;simp at hv;obtain⟨x,_,rfl⟩:=hv;rfl)
 obtain⟨hW,af⟩:=HE.j;generalize World.setRow _ _ _=W2 at hW af aA;have ax:((l.map λx=>pK x)++S8.toList.drop (D (l.map λx=>pK x))).toArray.size=D l+2:=by simp[S7]
 have ay:∀i y,l[i]? =Y y->((l.map λx=>pK x)++S8.toList.drop (D (l.map λx=>pK x))).toArray[i]? =Y _:=λi y hi=>by
  have Ug:=(dm.1 hi).1;rw[List.getElem?_toArray,ze (by simpa using Ug),Ha,hi];rfl
 generalize ((l.map λx=>pK x)++S8.toList.drop _).toArray=cur at hW ax ay;obtain⟨x1,a0⟩:∃x,H W2 ⟨_,D l,_⟩=Y x:=⟨cur[D l]'Q5,by rw[aN hW];simp⟩;obtain⟨x2,Tx⟩:∃x,H W2 ⟨_,D l+1,_⟩=Y x:=⟨cur[D l+1]'Q5,by rw[aN hW];simp⟩;have Ty:W2.frozen? ⟨_,D l,_⟩=AS:=aT hW;have TO:W2.frozen? ⟨_,D l+1,_⟩=AS:=aT hW;have aL:H W2 ⟨_,6,_⟩=Y (J _ 0 0):=af.cell (by rw[aN h];rfl) Q6;have Tg:=aJ (Hb (o1:=D l) (v1:=oI) (o2:=D l+1) (v2:=oI) af lj);have ae:=aJ (bK (o:=D l+1) (v:=oI) (bK (o:=D l) (v:=oI) hW));have aE:=aJ ax;have aC:=aJ ay;have HB:=aJ ((Tg.block _ F Q6).trans h);go_enter func6,ntmps6
 go_wp2_with(first
  |(at_builtin;refine bS _ rfl _ _ 40 22 1 24 (J G 0 0) Tryz.ownRow6 underlying40 rfl Q9 Q9 rfl 0 (J G 0 0) 0 [] rfl (B5 _ _ _ _) #[wQ (w.heap.size,D l+2)] rfl Qw _ rfl Q6 Q5 Lz ?_;intro v3 w3 d;obtain⟨tb,t1,t2,⟨c3,aB⟩,t4⟩:=iE d.own (j:=0) Q9;subst aB;have ai:=aJ ((d.frm.block ob (bM HB.j) Ro).trans HB.j);have aF:H w3 (Q ob 6 G)=Y (J G 0 0):=by rw[aN ai.j];rfl
    have aM:w3.frozen? ⟨ob,6,G⟩=AS:=aT ai.j))
 go_ret
 have av:=Tg.size;have htb:w.heap.size<tb:=by
  rcases d.lies _ t1 with e|e
  · cases e
  exact tu (bM ae) e
 have Vu:∀b,¬b=ob->(w3.setCell (Q _ 6 G) (J (Y (Q tb 0 G)) 1 c3)).heap[b]? =w3.heap[b]? :=λb hb=>dp _ _ _ _ hb
 have hsb:=(Vu _ ak).trans ((d.frm.block _ (bM ae) Ro).trans ae);have Wr:=d.frm.size;have az:=aE.j;refine⟨_,_,c3,rfl,⟨?_,(so (Vu tb Q5)).trans t4,⟨_,hsb,by simp[az],fx az⟩,hn⟩,lj,htb,by simpa using(d.own.lt tb t1).2,⟨_,_,rfl,QB,λi y hi=>⟨_,0,⟨y.toArray⟩,rfl,?_,Q6,?_⟩⟩,?_⟩
 · rw[bK ai];simp
 · have Ug:=(dm.1 hi).1;rw[Aq,aN hsb,Lj Q5,Lj Q5];exact aC i y hi
 · obtain⟨_,_,s,_,_,h1,h2⟩:=HC i _ hi;rw[<-h1];exact h2
 exact⟨d.frm.os.trans Tg.os,d.frm.tape.trans Tg.tape,d.frm.output.trans Tg.output,by simpa using wz av Wr,λb hb=>(Vu b Q5).trans ((d.frm.block b (tu (Nat.lt_trans hb F) av) Ro).trans (Tg.block b Q5 Q6))⟩
theorem C9{n b:R}(d:c<n+m)(h:(n+m)*b<=140737488355328):Builtin.nextslicecap (n+m) c*b<=281474976710656:=growslice_fits d h
section
variable {ops:Array Oper} {rest:I Oper} {o:Oper} {a:Act} {QQq:Exit->Act->T->Prop}
theorem oY(w:T)(TA:o.guard=G)(s x:Operand)(t e:TypeId)(n bytes:R)(zero:M)(inf:(prog.info? e).map (λi=>(i.zero,i.size,i.bytes))=Y (Y zero,n,bytes))(ht:prog.underlying t=Y (.slice e))(VR:zero.cells.size=n)(hn:0<n)(Vk:bytes<=1000)
 (ho:o.op=.call { callee:=.builtin .append,args:=#[s,x],argTypes:=#[t,t] })
 (base:R) (v:M) (len:R) (xs:I M) (hs:a.eval s=v) (Tf:w.ownsRow base e n v len xs) (ys:Array M) (ak:ys.size=n) (h1:∀u∈ys.toList,u.oneCell'=AT)
 (HHq:R) (hx:a.eval x=J (Y (Q HHq 0 G)) 1 1) (hH:w.heap.size=HHq) (hlen:len<=10000000) (ae:base<=w.heap.size)
 (h:∀v' w',Ap base e n w v w' v' (len+1) (xs++ys.toList)->(v'.ownBlock=v.ownBlock\/w.grownBy w' G)->wpList prog ops QQq rest (a.put o.dst v') w'):
 wpList prog ops QQq (o::rest) a (w.alloc (X ys e)):=by
 subst hH;obtain⟨i0,hi,TU,Ty,TO⟩:=Lt inf;have hb:(len+1)*bytes<=140737488355328:=wz (MP (Nat.add_le_add_right hlen 1) Vk) Q9;have ad:len+1<=maxLen:=QB
 have hl:D ys.toList=1*n:=by rw[Aj,ak,Nf]
 have d:=Tf.alloc (X ys e);obtain⟨v',w',hr,k1,k2,_,k4⟩:=MK _ _ t o.type e _ _ n _ ht hi TU Ty TO VR hn v _ _ d _ 1 1 _ hl (lx _ _ _) h1 ad hb jB;have hk:v'.ownBlock=v.ownBlock\/(w.alloc (X ys e)).grownBy w' G:=by
  rcases d.2 with⟨rfl,rfl⟩|⟨g,cap,cur,rfl,al,hg,av,ax,ai,af⟩
  · exact .inr k2
  by_cases F:len+1<=cap
  · have T2:=run_append_room _ t o.type e _ ht hi g _ _ _ hg _ 1 1 _ (by rw[Ty];exact hl) (lx _ _ _) h1 F (by rw[hl,ai,Ty,<-LV];exact Jl _ F);rw[hr]at T2;simp only[Result.ok.injEq]at T2;left;rw[T2.1];rfl
  have holds:=d.cells (g:=g) rfl;have T2:=run_append_grow _ t o.type e _ _ ht hi TU _ _ cap _ (by rw[Ty];exact d.1) holds _ 1 1 _ (by rw[Ty];exact hl) (lx _ _ _) Q5 (by unfold maxLen at ad;omega) (by rw[TO];exact C9 Q5 hb);rw[hr]at T2;simp only[Result.ok.injEq]at T2;right
  rw[T2.2];exact⟨rfl,rfl,rfl,Q6,λk hk _=>Na _ _ hk⟩
 refine CH _ TA s x t t ho _ _ hs hx _ _ hr ?_;refine h _ _ ⟨k1,(zp w _ _).trans k2,λk hk=>?_⟩ (hk.imp id λg=>(zp w _ _).trans g);exact PU
end
def GU(sz:R)(w:T)(v:M)(L:R)(xs:I M):Prop:=∃ao c,v=J ao L c/\L<=maxLen/\D xs=L*sz/\∀j u,xs[j]? =Y u->∃b,ao=Y (Q b 0 G)/\H w (Q b j G)=Y u
theorem SM{p:Prop}(h:p:=by rw[<-h.1];exact(dm.1 hj).1):p:=h
theorem GU.of_own{w:T}{v:M}(h:w.ownsRow B e sz v L xs):GU sz w v L xs:=by
 obtain⟨⟨ao,c,rfl⟩,hm⟩:=bD h;refine⟨_,c,rfl,hm,h.1,λj u hj=>?_⟩;have d:j<L*sz:=SM
 obtain⟨g,_,_,⟨c',h3⟩,F⟩:=iE h d;simp only[jj,Bt]at h3;exact⟨g,h3.1,by rw[Aq]at F;rw[F];exact hj⟩
theorem GU.keep{w w':T}{v:M}(h:GU sz w v L xs)(g:∀b,v.ownBlock=Y b->w'.heap[b]? =w.heap[b]?):GU sz w' v L xs:=by
 obtain⟨ao,c,rfl,hm,F,d⟩:=h;refine⟨_,c,rfl,hm,F,λj u hj=>?_⟩;obtain⟨b,rfl,h2⟩:=d j u hj;exact⟨b,rfl,(so (g b rfl)).trans h2⟩
theorem GU.app{B':R}{w w':T}{v:M}(h:GU sz w x Le xe)(hp:xe <+:xs)(Tf:w.ownsRow B e sz v L xs)(d:w'.ownsRow B' e sz v' (L+1) (xs++ys))(hf:w.grownBy w' v.ownBlock)(hk:v'.ownBlock=v.ownBlock\/w.grownBy w' G):GU sz w' x Le xe:=by
 obtain⟨ao,c,rfl,hm,hl,hc⟩:=h;refine⟨_,c,rfl,hm,hl,λj u hj=>?_⟩;obtain⟨b,rfl,h2⟩:=hc j u hj;refine⟨b,rfl,?_⟩;have TQ:b<w.heap.size:=wI w _ h2;by_cases hb:v.ownBlock=Y b
 · rcases hk with hk|hk
   · obtain⟨zs,rfl⟩:=hp;have hx:(xe++zs++ys)[j]? =Y u:=by
      have F:=(dm.1 hj).1;rw[zx,ze F];exact hj
     have F:j<(L+1)*sz:=by rw[<-d.1];exact(dm.1 hx).1
     obtain⟨g,h1,_,_,h4⟩:=iE d F;rw[hk,hb]at h1;obtain rfl:=tz h1;rw[Aq]at h4;rw[h4];exact hx
   · exact(so (hk.block b TQ Q6)).trans h2
 exact(so (hf.block b TQ λe=>hb e.symm)).trans h2
inductive BR where
 | no|row (i:R)|dn|ls (k i:R) deriving DecidableEq
def bT:R->TypeId
 | 2=>26
 | 3=>3
 | 4=>72
 | 5=>3
 | 6=>54
 | 7=>25
 | 8=>56
 | 9=>55
 | _=>3
def jC(ρ:R->BR)(r:BR)(w:T)(B:R)(e:TypeId)(n:R)(v:M)(len:R)(xs:I M):Prop:=w.ownsRow B e n v len xs/\∀k,v.ownBlock=Y k->ρ k=r
structure jt(db:R)(AAq:BR->Prop)(w w':T)(ρ ρ':R->BR):Prop where
 size:w.heap.size<=w'.heap.size
 old:∀k,k<w.heap.size->ρ' k=ρ k
 blk:∀k,k<w.heap.size->k≠db->¬AAq (ρ k)->w'.heap[k]? =w.heap[k]?
 new:∀k,w.heap.size<=k->ρ' k≠.no->k<w'.heap.size
 env:w'.os=w.os/\w'.tape=w.tape/\w'.output=w.output
theorem jt.trans{db:R}{AAq:BR->Prop}{w:T}{ρ F d:R->BR}(h:jt db AAq w w1 ρ F)(k:jt db AAq w1 w2 F d):jt db AAq w w2 ρ d:=by
 refine⟨wz h.size k.size,λi hi=>?_,λi hi hd hA=>?_,λi hi hn=>?_,k.env.1.trans h.env.1,k.env.2.1.trans h.env.2.1,k.env.2.2.trans h.env.2.2⟩
 · rw[k.old i (tu hi h.size),h.old i hi]
 · rw[k.blk i (tu hi h.size) hd (by rw[h.old i hi];exact hA),h.blk i hi hd hA]
 by_cases h1:i<w1.heap.size
 · exact tu h1 k.size
 exact k.new i Q5 hn
theorem jt.mono{db:R}{AAq F:BR->Prop}{w:T}{ρ d:R->BR}(h:jt db AAq w w1 ρ d)(hA:∀r,AAq r->F r):jt db F w w1 ρ d:=
 ⟨h.size,h.old,λi hi hd hn=>h.blk i hi hd λe=>hn (hA _ e),h.new,h.env⟩
theorem jC.mv{db:R}{AAq:BR->Prop}{ρ ρ':R->BR}{r:BR}{w w':T}{n len:R}{v:M}(h:jC ρ r w (db+1) e n v len xs)(m:jt db AAq w w' ρ ρ')(F:¬AAq r):jC ρ' r w' (db+1) e n v len xs:=by
 refine⟨bY h.1 λk d=>?_,λk d=>?_⟩
 · obtain⟨h1,h2⟩:=h.1.lt k d;exact m.blk k h2 Q5 (by rw[h.2 k d];exact F)
 rw[m.old k (h.1.lt k d).2];exact h.2 k d
structure ew(db:R)(w:T)(vo:M)(n:A)(V:R->M)(Xq:R->I M)(ρ:R->BR):Prop where
 box:w.heap[db]? =Y (X #[vo,O Z n,V 2,V 3,V 4,V 5,V 6,V 7,V 8,V 9,V 10] 35 (0,0))
 row:∀i,2<=i->i<=10->jC ρ (.row i) w (db+1) (bT i) 1 (V i) (D (Xq i)) (Xq i)
 pl:∀b,ρ b≠.no->db<b/\b<w.heap.size
theorem ew.lt{db:R}{w:T}{vo:M}{n:A}{V:R->M}{Xq:R->I M}{ρ:R->BR}(h:ew db w vo n V Xq ρ):db<w.heap.size:=(eJ.1 h.box).1
theorem R6{p:Prop}(h:p:=by have:=h.lt;omega):p:=h
theorem ew.mv{db:R}{AAq:BR->Prop}{w w':T}{vo:M}{n:A}{V:R->M}{Xq:R->I M}{ρ ρ':R->BR}(h:ew db w vo n V Xq ρ)(m:jt db AAq w w' ρ ρ')(hA:∀i,¬AAq (.row i))(d:w'.heap[db]? =w.heap[db]?):ew db w' vo n V Xq ρ':=by
 refine⟨d.trans h.box,λi h1 h2=>(h.row i h1 h2).mv m (hA i),λb d=>?_⟩;by_cases F:b<w.heap.size
 · rw[m.old b F]at d;exact⟨(h.pl b d).1,tu F m.size⟩
 exact⟨R6,m.new b Q5 d⟩
def nH(s:R)(v:M)(r:BR)(ρ:R->BR)(k:R):BR:=if k<s then ρ k else if v.ownBlock=Y k then r else .no
theorem oR{db:R}{r:BR}{w:T}{v:M}{ρ:R->BR}(d:Ap (db+1) e sz w v w1 v' L xs)(hr:∀k,v.ownBlock=Y k->ρ k=r):jt db (· =r) w w1 ρ (nH w.heap.size v' r ρ):=by
 refine⟨d.frm.size,λk F=>mI F,λk F hd hA=>d.frm.block k F λe=>hA (hr k e.symm),λk F hn=>?_,d.frm.os,d.frm.tape,d.frm.output⟩;unfold nH at hn;rw[eP Q5]at hn;by_cases e:v'.ownBlock=Y k
 · exact(d.own.lt k e).2
 rw[eP e]at hn;exact absurd rfl hn
theorem O'{p:Prop}(h:p:=by
 refine⟨S4.own,λk hk=>?_⟩;unfold nH;rcases S4.lies k hk with e|e
 · rw[mI (h.1.lt k e).2];exact h.2 k e
 rw[eP Q5,mI hk]):p:=h
theorem jC.app{db:R}{r:BR}{w:T}{v:M}{ρ:R->BR}(h:jC ρ r w (db+1) e sz v L xs)(S4:Ap (db+1) e sz w v w1 v' (L+1) ys):jC (nH w.heap.size v' r ρ) r w1 (db+1) e sz v' (L+1) ys:=by
 exact O'
def zR{α:Type}(V:R->α)(i:R)(v:α)(j:R):α:=if j=i then v else V j
theorem Ou{p:Prop}(h:p:=by
 by_cases hl:b<w.heap.size
 · rw[m.old b hl]at hb;exact⟨(h.pl b hb).1,tu hl m.size⟩
 exact⟨Q5,m.new b Q5 hb⟩):p:=h
theorem ew.app{db:R}{w:T}{vo:M}{n:A}{V:R->M}{Xq:R->I M}{ρ:R->BR}(h:ew db w vo n V Xq ρ){i:R}(h2:2<=i)(F:i<=10){v' y:M}(S4:Ap (db+1) (bT i) 1 w (V i) w1 v' (D (Xq i)+1) (Xq i++[y])):
 ew db (w1.setCell (Q db i G) v') vo n (zR V i v') (zR Xq i (Xq i++[y])) (nH w.heap.size v' (.row i) ρ)/\jt db (· =.row i) w (w1.setCell (Q db i G) v') ρ (nH w.heap.size v' (.row i) ρ):=by
 have ae:=h.lt;have m1:=oR S4 (h.row i h2 F).2;have No:∀k,¬k=db->(w1.setCell (Q _ i G) v').heap[k]? =w1.heap[k]? :=λk d=>dp _ _ _ _ d
 have m:jt _ (· =.row i) w _ _ _:=
  ⟨by simpa using m1.size,m1.old,λk d hd hA=>(No k hd).trans (m1.blk k d hd hA),λk d hn=>by simpa using m1.new k d hn,m1.env⟩
 refine⟨⟨?_,λj j2 ad=>?_,λb hb=>?_⟩,m⟩
 · have S9:=S4.frm.block _ ae (λe=>by have:=((h.row i h2 F).1.lt _ e.symm).1;omega);rw[bK (S9.trans h.box)];have hc:i=2\/i=3\/i=4\/i=5\/i=6\/i=7\/i=8\/i=9\/i=10:=by omega
   rcases hc with rfl|rfl|rfl|rfl|rfl|rfl|rfl|rfl|rfl<;>simp[zR]
 · by_cases e:j=i
   · subst e;have:=(h.row j j2 ad).app S4
     refine⟨?_,?_⟩
     · have k:=bY this.1 λq hq=>No q (by have:=(this.1.lt q hq).1;omega)
       simpa[zR]using k
     simpa[zR]using this.2
   have:=(h.row j j2 ad).mv m λx=>e (by injection x)
   simpa[zR,e]using this
 exact Ou
theorem ew.count{db:R}{w:T}{vo:M}{n m:A}{V:R->M}{Xq:R->I M}{ρ:R->BR}(h:ew db w vo n V Xq ρ):ew db (w.setCell (Q db 1 G) (O Z m)) vo m V Xq ρ/\jt db (λ_=>False) w (w.setCell (Q db 1 G) (O Z m)) ρ ρ:=by
 have No:∀k,¬k=db->(w.setCell (Q _ 1 G) (O Z m)).heap[k]? =w.heap[k]? :=λk d=>dp _ _ _ _ d
 have hm:jt _ (λ_=>False) w _ _ _:=⟨Q6,λ_ _=>rfl,λk _ hd _=>No k hd,λk d hn=>by have:=(h.pl k hn).2;omega,rfl,rfl,rfl⟩;refine⟨⟨?_,λi h1 h2=>(h.row i h1 h2).mv hm id,λb F=>by simpa using h.pl b F⟩,hm⟩;rw[bK h.box];simp
theorem G4{w:T}{n len:R}{v:M}(h:w.ownsRow B e n v len xs){g:R}(d:v.ownBlock=Y g)(j:R)(hj:j<len*n)(y:M):(w.setCell (Q g j G) y).ownsRow B e n v len (xs.set j y):=by
 refine⟨by rw[List.length_set];exact h.1,?_⟩;rcases h.2 with⟨rfl,_⟩|⟨g',cap,cur,rfl,h2,F,h4,h5,h6,h7⟩
 · simp[Value.ownBlock]at d
 obtain rfl:=tz d;refine .inr ⟨_,_,_,rfl,h2,bK F,h4,h5,by simpa using h6,?_⟩;rw[<-h7,Array.toList_setIfInBounds,List.take_set]
theorem jC.set{db:R}{ρ:R->BR}{r:BR}{w:T}{n len:R}{v:M}(h:jC ρ r w (db+1) e n v len xs){g:R}(d:v.ownBlock=Y g)(j:R)(hj:j<len*n)(y:M)(hp:∀b,ρ b≠.no->b<w.heap.size):jC ρ r (w.setCell (Q g j G) y) (db+1) e n v len (xs.set j y)/\jt db (· =r) w (w.setCell (Q g j G) y) ρ ρ:=
 ⟨⟨G4 h.1 d j hj y,h.2⟩,Q6,λ_ _=>rfl,λk _ _ hA=>dp _ _ _ _ (λe=>hA (by show ρ k=r;rw[e];exact h.2 g d)),λk hk F=>by have:=hp k F;omega,rfl,rfl,rfl⟩
def jy(ρ:R->BR)(r:BR)(sz:R)(w:T)(v:M)(L:R)(xs:I M):Prop:=GU sz w v L xs/\∀b,v.ownBlock=Y b->ρ b=r/\b<w.heap.size
theorem jy.of{ρ:R->BR}{r:BR}{w:T}{v:M}(h:jC ρ r w B e sz v L xs):jy ρ r sz w v L xs:=⟨.of_own h.1,λb d=>⟨h.2 b d,(h.1.lt b d).2⟩⟩
theorem jy.mv{db:R}{AAq:BR->Prop}{ρ ρ':R->BR}{r:BR}{w w':T}{v:M}(h:jy ρ r sz w v L xs)(m:jt db AAq w w' ρ ρ')(F:¬AAq r)(hd:ρ db≠r):jy ρ' r sz w' v L xs:=
 ⟨h.1.keep λb d=>m.blk b (h.2 b d).2 (λe=>hd (by rw[<-e];exact(h.2 b d).1)) (by rw[(h.2 b d).1];exact F),λb d=>⟨by rw[m.old b (h.2 b d).2];exact(h.2 b d).1,tu (h.2 b d).2 m.size⟩⟩
theorem jy.app{db:R}{ρ:R->BR}{r:BR}{w w':T}{v:M}(h:jy ρ r sz w x Le xe)(hp:xe <+:xs)(Tf:w.ownsRow (db+1) e sz v L xs)(F:Ap (db+1) e sz w v w' v' (L+1) (xs++ys))(hk:v'.ownBlock=v.ownBlock\/w.grownBy w' G):jy (nH w.heap.size v' r ρ) r sz w' x Le xe:=
 ⟨h.1.app hp Tf F.own F.frm hk,λb d=>⟨by unfold nH;rw[mI (h.2 b d).2];exact(h.2 b d).1,tu (h.2 b d).2 F.frm.size⟩⟩
structure kM(w:T)(ρ:R->BR)(Xq:R->I M):Prop where
 i:∃IIq:I (M×R×A),Xq 2=IIq.map (·.1)/\Xq 3=IIq.map (λe=>O Z e.2.2)/\∀e∈IIq,gD (λb=>ρ b=.dn) w e.1 (List.replicate e.2.1 e.2.2)
 z:∀i,4<=i->Xq i=[]
theorem kM.stay{w w':T}{ρ ρ':R->BR}{Xq:R->I M}(h:kM w ρ Xq)(g:gZ (λb=>ρ b=.dn) (λb=>ρ' b=.dn) w w'):kM w' ρ' Xq:=by
 obtain⟨d,i1,i2,i3⟩:=h.i;exact⟨⟨d,i1,i2,λe he=>(i3 e he).stay g⟩,h.z⟩
theorem jt.stay{db:R}{AAq:BR->Prop}{w w':T}{ρ ρ':R->BR}(m:jt db AAq w w' ρ ρ')(hA:¬AAq .dn)(hd:ρ db≠.dn):gZ (λb=>ρ b=.dn) (λb=>ρ' b=.dn) w w':=
 λb d F=>⟨m.blk b F (λe=>hd (by rw[<-e];exact d)) (by rw[d];exact hA),by show ρ' b=.dn;rw[m.old b F];exact d⟩
def fin(r:BR)(ρ:R->BR)(k:R):BR:=if ρ k=r then .dn else ρ k
theorem ew.fin_{db:R}{w:T}{vo:M}{n:A}{V:R->M}{Xq:R->I M}{ρ:R->BR}(h:ew db w vo n V Xq ρ){r:BR}(hr:∀i,r≠.row i)(hn:r≠.no):ew db w vo n V Xq (fin r ρ):=by
 refine⟨h.box,λi F d=>⟨(h.row i F d).1,λk hk=>?_⟩,λb hb=>?_⟩
 · have:=(h.row i F d).2 k hk
   unfold fin;rw[this,eP λe=>hr i e.symm]
 refine h.pl b λe=>hb ?_
 unfold fin;rw[e,eP λx=>hn x.symm]
structure Dh(db:R)(S:BR->Prop)(w w':T)(ρ ρ':R->BR):Prop where
 size:w.heap.size<=w'.heap.size
 old:∀k,k<w.heap.size->(S (ρ k)->ρ' k=.dn)/\(¬S (ρ k)->ρ' k=ρ k)
 blk:∀k,k<w.heap.size->k≠db->¬S (ρ k)->(∀i,ρ k≠.row i)->w'.heap[k]? =w.heap[k]?
 env:w'.os=w.os/\w'.tape=w.tape/\w'.output=w.output
theorem Dh.trans{db:R}{S F:BR->Prop}{w:T}{ρ ρ1 ρ2:R->BR}(h:Dh db S w w1 ρ ρ1)(k:Dh db F w1 w2 ρ1 ρ2)(hS:¬F .dn):Dh db (λr=>S r\/F r) w w2 ρ ρ2:=by
 refine⟨wz h.size k.size,λi hi=>⟨λhs=>?_,λhs=>?_⟩,λi hi hd hs hr=>?_,k.env.1.trans h.env.1,k.env.2.1.trans h.env.2.1,k.env.2.2.trans h.env.2.2⟩
 · have d:=tu hi h.size;by_cases h1:S (ρ i)
   · have e:=(h.old i hi).1 h1;rw[(k.old i d).2 (by rw[e];exact hS),e]
   have e:=(h.old i hi).2 h1;exact(k.old i d).1 (by rw[e];exact hs.resolve_left h1)
 · have d:=tu hi h.size;have e:=(h.old i hi).2 λx=>hs (.inl x);rw[(k.old i d).2 (by rw[e];exact λx=>hs (.inr x)),e]
 have d:=tu hi h.size;have e:=(h.old i hi).2 λx=>hs (.inl x);rw[k.blk i d hd (by rw[e];exact λx=>hs (.inr x)) (by rw[e];exact hr),h.blk i hi hd (λx=>hs (.inl x)) hr]
theorem Dh.of{db:R}{r:BR}{AAq:BR->Prop}{w w':T}{ρ ρ':R->BR}(m:jt db AAq w w' ρ ρ')(hA:∀x,AAq x->x=r\/∃i,x=.row i):Dh db (· =r) w w' ρ (fin r ρ'):=
 ⟨m.size,λk d=>⟨λe=>by unfold fin;rw[m.old k d];exact mI e,λe=>by unfold fin;rw[m.old k d];exact eP e⟩,λk d hd hs F=>m.blk k d hd λe=>(hA _ e).elim hs λ⟨i,hi⟩=>F i hi,m.env⟩
def rp(L:R)(y:I M):I M:=(List.replicate L ()).flatMap λ_=>y
theorem Ii(L:R)(y:I M):D (rp L y)=L*D y:=by
 unfold rp;rw[kV λ_=>rfl,List.length_replicate]
theorem pU(L:R)(y:I M):rp L y++y=rp (L+1) y:=by
 unfold rp;rw[List.replicate_succ',Ka];simp
theorem Au{K:R}(h:K<=L)(y:I M):rp K y <+:rp L y:=by
 obtain⟨d,rfl⟩:∃d,L=K+d:=⟨L-K,Q5⟩
 induction d with
 | zero=>exact J7
 | succ d F=>exact(F Q5).trans ⟨y,pU _ y⟩
theorem Bs{i n:R}(hy:D y=n)(h:i<L)(d:c<n):(rp L y)[i*n+c]? =y[c]? :=
 nz (f:=λ_:Unit=>y) (x:=()) (λ_=>hy) (by rw[Mx,mI h]) d
theorem Js{n:R}(hl:D xs=L*n)(hy:D y=n)(hn:0<n)(h:∀i c,i<L->c<n->xs[i*n+c]? =y[c]?):xs=rp L y:=by
 apply Mq
 intro j;by_cases hj:j<L*n
 · have F:=(MH hn).2 hj;have d:j%n<n:=Nat.mod_lt _ hn;have e:j=j/n*n+j%n:=by rw[MA];exact(Nat.div_add_mod j n).symm
   rw[e,h _ _ F d,Bs hy F d]
 rw[AK Q5,AK (by rw[Ii,hy];omega)]
theorem CP{w:T}{n len:R}{v:M}(h:w.ownsRow B e n v len xs)(F:0<len*n):∃g cap,v=J (Y (Q g 0 G)) len cap/\∀j,j<len*n->(∃x,H w (Q g j G)=Y x)/\w.frozen? ⟨g,j,G⟩=AS:=by
 have hl:=h.1;rcases h.2 with⟨_,rfl⟩|⟨g,cap,cur,h1,h2,d,h4,h5,h6,h7⟩
 · omega
 refine⟨g,_,h1,λj F=>⟨?_,aT d⟩⟩;rw[aN d];have:j<cur.size:=by rw[h6];exact tu F (Jl _ h4)
 exact⟨_,Ly this⟩
theorem jy.ints{ρ:R->BR}{r:BR}{w:T}{v:M}{m:A}(h:jy ρ r 1 w v L (rp L [O Z m])):gD (λb=>ρ b=r) w v (List.replicate L m):=by
 obtain⟨⟨ao,c,rfl,hm,hl,F⟩,hb⟩:=h;refine⟨ao,c,Q6,by simpa using hm,λi y hi=>?_⟩;have d:=by have:=(dm.1 hi).1;simpa using this
 rw[Mx,mI d]at hi;obtain rfl:=tz hi;have:=Bs (c:=0) (n:=1) (y:=[O Z m]) rfl d Q9
 rw[Nat.mul_one,Mo]at this;obtain⟨b,rfl,h2⟩:=F i _ this;exact⟨b,0,rfl,(hb b rfl).1,by rw[Aq];exact h2⟩
theorem Dm{ρ:R->BR}{r:BR}{w:T}:gZ (λb=>ρ b=r) (λb=>fin r ρ b=.dn) w w:=λb d _=>⟨rfl,by show fin r ρ b=.dn;unfold fin;exact mI d⟩
theorem D7{ρ:R->BR}{r:BR}{w:T}:gZ (λb=>ρ b=.dn) (λb=>fin r ρ b=.dn) w w:=λb d _=>⟨rfl,by
 show fin r ρ b=.dn
 unfold fin;by_cases h:ρ b=r
 · exact mI h
 rw[eP h];exact d⟩
def Iz(db:R)(r:BR)(vo:M)(n:R)(Xq:R->I M)(ρ:R->BR)(w:T)(x:Ending)(w':T):Prop:=
 x=.returned (.tuple #[])/\∃V' X' ρ',ew db w' vo ((n+1:R):A) V' X' ρ'/\kM w' ρ' X'/\Dh db (· =r) w w' ρ ρ'/\∀i,D (X' i)<=D (Xq i)+4
theorem ew.db_no{db:R}{w:T}{vo:M}{n:A}{V:R->M}{Xq:R->I M}{ρ:R->BR}(h:ew db w vo n V Xq ρ):ρ db=.no:=by
 by_cases e:ρ db=.no
 · exact e
 have:=(h.pl _ e).1;omega
attribute [local go_sem ↓] Go.wp_at_zero Go.wp_at_succ
theorem zA(db:R)(vo:M)(n:R)(V:R->M)(Xq:R->I M)(ρ:R->BR)(w:T)(kk ki:R)(v:M)(L:R)(ep:I M)(hS:ew db w vo (n:A) V Xq ρ)(hE:kM w ρ Xq)(hO:jC ρ (.ls kk ki) w (db+1) 3 1 v L ep)(hn:n<=1000000)(hL:L<=100000)(hX:∀i,D (Xq i)<=1000000):
 Calls prog 11 #[.pointer (Y (Q db 1 G)),v] w (Iz db (.ls kk ki) vo n Xq ρ w):=by
 obtain⟨⟨ao,cp,rfl⟩,_⟩:=bD hO.1;have ev:H w (Q db 1 G)=Y (O Z n):=by rw[aN hS.box];rfl
 have Ty:w.frozen? ⟨_,1,_⟩=AS:=aT hS.box;have ef:Z.wrap _=n+1:=Q_;have e1:Z.wrap _=-77000000-(n+1):=Q_;obtain⟨cn,bB⟩:=hS.count (m:=n+1);have No:=hS.db_no;have UK:=aJ cn;have di:=aJ bB;have UA:=aJ (hE.stay (bB.stay id (by rw[No];nofun)));have cv:=aJ (hO.mv bB id);have HX:=aJ hX;clear hS hE hO cn bB hX;go_enter func11,ntmps11
 go_wp2_with fail;generalize w.setCell _ _=W1 at UK di UA cv |-;generalize e4:-77000000-((n:A)+1)=m;clear ev Ty ef e1 e4;go_loopw[5] (λi wr=>∃(k:R) (xs:I M),k<=L/\i=O Z (k:A)/\U (jC ρ (.ls kk ki) wr (db+1) 3 1 (J ao L cp) L xs)/\U (∀i c,i<k->c<1->xs[i*1+c]? =([O Z m]:I M)[c]?)/\U (jt db (· =.ls kk ki) W1 wr ρ ρ)/\U (ew db wr vo ((n:A)+1) V Xq ρ)) λi _=>L-(intOf i).toNat
 case atStart=>exact⟨0,_,Lz,rfl,cv,aJ (λi c hi _=>by omega),aJ ⟨lj,λ_ _=>rfl,λ_ _ _ _=>rfl,λk hk hn=>by have:=(UK.pl k hn).2;omega,rfl,rfl,rfl⟩,UK⟩
 obtain⟨k,xs,hk,rfl,HOr,cu,b1,bt⟩:=hrel;by_cases IN:k<L
 · obtain⟨g,e',hg,ec⟩:=CP HOr.1 Q5;simp only[jj,Bt]at hg;obtain⟨rfl,rfl⟩:=hg;have bC:=HOr.1.1;obtain⟨⟨x0,US⟩,TU⟩:=ec k Q5;have Wa:(0:A)<=k:=by omega
   have VD:(k:A)<L:=Q5;have eV:=aJ bC;clear bC ec;go_wp2_with fail;go_roundw
   case rel=>
    have bC:=eV.j;have q0:=HOr.set (g:=g) rfl (k) Q5 (O Z m) λb hb=>(bt.pl b hb).2;refine⟨k+1,_,Q5,QZ,aJ q0.1,aJ ?_,aJ (b1.trans q0.2),aJ (bt.mv q0.2 (λi e=>by cases e) (by
     have TA:¬db=g:=λe=>by have:=(HOr.1.lt g rfl).1;omega
     exact dp _ _ _ _ TA))⟩
    intro i c hi hc;have ej:c=0:=Q5;subst ej;rw[MJ];by_cases e:k=i*1+0
    · rw[mI e,mI (by rw[bC];omega)];rfl
    rw[eP e];exact cu i 0 Q5 Q9
   case measure=>exact Qh
 have ek:k=L:=by omega
 subst ek;have ed:=Js HOr.1.1 rfl Q9 cu;subst ed;have hA:∀x,(x=BR.ls _ ki\/x=.row 2\/x=.row 3)->x=BR.ls kk _\/∃i,x=.row i:=λx h=>h.elim .inl λh=>.inr (h.elim (λh=>⟨_,h⟩) λh=>⟨_,h⟩)
 go_wp2_with fail;go_loopw[1,6] (λlv kv w2=>∃(j:R) (es:I (M×R)) (V':R->M) (X':R->I M) (ρ':R->BR),j<=4/\kv=O Z (j:A)/\D es=j/\U (jC ρ' (.ls kk ki) w2 (db+1) 3 1 lv (k+j) (rp (k+j) [O Z m]))/\U (ew db w2 vo ((n:A)+1) V' X' ρ')/\U (jt db (λx=>x=.ls kk ki\/x=.row 2\/x=.row 3) wr w2 ρ ρ')/\U (X' 2=Xq 2++es.map (·.1)/\X' 3=Xq 3++es.map (λ_=>O Z m)/\∀q,q≠2->q≠3->X' q=Xq q)/\U (∀e∈es,jy ρ' (.ls kk ki) 1 w2 e.1 e.2 (rp e.2 [O Z m])/\e.2<=k+j)) λ_ kv _=>4-(intOf kv).toNat
 case atStart=>exact⟨0,[],V,Xq,_,SF,rfl,rfl,HOr,bt,aJ ⟨lj,λ_ _=>rfl,λ_ _ _ _=>rfl,λk hk hn=>by have:=(bt.pl k hn).2;omega,rfl,rfl,rfl⟩,aJ ⟨Q6,Q6,λ_ _ _=>rfl⟩,aJ λe he=>by simp at he⟩
 obtain⟨j,es,V',X',ρ',hj,rfl,cz,c6,a4,b3,d,b2⟩:=hrel;obtain⟨⟨a',c',rfl⟩,_⟩:=bD c6.1;have bL:=aJ cz;clear cz;by_cases fa:j<4
 · have dd:U (∀q,D (X' q)<=2000000):=aJ (λq=>by
    have h1:=HX q;have h2:=bL.j;by_cases e:q=2
    · subst e;rw[d.1];simp;omega
    by_cases e2:q=3
    · subst e2;rw[d.2.1];simp;omega
    rw[d.2.2 q e e2];omega)
   have ad:=(a4.row 2 Q9 Q9).1;have bj:=a4.lt;have aM:=a4.box;obtain⟨⟨cM,cx,al⟩,_⟩:=bD ad;have bg:=(aN (j:=2) aM).trans (congrArg Y al);have aI:¬Value.ownBlock (J _ _ _)=Y db:=λe=>by rw[<-al]at e;have:=(ad.lt _ e).1;omega
   have TT:=aJ aM;have az:World.ownsRow wr (db+1) 26 1 (J cM (D (X' 2)) cx) (D (X' 2)) (X' 2):=by have h:=ad;rw[al]at h;exact h
   have ax:D (X' 2)<=10000000:=by have:=dd 2;omega
   clear aM;go_upto_region 10 with(at_builtin;refine bS _ rfl _ _ 25 26 1 24 (J G 0 0) Tryz.ownRow0 underlying25 rfl Q9 Q9 rfl (db+1) (J cM (D (X' 2)) cx) (D (X' 2)) (X' 2) rfl az #[J a' (k+j) c'] rfl Qw _ rfl Q6 ax Q5 ?_;intro e6 dO ai;have b4:=aJ ai;obtain⟨⟨e8,c82,b5⟩,_⟩:=bD ai.own;subst b5;have bp:=ai.frm.cell bg λe=>aI e.symm;have b9:dO.frozen? ⟨db,2,G⟩=AS:=(zc (ai.frm.block db bj λe=>aI e.symm)).trans (aT TT.j);clear ai)
   have ca:=a4.app (i:=2) Q9 Q9 (al▸b4);obtain⟨F,aC⟩:=ca;have aF:zR X' 2 _ 2=X' 2++[J a' (k+j) c']:=mI rfl;have aB:∀q,q≠2->zR _ 2 (X' 2++[J a' (k+j) c']) q=X' q:=λq hq=>eP hq
   generalize dO.setCell _ _=W2 at F aC |-;generalize zR X' 2 _=X2 at F aF aB;have b8:=a4.db_no;generalize nH _ _ _ _=ρ2 at F aC;generalize zR _ 2 _=V2 at F;have cL:U (∀q,D (X2 q)<=2000020):=aJ (λq=>by
    have:=dd q
    by_cases e:q=2
    · subst e;rw[aF];have:=ax;simp;omega
    rw[aB q e];omega)
   have a5:=aJ F;have b6:=aJ aF;have a7:=aJ aB;clear aF aB;have a3:=aJ aC;clear F aC ad az bg aI ax al bp b9 bj;have TE:=aJ (c6.mv a3 nofun);have UO:U (∀e∈es,jy _ _ 1 _ _ _ _/\e.2<=k+j):=aJ (λe he=>⟨(b2 e he).1.mv a3 nofun (by rw[b8];nofun),(b2 e he).2⟩);have ae:=(a5.row 3 Q9 Q9).1;have bk:=a5.lt;have a0:=a5.box;obtain⟨⟨cB,dw,ak⟩,_⟩:=bD ae;have a6:=(aN (j:=3) a0).trans (congrArg Y ak);have aL:¬Value.ownBlock (J _ _ _)=Y db:=λe=>by rw[<-ak]at e;have:=(ae.lt _ e).1;omega
   have e3:=aJ a0;have aA:World.ownsRow W2 (db+1) 3 1 (J cB (D (X2 3)) dw) (D (X2 3)) (X2 3):=by have h:=ae;rw[ak]at h;exact h
   have ay:D (X2 3)<=10000000:=by have:=cL 3;omega
   clear a0;go_upto_region 11 with(at_builtin;refine bS _ rfl _ _ 26 3 1 8 (O Z 0) Tryz.ownInt underlying26 rfl Q9 Q9 rfl (db+1) (J cB (D (X2 3)) dw) (D (X2 3)) (X2 3) rfl aA #[O Z m] rfl Qw _ rfl Q6 ay Q5 ?_;intro fg ds av;have b7:=aJ av;obtain⟨⟨e7,c83,cj⟩,_⟩:=bD av.own;subst cj;have bo:=av.frm.cell a6 λe=>aL e.symm;have b':ds.frozen? ⟨db,3,G⟩=AS:=(zc (av.frm.block db bk λe=>aL e.symm)).trans (aT e3.j);clear av)
   have cf:=a5.app (i:=3) Q9 Q9 (ak▸b7);obtain⟨af,aH⟩:=cf;have aE:zR X2 3 _ 3=X2 3++[O Z m]:=mI rfl;have aD:∀q,q≠3->zR _ 3 (X2 3++[O Z m]) q=X2 q:=λq hq=>eP hq
   generalize ds.setCell _ _=W3 at af aH |-;generalize zR X2 3 _=X3 at af aE aD;have cc:=a5.db_no;generalize nH _ _ _ _=ρ3 at af aH;generalize zR _ 3 _=V3 at af;have e9:U (∀q,D (X3 q)<=2000030):=aJ (λq=>by
    have:=cL q
    by_cases e:q=3
    · subst e;rw[aE];have:=ay;simp;omega
    rw[aD q e];omega)
   have cy:=aJ af;have ck:=aJ aE;have a8:=aJ aD;clear aE aD;have a2:=aJ aH;clear af aH ae aA a6 aL ay ak bo b' bk;have bF:=aJ (TE.mv a2 nofun);have UY:U (∀e∈es,jy _ _ 1 _ _ _ _/\e.2<=k+j):=aJ (λe he=>⟨(UO e he).1.mv a2 nofun (by rw[cc];nofun),(UO e he).2⟩);have en:U (X3 2=Xq 2++(es++[(J a' (k+j) c',k+j)]).map (·.1)/\X3 3=Xq 3++(es++[(J a' (k+j) c',k+j)]).map (λ_=>O Z m)/\∀q,q≠2->q≠3->X3 q=Xq q):=aJ ⟨by rw[a8 2 Q9,b6,d.1];simp,by rw[ck,a7 3 Q9,d.2.1];simp,λq h1 h2=>by rw[a8 q h2,a7 q h1];exact d.2.2 q h1 h2⟩;have UN:=aJ ((b3.trans (a3.mono (λx h=>.inr (.inl h)))).trans (a2.mono (λx h=>.inr (.inr h))));have aG:=bF.1;have hlen:k+j<=10000000:=Q5;have eo:=cy.lt;go_wp2_with(at_builtin;refine oY _ rfl _ _ 26 3 1 8 (O Z 0) Tryz.ownInt underlying26 rfl Q9 Q9 rfl (db+1) (J a' (k+j) c') (k+j) (rp (k+j) [O Z m]) rfl aG #[O Z m] rfl (by intro u hu;simp at hu;first|(subst hu;rfl)|(rcases hu with rfl|rfl|rfl<;>rfl)) _ rfl Q6 hlen Q5 ?_;intro v4 w4 S4 Ui;have e5:=aJ S4;have Uq:=aJ Ui;obtain⟨⟨a9,c9,ez⟩,_⟩:=bD S4.own;subst ez;clear S4 Ui)
   go_roundw
   case rel=>
    have S4:=e5.j;have cl:=oR S4 bF.2;refine⟨j+1,_,_,_,_,Q5,QZ,by rw[fe,bL];rfl,aJ ?_,aJ (cy.mv cl (λi e=>by cases e) (S4.frm.block _ eo λe=>by have:=(aG.lt _ e.symm).1;omega)),aJ (UN.trans (cl.mono λx h=>.inl h)),en,aJ ?_⟩
    · have:=bF.app S4
      rw[pU _ _]at this;exact this
    intro e he;rcases F1.1 he with he|he
    · exact⟨(UY e he).1.app (Au (UY e he).2 _) aG S4 Uq,by have:=(UY e he).2;omega⟩
    rw[Jm.1 he];exact⟨(jy.of bF).app J7 aG S4 Uq,by show k+j<=_;omega⟩
   case measure=>exact Qh
 · have eu:j=4:=by omega
   subst eu;have hM:=(di.mono λx h=>h.elim).trans ((b1.mono λx h=>.inl h).trans b3);have dT:=(b1.mono λx h=>.inl h).trans b3;have b0:=(UA.stay (dT.stay Q6 (by rw[No];nofun))).stay (D7 (r:=.ls kk ki));have UE:U (Iz _ _ _ n Xq _ w _ _):=aJ ⟨rfl,_,_,fin (.ls _ _) _,a4.fin_ (λ_=>nofun) nofun,?fin,Dh.of hM hA,λq=>by
    have h2:=bL.j;by_cases e:q=2
    · subst e;rw[d.1];simp;omega
    by_cases e2:q=3
    · subst e2;rw[d.2.1];simp;omega
    rw[d.2.2 q e e2];omega⟩
   case fin=>(obtain⟨I0,i1,i2,i3⟩:=b0.i;exact⟨⟨I0++es.map λe=>(e.1,e.2,m),by rw[d.1,i1];simp,by rw[d.2.1,i2];simp,λe he=>(F1.1 he).elim (i3 e) λhe=>by obtain⟨e0,h0,rfl⟩:=MB.1 he;exact(b2 _ h0).1.ints.stay Dm⟩,λq hq=>by rw[d.2.2 q Q5 Q5];exact b0.z q hq⟩)
   clear hM dT b0;go_wp2_with fail;go_end0
   exact UE
def po(ob:R):M:=.pointer (Y (Q ob 0 G))
theorem Tryz.ownPtrT:(Tryz.prog.info? 39).map (λi=>(i.zero,i.size,i.bytes))=Y (Y (Value.pointer G),1,8):=Q7
structure JM(Z':R->Prop)(db:R)(vo:M)(ρ:R->BR)(w:T)(ob:R):Prop where
 is:∃tb sb n c,OT AT w ob tb sb n c/\∀b,b=ob\/b=tb\/b=sb->b<w.heap.size/\ρ b=.no/\b≠db/\¬vo.ownBlock=Y b/\¬Z' b
structure yX(Z':R->Prop)(db n B0:R)(os:I R)(w:T)(V:R->M)(Xq:R->I M)(ρ:R->BR)(vo:M):Prop where
 s:ew db w vo (n:A) V Xq ρ
 e:kM w ρ Xq
 x:∀i,D (Xq i)<=B0
 o:w.ownsRow (db+1) 39 1 vo (D os) (os.map po)
 on:∀g,vo.ownBlock=Y g->ρ g=.no/\¬Z' g
 zr:∀b,ρ b≠.no->¬Z' b
 zd:¬Z' db
 k:∀ob∈os,JM Z' db vo ρ w ob
section
variable {Z':R->Prop} {db n B0:R} {os:I R} {w w':T} {V:R->M} {Xq:R->I M} {ρ:R->BR} {vo:M}
theorem yX.keep(h:yX Z' db n B0 os w V Xq ρ vo)(hs:w.heap.size<=w'.heap.size)(he:w'.os=w.os/\w'.tape=w.tape/\w'.output=w.output)(g:∀b,¬Z' b->b<w.heap.size->w'.heap[b]? =w.heap[b]?):yX Z' db n B0 os w' V Xq ρ vo:=by
 have UZ:=h.s.db_no;have TJ:=g _ h.zd h.s.lt;have m:jt db (λr=>r=.no) w _ _ _:=⟨hs,λ_ _=>rfl,λk hk _ hA=>g k (h.zr k hA) hk,λk hk hn=>by have:=(h.s.pl k hn).2;omega,he⟩;refine⟨h.s.mv m (λ_=>nofun) TJ,h.e.stay (m.stay nofun (by rw[UZ];nofun)),h.x,bY h.o λq hq=>g q (h.on q hq).2 (h.o.lt q hq).2,h.on,h.zr,h.zd,λob ad=>?_⟩;obtain⟨tb,sb,m,c,k1,F⟩:=(h.k _ ad).is;exact⟨_,_,m,c,k1.keep λb d=>g b (F b d).2.2.2.2 (F b d).1,λb d=>⟨tu (F b d).1 hs,(F b d).2⟩⟩
theorem yX.gr(h:yX Z' db n B0 os w V Xq ρ vo)(g:Gr w w'):yX Z' db n B0 os w' V Xq ρ vo:=h.keep g.size ⟨g.os,g.tape,g.output⟩ λb _ d=>g.block b d Q6
theorem yX.below(h:yX (λb=>lo<=b) db n B0 os w V Xq ρ vo)(g:Below lo w w'):yX (λb=>lo<=b) db n B0 os w' V Xq ρ vo:=h.keep g.size ⟨g.os,g.tape,g.output⟩ λb d _=>g.block b Q5
theorem yX.push{N1:R}{w5 w6 w7:T}{ob tb sb:R}(h5:yX (λb=>lo<=b) db n B0 os w5 V Xq ρ vo)(h6:OT AT w6 ob tb sb m c)(hz:∀b,b=ob\/b=tb\/b=sb->lo<=b/\b<N1)(hN:N1<=w5.heap.size)(hs:w6.heap.size=w5.heap.size)(he:w6.os=w5.os/\w6.tape=w5.tape/\w6.output=w5.output)(hk:∀b,¬b=sb->w6.heap[b]? =w5.heap[b]?)
 (ha:Ap (db+1) 39 1 w6 vo w7 v' (D os+1) (os.map po++[po ob])):
 yX (λb=>N1<=b/\b<w5.heap.size) db n B0 (os++[ob]) (w7.setCell (Q db 0 G) v') V Xq ρ v'/\(∀b,N1<=b->b<w5.heap.size->(w7.setCell (Q db 0 G) v').heap[b]? =w5.heap[b]?)/\Below db w5 (w7.setCell (Q db 0 G) v'):=by
 have hsb:=hz _ (.inr (.inr rfl));have d:Below lo _ _:=⟨he.1,he.2.1,he.2.2,Q5,λb d=>hk b Q5⟩;have F:=h5.below d;have aB:=ha.frm.size;have aC:db<lo:=by have:=h5.zd;omega
 have ax:=F.s.lt;have UZ:=F.s.db_no;have ad:∀g,vo.ownBlock=Y g->g<lo:=λg hg=>by have:=(F.on g hg).2;omega
 have af:∀g,vo.ownBlock=Y g->db<g:=λg hg=>(F.o.lt g hg).1
 have ay:=ha.frm.block _ ax (λe=>by have:=af _ e.symm;omega);have ai:¬v'.ownBlock=Y db:=λe=>by have:=(ha.own.lt _ e).1;omega
 have No:∀b,¬b=db->(w7.setCell (Q _ 0 G) v').heap[b]? =w7.heap[b]? :=λb d=>dp _ _ _ _ d
 have Tj:∀b,b<w6.heap.size->b≠db->¬vo.ownBlock=Y b->(w7.setCell _ _).heap[b]? =w6.heap[b]? :=λb hl d hv=>(No b d).trans (ha.frm.block b hl λe=>hv e.symm)
 have S7:(w7.setCell (Q db 0 G) v').heap.size=w7.heap.size:=Q6;have az:∀b,ρ b≠.no->¬vo.ownBlock=Y b:=λb hr e=>hr (F.on b e).1
 have ae:∀b,b<w6.heap.size->¬vo.ownBlock=Y b->¬v'.ownBlock=Y b:=λb hl hv e=>by
  rcases ha.lies b e with e'|e'
  · exact hv e'
  omega
 refine⟨⟨⟨?_,λi i2 i10=>⟨bY (F.s.row i i2 i10).1 λk hk=>?_,(F.s.row i i2 i10).2⟩,λb al=>⟨(F.s.pl b al).1,by rw[S7];have:=(F.s.pl b al).2;omega⟩⟩,F.e.stay λb ak hl=>⟨?_,ak⟩,F.x,?_,λg hg=>?_,λb al=>?_,?_,λo av=>?_⟩,λb b1 b5=>?_,?_⟩
 · rw[bK (ay.trans F.s.box)];simp
 · have hr:=(F.s.row i i2 i10).2 k hk;have aA:=(F.s.row i i2 i10).1.lt k hk;exact Tj k aA.2 Q5 (az k (by rw[hr];nofun))
 · exact Tj b hl (λe=>by rw[e,UZ]at ak;cases ak) (az b (by rw[ak];nofun))
 · have:w7.ownsRow (db+1) 39 1 v' (D (os++[ob])) ((os++[ob]).map po):=by
    rw[fe,Ju];exact ha.own
   exact bY this λq hq=>No q λe=>ai (e▸hq)
 · rcases ha.lies g hg with e|e
   · exact⟨(F.on g e).1,by have:=ad g e;omega⟩
   refine⟨?_,Q5⟩;by_cases hr:ρ g=.no
   · exact hr
   have:=(F.s.pl g hr).2;omega
 · have:=F.zr b al;omega
 · omega
 · rcases F1.1 av with hm|hm
   · obtain⟨aE,aD,m',c',k1,k2⟩:=(F.k o hm).is;refine⟨_,_,_,_,k1.keep λb d=>Tj b (k2 b d).1 (k2 b d).2.2.1 (k2 b d).2.2.2.1,λb d=>?_⟩;obtain⟨q1,q2,q3,q4,q5⟩:=k2 b d;exact⟨Q5,q2,q3,ae b q1 q4,Q5⟩
   rw[Jm.1 hm];have hq:∀b,lo<=b->b≠db/\¬vo.ownBlock=Y b:=λb d=>⟨Q5,λe=>by have:=ad b e;omega⟩
   refine⟨_,_,m,c,h6.keep λb d=>Tj b (by have:=hz b d;omega) (hq b (hz b d).1).1 (hq b (hz b d).1).2,λb d=>?_⟩;obtain⟨q1,q2⟩:=hz b d;refine⟨Q5,?_,(hq b q1).1,ae b Q5 (hq b q1).2,Q5⟩;by_cases hr:ρ b=.no
   · exact hr
   exact absurd q1 (F.zr b hr)
 · rw[Tj b Q5 Q5 λe=>by have:=ad b e;omega];exact hk b Q5
 have S9:Below db _ _:=(Mt _ _).grown ha.frm Q5 (λq hq=>by have:=af q hq;omega);exact(d.mono Q5).trans (S9.setCell lj _)
end
def Im(db n B0:R)(os:I R)(w:T):Prop:=∃V Xq ρ vo,yX (λb=>w.heap.size<=b) db n B0 os w V Xq ρ vo
theorem ew.rowcell{db:R}{w:T}{vo:M}{n:A}{V:R->M}{Xq:R->I M}{ρ:R->BR}(h:ew db w vo n V Xq ρ)(i:R)(h2:2<=i)(F:i<=10):∃a c,H w (Q db i G)=Y (J a (D (Xq i)) c)/\D (Xq i)<=maxLen/\∀k y,(Xq i)[k]? =Y y->∃g,a=Y (Q g 0 G)/\H w (Q g k G)=Y y:=by
 have hr:=(h.row i h2 F).1;obtain⟨⟨a,c,hv⟩,hm⟩:=bD hr;refine⟨a,c,?_,hm,λk y hk=>?_⟩
 · rw[aN h.box,<-hv];have hc:i=2\/i=3\/i=4\/i=5\/i=6\/i=7\/i=8\/i=9\/i=10:=by omega
   rcases hc with rfl|rfl|rfl|rfl|rfl|rfl|rfl|rfl|rfl<;>rfl
 have d:k<D (Xq i)*1:=by have:=(dm.1 hk).1;omega
 obtain⟨g,_,_,⟨c',e3⟩,e4⟩:=iE hr d;rw[hv]at e3;simp only[jj]at e3;exact⟨g,e3.1,by rw[Aq]at e4;rw[e4];exact hk⟩
theorem lz{α:Type}{db:R}{w:T}{vo:M}{n:A}{V:R->M}{Xq:R->I M}{ρ:R->BR}(h:ew db w vo n V Xq ρ)(i j:R)(hi:2<=i/\i<=10)(hj:2<=j/\j<=10)(d:I α)(f g:α->M)(e1:Xq i=d.map f)(e2:Xq j=d.map g):
 (D d)<=maxLen/\∃a c a' c',H w (Q db i G)=Y (J a (D d) c)/\H w (Q db j G)=Y (J a' (D d) c')/\∀k e,d[k]? =Y e->∃b b',a=Y (Q b 0 G)/\a'=Y (Q b' 0 G)/\H w (Q b k G)=Y (f e)/\H w (Q b' k G)=Y (g e):=by
 obtain⟨a,c,h1,h2,h3⟩:=h.rowcell i hi.1 hi.2;obtain⟨a',c',F,ai,af⟩:=h.rowcell j hj.1 hj.2;have l1:D (Xq i)=D d:=by rw[e1,JY]
 have l2:D (Xq j)=D d:=by rw[e2,JY]
 rw[l1]at h1 h2;rw[l2]at F;refine⟨h2,a,c,_,_,h1,F,λk e he=>?_⟩;obtain⟨b,p1,p2⟩:=h3 k _ (by rw[e1,Ha,he];rfl);obtain⟨b',ae,ad⟩:=af k _ (by rw[e2,Ha,he];rfl);exact⟨b,_,p1,ae,p2,ad⟩
structure C2(db i j:R)(w:T)(N:R)(L:R->R)(S8:R->A)(El:M->R->A->R->Prop)(a a':By Addr)(c c':R):Prop where
 nl:N<=maxLen
 ci:H w (Q db i G)=Y (J a N c)
 cj:H w (Q db j G)=Y (J a' N c')
 en:∀k,k<N->∃b b' ae ce,a=Y (Q b 0 G)/\a'=Y (Q b' 0 G)/\H w (Q b k G)=Y (J ae (L k) ce)/\H w (Q b' k G)=Y (O Z (S8 k))/\L k<=maxLen/\∀q,q<L k->∃eb eo,ae=Y (Q eb eo G)/\El (O Z eb) eo (S8 k) q
section
variable {db:R} {w:T} {vo:M} {n:A} {V:R->M} {Xq:R->I M} {ρ:R->BR}
theorem Jp(hS:ew db w vo n V Xq ρ)(hE:kM w ρ Xq):∃N L S8 a a' c c',C2 db 2 3 w N L S8 (λb o m q=>∃eb:R,b=O Z eb/\H w ⟨eb,o+q,G⟩=Y (O Z m)) a a' c c':=by
 obtain⟨d,i1,i2,i3⟩:=hE.i;obtain⟨hl,a,c,a',c',h1,h2,h3⟩:=lz hS 2 3 Q9 Q9 d _ _ i1 i2;refine⟨_,λk=>(d[k]?.getD (J G 0 0,0,0)).2.1,λk=>(d[k]?.getD (J G 0 0,0,0)).2.2,a,_,c,_,hl,h1,h2,λk F=>?_⟩;have he:=dW F;obtain⟨b,b',p1,p2,p3,p4⟩:=h3 k _ he;obtain⟨ae,ce,q1,q2,q3⟩:=i3 _ (L2 F);simp only[List.length_replicate]at q1 q2;simp only[he,La];refine⟨b,_,_,_,p1,p2,p3.trans (congrArg _ q1),p4,q2,λq hq=>?_⟩;obtain⟨eb,eo,r1,_,r2⟩:=q3 q _ (by rw[Mx,mI hq]);exact⟨_,_,r1,_,rfl,r2⟩
theorem ew.zero(hS:ew db w vo n V Xq ρ)(d:kM w ρ Xq){i:R}(h1:4<=i)(F:i<=10):∃a c,H w (Q db i G)=Y (J a 0 c):=by
 obtain⟨a,c,h,_⟩:=hS.rowcell i Q5 F;rw[d.z i h1]at h;exact⟨a,c,h⟩
end
theorem zz(db:R)(vo:M)(n:A)(V:R->M)(Xq:R->I M)(ρ:R->BR)(w:T)(hS:ew db w vo n V Xq ρ)(hE:kM w ρ Xq):
 Calls prog 14 #[.pointer (Y (Q db 1 G))] w λx w'=>x=.returned (.bool AT)/\Gr w w':=by
 have HS:=aJ hS;have HE:=aJ hE;have HG:=aJ (Gr.refl w);go_enter func14,ntmps14
 obtain⟨Ni,Li,Mi,ai,zi,ci,di,aE⟩:=Jp HS HE;have d:=aJ aE;have ad:=d.nl;unfold maxLen at ad;go_wp2_with fail;go_loopw[3] (λkv wr=>∃k:R,k<=Ni/\kv=O Z (k:A)/\U (Gr w wr)) λkv _=>Ni-(intOf kv).toNat
 case atStart=>exact⟨0,Lz,rfl,HG⟩
 obtain⟨k,hk,rfl,HG⟩:=hrel;have ci:=HG.cell d.ci Q6;by_cases IN:k<Ni
 · obtain⟨b,b',ae,ce,ha,av,af,F,ak,aD⟩:=d.en k IN;subst ha;subst av;have U5:=aJ aD;generalize Li k=l at af ak U5;generalize Mi k=m at F U5;have al:=aJ af;have aC:=aJ F;unfold maxLen at ak;have Wa:(0:A)<=k:=by omega
   have VD:(k:A)<Ni:=Q5;go_wp2_with fail;go_loopw[4] (λqv w2=>∃q:R,q<=l/\qv=O Z (q:A)/\U (Gr w w2)) λqv _=>l-(intOf qv).toNat
   case atStart=>exact⟨0,Lz,rfl,HG⟩
   obtain⟨q,hq,rfl,OF⟩:=hrel;rename T=>w2
   by_cases aA:q<l
   · as_aux_lemma=>
      obtain⟨eb,eo,ay,ax,az,h0⟩:=U5 q aA;subst ay;obtain rfl:eb=ax:=by have h:=az;simp at h;omega
      have aI:(0:A)<=q:=Q5;have aG:(q:A)<l:=Q5;have e0:=OF.cell d.ci Q6;have e1:=OF.cell al Q6;have e2:=OF.cell d.cj Q6;have e3:=OF.cell aC Q6;have e4:=OF.cell h0 Q6;go_wp2_with fail;go_region
      go_wp2_with fail;go_roundw
      case rel=>exact⟨q+1,Q5,QZ,aJ (OF.trans Gy)⟩
      case measure=>exact Qh
   · have aB:q=l:=by omega
     subst aB;have di:=OF.cell d.ci Q6;have aH:=OF.cell al Q6;go_wp2_with fail;go_roundw
     case rel=>exact⟨k+1,Q5,QZ,OF⟩
     case measure=>exact Qh
 have aF:k=Ni:=by omega
 subst aF;obtain⟨a4,c4,k4⟩:=HS.zero HE (i:=4) Q9 Q9;replace k4:=HG.cell k4 Q6;go_wp2_with fail;go_loopw[5] (λi w2=>i=O Z 0/\wr=w2) λ_ _=>0
 case atStart=>exact Qt
 obtain⟨rfl,rfl⟩:=hrel;obtain⟨a7,c7,k7⟩:=HS.zero HE (i:=7) Q9 Q9;replace k7:=HG.cell k7 Q6;go_wp2_with fail;go_loopw[7] (λi w2=>i=O Z 0/\wr=w2) λ_ _=>0
 case atStart=>exact Qt
 obtain⟨rfl,rfl⟩:=hrel;obtain⟨a6,c6,k6⟩:=HS.zero HE (i:=6) Q9 Q9;replace k6:=HG.cell k6 Q6;go_wp2_with fail;go_loopw[9] (λi w2=>i=O Z 0/\wr=w2) λ_ _=>0
 case atStart=>exact Qt
 obtain⟨rfl,rfl⟩:=hrel;obtain⟨a9,c9,k9⟩:=HS.zero HE (i:=9) Q9 Q9;replace k9:=HG.cell k9 Q6;go_wp2_with fail;go_loopw[12] (λi w2=>i=O Z 0/\wr=w2) λ_ _=>0
 case atStart=>exact Qt
 obtain⟨rfl,rfl⟩:=hrel;obtain⟨a8,c8,k8⟩:=HS.zero HE (i:=8) Q9 Q9;replace k8:=HG.cell k8 Q6;go_wp2_with fail;go_loopw[14] (λi w2=>i=O Z 0/\wr=w2) λ_ _=>0
 case atStart=>exact Qt
 obtain⟨rfl,rfl⟩:=hrel;exact Po
end Go.Proofs.YtghjmnlapcpbiaaGreatDoor
