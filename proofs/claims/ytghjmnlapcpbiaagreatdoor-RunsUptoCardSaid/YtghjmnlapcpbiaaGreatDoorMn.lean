import Derived.Test.YtghjmnlapcpbiaaGreatDoorMk
namespace Go.Proofs.YtghjmnlapcpbiaaGreatDoor
open _root_ renaming Option.some->Y,Option.none->G,Go.Value.int->O,Go.IntKind.i64->Z,Go.Value.slice->J,List->I,Nat->R,Int->A,Go.World.cell?->H,List.length->D,Go.Obj.cells->X,Go.Value->M,Go.World->T,Go.Addr.mk->Q,Go.RowKit.Hid->U,UInt8->AI,Bool.false->AS,Bool.true->AT,Option->By
open Go.Proofs.Tryz
open Go.RowKit
set_option linter.defProp false
variable{c k:A}{base ps ts σ σ':I A}{a b fs:I PV}{xs:I M}{B fb i n:R}{fbn':R->R}{Ts:R->R->By (I A)}{m:PM}{e:TypeId}{vc vf vk vs vt:M}{u:aK}{x:eZ}
def Ll:=@Nat.le_succ
def MO:=@List.take_left.{0}
def MT:=@Classical.byContradiction
def M9:=@List.size_toArray.{0}
set_option maxRecDepth 100000
set_option maxHeartbeats 2000000
set_option linter.unusedVariables false
set_option linter.unusedSimpArgs false
structure rD(u:aK):Prop where
 func:∀f∈u.aG,D f.aH<=6/\D f.aI<=10/\1<=D f.code/\D f.code<=200/\(∀k∈f.aH,0<=k)/\(∀k∈f.aI,0<=k)/\0<=f.result/\∀i∈f.code,bl i=AT
 shape:∀s∈u.aA,1<=D s/\D s<=8/\∀k∈s,0<=k
 few:D u.aA<=20/\D u.aE<=50/\D u.aG<=30
 exps:D u.aD<=20/\∀e∈u.aD,0<=e.func/\e.func<D u.aG
theorem rD.of(h:bG u=AT):rD u:=by
 unfold bG bh cm cO cH at h;simp only[sQ,wB,xw]at h;obtain⟨⟨Uh,TV⟩,hc,⟨ad,F⟩,_,⟨T0,Ut⟩⟩:=h;refine⟨λf hf=>?_,λs hs=>?_,Q5,Q5,λe he=>?_⟩
 · have h:=zl.1 F f hf;unfold dA iG ir at h;simp only[sQ,wB,xw,iH]at h;obtain⟨⟨h1,h2,h3⟩,h4,h5,h6,h7⟩:=h;refine⟨Q5,Q5,Q5,Q5,λk d=>?_,λk d=>?_,Q5,λi hi=>zl.1 h7 i hi⟩
   · have:=zl.1 h2 k d;simp[iH,wB]at this;omega
   have:=zl.1 h5 k d;simp[iH,wB]at this;omega
 · have h:=zl.1 TV s hs;unfold dM at h;simp only[sQ,wB,xw]at h;refine⟨Q5,Q5,λk d=>?_⟩;have:=zl.1 h.2 k d;simp[iH,wB]at this;omega
 have h:=zl.1 Ut e he;unfold fi at h;simp only[sQ,wB,xw]at h;omega
theorem Ba:∀{ts ss:I A},(∀t∈ts,0<=t)->iL ts ss=AT->ts=ss
 | [],[],_,_=>rfl
 | [],_::_,_,h=>by cases h
 | _::_,[],_,h=>by cases h
 | t::ts,s::ss,hn,h=>by
  rw[iL]at h;simp only[sQ,M1,xw]at h;have F:=hn t J9;have e1:t=s:=by rcases h.1 with h|h<;>omega
  rw[e1,Ba (λk d=>hn k (Jw _ d)) h.2]
inductive lI(u:aK)(f:aQ)(i:bP):I A->I A->Prop
 | const:i.op=0->0<=i.a->i.a.toNat<D u.aE->lI u f i [] [0]
 | small:i.op=1->lI u f i [] [0]
 | load (k:A):i.op=2->0<=i.a->(f.aH++f.aI)[i.a.toNat]? =Y k->lI u f i [] [k]
 | store (k:A):i.op=3->0<=i.a->(f.aH++f.aI)[i.a.toNat]? =Y k->lI u f i [k] []
 | pop (k:A):i.op=4->lI u f i [k] []
 | dup (k:A):i.op=5->lI u f i [k] [k,k]
 | reck:6<=i.op->i.op<=10->lI u f i [0,0] [0]
 | jump:i.op=11->0<=i.a->i.a.toNat<D f.code->lI u f i [] []
 | zero:i.op=12->0<=i.a->i.a.toNat<D f.code->lI u f i [0] []
 | call (g:aQ):i.op=13->0<=i.a->u.aG[i.a.toNat]? =Y g->lI u f i g.aH [g.result]
 | ret:i.op=14->lI u f i [f.result] []
 | new (s:I A):i.op=15->1<=i.a->u.aA[(i.a-1).toNat]? =Y s->lI u f i s [i.a]
 | get (s:I A) (k:A):i.op=16->1<=i.a->0<=i.b->u.aA[(i.a-1).toNat]? =Y s->s[i.b.toNat]? =Y k->lI u f i [i.a] [k]
 | set (s:I A) (k:A):i.op=17->1<=i.a->0<=i.b->u.aA[(i.a-1).toNat]? =Y s->s[i.b.toNat]? =Y k->lI u f i [i.a,k] []
 | nil:i.op=18->1<=i.a->lI u f i [] [i.a]
 | isnil:i.op=19->1<=i.a->lI u f i [i.a] [0]
 | out:i.op=20->lI u f i [0] []
theorem tU{α:Type}{l:I α}(h:D l=1):∃x,l=[x]:=by
 match l,h with
 | [x],_=>exact⟨x,rfl⟩
theorem vQ{f:aQ}{i:bP}{s s':I A}(hu:rD u)(av:u.aC=[])(hf:f∈u.aG)(hi:i∈f.code)(h:et u f i s=Y s'):
 ∃base ts ps,lI u f i ts ps/\s=base++ts/\s'=base++ps/\D s'<=20/\(i.op=14->base=[]):=by
 have af:=(hu.func f hf).2.2.2.2.2.2.2 i hi;have ak:=hu.func f hf;have Tn:∀k∈f.aH++f.aI,0<=k:=λk hk=>by
  rcases F1.1 hk with hk|hk
  · exact ak.2.2.2.2.1 k hk
  exact ak.2.2.2.2.2.1 k hk
 unfold bl bR at af;simp only[sQ,wB,xw]at af;unfold et at h;cases he:bU u f i with
 | none=>rw[he]at h;cases h
 | some tp=>
  obtain⟨ts,ps⟩:=tp;rw[he]at h;simp only at h;split at h
  · cases h
  rename_i hl
  split at h
  · cases h
  rename_i ae
  have ae:=by simpa using ae
  split at h
  · rename_i ad
    have h:=tz h;have d:(∀t∈ts,0<=t)->(∀p∈ps,0<=p)->lI u f i ts _->∃base ts ps,lI u f i ts ps/\s=base++ts/\s'=base++ps/\D s'<=20/\(i.op=14->base=[]):=λF h2 h3=>by
     have e1:=Ba F ae;have e2:(ps.map λp=>if p<0 then rE ts (s.drop (D s-D ts)) else p)=ps:=by
      conv=>rhs;rw[<-List.map_id ps]
      exact Mc λp hp=>by have:=h2 p hp;rw[eP Q5];rfl
     rw[e2]at h ad;refine⟨_,_,_,h3,?_,h.symm,by rw[<-h];exact ad.1,λe=>?_⟩
     · conv=>lhs;rw[<-KV (D s-D ts) s]
       rw[<-e1]
     rcases ad.2 with h|h
     · exact absurd e h
     rw[h,Lf,List.take_zero]
    have hop:i.op=0\/i.op=1\/i.op=2\/i.op=3\/i.op=4\/i.op=5\/(6<=i.op/\i.op<=10)\/i.op=11\/i.op=12\/i.op=13\/i.op=14\/i.op=15\/i.op=16\/i.op=17\/i.op=18\/i.op=19\/i.op=20:=Q5;have Wt:∀(a:R) (k:A),(f.aH++f.aI)[a]? =Y k->0<=k:=λa k e=>Tn k (dL e)
    have ai:∀(a:R) (sh:I _),u.aA[a]? =Y sh->∀k∈sh,0<=k:=λa sh e=>(hu.shape _ (dL e)).2.2
    unfold bU at he;rcases hop with e|e|e|e|e|e|e|e|e|e|e|e|e|e|e|e|e
    · simp[e]at he
      simp[e,ah]at af
      obtain⟨F,rfl,rfl⟩:=he;exact d Q6 Q6 (.const e Q5 Q5)
    · simp[e]at he
      obtain⟨rfl,rfl⟩:=he;exact d Q6 Q6 (.small e)
    · simp[e]at he
      simp[e,ah]at af
      obtain⟨k,F,rfl,rfl⟩:=he;exact d Q6 (by simpa using Wt _ _ F) (.load k e Q5 F)
    · simp[e]at he
      simp[e,ah]at af
      obtain⟨k,F,rfl,rfl⟩:=he;exact d (by simpa using Wt _ _ F) Q6 (.store k e Q5 F)
    · simp[e]at he
      obtain⟨rfl,rfl⟩:=he;simp only[Jk,LW]at hl h ad ae;obtain⟨k,hk⟩:=tU (l:=s.drop (D s-1)) jB;refine⟨_,_,_,.pop k e,?_,by simpa using h.symm,by rw[<-h];exact ad.1,λe2=>by omega⟩;conv=>lhs;rw[<-KV (D s-1) s]
      rw[hk]
    · simp[e]at he
      obtain⟨rfl,rfl⟩:=he;simp only[Jk,LW]at hl h ad ae;obtain⟨k,hk⟩:=tU (l:=s.drop (D s-1)) jB;refine⟨s.take (D s-1),_,_,.dup k e,?_,?_,by rw[<-h];exact ad.1,λe2=>by omega⟩
      · conv=>lhs;rw[<-KV (D s-1) s]
        rw[hk]
      rw[<-h];simp[hk,rE]
    · have n0:¬i.op=0:=by omega
      have n1:¬i.op=1:=Q5;have n2:¬i.op=2:=Q5;have n3:¬i.op=3:=Q5;have n4:¬i.op=4:=Q5;have n5:¬i.op=5:=Q5;have n6:i.op=6\/i.op=7\/i.op=8\/i.op=9\/i.op=10:=Q5;simp only[n0,n1,n2,n3,n4,n5,n6,L3,KA,qN,H9]at he;obtain⟨rfl,rfl⟩:=he;exact d Q6 Q6 (.reck e.1 e.2)
    · simp[e]at he
      simp[e,ah]at af
      obtain⟨F,rfl,rfl⟩:=he;exact d Q6 Q6 (.jump e Q5 Q5)
    · simp[e]at he
      simp[e,ah]at af
      obtain⟨F,rfl,rfl⟩:=he;exact d Q6 Q6 (.zero e Q5 Q5)
    · simp[e,av]at he
      simp[e,ah]at af
      cases hg:u.aG[i.a.toNat]? with
      | none=>rw[hg]at he;simp at he
      | some g=>
       rw[hg]at he;simp at he
       obtain⟨rfl,rfl⟩:=he;have al:=hu.func g (dL hg);exact d al.2.2.2.2.1 (by simpa using al.2.2.2.2.2.2.1) (.call g e Q5 hg)
    · simp[e]at he
      obtain⟨rfl,rfl⟩:=he;exact d (by simpa using ak.2.2.2.2.2.2.1) Q6 (.ret e)
    · generalize hq:(i.a-1).toNat=q at he;by_cases F:1<=i.a
      · cases h2:u.aA[q]? with
        | none=>simp[e,h2]at he
        | some sh=>
         simp[e,F,h2]at he
         obtain⟨rfl,rfl⟩:=he;exact d (ai _ _ h2) jB (.new _ e F (hq▸h2))
      simp[e,F]at he
    · generalize hq:(i.a-1).toNat=q at he;by_cases F:1<=i.a
      · cases h2:u.aA[q]? with
        | none=>simp[e,h2]at he
        | some sh=>
         simp[e,F,h2]at he
         simp[e,ah]at af
         obtain⟨k,h3,rfl,rfl⟩:=he;exact d jB (by simpa using ai _ _ h2 k (dL h3)) (.get _ k e F Q5 (hq▸h2) h3)
      simp[e,F]at he
    · generalize hq:(i.a-1).toNat=q at he;by_cases F:1<=i.a
      · cases h2:u.aA[q]? with
        | none=>simp[e,h2]at he
        | some sh=>
         simp[e,F,h2]at he
         simp[e,ah]at af
         obtain⟨k,h3,rfl,rfl⟩:=he;exact d (by have:=ai _ _ h2 k (dL h3);simp;omega) Q6 (.set _ k e F Q5 (hq▸h2) h3)
      simp[e,F]at he
    · generalize hq:(i.a-1).toNat=q at he;by_cases F:1<=i.a
      · cases h2:u.aA[q]? with
        | none=>simp[e,h2]at he
        | some sh=>
         simp[e,F,h2]at he
         obtain⟨rfl,rfl⟩:=he;exact d Q6 jB (.nil e F)
      simp[e,F]at he
    · generalize hq:(i.a-1).toNat=q at he;by_cases F:1<=i.a
      · cases h2:u.aA[q]? with
        | none=>simp[e,h2]at he
        | some sh=>
         simp[e,F,h2]at he
         obtain⟨rfl,rfl⟩:=he;exact d jB Q6 (.isnil e F)
      simp[e,F]at he
    simp[e]at he
    obtain⟨rfl,rfl⟩:=he;exact d Q6 Q6 (.out e)
  cases h
structure mN(u:aK)(Ts:R->R->By (I A))(σ:I A)(x:eZ)(f:aQ)(i:bP)(base ts ps:I A)(a b:I PV):Prop where
 func:u.aG[x.fn]? =Y f
 code:f.code[x.pos]? =Y i
 ins:lI u f i ts ps
 tab:Ts x.fn x.pos=Y (base++ts)
 short:D (base++ts)<=20
 short':D (base++ps)<=20
 stack:x.stack=a++b
 below:gN σ base a
 upon:gN σ ts b
 slots:gN σ (f.aH++f.aI) x.slots
 next:∀t∈ch f x.pos i,∃t',t=Y t'/\Ts x.fn t'=Y (base++ps)
 ret:i.op=14->base=[]
theorem gN.split{vs:I PV}(h:gN σ (base++ts) vs):∃a b,vs=a++b/\gN σ base a/\gN σ ts b:=by
 refine⟨_,vs.drop (D base),(KV _ _).symm,?_,?_⟩
 · have:=h.take (D base);rwa [MO]at this
 have:=h.drop (D base);rwa [List.drop_left]at this
theorem rM(hu:rD u)(d:u.aC=[])(hT:∀n f,u.aG[n]? =Y f->lf u f (Ts n))(h:xk u Ts σ x):∃f i base ts ps a b,mN u Ts σ x f i base ts ps a b:=by
 obtain⟨f,s,F,h2,h3,h4,h5⟩:=h.fn;obtain⟨i,s',hi,hd,hn⟩:=(hT _ _ F).step _ _ h2;obtain⟨base,ts,ps,hI,e1,e2,h6,h7⟩:=vQ hu d (dL F) (dL hi) hd;subst e1 e2;obtain⟨a,b,e3,h8,h9⟩:=h4.split;exact⟨f,i,_,_,_,a,b,⟨F,hi,hI,h2,h5,h6,e3,h8,h9,h3,hn,h7⟩⟩
theorem gN.of_one(h:gN σ [k] b):∃v,b=[v]/\wD σ k v:=by
 obtain⟨v,rfl⟩:=tU h.1.symm;exact⟨v,rfl,h.2 0 k v rfl rfl⟩
theorem gN.of_two{l:A}(h:gN σ [k,l] b):∃v v',b=[v,v']/\wD σ k v/\wD σ l v':=by
 match b,h with
 | [v,v'],h=>exact⟨v,_,rfl,h.2 0 k v rfl rfl,h.2 1 l _ rfl rfl⟩
 | [],h=>have:=h.1;simp at this
 | [_],h=>have:=h.1;simp at this
 | _::_::_::_,h=>have:=h.1;simp at this
theorem gN.of_nil(h:gN σ [] b):b=[]:=Kw h.1.symm
theorem mN.behind{f:aQ}{i:bP}(h:mN u Ts σ x f i base ts ps a b)(TC:¬i.op=11)(TM:¬i.op=14){sl st:I PV}(Tn:gN σ' (f.aH++f.aI) sl)(Tj:gN σ' (base++ps) st):xk u Ts σ' ⟨x.fn,x.pos+1,sl,st⟩:=by
 have hm:(if x.pos+1<D f.code then Y (x.pos+1) else G)∈ch f x.pos i:=by
  unfold ch;by_cases d:i.op=12<;>simp[TC,TM,d]
 obtain⟨t',e1,e2⟩:=h.next _ hm;have F:=by
  split at e1
  · exact(tz e1).symm
  cases e1
 subst F;exact⟨f,_,h.func,e2,Tn,Tj,h.short'⟩
theorem mN.jump{f:aQ}{i:bP}(h:mN u Ts σ x f i base ts ps a b)(TC:i.op=11\/i.op=12){sl st:I PV}(d:gN σ' (f.aH++f.aI) sl)(F:gN σ' (base++ps) st):xk u Ts σ' ⟨x.fn,i.a.toNat,sl,st⟩:=by
 have hm:Y i.a.toNat∈ch f x.pos i:=by
  unfold ch;rcases TC with e|e<;>simp[e]
 obtain⟨t',e1,e2⟩:=h.next _ hm;cases e1
 exact⟨f,_,h.func,e2,d,F,h.short'⟩
theorem cD(a:I PV)(v:PV):(a++[v]).getD (D (a++[v])-1) lX=v:=by
 simp[mh]
theorem dD(a:I PV)(v:PV):(a++[v]).take (D (a++[v])-1)=a:=Q6
theorem ik(a:I PV)(v v':PV):(a++[v,v']).getD (D (a++[v,v'])-1) lX=v':=by
 simp[mh,Ag]
theorem gL(a:I PV)(v v':PV):(a++[v,v']).getD (D (a++[v,v'])-2) lX=v:=by
 simp[mh]
theorem io(a:I PV)(v v':PV):(a++[v,v']).take (D (a++[v,v'])-2)=a:=Q6
theorem kW(a b:I PV)(n:R)(h:D b=n):(a++b).take (D (a++b)-n)=a:=by subst h;simp
theorem kX(a b:I PV)(n:R)(h:D b=n):(a++b).drop (D (a++b)-n)=b:=by subst h;simp
def JB(u:aK)(Ts:R->R->By (I A))(heap:R)(m:PM):jP->Prop
 | .go m'=>∃σ',qg u Ts σ' m'/\D m'.blks<=D m.blks+1
 | .stop why _ m'=>m'=m/\(why=6\/why=8\/why=9\/why=10)
def Hx(u:aK)(Ts:R->R->By (I A))(heap:R)(σ:I A)(m:PM):jP->Prop
 | .go m'=>(qg u Ts σ m'/\D m'.blks<=D m.blks+1)\/∃i,lT u m.top=Y i/\qg u Ts (σ++[i.a]) m'/\D m'.blks<=D m.blks+1
 | .stop why _ m'=>m'=m/\(why=6\/why=8\/why=9\/why=10)
theorem qg.upd(h:qg u Ts σ m){x:eZ}(F:xk u Ts σ x)(d:x.fn=m.top.fn):qg u Ts σ ⟨x,m.low,m.blks,m.taken,m.told⟩:=⟨F,by show nA u Ts σ x.fn m.low;rw[d];exact h.low,by show ∃f,u.aG[AX x.fn m.low]? =Y f/\f.result=0;rw[d];exact h.main,h.deep,h.aA,h.blks,h.told⟩
theorem OK{p:Prop}(h:p:=by
 have hc:u.aG[iy.a.toNat]? =Y g:=by rw[k4];exact k5
 cases Xg with
 | call g' _ _ BY=>rw[hc]at BY;cases BY;exact⟨rfl,rfl⟩
 | reck e1 e2=>omega
 | _=>omega):p:=h
theorem Pp{p:Prop}(h:p:=by exact .inl ⟨h.upd (hh.behind Q5 Q5 hL (by rw[hS,hU.of_nil,Ir];exact hB.push (.num _ _ _))) rfl,Ll _⟩):p:=h
theorem PR{p:Prop}(h:p:=by exact .inl ⟨h.upd (hh.behind Q5 Q5 hL (hB.push (.num _ _ _))) rfl,Ll _⟩):p:=h
theorem PW{p:Prop}(h:p:=by exact .inl ⟨h.upd (hh.behind Q5 Q5 hL (by rw[Ir];exact hB)) rfl,Ll _⟩):p:=h
theorem RH{p:Prop}(h:p:=by unfold lT;rw[hh.func];exact hh.code):p:=h
theorem xl(heap:R)(hu:rD u)(ai:u.aC=[])(hT:∀n f,u.aG[n]? =Y f->lf u f (Ts n))(h:qg u Ts σ m):Hx u Ts heap σ m (cQ u heap m):=by
 obtain⟨f,i,base,ts,ps,a,b,hh⟩:=rM hu ai hT h.top;have av:lT u m.top=Y i:=RH
 unfold cQ;rw[av];simp only;have hS:=hh.stack;have hB:=hh.below;have hU:=hh.upon;have hL:=hh.slots;unfold eW;cases hh.ins with
 | const e h0 hc=>
  simp only[e,KA];exact Pp
 | small e=>
  simp[e]
  exact Pp
 | load k e h0 d=>
  simp only[e];refine .inl ⟨h.upd (hh.behind Q5 Q5 hL (by rw[hS,hU.of_nil,Ir];exact hB.push (hL.getD d))) rfl,Ll _⟩
 | store k e h0 d=>
  obtain⟨v,rfl,hv⟩:=hU.of_one;simp only[e,hS,cD,dD];exact .inl ⟨h.upd (hh.behind Q5 Q5 (hL.set d hv) (by rw[Ir];exact hB)) rfl,Ll _⟩
 | pop k e=>
  obtain⟨v,rfl,hv⟩:=hU.of_one;simp only[e,hS,cD,dD];exact PW
 | dup k e=>
  obtain⟨v,rfl,hv⟩:=hU.of_one;simp only[e,hS,cD,dD];exact .inl ⟨h.upd (hh.behind Q5 Q5 hL (by rw[show base++[k,k]=base++[k]++[k] by simp];exact(hB.push hv).push hv)) rfl,Ll _⟩
 | reck e1 e2=>
  obtain⟨v,v',rfl,hv,ak⟩:=hU.of_two;have n0:¬i.op=0:=Q5;have n1:¬i.op=1:=Q5;have n2:¬i.op=2:=Q5;have n3:¬i.op=3:=Q5;have n4:¬i.op=4:=Q5;have n5:¬i.op=5:=Q5;have n6:¬i.op=11:=Q5;have n7:¬i.op=12:=Q5;have n8:¬i.op=13:=Q5;have n9:¬i.op=14:=Q5;have a0:¬i.op=15:=Q5;have aD:¬i.op=16:=Q5;have ay:¬i.op=17:=Q5;have aI:¬i.op=18:=Q5;have aF:¬i.op=19:=Q5;have a4:¬i.op=20:=Q5;simp only[n0,n1,n2,n3,n4,n5,n6,n7,n8,n9,a0,aD,ay,aI,aF,a4,L3,hS,ik,gL,io];exact PR
 | jump e h0 h1=>
  simp only[e];exact .inl ⟨h.upd (hh.jump (.inl e) hL (by rw[hS,hU.of_nil];simpa using hB)) rfl,Ll _⟩
 | zero e h0 h1=>
  obtain⟨v,rfl,hv⟩:=hU.of_one;simp only[e,hS,cD,dD];by_cases hz:v.num=0
  · simp only[hz,KA];exact .inl ⟨h.upd (hh.jump (.inr e) hL (by simpa using hB)) rfl,Ll _⟩
  simp only[hz,L3];exact PW
 | call g e h0 hg=>
  simp only[e,hS,hg];by_cases hd:D m.low=99
  · simp only[hd,KA];exact⟨rfl,Q6⟩
  simp only[hd,L3];rw[kX a b _ hU.1.symm,kW a b _ hU.1.symm];have az:=(hT _ _ hg).zero;refine .inl ⟨⟨⟨g,_,hg,az,hU.app (.zeros _ _),.nil _,Q6⟩,⟨⟨f,i,g,_,hh.func,hh.code,e,rfl,hg,hh.tab,hL,?_,hh.short⟩,h.low⟩,h.main,?_,h.aA,h.blks,h.told⟩,Ll _⟩
  · rw[show(base++g.aH).take _=base by simp];exact hB
  have:=h.deep
  show D m.low+1<=99
  omega
 | ret e=>
  obtain⟨v,rfl,hv⟩:=hU.of_one;simp only[e,hS,cD];cases ae:m.low with
  | nil=>exact⟨rfl,Q6⟩
  | cons y l=>
   have hw:=h.low;rw[ae]at hw;obtain⟨⟨fy,iy,g,s,k1,k2,k3,k4,k5,k6,k7,k8,k9⟩,hl2⟩:=hw;have UT:=by have:=hh.func;rw[this]at k5;exact(tz k5).symm
   subst UT;have aE:=(hT _ _ k1).step _ _ k6;obtain⟨i2,s2,al,ax,T9⟩:=aE;rw[k2]at al;cases al;obtain⟨F,a3,aM,Xg,e1,e2,h6,h7⟩:=vQ hu ai (dL k1) (dL k2) ax;have a2:a3=g.aH/\aM=[g.result]:=by
    exact OK
   obtain⟨rfl,rfl⟩:=a2;subst e1 e2;have aL:(F++g.aH).take (D (F++g.aH)-D g.aH)=F:=Q6;rw[aL]at k8;have hm:(if y.pos+1<D fy.code then Y (y.pos+1) else G)∈ch fy y.pos iy:=by
    unfold ch;simp[k3]
   obtain⟨t',f1,f2⟩:=T9 _ hm;have f3:=by
    split at f1
    · exact(tz f1).symm
    cases f1
   subst f3;have ad:=h.main;rw[ae]at ad;refine .inl ⟨⟨⟨_,_,k1,f2,k7,k8.push hv,h6⟩,hl2,ad,?_,h.aA,h.blks,h.told⟩,Ll _⟩;have:=h.deep
   rw[ae]at this;simp at this
   show D l<=99
   omega
 | new _ e h1 hs=>
  have TA:u.aA.getD (i.a-1).toNat []=ts:=by rw[mh,hs];rfl
  simp only[e,hS,TA];rw[kX a b _ hU.1.symm,kW a b _ hU.1.symm];simp only[show ¬(15:A)=0 by decide,show ¬(15:A)=1 by decide,show ¬(15:A)=2 by decide,show ¬(15:A)=3 by decide,show ¬(15:A)=4 by decide,show ¬(15:A)=5 by decide,show ¬(15:A)=11 by decide,show ¬(15:A)=12 by decide,show ¬(15:A)=13 by decide,show ¬(15:A)=14 by decide,L3,KA];generalize (if m.taken+(D ts+1)>heap then cT m else m.taken)=tk;by_cases hr:tk+(D ts+1)<=heap
  · rw[mI hr];have hlen:=h.aA;refine .inr ⟨i,av,⟨hh.behind Q5 Q5 (hL.more _) ((hB.more _).push λj hj=>?_),h.low.more _,h.main,h.deep,by simp[hlen],λj k fs d hj=>?_,h.told⟩,?_⟩
    · cases hj
      exact⟨Q5,by rw[<-hlen];simp⟩
    · by_cases Vq:j<D σ
      · rw[ze Vq]at d;rw[ze (hlen▸Vq)]at hj;obtain⟨s2,q1,q2,q3⟩:=h.blks j k _ d hj;exact⟨_,q1,q2,q3.more _⟩
      rw[Ag Q5]at d;rw[Ag Q5,<-hlen]at hj;have aB:=by
       have:=(dm.1 d).1
       simp at this;omega
      rw[aB]at d hj;simp at d hj
      subst d hj;exact⟨_,h1,hs,hU.more _⟩
    show D (m.blks++[b])<=_
    simp
  rw[eP hr];exact⟨rfl,Q6⟩
 | get s k e h1 h0 hs d=>
  obtain⟨v,rfl,hv⟩:=hU.of_one;simp only[e,hS,cD,dD];cases hb:v.blk with
  | none=>exact⟨rfl,Q6⟩
  | some j=>
   obtain⟨q1,q2⟩:=hv j hb;have af:j<D m.blks:=by rw[<-h.aA];exact(dm.1 q2).1
   obtain⟨s2,p1,p2,p3⟩:=h.blks j _ _ q2 (dW af);rw[hs]at p2;cases p2;have TA:m.blks.getD j []=m.blks[j]:=by rw[mh,dW af];rfl
   refine .inl ⟨h.upd (hh.behind Q5 Q5 hL (hB.push ?_)) rfl,Ll _⟩;rw[TA];exact p3.getD d
 | set s k e h1 h0 hs d=>
  obtain⟨v,v',rfl,hv,ak⟩:=hU.of_two;simp only[e,hS,ik,gL,io];cases hb:v.blk with
  | none=>exact⟨rfl,Q6⟩
  | some j=>
   obtain⟨q1,q2⟩:=hv j hb;have af:j<D m.blks:=by rw[<-h.aA];exact(dm.1 q2).1
   obtain⟨s2,p1,p2,p3⟩:=h.blks j _ _ q2 (dW af);rw[hs]at p2;cases p2;have TA:m.blks.getD j []=m.blks[j]:=by rw[mh,dW af];rfl
   refine .inl ⟨⟨hh.behind Q5 Q5 hL (by rw[Ir];exact hB),h.low,h.main,h.deep,by simp[h.aA],λj2 k2 fs TN Vq=>?_,h.told⟩,Q6⟩;simp only[MJ]at Vq;by_cases ej:j=j2
   · subst ej;simp only[af,KA]at Vq;rw[TA]at Vq;cases Vq
     rw[q2]at TN;cases TN;exact⟨s,h1,hs,p3.set d ak⟩
   simp only[ej,L3]at Vq;exact h.blks _ _ _ TN Vq
 | nil e h1=>
  simp only[e];exact .inl ⟨h.upd (hh.behind Q5 Q5 hL (by rw[hS,hU.of_nil,Ir];exact hB.push (.zero _ _))) rfl,Ll _⟩
 | isnil e h1=>
  obtain⟨v,rfl,hv⟩:=hU.of_one;simp only[e,hS,cD,dD];exact PR
 | out e=>
  obtain⟨v,rfl,hv⟩:=hU.of_one;simp only[e,hS,cD,dD];refine .inl ⟨⟨hh.behind Q5 Q5 hL (by rw[Ir];exact hB),h.low,h.main,h.deep,h.aA,h.blks,?_⟩,Ll _⟩;have:=h.told
  show D (if D m.told<1000 then m.told++[v.num] else m.told)<=1000
  split
  · simp;omega
  omega
theorem wX(heap:R)(hu:rD u)(d:u.aC=[])(F:∀n f,u.aG[n]? =Y f->lf u f (Ts n))(h:qg u Ts σ m):JB u Ts heap m (cQ u heap m):=by
 have:=xl heap hu d F h
 cases e:cQ u heap m with
 | go m'=>
  rw[e]at this;rcases this with h|⟨i,_,h⟩
  · exact⟨_,h⟩
  exact⟨_,h⟩
 | stop a b c=>rw[e]at this;exact this
open Go.RowKit
attribute [local go_sem ↓] Go.wp_at_zero Go.wp_at_succ
theorem Tryz.sliceNe(a:Addr)(n c:R)(w:T):(binOp .eql 178 (J (Y a) n c) (J G 0 0)).run Tryz.prog w=.ok (.bool AS) w:=Q7
theorem Tryz.sliceEq(w:T):(binOp .eql 178 (J G 0 0) (J G 0 0)).run Tryz.prog w=.ok (.bool AT) w:=Q7
theorem sR(g off n cap:R)(ys:I M)(w:T)(hR:oK w (J (Y (Q g off G)) n cap) n ys)(hl:D ys=n*2)(h1:∀u∈ys,u.oneCell'=AT)(hn:n<=100000):
 Calls prog 134 #[J (Y (Q g off G)) n cap] w (FM 184 2 n ys w):=by
 have F:=(Gr.refl w).alloc (X #[] 184);have ho:(w.alloc _).ownsRow _ 184 2 _ 0 []:=World.ownsRow_lit w #[] 0 lj Lz rfl;have ae:oK (w.alloc (X #[] 184)) (J (Y (Q g off G)) n cap) n ys:=by
  obtain⟨ao,cp,e,hc⟩:=hR;refine⟨_,_,e,λj u hj=>?_⟩;obtain⟨b,o,e1,e2⟩:=hc j u hj;exact⟨b,o,e1,F.cell e2 Q6⟩
 obtain⟨v6,w6,ai,ad,d,ay⟩:=fG (ty:=178) _ _ _ Tryz.infVal Tryz.uVal rfl Q9 Q9 ho ae hl h1 Q5 Q6;obtain⟨av,ax,rfl⟩:=aR ad;have ak:=aJ ai;have al:=aJ ad;have af:U (Gr w _):=aJ ⟨d.os.trans F.os,d.tape.trans F.tape,d.output.trans F.output,wz F.size d.size,λi hi No=>(d.block i (tu hi F.size) (by simp[Value.ownBlock];omega)).trans (F.block i hi No)⟩;have Wh:=λa (n c) w=>Tryz.sliceNe a n c w
 go_enter func134,ntmps134
 go_wp2_with(at_builtin;refine CH _ rfl _ _ _ _ rfl _ _ rfl rfl _ _ ak.j ?_)
 go_ret
 exact⟨_,rfl,by simpa using al.j,af⟩
theorem At(w:T):Calls prog 134 #[J G 0 0] w (FM 184 2 0 [] w):=by
 have d:=λw=>Tryz.sliceEq w
 go_enter func134,ntmps134
 go_wp2_with fail;go_ret
 exact⟨_,rfl,B5 _ _ _ _,G0⟩
def Km(w:T)(fb:R)(vc:M)(pos:A)(vs vk:M)(m c:R)(xs ys:I M)(x:Ending)(w':T):Prop:=∃v vk',x=.returned v/\w'.ownsRow w.heap.size 184 2 v c ys/\qX w' fb vc pos vs vk'/\w'.ownsRow 0 184 2 vk' m xs/\vk'.ownBlock=vk.ownBlock/\Iu w w' fb G
theorem CX(w:T)(fb:R)(vc:M)(pos:A)(vs:M)(g m c cap:R)(xs ys:I M)(hF:qX w fb vc pos vs (J (Y (Q g 0 G)) (m+c) cap))(ho:w.ownsRow 0 184 2 (J (Y (Q g 0 G)) (m+c) cap) (m+c) (xs++ys))(hx:D xs=m*2)(h1:∀u∈ys,u.oneCell'=AT)(No:¬g=fb)(hn:m+c<=100000):
 Calls prog 84 #[.pointer (Y (Q fb 0 G)),O Z (c:A)] w (Km w fb vc pos vs (J (Y (Q g 0 G)) (m+c) cap) m c xs ys):=by
 have hfb:=(eJ.1 hF).1;obtain⟨cur,F,aE,aC,ai,aD⟩:∃cur,w.heap[g]? =Y (X cur _ _)/\m+c<=cap/\cap<=maxLen/\cur.size=cap*2/\cur.toList.take _=xs++ys:=by
  rcases ho.2 with⟨h,_⟩|⟨g',Un,cur,e,_,h2,h3,h4,h5,h6⟩
  · cases h
  simp only[jj,qN,Ij,I7,Bt]at e;obtain⟨rfl,rfl⟩:=e;exact⟨_,h2,h3,h4,h5,h6⟩
 have Tz:D ys=c*2:=by have:=ho.1;rw[fe,hx]at this;omega
 have ax:oK w (J _ c (cap-m)) c ys:=⟨_,_,rfl,λj u hj=>⟨g,m*2,rfl,by
  have aI:=(dm.1 hj).1;rw[ho.cellAt _ Q5,Ag Q5,hx,show m*2+j-m*2=j by omega];exact hj⟩⟩
 have how:w.ownsRow 0 _ 2 _ m _:=⟨hx,.inr ⟨g,_,_,rfl,Lz,F,Q5,aC,ai,by
  have:(cur.toList.take ((m+c)*2)).take (m*2)=(xs++ys).take (m*2):=by rw[aD]
  rw[List.take_take,Mn Q5]at this;rw[this,<-hx,MO]⟩⟩
 have aA:=aJ (sR g _ c _ _ w ax Tz h1 Q5);have az:U (cap=m->Calls _ _ #[J _ c 0] w (FM _ 2 c ys w)):=aJ (λe=>by
  have av:c=0:=Q5;have ay:ys=[]:=Kw Q5;subst av ay;exact sR g 0 0 0 _ w ⟨_,_,rfl,λj u hj=>by simp at hj⟩ rfl Q6 Q5)
 have HF:=aJ hF;have TY:=aJ how;have af:=(eJ.1 F).1;have f3:H w (Q fb 3 G)=Y (J (Y (Q g 0 G)) (m+c) cap):=by rw[aP hF];rfl
 have aG:Z.wrap (m+c-c)=m:=Qq
 have aH:Z.wrap (((m+c:R):A)-c)=m:=Qq
 have aF:Z.wrap _=m:=Q_;have b1:m<=(m:A)+c:=Q5;have b3:(m:A)<=cap:=Q5;have b5:m+c-m=c:=Q5;go_enter func84,ntmps84
 go_wp2_with fail
 all_goals
  first|refine aA.j.mono ?_|refine(az.j Q8).mono ?_
  rintro x w2 ⟨v,rfl,ad,IT⟩;obtain⟨va,al,rfl⟩:=aR ad;have d:=(IT.block fb hfb Q6).trans HF.j;have m3:H w2 (Q fb 3 G)=Y (J (Y (Q g 0 G)) (m+c) cap):=by rw[aP d];rfl
  have mz:w2.frozen? ⟨fb,3,G⟩=AS:=aq d;have aB:=aJ d;have ae:=aJ ad;have OF:=aJ IT;go_wp2_with fail;go_ret
  refine⟨J va c al,J (Y (Q g 0 G)) m cap,rfl,?_,?_,?_,rfl,⟨OF.j.os,OF.j.tape,OF.j.output,by simpa using OF.j.size,λb hb h1 _=>(dp _ _ _ _ h1).trans (OF.j.block b hb Q6)⟩⟩
  · exact c_ ae.j λq hq=>dp _ _ _ _ (by show q≠fb;have:=(ae.j.lt q hq).1;omega)
  · exact(wS w2 fb 3 _ _ _ aB.j).trans (by first|(simp;done)|(simp;omega))
  refine c_ TY.j λq hq=>?_;have ak:g=q:=by simpa[Value.ownBlock]using hq
  subst ak;exact(dp _ _ _ _ No).trans (OF.j.block g af Q6)
theorem D5(w:T)(fb:R)(vc:M)(pos:A)(vs:M)(hF:qX w fb vc pos vs (J G 0 0)):
 Calls prog 84 #[.pointer (Y (Q fb 0 G)),O Z 0] w (Km w fb vc pos vs (J G 0 0) 0 0 [] []):=by
 have hfb:=(eJ.1 hF).1;have f3:H w (Q fb 3 G)=Y (J G 0 0):=by rw[aP hF];rfl
 have HF:=aJ hF;go_enter func84,ntmps84
 go_wp2_with fail;refine(At _).mono ?_;rintro x w2 ⟨v,rfl,F,IT⟩;obtain⟨va,af,rfl⟩:=aR F;have d:=(IT.block _ hfb Q6).trans HF;have m3:H w2 (Q fb 3 G)=Y (J G 0 0):=by rw[aP d];rfl
 have mz:w2.frozen? ⟨_,3,_⟩=AS:=aq d;have ae:=aJ d;have ad:=aJ F;have OF:=aJ IT;go_wp2_with fail;go_ret
 refine⟨J _ 0 _,_,rfl,?_,?_,B5 _ _ _ _,rfl,⟨OF.os,OF.tape,OF.output,by simpa using OF.j.size,λb hb h1 _=>(dp _ _ _ _ h1).trans (OF.block b hb Q6)⟩⟩
 · exact c_ ad λq hq=>dp _ _ _ _ (by show q≠fb;have:=(ad.lt q hq).1;omega)
 exact(wS _ _ 3 _ _ _ ae).trans Q6
theorem CR(w:T)(fb:R)(vc:M)(pos:A)(vs vk:M)(m c:R)(xs ys:I M)(hF:qX w fb vc pos vs vk)(ho:w.ownsRow 0 184 2 vk (m+c) (xs++ys))(hx:D xs=m*2)(h1:∀u∈ys,u.oneCell'=AT)(No:¬vk.ownBlock=Y fb)(hn:m+c<=100000):
 Calls prog 84 #[.pointer (Y (Q fb 0 G)),O Z (c:A)] w (Km w fb vc pos vs vk m c xs ys):=by
 have d:=ho;rcases ho.2 with⟨h,h2⟩|⟨g,cap,cur,e,_⟩
 · have h3:=ho.1;have hl:m+c=0:=by simpa using h2
   have ad:m=0:=Q5;have F:c=0:=Q5;subst ad F;obtain rfl:xs=[]:=Kw Q5;obtain rfl:=Kw (by simpa using h3);subst h;exact D5 w _ _ _ _ hF
 subst e;exact CX w _ _ _ _ g m c _ _ _ hF d hx h1 (λe=>No (by rw[e];rfl)) hn
theorem rg{P:Program}(w:T)(t tn ty e:TypeId)(i:TypeInfo)(z:M)(kq kn:IntKind)(ht:P.underlying t=Y (.slice e))(al:P.underlying tn=Y (.int kn))(hi:P.info? e=Y i)(hz:i.zero=Y z)
 (g d F:R) (cur:Array M) (hg:w.heap[g]? =Y (X cur e (0,0))) (k:R) (h0:0<k) (hs:0<i.size) (VR:z.cells.size=i.size) (h1:∀u∈(Builtin.zeroCells z.cells k).toList,u.oneCell'=AT)
 (ad:d+k<=F) (ae:d*i.size+k*i.size<=cur.size) (av:(k:A)<=9223372036854775807) (ax:k*i.bytes<=281474976710656):
 (Builtin.append_ #[t,tn] ty #[J (Y (Q g 0 G)) d F,.int kq k]).run P w =
  .ok (J (Y (Q g 0 G)) (d+k) F) (w.setRow g (cur.toList.take (d*i.size)++(Builtin.zeroCells z.cells k).toList++cur.toList.drop (d*i.size+(Builtin.zeroCells z.cells k).toList.length)).toArray):=by
 have hk:k≠0:=Q5;have hw:Z.wrap k=k:=by rw[IntKind.wrap_i64];omega
 have af:¬((k:A)<0):=Q5;have ak:¬(k*i.size=0):=Nat.mul_ne_zero hk Q5;have ai:¬(281474976710656<(k:A)*i.bytes):=by
  rw[<-Int.natCast_mul];omega
 have Tj:=run_storeCells_at P g _ e _ 0 _ w hg (by rw[Aj,size_zeroCells,VR];simpa using ae) h1;simp only[Mo]at Tj;simp[Builtin.append_,Lr ht,Lr al,sizeOf,typeInfo,zeroValue,hi,hz,asInt,asIntOf,hw,af,ak,ai,ad,Addr.add_lit,Tj]
def zV:R->I M
 | 0=> []
 | k+1=>O Z 0 :: .pointer G::zV k
theorem vK:∀k,D (zV k)=k*2
 | 0=>rfl
 | k+1=>by simp only[zV,Jk,vK k];omega
theorem Hk:∀(k j:R),j<k*2->(zV k)[j]? =Y (if j%2=0 then O Z 0 else .pointer G)
 | 0,j,h=>by omega
 | k+1,0,h=>rfl
 | k+1,1,h=>rfl
 | k+1,j+2,h=>by
  have e:(zV (k+1))[j+2]? =(zV k)[j]? :=rfl;rw[e,Hk k j Q5,show(j+2)%2=j%2 by omega]
theorem vj(k:R):(Builtin.zeroCells (Value.agg #[O Z 0,.pointer G]).cells k).toList=zV k:=by
 have hs:(Value.agg #[.int _ 0,.pointer G]:M).cells=#[O Z 0,.pointer _]:=rfl;apply Mq
 intro j;by_cases d:j<k*2
 · rw[Hk k j d,hs,Lk];unfold Builtin.zeroCells;have F:(#[O Z 0,.pointer G]:Array M).size=2:=rfl;simp only[F,Array.getElem?_map,Array.getElem?_range,d,KA,Mb];rcases(show j%2=0\/j%2=1 by omega) with e|e
   · rw[e];rfl
   rw[e];rfl
 have a:(zV k)[j]? =G:=AK (by rw[vK];omega);have b:(Builtin.zeroCells (Value.agg _).cells k).toList[j]? =G:=AK (by rw[Aj,size_zeroCells,hs];show k*2<=j;omega);rw[a,b]
theorem Ht(k:R):∀u∈zV k,u.oneCell'=AT:=by
 induction k with
 | zero=>intro u hu;cases hu
 | succ k d=>
  intro u hu;simp only[zV,Ce]at hu;rcases hu with rfl|rfl|hu
  · rfl
  · rfl
  exact d u hu
theorem Tryz.uInt_:Tryz.prog.underlying 3=Y (.int Z):=Q7
theorem Cm{w:T}{base k:R}{v:M}(ty:TypeId)(Tf:w.ownsRow base 184 2 v n xs)(hn:n+k<=100000)(hb:base<=w.heap.size):
 ∃v' w',(Builtin.append_ #[178,3] ty #[v,O Z (k:A)]).run prog w=.ok v' w'/\w'.ownsRow base 184 2 v' (n+k) (xs++zV k)/\w.grownBy w' v.ownBlock/\(v'.ownBlock=v.ownBlock\/v'.ownBlock=Y w.heap.size):=by
 obtain⟨i,hi,hz,S7,Vk⟩:=Lt Tryz.infVal;have hw:Z.wrap k=k:=by rw[IntKind.wrap_i64];omega
 have hlen:D (xs++zV k)=(n+k)*2:=by rw[fe,Tf.1,vK,LV]
 by_cases hk:k=0
 · subst hk;have af:Z.wrap 0=0:=by decide
   refine⟨v,w,?_,by simpa[zV]using Tf,⟨rfl,rfl,rfl,lj,λ_ _ _=>rfl⟩,.inl rfl⟩;rcases Tf.2 with⟨rfl,rfl⟩|⟨g,cp,cur,rfl,_,_,ai,_⟩
   · simp[Builtin.append_,Lr Tryz.uVal,Lr Tryz.uInt_,Go.sizeOf,typeInfo,hi,asInt,asIntOf,af]
   simp[Builtin.append_,Lr Tryz.uVal,Lr Tryz.uInt_,Go.sizeOf,typeInfo,hi,asInt,asIntOf,af,ai,storeCells]
 have grown:∀(old:R) (row:By _),
  (w.drew.alloc (X (xs.toArray++Builtin.zeroCells (Value.agg #[O Z 0,.pointer G]).cells k++Builtin.zeroCells (Value.agg #[O Z 0,.pointer G]).cells (grownCap w (n+k) old 184-(n+k))) 184)).ownsRow base 184 2 (J (Y (Q w.heap.size 0 G)) (n+k) (grownCap w (n+k) old 184)) (n+k) (xs++zV k)/\
  w.grownBy (w.drew.alloc (X (xs.toArray++Builtin.zeroCells (Value.agg #[O Z 0,.pointer G]).cells k++Builtin.zeroCells (Value.agg #[O Z 0,.pointer G]).cells (grownCap w (n+k) old 184-(n+k))) 184)) row:=by
  intro old row;have ak:=grownCap_ge w (n+k) old 184;have ae:=grownCap_le_maxLen w (n+k) old 184 QB;have VR:(Value.agg #[O Z 0,.pointer G]:M).cells.size=2:=rfl;refine⟨⟨hlen,.inr ⟨_,_,_,rfl,hb,jZ _ _,ak,ae,?_,?_⟩⟩,⟨rfl,rfl,rfl,Q6,λq hq _=>(zp _ _ G).block q hq Q6⟩⟩
  · simp only[Array.size_append,M9,size_zeroCells,VR,Tf.1];generalize grownCap w _ _ _=q at ak;omega
  simp only[Array.toList_append,vj];generalize zV (grownCap w _ _ _-(n+k))=r;rw[<-hlen];exact MO
 rcases Tf.2 with⟨rfl,rfl⟩|⟨g,cap,cur,rfl,av,hg,ai,ae,al,ad⟩
 · have hx:=Kw (by simpa using Tf.1);subst hx;have hr:=Lib.run_append_nil_zeros w _ 3 ty _ i _ Z _ Tryz.uVal Tryz.uInt_ hi hz k Q5 Q5 Q5 (by rw[Vk];omega);have d:=grown 0 (Value.ownBlock (J G 0 0));simp only[Aq,Kj,Array.empty_append]at d |-;exact⟨_,_,hr,d.1,d.2,Or.inr rfl⟩
 by_cases F:n+k<=cap
 · have hr:=rg w _ 3 ty _ i _ Z _ Tryz.uVal Tryz.uInt_ hi hz g n _ _ hg k Q5 Q5 (by rw[S7];rfl) (by rw[vj];exact Ht k) F (by rw[S7,al];omega) Q5 (by rw[Vk];omega);rw[vj,S7]at hr;refine⟨_,_,hr,⟨hlen,.inr ⟨g,_,_,rfl,av,Kg w g _ _ _ _ hg,F,ae,?_,?_⟩⟩,⟨rfl,rfl,rfl,Q6,λq _ hq=>Kk w g q _ λe=>hq (by simp[Value.ownBlock,e])⟩,Or.inl rfl⟩
   · simp only[M9,fe,Bc,J2,Aj,vK];omega
   rw[ad,<-hlen];exact MO
 have holds:∀j u,xs[j]? =Y u->H w.drew _=Y u:=Tf.cells (g:=g) rfl;have hf:=run_firstCells_some (P:=prog) _ i.size n _ n cap _ (by rw[S7];exact Tf.1) holds;have hr:=Lib.run_append_grow_zeros w _ 3 ty _ i _ Z _ Tryz.uVal Tryz.uInt_ hi hz _ n _ _ hf k Q5 Q5 Q5 Q5 (by rw[Vk];omega) (growslice_fits Q5 (by rw[Vk];omega));have d:=grown cap (Value.ownBlock (J (Y (Q g 0 G)) n cap));exact⟨_,_,hr,d.1,d.2,Or.inr rfl⟩
def LC(w:T)(B:R)(vc vp:M)(n:R)(xs:I M)(x:Ending)(w':T):Prop:=∃nb vs,x=.returned (.pointer (Y (Q nb 0 G)))/\qX w' nb vc 0 vs (J G 0 0)/\w'.ownsRow B 184 2 vs n xs/\(vs.ownBlock=vp.ownBlock\/∃k,vs.ownBlock=Y k/\w.heap.size<=k)/\w.heap.size<=nb/\¬vs.ownBlock=Y nb/\w.grownBy w' vp.ownBlock
theorem vS(w:T)(B:R)(fa la ca pa:By Addr)(fn F nl lc cn cc n pc:R)(res:A)(xs:I M)(ho:w.ownsRow B 184 2 (J pa n pc) n xs)(hB:B<=w.heap.size)(hn:n+nl<=100000):
 Calls prog 82 #[.agg #[J fa fn F,O Z res,J la nl lc,J ca cn cc],J pa n pc] w (LC w B (J ca cn cc) (J pa n pc) (n+nl) (xs++zV nl)):=by
 have g1:=(Gr.refl w).alloc (X #[J fa fn F,O Z res,J la nl lc,J ca cn cc] 74);have S9:=jZ w (X #[J fa fn F,O Z res,J la nl lc,J ca cn cc] 74);have Uh:(w.alloc (X #[J fa fn F,O Z res,J la nl lc,J ca cn cc] 74)).heap.size=w.heap.size+1:=Q6;have HO:=aJ ho;have d:=aJ g1;have UK:=aJ Uh;have KS:U (∀w':T,w'.heap[w.heap.size]? =Y (X #[J fa fn F,O Z res,J _ _ lc,J ca cn _] 74 (0,0))->H w' ⟨_,3,_⟩=Y (J _ _ cc)/\H w' ⟨_,2,_⟩=Y (J la nl _)):=aJ λw' e=>⟨Sv,Sv⟩;have ad:=aJ S9;go_enter func82,ntmps82
 go_upto_region 1 with fail
 generalize w.alloc _=W1 at d UK ad |-;refine xE (S:=(λw'=>H w' _=Y _/\H w' _=Y _)) Q7 (KS _ ad) λhH=>?_;refine tL 0 ?_;refine tL 1 ?_;refine tL 2 ?_;refine tL 3 ?_;refine tL 4 ?_;refine tL 5 ?_;obtain⟨v6,w6,ax,ak,ae,az⟩:=Cm 178 (eO HO (d.drew)) hn (wz hB d.size);obtain⟨aA,aB,rfl⟩:=aR ak;have al:=aJ ak;have av:=aJ ae;have ay:=aJ az;have af:U (w.heap.size<w6.heap.size):=aJ (by have h7:W1.heap.size<=w6.heap.size:=ae.size;have:=UK.j;omega);have TJ:=(ae.block _ (by show w.heap.size<W1.heap.size;have:=UK.j;omega) λe=>by have:=(HO.lt _ e.symm).2;omega).trans ad;have ai:=aJ TJ;refine bQ (i:=6) rfl Q7 λK hK=>?_;refine aW bZ (KO _ _ _ _ _ rfl _ _ fZ fZ _ _ ax ?_);refine hK _ _ (KS _ ai) λhH=>?_;try simp only[Act.put,sA,s0,s1]
 refine tL 7 ?_;refine bQ (i:=8) rfl Q7 λK hK=>?_;refine aW bZ ?_;have HK:=aJ hK;go_simp
 refine HK _ _ (KS _ (((zp _ _ G).block _ af Q6).trans ai)) λhH=>?_;try simp only[Act.put,sA,s0,s1]
 refine tL 9 ?_;refine Ev Q7 ?_ _;go_wp2_with fail;go_ret
 have aC:=af.j;refine⟨_,_,rfl,jZ _ _,eO al G5,?_,Q5,?_,?_⟩
 · rcases ay.j with e|e
   · exact .inl e
   exact .inr ⟨_,e,by have:=d.size;show w.heap.size<=W1.heap.size;omega⟩
 · exact λe=>by have:=(al.lt _ e).2;omega
 have h6:=av.j;exact⟨h6.os.trans d.os,h6.tape.trans d.tape,h6.output.trans d.output,by have:=d.size;have:=h6.size;simp;have h7:W1.heap.size<=w6.heap.size:=h6.size;omega,λq hq No=>((zp _ _ G).block q (by have h7:W1.heap.size<=w6.heap.size:=h6.size;have:=d.size;omega) Q6).trans ((h6.block q (tu hq d.size) No).trans (d.block q hq Q6))⟩
def wN(w:T)(mb:R)(v1 v2 v3 v4 v5 vf:M)(hp tk ct:A)(vt:M):Prop:=w.heap[mb]? =Y (X #[v1,v2,v3,v4,v5,vf,O Z hp,O Z tk,O Z ct,vt] 102 (0,0))
def oO(l:I A)(x:A):I A:=if D l<1000 then l++[x] else l
def LP(w:T)(mb:R)(v1 v2 v3 v4 v5 vf:M)(hp tk ct:A)(vt:M)(l:I A)(x:Ending)(w':T):Prop:=∃vt',x=.returned (.tuple #[])/\wN w' mb v1 v2 v3 v4 v5 vf hp tk ct vt'/\w'.ownsRow 0 3 1 vt' (D l) (fK l)/\(vt'.ownBlock=vt.ownBlock\/∃k,vt'.ownBlock=Y k/\w.heap.size<=k)/\Iu w w' mb vt.ownBlock
theorem Ea(w:T)(mb:R)(v1 v2 v3 v4 v5 vf:M)(hp tk ct:A)(vt:M)(l:I A)(x:A)(hM:wN w mb v1 v2 v3 v4 v5 vf hp tk ct vt)(ho:w.ownsRow 0 3 1 vt (D l) (fK l))(No:¬vt.ownBlock=Y mb)(hl:D l<=1000):
 Calls prog 90 #[.pointer (Y (Q mb 0 G)),O Z x] w (LP w mb v1 v2 v3 v4 v5 vf hp tk ct vt (oO l x)):=by
 obtain⟨ta,tc,rfl⟩:=aR ho;have aB:=(eJ.1 hM).1;have c9:H w (Q mb 9 G)=Y (J ta (D l) tc):=by rw[aP hM];rfl
 by_cases h:D l<1000
 · have hi:(D l:A)<1000:=by omega
   have HT:U (oO l x=l++[x]):=aJ (by unfold oO;rw[mI h]);have gA:=(Gr.refl w).alloc (X #[O Z x] 3);obtain⟨v6,w6,av,al,d,ai⟩:=fG (ty:=26) _ 3 _ Tryz.infI Tryz.uI rfl Q9 Q9 (eO ho gA) (jE w _ 3 1) rfl (by intro q hq;simp at hq;subst hq;rfl) Q5 Lz;obtain⟨ak,af,rfl⟩:=aR al;have ae:∀b,b<w.heap.size->¬(J _ _ _).ownBlock=Y b->w6.heap[b]? =w.heap[b]? :=λb hb h2=>(d.block b (tu hb gA.size) λe=>h2 e.symm).trans (gA.block b hb Q6)
   have ad:=(ae _ aB No).trans hM;have d9:H w6 (Q mb 9 G)=Y (J ta (D l) tc):=by rw[aP ad];rfl
   have z9:w6.frozen? ⟨_,9,_⟩=AS:=aq ad;have aC:=aJ av;have aD:=aJ al;have aA:=aJ ae;have az:=aJ ad;have ay:=aJ ai;have F:=aJ (And.intro (d.os.trans gA.os) (And.intro (d.tape.trans gA.tape) (And.intro (d.output.trans gA.output) (wz gA.size d.size))));have ax:U (¬(J _ _ _).ownBlock=Y _):=aJ (λe=>by
    rcases ai with h|h
    · exact No (h.symm.trans e)
    rw[e]at h;have:=tz h;simp at this;omega)
   have aE:U ((w.alloc (X #[O Z x] 3)).heap.size=w.heap.size+1):=aJ Q6;go_enter func90,ntmps90
   go_wp2_with(at_builtin;refine CH _ rfl _ _ _ _ rfl _ _ rfl rfl _ _ aC.j ?_)
   go_end0
   rw[HT];refine⟨J ak (D l+1) af,rfl,?_,?_,?_,⟨F.1,F.2.1,F.2.2.1,by have:=F.2.2.2;simpa using this,λb hb h1 h2=>(dp _ _ _ _ h1).trans (aA b hb h2)⟩⟩
   · exact(wS _ _ 9 _ _ _ az).trans Q6
   · have:=c_ aD (w':=w6.setCell (Q _ 9 G) (J ak (D l+1) af)) (λq hq=>dp _ _ _ _ (by show q≠mb;exact λe=>ax (e▸hq)))
     simpa[fK]using this
   rcases ay.j with e|e
   · exact .inl e
   exact .inr ⟨_,e,by have:=aE.j;omega⟩
 have hd:decide ((D l:A)<1000)=AS:=Si
 have HT:U (oO l x=l):=aJ (by unfold oO;rw[eP h]);have HM:=aJ hM;have HO:=aJ ho;go_enter func90,ntmps90
 go_wp2_with fail;go_end0
 rw[HT];exact⟨_,rfl,HM,HO,.inl rfl,⟨rfl,rfl,rfl,lj,λ_ _ _ _=>rfl⟩⟩
theorem Tryz.infPf:(Tryz.prog.info? 103).map (λi=>(i.zero,i.size,i.bytes))=Y (Y (.pointer G),1,8):=Q7
theorem Tryz.uPf:Tryz.prog.underlying 100=Y (.slice 103):=Q7
def LG(w:T)(mb:R)(v1 v2 v3 v4 v5:M)(hp tk ct:A)(vt:M)(g n cap:R)(ps:I M)(x:Ending)(w':T):Prop:=x=.returned (if n=0 then .pointer G else ps.getD (n-1) undef)/\wN w' mb v1 v2 v3 v4 v5 (J (Y (Q g 0 G)) n cap) hp tk ct vt/\w'.ownsRow 0 103 1 (J (Y (Q g 0 G)) n cap) n ps/\Iu w w' mb G
theorem DX(w:T)(mb:R)(v1 v2 v3 v4 v5:M)(hp tk ct:A)(vt:M)(g n cap:R)(ps:I M)(pl:M)(hM:wN w mb v1 v2 v3 v4 v5 (J (Y (Q g 0 G)) (n+1) cap) hp tk ct vt)(ho:w.ownsRow 0 103 1 (J (Y (Q g 0 G)) (n+1) cap) (n+1) (ps++[pl]))(No:¬g=mb)(hn:n<=1000)(Uz:∀u∈ps,∃a,u=.pointer (Y a)):
 Calls prog 85 #[.pointer (Y (Q mb 0 G))] w (LG w mb v1 v2 v3 v4 v5 hp tk ct vt g n cap ps):=by
 have ax:=by have:=ho.1;simp at this;omega
 have F:=ownsRow_pop Q5 ho;have af:n+1<=cap:=by
  exact Pv
 have c5:H w (Q mb 5 G)=Y (J (Y (Q g 0 G)) (n+1) cap):=by rw[aP hM];rfl
 have z5:w.frozen? ⟨_,5,_⟩=AS:=aq hM;have HM:=aJ hM;have ay:=aJ F;have al:Z.wrap (n+1-1)=n:=Qq
 have av:Z.wrap (((n+1:R):A)-1)=n:=Qq
 have ak:Z.wrap _=n:=Q_;have b1:(n:A)<=n+1:=Q5;have b3:(n:A)<=cap:=Q5;have b4:n<=cap:=Q5;have T5:U (wN (w.setCell _ (J (Y (Q g 0 G)) n cap)) _ v1 v2 v3 v4 v5 (J (Y (Q g 0 G)) n cap) hp tk ct vt/\(w.setCell (Q _ 5 G) (J (Y (Q g 0 G)) n cap)).ownsRow 0 _ 1 _ n _/\Iu w (w.setCell (Q _ 5 G) (J (Y (Q g 0 G)) n cap)) mb G):=aJ (by
  refine⟨(wS w _ 5 _ _ _ hM).trans Q6,c_ F λq hq=>?_,⟨rfl,rfl,rfl,Q6,λb hb h1 _=>dp _ _ _ _ h1⟩⟩;have ad:=by simpa[Value.ownBlock]using hq
  subst ad;exact dp _ _ _ _ No)
 by_cases h0:n=0
 · subst h0;clear hM ho F;go_enter func85,ntmps85
   go_wp2_with fail;go_ret
   exact⟨Q6,T5⟩
 obtain⟨j,hj⟩:∃j,n=j+1:=⟨n-1,Q5⟩;obtain⟨pv,d⟩:=aU (show j<(D ps) by omega);obtain⟨a,rfl⟩:=Uz _ (dL d);have Xi:U ((if n=0 then Value.pointer G else ps.getD (n-1) undef)=.pointer _):=aJ (by rw[eP h0,hj,Nat.add_sub_cancel,mh,d];rfl);have cj:H (w.setCell (Q mb 5 G) (J (Y (Q g 0 G)) n cap)) (Q g j G)=Y (.pointer (Y a)):=by
  rw[T5.2.1.cellAt _ Q5];exact d
 have az:Z.wrap (n-1)=j:=Qq
 have TI:((n:A)==0)=AS:=by simpa using h0
 have ai:(j:A)<n:=Q5;have ae:H (w.setCell _ _) _=Y (J (Y (Q g 0 G)) n cap):=tO _ _ _ c5;clear hM ho F d hj;go_enter func85,ntmps85
 go_upto_region 3 with fail
 generalize w.setCell _ _=W2 at T5 cj ae |-;go_wp2_with fail;go_ret
 refine⟨?_,T5⟩;rw[Xi];rfl
def LJ(w:T)(mb:R)(v1 v2 v3 v4 v5:M)(hp tk ct:A)(vt vf:M)(m:R)(ps:I M)(vc vp:M)(n:R)(xs:I M)(x:Ending)(w':T):Prop:=∃nb vs vf',x=.returned (.pointer (Y (Q nb 0 G)))/\qX w' nb vc 0 vs (J G 0 0)/\w'.ownsRow 0 184 2 vs n xs/\(vs.ownBlock=vp.ownBlock\/∃k,vs.ownBlock=Y k/\w.heap.size<=k)/\w.heap.size<=nb/\¬vs.ownBlock=Y nb/\
 wN w' mb v1 v2 v3 v4 v5 vf' hp tk ct vt/\w'.ownsRow 0 103 1 vf' (m+1) (ps++[.pointer (Y (Q nb 0 G))])/\(vf'.ownBlock=vf.ownBlock\/∃k,vf'.ownBlock=Y k/\w.heap.size<=k/\¬k=nb/\¬vs.ownBlock=Y k)/\
 w'.os=w.os/\w'.tape=w.tape/\w'.output=w.output/\w.heap.size<=w'.heap.size/\∀b,b<w.heap.size->¬b=mb->¬vp.ownBlock=Y b->¬vf.ownBlock=Y b->w'.heap[b]? =w.heap[b]?
theorem Sk{p:Prop}(h:p:=by have:=UX.j;omega):p:=h
theorem CV(w:T)(mb:R)(v1 v2 v4 v5 vf:M)(hp tk ct:A)(vt:M)(m:R)(ps:I M)(fb off fl ax q:R)(fa la ca pa:By Addr)(fn fc nl lc cn cc n pc:R)(res:A)(xs:I M)
 (hM:wN w mb v1 v2 (J (Y (Q fb off G)) fl ax) v4 v5 vf hp tk ct vt) (hq:q<fl) (U9:fl<=100000)
 (k0:H w ⟨fb,off+q*4,G⟩=Y (J fa fn fc)) (k1:H w ⟨fb,off+q*4+1,G⟩=Y (O Z res)) (k2:H w ⟨fb,off+q*4+2,G⟩=Y (J la nl lc)) (k3:H w ⟨fb,off+q*4+3,G⟩=Y (J ca cn cc))
 (ho:w.ownsRow 0 103 1 vf m ps) (No:¬vf.ownBlock=Y mb) (hm:m<=1000)
 (Uz:w.ownsRow 0 184 2 (J pa n pc) n xs) (aI:¬(J pa n pc).ownBlock=Y mb) (a5:∀b,(J pa n pc).ownBlock=Y b->¬vf.ownBlock=Y b) (hn:n+nl<=100000):
 Calls prog 35 #[.pointer (Y (Q mb 0 G)),O Z (q:A),J pa n pc] w (LJ w mb v1 v2 (J (Y (Q fb off G)) fl ax) v4 v5 hp tk ct vt vf m ps (J ca cn cc) (J pa n pc) (n+nl) (xs++zV nl)):=by
 obtain⟨aM,aC,rfl⟩:=aR ho;have bj:=(eJ.1 hM).1;have c2:H w (Q mb 2 G)=Y (J (Y (Q fb off G)) fl ax):=by rw[aP hM];rfl
 have bo:(q:A)<fl:=Q5;have HM:=aJ hM;have HO:=aJ ho;have HP:=aJ Uz;have a0:=aJ a5;go_enter func35,ntmps35
 go_wp2_with fail;refine(vS w 0 _ _ _ _ _ _ _ _ _ _ n _ _ _ HP Lz hn).mono ?_;rintro z w1 ⟨nb,vs,rfl,a2,aF,av,a8,a3,g1⟩;have ak:∀b,b<w.heap.size->¬(J _ n _).ownBlock=Y b->w1.heap[b]? =w.heap[b]? :=λb d h2=>g1.block b d λe=>h2 e.symm
 have aL:=(ak _ bj aI).trans HM;have d5:H w1 (Q mb 5 G)=Y (J aM m aC):=by rw[aP aL];rfl
 have az:=c_ HO λb d=>ak b ((HO.lt b d).2) λe=>a0 b e d;have VO:=(eJ.1 a2).1;have gA:=(Gr.refl w1).alloc (X #[.pointer (Y (Q nb 0 G))] 103);obtain⟨v6,w6,a',aH,F,ai⟩:=fG (ty:=100) _ _ _ Tryz.infPf Tryz.uPf rfl Q9 Q9 (eO az gA) (jE _ _ _ 1) rfl (by intro q hq;simp at hq;subst hq;rfl) Q5 Lz;obtain⟨ay,aB,rfl⟩:=aR aH;have ae:∀b,b<w1.heap.size->¬(J _ m _).ownBlock=Y b->w6.heap[b]? =w1.heap[b]? :=λb d h2=>(F.block b (tu d gA.size) λe=>h2 e.symm).trans (gA.block b d Q6)
 have Uh:=g1.size;have al:=(ae _ Q5 No).trans aL;have bp:=gA.cell d5 Q6;have z5:H w6 (Q mb 5 G)=Y (J aM m aC):=by rw[aP al];rfl
 have z9:w6.frozen? ⟨_,5,_⟩=AS:=aq al;have a7:=aJ a';have aG:=aJ λb d=>(HO.lt b d).2;have a9:U (qX _ _ _ 0 _ _):=aJ ((ae _ VO λe=>by have:=aG _ e;omega).trans a2);have af:U (∀b,vs.ownBlock=Y b->b<w1.heap.size/\¬(J _ m _).ownBlock=Y b/\¬b=mb):=aJ (λb d=>by
  refine⟨(aF.lt b d).2,λe=>?_,λe=>?_⟩
  · rcases av with h|⟨k,h,hk⟩
    · exact a0 b (h.symm.trans d) e
    have e1:=aG b e;rw[d]at h;have:=tz h;omega
  subst e;rcases av with h|⟨k,h,hk⟩
  · exact aI (h.symm.trans d)
  rw[d]at h;have:=tz h;omega)
 have aA:=aJ (c_ aF λb d=>ae b (af b d).1 (af b d).2.1);have aE:U (¬(J _ _ _).ownBlock=Y _/\((J _ _ _).ownBlock=(J _ m _).ownBlock\/(J _ _ _).ownBlock=Y _)):=aJ (by
  have e8:(w1.alloc (X #[.pointer (Y (Q nb 0 G))] 103)).heap.size=w1.heap.size+1:=Q6;rw[e8]at ai;refine⟨λe=>?_,ai⟩;rcases ai with h|h
  · exact No (h.symm.trans e)
  rw[e]at h;have:=tz h;omega)
 have bk:=aJ aH;have bg:=aJ al;have a4:=aJ λb d h1 h2=>(ae b Q5 h2).trans (ak b d h1);have ad:=aJ (And.intro (F.os.trans (gA.os.trans g1.os)) (And.intro (F.tape.trans (gA.tape.trans g1.tape)) (And.intro (F.output.trans (gA.output.trans g1.output)) (wz Uh (wz gA.size F.size)))));have WQ:=aJ av;have aD:=aJ a8;have UK:=aJ a3;have a6:=aJ VO;have UX:=aJ Uh;go_wp2_with(at_builtin;refine CH _ rfl _ _ _ _ rfl _ _ rfl rfl _ _ a7.j ?_)
 go_ret
 refine⟨_,_,J ay (m+1) aB,rfl,?_,?_,WQ,aD,UK,?_,?_,?_,ad.1,ad.2.1,ad.2.2.1,by have:=ad.2.2.2;simpa using this,λb d h1 h2 h3=>(dp _ _ _ _ h1).trans (a4 b d h2 h3)⟩
 · exact(dp _ _ _ _ (by show nb≠mb;have:=aD.j;omega)).trans a9
 · exact c_ aA λb d=>dp _ _ _ _ (af b d).2.2
 · exact(wS _ _ 5 _ _ _ bg).trans Q6
 · exact c_ bk λb d=>dp _ _ _ _ (by show b≠mb;exact λe=>aE.1 (e▸d))
 rcases aE.2 with e|e
 · exact .inl e
 exact .inr ⟨_,e,Sk,by have:=a6.j;omega,λe2=>by have:=(af _ e2).1;omega⟩
inductive cV where
 | no|mach|frs|tol
 | fb (i:R)|fsl (i:R)|fst (i:R)|bb (j:R)|bf (j:R)
def gi(nm:R->R)(b:By R):By Addr:=b.map λj=>⟨nm j,0,G⟩
def gT(nm:R->R):I PV->I M
 | []=> []
 | v::l=>O Z v.num :: .pointer (gi nm v.blk)::gT nm l
theorem s_(nm:R->R):∀l,D (gT nm l)=D l*2
 | []=>rfl
 | v::l=>by simp only[gT,Jk,s_ _ l];omega
theorem nQ(nm:R->R):∀a b,gT nm (a++b)=gT nm a++gT nm b
 | [],b=>rfl
 | v::a,b=>by simp only[Ls,gT,nQ _ a b]
theorem xz(nm:R->R):∀l,∀u∈gT nm l,u.oneCell'=AT
 | [],u,h=>by cases h
 | v::l,u,h=>by
  simp only[gT,Ce]at h;rcases h with rfl|rfl|h
  · rfl
  · rfl
  exact xz _ l u h
theorem pR(nm:R->R):∀(l:I PV) (j:R) (v:PV),l[j]? =Y v->(gT nm l)[j*2]? =Y (O Z v.num)/\(gT nm l)[j*2+1]? =Y (.pointer (gi nm v.blk))
 | [],j,v,h=>by simp at h
 | x::l,0,v,h=>by cases h;exact⟨rfl,rfl⟩
 | x::l,j+1,v,h=>by
  have:=pR nm l j v h
  rw[show(j+1)*2=j*2+2 by omega];exact this
theorem sN(nm:R->R):∀(l:I PV) (j:R) (v:PV),((gT nm l).set (j*2) (O Z v.num)).set (j*2+1) (.pointer (gi nm v.blk))=gT nm (l.set j v)
 | [],j,v=>rfl
 | x::l,0,v=>rfl
 | x::l,j+1,v=>by
  have:=sN nm l j v
  rw[show(j+1)*2=j*2+2 by omega,show j*2+2+1=(j*2+1)+2 by omega];simp only[gT,List.set_cons_succ];rw[this]
theorem Fj(nm:R->R):∀k,zV k=gT nm (dG k)
 | 0=>rfl
 | k+1=>by
  have:=Fj nm k
  unfold dG at this |-;rw[List.replicate_succ];simp only[zV,gT,this];rfl
def Bd(n:R)(l:I PV):Prop:=∀v∈l,∀j,v.blk=Y j->j<n
theorem lG{nm d:R->R}(h:∀j,j<n->d j=nm j):∀l,Bd n l->gT d l=gT nm l
 | [],_=>rfl
 | v::l,hb=>by
  have e:gi d v.blk=gi nm v.blk:=by
   cases hv:v.blk with
   | none=>rfl
   | some j=>simp only[gi,Mb];rw[h j (hb v J9 j hv)]
  simp only[gT,e,lG h l λx F=>hb x (Jw _ F)]
theorem gN.bd{ks:I A}{l:I PV}(h:gN σ ks l):Bd (D σ) l:=λv hv j d=>by
 obtain⟨i,hi,e⟩:=MU hv;have F:=h.1▸hi;have:=h.2 i _ v (dW F) (by rw[dW hi,e])
 exact(dm.1 (this j d).2).1
def qA(fbn:R->R)(n:R):I M:=(List.range n).map λi=>.pointer (Y ⟨fbn i,0,G⟩)
theorem vD(fbn:R->R)(n:R):qA fbn (n+1)=qA fbn n++[.pointer (Y ⟨fbn n,0,G⟩)]:=by simp[qA,List.range_succ]
theorem Bi(fbn:R->R){n i:R}(h:i<n):(qA fbn n)[i]? =Y (.pointer (Y ⟨fbn i,0,G⟩)):=by
 simp[qA,h]
theorem A3{fbn:R->R}(h:∀i,i<n->fbn' i=fbn i):qA fbn' n=qA fbn n:=
 Mc λi hi=>by rw[h i (MN.1 hi)]
structure MC where
 V:T
 u:aK
 v1:M
 v2:M
 v3:M
 v4:M
 v5:M
 mb:R
 heap:R
structure pn(C:MC)(w:T)(ρ:R->cV)(nm:R->R)(i fb:R)(x:eZ)(vc vs vk:M)(f:aQ):Prop where
 func:C.u.aG[x.fn]? =Y f
 code:eC C.V vc f.code
 box:qX w fb vc (x.pos:A) vs vk
 sl:w.ownsRow 0 184 2 vs (D x.slots) (gT nm x.slots)
 st:w.ownsRow 0 184 2 vk (D x.stack) (gT nm x.stack)
 rb:ρ fb=.fb i
 rsl:∀b,vs.ownBlock=Y b->ρ b=.fsl i
 rst:∀b,vk.ownBlock=Y b->ρ b=.fst i
def Kz(C:MC)(w:T)(ρ:R->cV)(nm fbn:R->R)(i:R)(x:eZ):Prop:=∃vc vs vk f,pn C w ρ nm i (fbn i) x vc vs vk f
def qL(C:MC)(w:T)(ρ:R->cV)(nm fbn:R->R):I eZ->Prop
 | []=>True
 | x::l=>Kz C w ρ nm fbn (D l) x/\qL C w ρ nm fbn l
structure t9(w:T)(ρ:R->cV)(nm:R->R)(j:R)(c:A)(fs:I PV)(vf:M):Prop where
 box:w.heap[nm j]? =Y (X #[vf,O Z c] 247 (0,0))
 fl:w.ownsRow 0 184 2 vf (D fs) (gT nm fs)
 rb:ρ (nm j)=.bb j
 rf:∀b,vf.ownBlock=Y b->ρ b=.bf j
def LD(w:T)(ρ:R->cV)(nm:R->R)(j:R)(c:A)(fs:I PV):Prop:=∃vf,t9 w ρ nm j c fs vf
structure Fv(C:MC)(w:T)(ρ:R->cV)(fbn:R->R)(n:R)(tk ct:A)(told:I A)(vf vt:M):Prop where
 box:wN w C.mb C.v1 C.v2 C.v3 C.v4 C.v5 vf (C.heap:A) tk ct vt
 fr:w.ownsRow 0 103 1 vf n (qA fbn n)
 tl:w.ownsRow 0 3 1 vt (D told) (fK told)
 rm:ρ C.mb=.mach
 rf:∀b,vf.ownBlock=Y b->ρ b=.frs
 rt:∀b,vt.ownBlock=Y b->ρ b=.tol
structure MW(C:MC)(w:T)(ρ:R->cV)(nm fbn:R->R)(cs:R->A)(ct:A)(L:I eZ)(bs:I (I PV))(tk:R)(told:I A):Prop where
 gr:Gr C.V w
 lo:∀b,ρ b≠.no->C.V.heap.size<=b/\b<w.heap.size
 mb:∃vf vt,Fv C w ρ fbn (D L) (tk:A) ct told vf vt
 frs:qL C w ρ nm fbn L
 blks:∀(j:R) (fs:I PV),bs[j]? =Y fs->LD w ρ nm j (cs j) fs/\0<=cs j/\cs j<=ct
def ku(S:cV->Prop)(w w':T)(ρ ρ':R->cV):Prop:=∀b,b<w.heap.size->S (ρ b)->w'.heap[b]? =w.heap[b]? /\ρ' b=ρ b
structure bJ(w w':T)(ρ ρ':R->cV):Prop where
 os:w'.os=w.os
 tape:w'.tape=w.tape
 output:w'.output=w.output
 size:w.heap.size<=w'.heap.size
 role:∀b,b<w.heap.size->ρ' b=ρ b
 keep:∀b,b<w.heap.size->ρ b=.no->w'.heap[b]? =w.heap[b]?
theorem bJ.refl(w:T)(ρ:R->cV):bJ w w ρ ρ:=⟨rfl,rfl,rfl,lj,λ_ _=>rfl,λ_ _ _=>rfl⟩
theorem bJ.trans{a b c:T}{ρ ρ' d:R->cV}(h:bJ a b ρ ρ')(k:bJ b c ρ' d):bJ a c ρ d:=
 ⟨k.os.trans h.os,k.tape.trans h.tape,k.output.trans h.output,wz h.size k.size,λi hi=>(k.role i (tu hi h.size)).trans (h.role i hi),λi hi e=>(k.keep i (tu hi h.size) ((h.role i hi).trans e)).trans (h.keep i hi e)⟩
theorem bJ.of_gr{w w':T}{ρ:R->cV}(g:Gr w w'):bJ w w' ρ ρ:=⟨g.os,g.tape,g.output,g.size,λ_ _=>rfl,λi hi _=>g.block i hi Q6⟩
theorem bJ.gr{V w w':T}{ρ ρ':R->cV}(k:bJ w w' ρ ρ')(g:Gr V w)(lo:∀b,ρ b≠.no->V.heap.size<=b/\b<w.heap.size):Gr V w':=
 ⟨k.os.trans g.os,k.tape.trans g.tape,k.output.trans g.output,wz g.size k.size,λi hi No=>(k.keep i (tu hi g.size) (MT λe=>by have:=(lo i e).1;omega)).trans (g.block i hi No)⟩
theorem gn{S:cV->Prop}{w w':T}{ρ ρ':R->cV}{r:cV}{len:R}{v:M}(h:w.ownsRow B e n v len xs)(d:∀b,v.ownBlock=Y b->ρ b=r)(s:ku S w w' ρ ρ')(hS:S r):w'.ownsRow B e n v len xs/\∀b,v.ownBlock=Y b->ρ' b=r:=
 ⟨c_ h λk hk=>(s k (h.lt k hk).2 (by rw[d k hk];exact hS)).1,λb F=>by rw[(s b (h.lt b F).2 (by rw[d b F];exact hS)).2];exact d b F⟩
theorem pn.lt{C:MC}{w:T}{ρ:R->cV}{nm:R->R}{f:aQ}(h:pn C w ρ nm i fb x vc vs vk f):fb<w.heap.size:=(eJ.1 h.box).1
theorem pn.mv{S:cV->Prop}{C:MC}{w w':T}{ρ ρ':R->cV}{nm:R->R}{f:aQ}(h:pn C w ρ nm i fb x vc vs vk f)(s:ku S w w' ρ ρ')(h1:S (.fb i))(F:S (.fsl i))(h3:S (.fst i)):pn C w' ρ' nm i fb x vc vs vk f:=by
 have d:=s _ h.lt (by rw[h.rb];exact h1);obtain⟨a1,a2⟩:=gn h.sl h.rsl s F;obtain⟨b1,b2⟩:=gn h.st h.rst s h3;exact⟨h.func,h.code,d.1.trans h.box,a1,b1,d.2.trans h.rb,a2,b2⟩
theorem qL.mv{S:cV->Prop}{C:MC}{w w':T}{ρ ρ':R->cV}{nm fbn:R->R}(s:ku S w w' ρ ρ'):∀{L:I eZ},qL C w ρ nm fbn L->(∀i,i<D L->S (.fb i)/\S (.fsl i)/\S (.fst i)/\fbn' i=fbn i)->qL C w' ρ' nm fbn' L
 | [],_,_=>trivial
 | x::l,h,hS=>by
  obtain⟨vc,vs,vk,f,d⟩:=h.1;obtain⟨s1,s2,s3,s4⟩:=hS (D l) Q6;refine⟨⟨vc,vs,vk,f,?_⟩,qL.mv s h.2 λi hi=>hS i jB⟩;rw[s4];exact d.mv s s1 s2 s3
theorem t9.lt{w:T}{ρ:R->cV}{nm:R->R}{j:R}(h:t9 w ρ nm j c fs vf):nm j<w.heap.size:=(eJ.1 h.box).1
theorem t9.mv{S:cV->Prop}{w w':T}{ρ ρ':R->cV}{nm:R->R}{j:R}(h:t9 w ρ nm j c fs vf)(s:ku S w w' ρ ρ')(h1:S (.bb j))(F:S (.bf j)):t9 w' ρ' nm j c fs vf:=by
 have d:=s _ h.lt (by rw[h.rb];exact h1);obtain⟨a1,a2⟩:=gn h.fl h.rf s F;exact⟨d.1.trans h.box,a1,d.2.trans h.rb,a2⟩
theorem Fv.lt{C:MC}{w:T}{ρ:R->cV}{fbn:R->R}{tk ct:A}{told:I A}(h:Fv C w ρ fbn n tk ct told vf vt):C.mb<w.heap.size:=(eJ.1 h.box).1
theorem Fv.mv{S:cV->Prop}{C:MC}{w w':T}{ρ ρ':R->cV}{fbn:R->R}{tk ct:A}{told:I A}(h:Fv C w ρ fbn n tk ct told vf vt)(s:ku S w w' ρ ρ')(h1:S .mach)(F:S .frs)(h3:S .tol):Fv C w' ρ' fbn n tk ct told vf vt:=by
 have d:=s _ h.lt (by rw[h.rm];exact h1);obtain⟨a1,a2⟩:=gn h.fr h.rf s F;obtain⟨b1,b2⟩:=gn h.tl h.rt s h3;exact⟨d.1.trans h.box,a1,b1,d.2.trans h.rm,a2,b2⟩
def pL(ρ:R->cV)(v:M)(r:cV):R->cV:=λb=>if v.ownBlock=Y b then r else ρ b
theorem tR{ρ:R->cV}{v:M}{r:cV}(h:∀b,v.ownBlock=Y b->ρ b=r):pL ρ v r=ρ:=by
 funext b
 unfold pL;split
 · rename_i e;exact(h b e).symm
 rfl
theorem Ef{ρ:R->cV}{v:M}{r:cV}{b:R}(h:v.ownBlock=Y b):pL ρ v r b=r:=mI h
theorem EN{ρ:R->cV}{v:M}{r:cV}{b:R}(h:¬v.ownBlock=Y b):pL ρ v r b=ρ b:=eP h
section
variable {C:MC} {w w':T} {ρ:R->cV} {nm fbn:R->R} {cs:R->A} {ct:A} {L:I eZ} {bs:I (I PV)} {tk:R} {told:I A}
theorem MW.other(h:MW C w ρ nm fbn cs ct L bs tk told)(ho:w'.os=w.os)(ht:w'.tape=w.tape)(hu:w'.output=w.output)(hs:w.heap.size<=w'.heap.size)(F:∀b,b<w.heap.size->ρ b≠.no\/b<C.V.heap.size->w'.heap[b]? =w.heap[b]?):MW C w' ρ nm fbn cs ct L bs tk told:=by
 have s:ku (λr=>r≠.no) w _ _ _:=λb hl d=>⟨F b hl (.inl d),rfl⟩
 obtain⟨vf,vt,hm⟩:=h.mb;refine⟨⟨ho.trans h.gr.os,ht.trans h.gr.tape,hu.trans h.gr.output,wz h.gr.size hs,λi hi No=>(F i (tu hi h.gr.size) (.inr hi)).trans (h.gr.block i hi No)⟩,λb d=>⟨(h.lo b d).1,tu (h.lo b d).2 hs⟩,⟨_,_,hm.mv s nofun nofun nofun⟩,h.frs.mv s λi _=>⟨nofun,nofun,nofun,rfl⟩,λj fs hj=>?_⟩;obtain⟨⟨v,hB⟩,hc⟩:=h.blks j _ hj;exact⟨⟨v,hB.mv s nofun nofun⟩,hc⟩
theorem MW.of_gr(h:MW C w ρ nm fbn cs ct L bs tk told)(g:Gr w w'):MW C w' ρ nm fbn cs ct L bs tk told:=h.other g.os g.tape g.output g.size λb d _=>g.block b d Q6
theorem MW.new_no(h:MW C w ρ nm fbn cs ct L bs tk told){b:R}(d:w.heap.size<=b):ρ b=.no:=MT λe=>by have:=(h.lo b e).2;omega
theorem Ph{p:Prop}(h:p:=by obtain⟨⟨v,hB⟩,hc⟩:=h.blks j _ hj;exact⟨⟨v,hB.mv s ⟨nofun,nofun,nofun⟩ ⟨nofun,nofun,nofun⟩⟩,hc⟩):p:=h
theorem Sd{p:Prop}(h:p:=by rw[e];nofun):p:=h
theorem MW.top_upd{x':eZ}{d:M}{f:aQ}(h:MW C w ρ nm fbn cs ct (x::L) bs tk told)(ht:pn C w ρ nm (D L) (fbn (D L)) x vc vs vk f)(al:x'.fn=x.fn)(hF:qX w' (fbn (D L)) vc (x'.pos:A) vs d)(hs:w'.ownsRow 0 184 2 vs (D x'.slots) (gT nm x'.slots))(hk:w'.ownsRow 0 184 2 d (D x'.stack) (gT nm x'.stack))
 (ae:d.ownBlock=vk.ownBlock\/∃k,d.ownBlock=Y k/\w.heap.size<=k) (ak:w'.os=w.os) (ai:w'.tape=w.tape) (af:w'.output=w.output) (S7:w.heap.size<=w'.heap.size) (ad:∀b,b<w.heap.size->ρ b≠.fb (D L)->ρ b≠.fsl (D L)->ρ b≠.fst (D L)->w'.heap[b]? =w.heap[b]?):
 MW C w' (pL ρ d (.fst (D L))) nm fbn cs ct (x'::L) bs tk told/\bJ w w' ρ (pL ρ d (.fst (D L))):=by
 have hr:∀b,b<w.heap.size->pL _ _ _ b=ρ b:=λb F=>by
  unfold pL;split
  · rename_i e
    rcases ae with h1|⟨k,h1,h2⟩
    · exact(ht.rst b (h1▸e)).symm
    rw[h1]at e;cases e;omega
  rfl
 have s:ku (λr=>r≠.fb _/\r≠.fsl _/\r≠.fst _) w _ _ _:=λb F hS=>⟨ad b F hS.1 hS.2.1 hS.2.2,hr b F⟩
 have K:bJ w _ _ _:=⟨ak,ai,af,S7,hr,λb F e=>ad b F Sd Sd Sd⟩;obtain⟨vf,vt,hm⟩:=h.mb;refine⟨⟨K.gr h.gr h.lo,λb F=>?_,⟨_,_,hm.mv s ⟨nofun,nofun,nofun⟩ ⟨nofun,nofun,nofun⟩ ⟨nofun,nofun,nofun⟩⟩,⟨⟨vc,vs,d,f,?_⟩,h.frs.2.mv s λi hi=>⟨⟨QL,nofun,nofun⟩,⟨nofun,QL,nofun⟩,⟨nofun,nofun,QL⟩,rfl⟩⟩,λj fs hj=>?_⟩,K⟩
 · by_cases e:d.ownBlock=Y b
   · have hl:=(hk.lt b e).2;rcases ae with h1|⟨k,h1,h2⟩
     · exact⟨(h.lo b (by rw[ht.rst b (h1▸e)];nofun)).1,hl⟩
     rw[h1]at e;cases e;have:=h.gr.size;exact⟨Q5,hl⟩
   rw[EN e]at F;have:=h.lo b F
   exact⟨this.1,Q5⟩
 · refine⟨by rw[al];exact ht.func,ht.code,hF,hs,hk,?_,λb F=>?_,λb F=>Ef F⟩
   · rw[hr _ ht.lt];exact ht.rb
   rw[hr b (ht.sl.lt b F).2];exact ht.rsl b F
 exact Ph
end
def zS(C:MC)(w:T)(ρ:R->cV)(nm fbn:R->R)(cs:R->A)(ct:A)(L:I eZ)(bs:I (I PV))(tk:R)(told:I A)(w':T):Prop:=∃ρ',MW C w' ρ' nm fbn cs ct L bs tk told/\bJ w w' ρ ρ'
def eZ.st(x:eZ)(s:I PV):eZ:=⟨x.fn,x.pos,x.slots,s⟩
def eZ.go(x:eZ)(p:R):eZ:=⟨x.fn,p,x.slots,x.stack⟩
section
variable {C:MC} {w w':T} {ρ:R->cV} {nm fbn:R->R} {cs:R->A} {ct:A} {L:I eZ} {bs:I (I PV)} {tk:R} {told:I A}
theorem pn.ne_st{f:aQ}(h:pn C w ρ nm i fb x vc vs vk f):¬vk.ownBlock=Y fb:=λe=>by have:=h.rst _ e;rw[h.rb]at this;cases this
theorem pn.ne_sl{f:aQ}(h:pn C w ρ nm i fb x vc vs vk f):¬vs.ownBlock=Y fb:=λe=>by have:=h.rsl _ e;rw[h.rb]at this;cases this
theorem pn.ne_ss{f:aQ}(h:pn C w ρ nm i fb x vc vs vk f){b:R}(F:vs.ownBlock=Y b)(d:vk.ownBlock=Y b):False:=by have:=h.rsl b F;rw[h.rst b d]at this;cases this
theorem js(v:PV)(h:MW C w ρ nm fbn cs ct (x::L) bs tk told)(hn:D x.stack<=1000):
 Calls prog 86 #[.pointer (Y ⟨fbn (D L),0,G⟩),.agg #[O Z v.num,.pointer (gi nm v.blk)]] w λe w'=>e=.returned (.tuple #[])/\zS C w ρ nm fbn cs ct (x.st (x.stack++[v])::L) bs tk told w':=by
 obtain⟨vc,vs,vk,f,d⟩:=h.frs.1;refine(EU w _ _ _ _ _ _ _ _ _ d.box d.st d.ne_st Q5).mono ?_;rintro e w' ⟨ae,rfl,hF,ho,ad,F⟩;have hu:=h.top_upd (x':=x.st (x.stack++[v])) d rfl hF (c_ d.sl λk hk=>F.blk k (d.sl.lt k hk).2 (λe=>d.ne_sl (e▸hk)) λe=>d.ne_ss hk e) (by
  show w'.ownsRow 0 _ 2 ae (D (x.stack++[v])) (gT nm (x.stack++[v]))
  rw[nQ,fe];exact ho) ad F.os F.tape F.output F.size λb hb h1 _ h3=>F.blk b hb (λe=>h1 (e▸d.rb)) λe=>h3 (d.rst b e)
 exact⟨rfl,_,hu.1,hu.2⟩
theorem PS{p:Prop}(h:p:=by
 rcases ho.2 with⟨_,h⟩|⟨g,cap,cur,e,_⟩
 · simp at h
 exact⟨g,_,e⟩):p:=h
theorem jM{s:I PV}{v:PV}(h:MW C w ρ nm fbn cs ct (x::L) bs tk told)(hx:x.stack=s++[v])(hn:D x.stack<=1000):
 Calls prog 83 #[.pointer (Y ⟨fbn (D L),0,G⟩)] w λe w'=>e=.returned (.agg #[O Z v.num,.pointer (gi nm v.blk)])/\zS C w ρ nm fbn cs ct (x.st s::L) bs tk told w':=by
 obtain⟨vc,vs,vk,f,d⟩:=h.frs.1;have ho:=d.st;have hB:=d.box;have No:=d.ne_st;have ae:=d.rst;rw[hx,fe,nQ]at ho;obtain⟨g,cap,rfl⟩:∃g cap,vk=J _ (D s+1) cap:=by
  exact PS
 rw[hx,fe]at hn;simp at hn
 refine(G1 w _ _ _ _ g _ _ _ _ _ hB ho (s_ _ _) (λe=>No (by rw[<-e];rfl)) Q5).mono ?_;rintro e w' ⟨rfl,hF,ad,F⟩;have hu:=h.top_upd (x':=x.st s) d rfl hF (c_ d.sl λk hk=>F.blk k (d.sl.lt k hk).2 (λe=>d.ne_sl (e▸hk)) nofun) ad (.inl rfl) F.os F.tape F.output F.size λb hb h1 _ h3=>F.blk b hb (λe=>h1 (e▸d.rb)) nofun;exact⟨rfl,_,hu.1,hu.2⟩
theorem zF(h:MW C w ρ nm fbn cs ct (x::L) bs tk told)(hx:x.stack=a++b)(hn:D x.stack<=1000):
 Calls prog 84 #[.pointer (Y ⟨fbn (D L),0,G⟩),O Z (D b:A)] w λe w'=>∃v,e=.returned v/\w'.ownsRow w.heap.size 184 2 v (D b) (gT nm b)/\MW C w' ρ nm fbn cs ct (x.st a::L) bs tk told/\bJ w w' ρ ρ:=by
 obtain⟨vc,vs,vk,f,d⟩:=h.frs.1;have ho:=d.st;rw[hx,fe,nQ]at ho;rw[hx,fe]at hn;refine(CR w _ _ _ _ _ _ _ _ _ d.box ho (s_ _ _) (xz _ _) d.ne_st Q5).mono ?_;rintro e w' ⟨v,af,rfl,hv,hF,ae,ad,F⟩;have hu:=h.top_upd (x':=x.st a) d rfl hF (c_ d.sl λk hk=>F.blk k (d.sl.lt k hk).2 (λe=>d.ne_sl (e▸hk)) nofun) ae (.inl ad) F.os F.tape F.output F.size λb hb h1 _ h3=>F.blk b hb (λe=>h1 (e▸d.rb)) nofun;rw[tR λb hb=>d.rst b (ad▸hb)]at hu;exact⟨v,rfl,hv,hu.1,hu.2⟩
theorem MW.setPos(p:R)(h:MW C w ρ nm fbn cs ct (x::L) bs tk told):MW C (w.setCell ⟨fbn (D L),1,G⟩ (O Z (p:A))) ρ nm fbn cs ct (x.go p::L) bs tk told/\bJ w (w.setCell ⟨fbn (D L),1,G⟩ (O Z (p:A))) ρ ρ:=by
 obtain⟨vc,vs,vk,f,d⟩:=h.frs.1;have hu:=h.top_upd (w':=w.setCell _ (O Z p)) (x':=x.go p) d rfl ((wS w _ 1 _ _ _ d.box).trans (by simp[eZ.go])) (c_ d.sl λk F=>dp _ _ _ _ (by show k≠fbn (D L);exact λe=>d.ne_sl (e▸F))) (c_ d.st λk F=>dp _ _ _ _ (by show k≠fbn (D L);exact λe=>d.ne_st (e▸F))) (.inl rfl) rfl rfl rfl Q6 (λb hb h1 _ _=>dp _ _ _ _ (by show b≠fbn (D L);exact λe=>h1 (e▸d.rb)));rw[tR d.rst]at hu;exact hu
end
theorem xY{w:T}{g cap:R}(h:w.ownsRow B e 2 (J (Y (Q g 0 G)) n cap) n xs)(j:R)(p q:M):((w.setCell ⟨g,j*2,G⟩ p).setCell ⟨g,j*2+1,G⟩ q).ownsRow B e 2 (J (Y (Q g 0 G)) n cap) n ((xs.set (j*2) p).set (j*2+1) q):=by
 obtain⟨h1,h2⟩:=h;refine⟨RE,.inr ?_⟩;rcases h2 with⟨h,_⟩|⟨g',Un,cur,he,a1,a2,F,a4,a5,d⟩
 · cases h
 cases he
 refine⟨g,_,_,rfl,a1,wS _ g _ _ _ _ (wS w g _ _ _ _ a2),F,a4,by simpa using a5,?_⟩;rw[<-d];simp[List.take_set]
end Go.Proofs.YtghjmnlapcpbiaaGreatDoor
