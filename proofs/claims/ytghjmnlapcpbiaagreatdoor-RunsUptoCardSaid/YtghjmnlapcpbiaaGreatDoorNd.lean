import Derived.Maps.OwnSet
import Derived.Laws.OwnMore
import Derived.Lib.AppendZerosOnto
import Derived.Test.YtghjmnlapcpbiaaGreatDoorRg2
import Derived.StringKeys
namespace Go.Proofs.YtghjmnlapcpbiaaGreatDoor
open _root_ renaming Option.some->Y,Option.none->G,Go.Value.int->O,Go.IntKind.i64->Z,Go.Value.slice->J,List->I,Nat->R,Int->A,Go.World.cell?->H,List.length->D,Go.Obj.cells->X,Go.Value->M,Go.World->T,Go.Addr.mk->Q,Go.RowKit.Hid->U,UInt8->AI,Bool.false->AS,Bool.true->AT,Option->By
open Go.Proofs.Tryz
open Go.RowKit
set_option linter.defProp false
variable{seen:I (I AI)}{l ps s:I A}{B N b g i k n q:R}{dn:R->Bool}{a:R->A}{m:R->By M}{w w':T}{u:aK}
def tz:=@Option.some.inj.{0}
def xE:=@wp_region_held_drew
def AF:=@Option.map_eq_some_iff.{0,0}
def Be:=@List.drop_eq_getElem_cons.{0}
def B5:=@World.ownsRow_nil
def CH:=@Lib.wpList_append_run
def Ev:=@wpAnyH_done
def F1:=@List.mem_append.{0}
def Ju:=@List.map_append.{0,0}
def Jw:=@List.mem_cons_of_mem.{0}
def J9:=@List.mem_cons_self.{0}
def Lh:=@List.getElem?_take.{0}
def Ln:=@List.drop_length.{0}
def Mg:=@List.sum_cons.{0}
def Mq:=@List.ext_getElem?.{0}
def Ms:=@Bool.not_eq_true'
def Mw:=@Option.bind_eq_some_iff.{0,0}
def MJ:=@List.getElem?_set.{0}
def MM:=@Int.le_refl
def MN:=@List.mem_range
def M1:=@Bool.or_eq_true
set_option maxRecDepth 100000
set_option maxHeartbeats 2000000
set_option linter.unusedVariables false
set_option linter.unusedSimpArgs false
def eM(seen:I (I AI)):I cJ->By (I (I AI))
 | []=>Y seen
 | e::l=>if e.name∈seen then G else eM (e.name::seen) l
def g9(seen:I (I AI))(k:R):I aK->By R
 | []=>G
 | u::l=>match eM seen u.aD with
  | none=>Y k
  | some s=>g9 s (k+1) l
def Tw(seen:I (I AI))(l:I aK)(m:R):Prop:=
 ∃(u:aK) (i:R) (e:cJ),l[m]? =Y u/\u.aD[i]? =Y e/\(e.name∈seen\/(∃(a:R) (u':aK),a<m/\l[a]? =Y u'/\∃e'∈u'.aD,e'.name=e.name)\/∃(j:R) (e':cJ),j<i/\u.aD[j]? =Y e'/\e'.name=e.name)
theorem qk:∀(exps:I cJ) (seen:I (I AI)),eM seen exps=G↔∃(i:R) (e:cJ),exps[i]? =Y e/\(e.name∈seen\/∃(j:R) (e':cJ),j<i/\exps[j]? =Y e'/\e'.name=e.name)
 | [],seen=>by simp[eM]
 | e::l,seen=>by
  by_cases h:e.name∈seen
  · rw[eM,mI h];exact⟨λ_=>⟨0,e,rfl,Or.inl h⟩,λ_=>rfl⟩
  rw[eM,eP h,qk l];constructor
  · rintro⟨i,e1,h1,d⟩;refine⟨i+1,_,RE,?_⟩;rcases d with d|⟨j,e',hj,F,h4⟩
    · rcases Ce.1 d with d|d
      · exact Or.inr ⟨0,e,Q5,rfl,d.symm⟩
      exact Or.inl d
    exact Or.inr ⟨j+1,_,Q5,by simpa using F,h4⟩
  rintro⟨i,e1,h1,d⟩;cases i with
  | zero=>
   simp only[JQ,qN]at h1;subst h1;rcases d with d|⟨j,e',hj,_⟩
   · exact absurd d h
   omega
  | succ i=>
   refine⟨i,_,RE,?_⟩;rcases d with d|⟨j,e',hj,F,h4⟩
   · exact Or.inl (Jw _ d)
   cases j with
   | zero=>
    simp only[JQ,qN]at F;subst F;exact Or.inl (by rw[h4];exact J9)
   | succ j=>exact Or.inr ⟨j,_,Q5,by simpa using F,h4⟩
theorem qw:∀(exps:I cJ) (seen s:I (I AI)),eM seen exps=Y s->∀n,n∈s↔n∈seen\/∃e∈exps,e.name=n
 | [],seen,s,h,n=>by rw[eM]at h;cases h;simp
 | e::l,seen,s,h,n=>by
  rw[eM]at h;by_cases hm:e.name∈seen
  · rw[mI hm]at h;cases h
  rw[eP hm]at h;rw[qw l _ s h n,Ce];constructor
  · rintro((rfl|d)|⟨e1,d,F⟩)
    · exact Or.inr ⟨e,J9,rfl⟩
    · exact Or.inl d
    exact Or.inr ⟨_,Jw _ d,F⟩
  rintro(d|⟨e1,d,F⟩)
  · exact Or.inl (Or.inr d)
  rcases Ce.1 d with rfl|d
  · exact Or.inl (Or.inl F.symm)
  exact Or.inr ⟨_,d,F⟩
theorem rP{l:I aK}:Tw seen (u::l) 0↔eM seen u.aD=G:=by
 rw[qk];constructor
 · rintro⟨u',i,e,h1,F,d⟩;simp only[JQ,qN]at h1;subst h1;refine⟨i,e,F,?_⟩;rcases d with d|⟨a,_,ha,_⟩|d
   · exact Or.inl d
   · omega
   exact Or.inr d
 rintro⟨i,e,F,d⟩;refine⟨u,i,e,rfl,F,?_⟩;rcases d with d|d
 · exact Or.inl d
 exact Or.inr (Or.inr d)
theorem rT{s:I (I AI)}{l:I aK}{m:R}(hs:eM seen u.aD=Y s):Tw seen (u::l) (m+1)↔Tw s l m:=by
 have hm:=qw _ _ _ hs;constructor
 · rintro⟨u1,i,e,h1,h2,d⟩;refine⟨_,i,e,RE,h2,?_⟩;rcases d with d|⟨a,u2,ha,h4,e2,F,h6⟩|d
   · exact Or.inl ((hm _).2 (Or.inl d))
   · cases a with
     | zero=>
      simp only[JQ,qN]at h4;subst h4;exact Or.inl ((hm _).2 (Or.inr ⟨_,F,h6⟩))
     | succ a=>exact Or.inr (Or.inl ⟨a,_,Q5,by simpa using h4,_,F,h6⟩)
   exact Or.inr (Or.inr d)
 rintro⟨u1,i,e,h1,h2,d⟩;refine⟨_,i,e,RE,h2,?_⟩;rcases d with d|⟨a,u2,ha,h4,e2,F,h6⟩|d
 · rcases(hm _).1 d with d|⟨e2,F,h6⟩
   · exact Or.inl d
   exact Or.inr (Or.inl ⟨0,u,Q5,rfl,_,F,h6⟩)
 · exact Or.inr (Or.inl ⟨a+1,_,Q5,by simpa using h4,_,F,h6⟩)
 exact Or.inr (Or.inr d)
theorem j9:∀(l:I aK) (seen:I (I AI)) (k:R),g9 seen k l=G↔∀m,¬Tw seen l m
 | [],seen,k=>by
  rw[g9];exact⟨λ_ m ⟨u,i,e,h,_⟩=>by simp at h,λ_=>rfl⟩
 | u::l,seen,k=>by
  rw[g9];cases hs:eM seen u.aD with
  | none=>exact⟨λh=>(by cases h),λh=>absurd (rP.2 hs) (h 0)⟩
  | some s=>
   simp only;rw[j9 l s _];constructor
   · intro h m;cases m with
     | zero=>rw[rP,hs];simp
     | succ m=>rw[rT hs];exact h m
   intro h m hm;exact h _ ((rT hs).2 hm)
theorem qi:∀(l:I aK) (seen:I (I AI)) (k q:R),g9 seen k l=Y q->∃m,q=k+m/\Tw seen l m/\∀m',m'<m->¬Tw seen l m'
 | [],seen,k,q,h=>by rw[g9]at h;cases h
 | u::l,seen,k,q,h=>by
  rw[g9]at h;cases hs:eM seen u.aD with
  | none=>
   rw[hs]at h;cases h
   exact⟨0,rfl,rP.2 hs,λm' h=>by omega⟩
  | some s=>
   rw[hs]at h;simp only at h;obtain⟨m,h1,d,F⟩:=qi l s _ q h;refine⟨_,Q5,(rT hs).2 d,?_⟩;intro m' U0;cases m' with
   | zero=>rw[rP,hs];simp
   | succ m'=>rw[rT hs];exact F _ Q5
def vL(l:I aK)(n:I AI)(a b:R)(u:aK)(e:cJ):Prop:=l[a]? =Y u/\u.aD[b]? =Y e/\e.name=n
theorem vL.ahead{l:I aK}{n:I AI}{a d b':R}{u':aK}{e e':cJ}(h:vL l n a b u e)(h':vL l n d b' u' e')(IN:a<d\/a=d/\b<b'):Tw [] l d:=by
 obtain⟨h1,h2,h3⟩:=h;obtain⟨F,k2,k3⟩:=h';refine⟨_,_,_,F,k2,Or.inr ?_⟩;rcases IN with IN|⟨rfl,IN⟩
 · exact Or.inl ⟨a,u,IN,h1,e,dL h2,by rw[h3,k3]⟩
 rw[h1]at F;cases F
 exact Or.inr ⟨b,e,IN,h2,by rw[h3,k3]⟩
theorem vL.unique{l:I aK}(F:∀m,¬Tw [] l m){n:I AI}{a b a' d:R}{u u':aK}{e e':cJ}(h:vL l n a b u e)(h':vL l n a' d u' e'):a=a'/\b=d/\u=u'/\e=e':=by
 have ha:a=a':=by
  rcases Nat.lt_trichotomy a a' with c|c|c
  · exact absurd (h.ahead h' (Or.inl c)) (F _)
  · exact c
  exact absurd (h'.ahead h (Or.inl c)) (F _)
 have hb:b=d:=by
  rcases Nat.lt_trichotomy b d with c|c|c
  · exact absurd (h.ahead h' (Or.inr ⟨ha,c⟩)) (F _)
  · exact c
  exact absurd (h'.ahead h (Or.inr ⟨ha.symm,c⟩)) (F _)
 subst ha;subst hb;have hu:u=u':=by have:=h.1.symm.trans h'.1;cases this;rfl
 subst hu;have he:e=e':=by have:=h.2.1.symm.trans h'.2.1;cases this;rfl
 exact⟨rfl,rfl,rfl,he⟩
def gG(l:I aK)(k:R):R:=((l.take k).map λu=>D u.aE).sum
def cw(l:I aK)(k:R):R:=((l.take k).map λu=>D u.aG).sum
theorem OR{p:Prop}(h:p:=by rw[AB hk,Ju,List.sum_append_nat];simp only[Lq,List.map_nil,Mg,List.sum_nil,Mo]):p:=h
theorem lK{l:I aK}(h:l[k]? =Y u):gG l (k+1)=gG l k+D u.aE:=by
 obtain⟨hk,rfl⟩:=dm.1 h;unfold gG;exact OR
theorem i8{l:I aK}(h:l[k]? =Y u):cw l (k+1)=cw l k+D u.aG:=by
 obtain⟨hk,rfl⟩:=dm.1 h;unfold cw;exact OR
def em(N:I AI->A)(u:aK)(c f:R)(i:bP):bP:=
 if i.op=0 then { i with a:=if i.a<D u.aE then c+i.a else 65535 }
 else if i.op=13 then { i with a:=if i.a<D u.aG then f+i.a else match u.aC[(i.a-D u.aG).toNat]? with
  | some g=>N g.name
  | none=>65535 }
 else i
def nY(N:I AI->A)(u:aK)(c f:R)(g:aQ):aQ:={ g with code:=g.code.map (em N u c f) }
def mq(f:R)(e:cJ):cJ:={ e with func:=f+e.func }
def de(N:I AI->A):R->R->I aK->I A×I aQ×I cJ
 | _,_,[]=>([],[],[])
 | c,f,u::l=>
  let r:=de N (c+D u.aE) (f+D u.aG) l
  (u.aE++r.1,u.aG.map (nY N u c f)++r.2.1,u.aD.map (mq f)++r.2.2)
def iQ(n:I AI)(a:R):I cJ->R×R×A->R×R×A
 | [],r=>r
 | e::l,r=>iQ n a l (if e.name=n then (r.1+1,a,e.func) else r)
def eB(n:I AI):R->I aK->R×R×A->R×R×A
 | _,[],r=>r
 | a,u::l,r=>eB n (a+1) l (iQ n a u.aD r)
theorem RG{p:Prop}(h:p:=by simpa using h2):p:=h
theorem mW(n:I AI)(a:R):∀(l:I cJ) (r:R×R×A),(iQ n a l r=r/\∀e∈l,e.name≠n)\/(r.1<(iQ n a l r).1/\∃(b:R) (e:cJ),l[b]? =Y e/\e.name=n/\(iQ n a l r).2=(a,e.func))
 | [],r=>Or.inl ⟨rfl,Q6⟩
 | e::l,r=>by
  rw[iQ];by_cases h:e.name=n
  · rw[mI h];rcases mW n a l (r.1+1,a,e.func) with⟨d,_⟩|⟨d,b,e',h2,h3,h4⟩
    · rw[d];exact Or.inr ⟨Q6,0,e,rfl,h,rfl⟩
    exact Or.inr ⟨by simp only at d;omega,b+1,_,RG,h3,h4⟩
  rw[eP h];rcases mW n a l r with⟨d,h2⟩|⟨d,b,e',h2,h3,h4⟩
  · refine Or.inl ⟨d,?_⟩;intro x F;rcases Ce.1 F with rfl|F
    · exact h
    exact h2 x F
  exact Or.inr ⟨d,b+1,_,RG,h3,h4⟩
theorem mZ(n:I AI):∀(l:I aK) (a:R) (r:R×R×A),(eB n a l r=r/\∀u∈l,∀e∈u.aD,e.name≠n)\/(r.1<(eB n a l r).1/\∃(m b:R) (u:aK) (e:cJ),vL l n m b u e/\(eB n a l r).2=(a+m,e.func))
 | [],a,r=>Or.inl ⟨rfl,Q6⟩
 | u::l,a,r=>by
  rw[eB];rcases mW n a u.aD r with⟨h1,h2⟩|⟨h1,b,e,h2,h3,h4⟩
  · rw[h1];rcases mZ n l (a+1) r with⟨F,d⟩|⟨F,m,b,v,e,d,k3⟩
    · refine Or.inl ⟨F,?_⟩;intro x hx;rcases Ce.1 hx with rfl|hx
      · exact h2
      exact d x hx
    exact Or.inr ⟨F,m+1,b,v,e,⟨by simpa using d.1,d.2⟩,by rw[k3];congr 1;omega⟩
  rcases mZ n l (a+1) (iQ n a u.aD r) with⟨F,d⟩|⟨F,m,b,v,e,d,k3⟩
  · rw[F];exact Or.inr ⟨h1,0,b,u,e,⟨rfl,h2,h3⟩,h4⟩
  exact Or.inr ⟨Q5,m+1,b,v,e,⟨by simpa using d.1,d.2⟩,by rw[k3];congr 1;omega⟩
def qz(u:aK)(f:R):I cJ->(I AI->By (aQ×A))->I AI->By (aQ×A)
 | [],N=>N
 | e::l,N=>qz u f l λn=>if n=e.name then (u.aG[e.func.toNat]?).map λg=>(g,(f:A)+e.func) else N n
def iA:R->I aK->(I AI->By (aQ×A))->I AI->By (aQ×A)
 | _,[],N=>N
 | f,u::l,N=>iA (f+D u.aG) l (qz u f u.aD N)
theorem uQ(u:aK)(f:R)(n:I AI):∀(l:I cJ) (N:I AI->By (aQ×A)),(qz u f l N n=N n/\∀e∈l,e.name≠n)\/∃(b:R) (e:cJ),l[b]? =Y e/\e.name=n/\qz u f l N n=(u.aG[e.func.toNat]?).map λg=>(g,(f:A)+e.func)
 | [],N=>Or.inl ⟨rfl,Q6⟩
 | e::l,N=>by
  rw[qz];rcases uQ u f n l (λn=>if n=e.name then (u.aG[e.func.toNat]?).map λg=>(g,f+e.func) else N n) with⟨h1,h2⟩|⟨b,e',h2,F,h4⟩
  · rw[h1];by_cases h:n=e.name
    · rw[mI h];exact Or.inr ⟨0,e,rfl,h.symm,rfl⟩
    rw[eP h];refine Or.inl ⟨rfl,?_⟩;intro x d;rcases Ce.1 d with rfl|d
    · exact λc=>h c.symm
    exact h2 x d
  exact Or.inr ⟨b+1,_,RG,F,h4⟩
theorem zP(u:aK)(l:I aK)(m:R):cw (u::l) (m+1)=D u.aG+cw l m:=by simp[cw]
theorem qF(n:I AI):∀(l:I aK) (f:R) (N:I AI->By (aQ×A)),(iA f l N n=N n/\∀u∈l,∀e∈u.aD,e.name≠n)\/∃(m b:R) (u:aK) (e:cJ),vL l n m b u e/\iA f l N n=(u.aG[e.func.toNat]?).map λg=>(g,((f+cw l m:R):A)+e.func)
 | [],f,N=>Or.inl ⟨rfl,Q6⟩
 | u::l,f,N=>by
  rw[iA];rcases qF n l (f+D u.aG) (qz u f u.aD N) with⟨k1,d⟩|⟨m,b,v,e,d,k3⟩
  · rw[k1];rcases uQ u f n u.aD N with⟨h1,h2⟩|⟨b,e,h2,h3,h4⟩
    · refine Or.inl ⟨h1,?_⟩;intro x F;rcases Ce.1 F with rfl|F
      · exact h2
      exact d x F
    exact Or.inr ⟨0,b,u,e,⟨rfl,h2,h3⟩,by rw[h4];simp[cw]⟩
  refine Or.inr ⟨m+1,b,v,e,⟨by simpa using d.1,d.2⟩,?_⟩;rw[k3,zP,MX]
theorem AP{l:I aK}(hn:∀m,¬Tw [] l m)(n:I AI):
 ((eB n 0 l (0,0,0)).1=0/\iA 0 l (λ_=>G) n=G/\∀u∈l,∀e∈u.aD,e.name≠n)\/
 (0<(eB n 0 l (0,0,0)).1/\∃(b:R) (u:aK) (e:cJ),vL l n (eB n 0 l (0,0,0)).2.1 b u e/\(eB n 0 l (0,0,0)).2.2=e.func/\
  iA 0 l (λ_=>G) n=(u.aG[e.func.toNat]?).map λg=>(g,(cw l (eB n 0 l (0,0,0)).2.1:A)+e.func)):=by
 rcases mZ n l 0 (0,0,0) with⟨h1,d⟩|⟨h1,m,b,u,e,d,h3⟩
 · refine Or.inl ⟨by rw[h1],?_,d⟩;rcases qF n l 0 (λ_=>G) with⟨k1,_⟩|⟨m,b,u,e,F,_⟩
   · exact k1
   exact absurd F.2.2 (d u (dL F.1) e (dL F.2.1))
 refine Or.inr ⟨h1,b,u,e,?_,by rw[h3],?_⟩
 · rw[h3];simpa using d
 rcases qF n l 0 (λ_=>G) with⟨_,F⟩|⟨m',b',u',e',F,k3⟩
 · exact absurd d.2.2 (F u (dL d.1) e (dL d.2.1))
 obtain⟨rfl,rfl,rfl,rfl⟩:=d.unique hn F;rw[k3,h3];simp
def fW(p:aK->Bool):R->I aK->By R
 | _,[]=>G
 | k,u::l=>if p u=AT then Y k else fW p (k+1) l
def tgtN(l:I aK)(n:I AI):A:=match iA 0 l (λ_=>G) n with
 | some (_,k)=>k
 | none=>0
def jX(N:I AI->By (aQ×A))(i:eL):Bool:=match N i.name with
 | some (g,_)=>decide (i.aH=g.aH/\i.result=g.result)
 | none=>AS
def dK:I aK->aK ⊕ (A×R)
 | []=>.inr (4,0)
 | h::t=>
  let l:=h::t
  let N:=iA 0 l λ_=>G
  if 6<D l then .inr (4,0)
  else match fW (λu=>!bG u) 0 l with
  | some k=>.inr (1,k)
  | none=>match fW (λu=>!decide (u.aA=h.aA)) 0 l with
  | some k=>.inr (5,k)
  | none=>match g9 [] 0 l with
  | some k=>.inr (6,k)
  | none=>match fW (λu=>u.aC.any λi=>!(N i.name).isSome) 0 l with
  | some k=>.inr (7,k)
  | none=>match fW (λu=>u.aC.any λi=>!jX N i) 0 l with
  | some k=>.inr (8,k)
  | none=>
   let r:=de (tgtN l) 0 0 l
   if 30<D r.2.1\/50<D r.1\/20<D r.2.2 then .inr (9,0) else .inl ⟨h.aA,r.1,r.2.1,[],r.2.2⟩
theorem lV{p:aK->Bool}:∀(l:I aK) (k:R),fW p k l=G↔∀u∈l,p u=AS
 | [],k=>by simp[fW]
 | u::l,k=>by
  rw[fW];cases h:p u with
  | true=>simp[h]
  | false=>simp[h,lV l _]
theorem qm{p:aK->Bool}:∀(l:I aK) (k q:R),fW p k l=Y q↔∃m u,q=k+m/\l[m]? =Y u/\p u=AT/\∀m' F,m'<m->l[m']? =Y F->p F=AS
 | [],k,q=>by simp[fW]
 | u::l,k,q=>by
  rw[fW];cases h:p u with
  | true=>
   simp only[KA,qN];constructor
   · rintro rfl;exact⟨0,u,rfl,rfl,h,λm' F h=>by omega⟩
   rintro⟨m,v,h1,h2,d,h4⟩;cases m with
   | zero=>omega
   | succ m=>have:=h4 0 u Q5 rfl;rw[h]at this;cases this
  | false=>
   simp only[Bool.false_eq_true,L3];rw[qm l _ q];constructor
   · rintro⟨m,v,h1,h2,d,h4⟩;refine⟨m+1,v,Q5,RG,d,?_⟩;intro m' F hm hu;cases m' with
     | zero=>simp only[JQ,qN]at hu;subst hu;exact h
     | succ m'=>exact h4 m' _ Q5 (by simpa using hu)
   rintro⟨m,v,h1,h2,d,h4⟩;cases m with
   | zero=>simp only[JQ,qN]at h2;subst h2;rw[h]at d;cases d
   | succ m=>exact⟨m,v,Q5,RG,d,λm' F hm hu=>h4 (m'+1) _ Q5 (by simpa using hu)⟩
def oL(a:R->A)(i j:R):R->A:=λk=>if k=i then a j else if k=j then a i else a k
def Hp(a:R->A)(n:R):Prop:=∀i,0<i->i<n->a ((i-1)/2)<=a i
structure yP(a:R->A)(n j:R):Prop where
 rest:∀i,0<i->i<n->i≠j->a ((i-1)/2)<=a i
 over:∀i,0<i->i<n->(i-1)/2=j->0<j->a ((j-1)/2)<=a i
structure xL(a:R->A)(n i:R):Prop where
 rest:∀c,0<c->c<n->(c-1)/2≠i->a ((c-1)/2)<=a c
 over:∀c,0<c->c<n->(c-1)/2=i->0<i->a ((i-1)/2)<=a c
theorem Hp.root(h:Hp a n):∀i,i<n->a 0<=a i:=by
 intro i
 induction i using Nat.strongRecOn with
 | _ i F=>
  intro hi;by_cases d:i=0
  · subst d;exact MM _
  exact Int.le_trans (F _ Q5 Q5) (h i Q5 hi)
structure kC(a b:R->A)(n:R):Prop where
 mem:∀x,(∃i,i<n/\a i=x)↔∃i,i<n/\b i=x
 inj:(∀i j,i<n->j<n->a i=a j->i=j)->∀i j,i<n->j<n->b i=b j->i=j
theorem kC.refl(a:R->A)(n:R):kC a a n:=⟨λ_=>Iff.rfl,λh=>h⟩
theorem kC.trans{b c:R->A}(h:kC a b n)(k:kC b c n):kC a c n:=⟨λx=>(h.mem x).trans (k.mem x),λhi=>k.inj (h.inj hi)⟩
def sg(i j k:R):R:=if k=i then j else if k=j then i else k
theorem Ds(a:R->A)(i j k:R):oL a i j k=a (sg i j k):=by unfold oL sg;split<;>(try split)<;>rfl
theorem pt{j:R}(hi:i<n)(hj:j<n):kC a (oL a i j) n:=by
 refine⟨λx=>⟨?_,?_⟩,λF p q hp hq h=>?_⟩
 · rintro⟨k,d,rfl⟩;by_cases h1:k=i
   · refine⟨j,hj,?_⟩;unfold oL;split
     · rename_i e;rw[h1,e]
     simp[h1]
   by_cases h2:k=j
   · exact⟨i,hi,by unfold oL;simp[h2]⟩
   exact⟨k,d,by unfold oL;simp[h1,h2]⟩
 · rintro⟨k,d,rfl⟩;unfold oL;split
   · exact⟨j,hj,rfl⟩
   split
   · exact⟨i,hi,rfl⟩
   exact⟨k,d,rfl⟩
 rw[Ds,Ds]at h;have:=F _ _ (by unfold sg;split<;>(try split)<;>omega) (by unfold sg;split<;>(try split)<;>omega) h
 unfold sg at this;split at this<;>split at this<;>(try split at this)<;>(try split at this)<;>omega
theorem yP.stop{j:R}(h:yP a n j)(hs:j=0\/a ((j-1)/2)<=a j):Hp a n:=by
 intro i F hi;by_cases d:i=j
 · subst d;rcases hs with e|e
   · omega
   exact e
 exact h.rest i F hi d
theorem yP.step{j:R}(h:yP a n j)(hj:j<n)(h0:0<j)(hl:a j<a ((j-1)/2)):yP (oL a ((j-1)/2) j) n ((j-1)/2):=by
 generalize hp:(j-1)/2=p at h hl |-;have ae:p<j:=Q5;refine⟨λi i0 i1 i2=>?_,λi i0 i1 i2 i3=>?_⟩
 · unfold oL;by_cases e1:(i-1)/2=p
   · rw[mI e1,eP i2];by_cases d:i=j
     · rw[mI d];omega
     rw[eP d];have:=h.rest i i0 i1 d
     rw[e1]at this;omega
   rw[eP e1,eP i2];by_cases d:(i-1)/2=j
   · rw[mI d,eP Q5];have:=h.over i i0 i1 d h0
     rw[hp]at this;exact this
   rw[eP d];by_cases e3:i=j
   · subst e3;omega
   rw[eP e3];exact h.rest i i0 i1 e3
 unfold oL;have ad:(p-1)/2≠p:=by omega
 have F:(p-1)/2≠j:=Q5;rw[eP ad,eP F];have h1:=h.rest p i3 Q5 Q5;rw[eP Q5];by_cases d:i=j
 · rw[mI d];exact h1
 rw[eP d];have:=h.rest i i0 i1 d
 rw[i2]at this;omega
theorem xL.stop(h:xL a n i)(hs:∀c,0<c->c<n->(c-1)/2=i->a i<=a c):Hp a n:=by
 intro c d F;by_cases e:(c-1)/2=i
 · rw[e];exact hs c d F e
 exact h.rest c d F e
theorem xL.step{c:R}(h:xL a n i)(ad:0<c)(hc:c<n)(F:(c-1)/2=i)(hl:a c<a i)(hm:∀d,0<d->d<n->(d-1)/2=i->a c<=a d):xL (oL a i c) n c:=by
 have ae:i<c:=Q5;refine⟨λd d0 d1 d2=>?_,λd d0 d1 d2 d3=>?_⟩
 · unfold oL;by_cases e1:(d-1)/2=i
   · rw[mI e1,eP Q5];by_cases e2:d=c
     · rw[mI e2];omega
     rw[eP e2];exact hm d d0 d1 e1
   rw[eP e1,eP d2];by_cases e2:d=i
   · rw[mI e2];subst e2;have:=h.over c ad hc F d0
     exact this
   rw[eP e2];by_cases e3:d=c
   · subst e3;exact absurd F e1
   rw[eP e3];exact h.rest d d0 d1 e1
 unfold oL;rw[mI F,eP Q5,eP Q5];have:=h.rest d d0 d1 Q5
 rw[d2]at this;exact this
theorem Hp.push(h:Hp a n)(x:A):yP (λk=>if k=n then x else a k) (n+1) n:=by
 refine⟨λi i0 i1 i2=>?_,λi i0 i1 i2 i3=>by omega⟩;rw[eP Q5,eP i2];exact h i i0 Q5
theorem Hp.pop(h:Hp a (n+1)):xL (oL a 0 n) n 0:=by
 refine⟨λc c0 c1 c2=>?_,λc c0 c1 c2 c3=>by omega⟩;unfold oL;rw[eP c2,eP Q5,eP Q5,eP Q5];exact h c c0 Q5
def bU(u:aK)(f:aQ)(i:bP):By (I A×I A):=
 let slots:=f.aH++f.aI
 let shape:By (I A):=if 1<=i.a then u.aA[(i.a-1).toNat]? else G
 if i.op=0 then (if i.a<D u.aE then Y ([],[0]) else G)
 else if i.op=1 then Y ([],[0])
 else if i.op=2 then slots[i.a.toNat]?.map λk=>([],[k])
 else if i.op=3 then slots[i.a.toNat]?.map λk=>([k],[])
 else if i.op=4 then Y ([-1],[])
 else if i.op=5 then Y ([-1],[-1,-1])
 else if i.op=6\/i.op=7\/i.op=8\/i.op=9\/i.op=10 then Y ([0,0],[0])
 else if i.op=11 then (if i.a<D f.code then Y ([],[]) else G)
 else if i.op=12 then (if i.a<D f.code then Y ([0],[]) else G)
 else if i.op=13 then
  (match u.aG[i.a.toNat]? with
  | some g=>Y (g.aH,[g.result])
  | none=>u.aC[i.a.toNat-D u.aG]?.map λg=>(g.aH,[g.result]))
 else if i.op=14 then Y ([f.result],[])
 else if i.op=15 then shape.map λs=>(s,[i.a])
 else if i.op=16 then shape.bind λs=>s[i.b.toNat]?.map λk=>([i.a],[k])
 else if i.op=17 then shape.bind λs=>s[i.b.toNat]?.map λk=>([i.a,k],[])
 else if i.op=18 then shape.map λ_=>([],[i.a])
 else if i.op=19 then shape.map λ_=>([i.a],[0])
 else if i.op=20 then Y ([0],[])
 else G
def iL:I A->I A->Bool
 | [],[]=>AT
 | t::ts,s::ss=>(decide (t<0)||decide (t=s))&&iL ts ss
 | _,_=>AS
def rE:I A->I A->A
 | t::ts,s::ss=>if t<0 then s else rE ts ss
 | _,_=>0
def et(u:aK)(f:aQ)(i:bP)(stack:I A):By (I A):=
 match bU u f i with
 | none=>G
 | some (ts,ps)=>
  if D stack<D ts then G
  else if iL ts (stack.drop (D stack-D ts))=AS then G
  else
   let out:=stack.take (D stack-D ts)++ps.map λp=>if p<0 then rE ts (stack.drop (D stack-D ts)) else p
   if D out<=20/\(i.op≠14\/D stack=D ts) then Y out else G
def ch(f:aQ)(q:R)(i:bP):I (By R):=
 let behind:=if q+1<D f.code then Y (q+1) else G
 if i.op=11 then [Y i.a.toNat] else if i.op=14 then [] else if i.op=12 then [behind,Y i.a.toNat] else [behind]
def dB(s:I A)(q:R):I (By R)->(R->By (I A))->R ⊕ (R->By (I A))
 | [],st=>.inr st
 | none::_,_=>.inl q
 | some t::l,st=>
  match st t with
  | some s0=>if s0=s then dB s q l st else .inl t
  | none=>dB s q l λk=>if k=t then Y s else st k
def kE(n:R)(st:R->By (I A))(dn:R->Bool):By R:=(List.range n).find? λk=>(st k).isSome && !dn k
def j5(u:aK)(f:aQ):R->(R->By (I A))->(R->Bool)->By R
 | 0,_,_=>G
 | k+1,st,dn=>
  match kE (D f.code) st dn with
  | none=>G
  | some q=>
   match f.code[q]?,st q with
   | some i,Y s=>
    match et u f i s with
    | none=>Y q
    | some s'=>
     match dB s' q (ch f q i) st with
     | .inl t=>Y t
     | .inr st'=>j5 u f k st' λj=>decide (j=q)||dn j
   | _,_=>G
def fj(u:aK)(f:aQ):By R:=j5 u f (D f.code+1) (λk=>if k=0 then Y [] else G) λ_=>AS
def iC(u:aK):R->I aQ->A×R×R
 | _,[]=>(0,0,0)
 | k,f::l=>match fj u f with
  | some q=>(10,k,q)
  | none=>iC u (k+1) l
def ar(u:aK):A×R×R:=if bG u then iC u 0 u.aG else (1,0,0)
theorem nM{st:R->By (I A)}:kE n st dn=Y q↔q<n/\((st q).isSome && !dn q)=AT/\∀k,k<q->((st k).isSome && !dn k)=AS:=by
 unfold kE;rw[List.find?_range_eq_some];constructor
 · rintro⟨h1,h2,F⟩;exact⟨RG,h1,λk d=>by
    have h4:=F k d;rwa [Ms]at h4⟩
 · rintro⟨h1,h2,F⟩;exact⟨h2,RE,λk d=>by
    show(!((st k).isSome && !dn k))=AT
    rw[Ms];exact F k d⟩
theorem nN{st:R->By (I A)}:kE n st dn=G↔∀k,k<n->((st k).isSome && !dn k)=AS:=by
 unfold kE;rw[List.find?_eq_none];constructor
 · intro h k d;have:=h k (MN.2 d)
   simpa using this
 intro h k d;have:=h k (MN.1 d)
 simpa using this
def bq(u:aK)(f:aQ)(i:bP)(stack:I A):By (I A×I A):=
 if i.op=4 then stack.getLast?.map λk=>([k],[])
 else if i.op=5 then stack.getLast?.map λk=>([k],[k,k])
 else bU u f i
def kL(u:aK)(f:aQ)(i:bP)(stack:I A):By (I A):=
 match bq u f i stack with
 | none=>G
 | some (ts,ps)=>
  if D stack<D ts\/stack.drop (D stack-D ts)≠ts then G
  else if i.op=14 then (if D stack=D ts then Y (stack.take (D stack-D ts)++ps) else G)
  else if D (stack.take (D stack-D ts)++ps)<=20 then Y (stack.take (D stack-D ts)++ps) else G
theorem yG:∀(ts s:I A),(∀t∈ts,0<=t)->iL ts s=decide (s=ts)
 | [],[],_=>by simp[iL]
 | [],_::_,_=>by simp[iL]
 | _::_,[],_=>by simp[iL]
 | t::ts,s::ss,h=>by
  have F:¬t<0:=by have:=h t Q6;omega
  rw[iL,yG _ _ λx d=>h x (by simp[d])];rw[KZ];simp only[sQ,M1,xw,F,false_or,Bk];exact⟨λh=>⟨h.1.symm,h.2⟩,λh=>⟨h.1.symm,h.2⟩⟩
theorem BX(a:A):∀(ps:I A),(∀p∈ps,0<=p)->(ps.map λp=>if p<0 then a else p)=ps
 | [],_=>rfl
 | p::ps,h=>by
  have hp:¬p<0:=by have:=h p Q6;omega
  rw[Lq,eP hp,BX a _ λx d=>h x (by simp[d])]
theorem sd{k:A}(h:s.getLast? =Y k):∃t,s=t++[k]:=List.getLast?_eq_some_iff.1 h
theorem FC{f:aQ}{i:bP}{ts:I A}(h:i.op=14)(he:bU u f i=Y (ts,ps)):ts=[f.result]/\ps=[]:=by
 unfold bU at he;simp[h]at he
 exact⟨he.1.symm,he.2⟩
theorem Eb{f:aQ}{i:bP}(s:I A)(hn:∀ts ps,bU u f i=Y (ts,ps)->i.op≠4->i.op≠5->(∀t∈ts,0<=t)/\(∀p∈ps,0<=p)):kL u f i s=et u f i s:=by
 by_cases h4:i.op=4
 · have F:bU u f i=Y ([-1],[]):=by unfold bU;simp[h4]
   unfold kL et bq;rw[F,mI h4];cases d:s.getLast? with
   | none=>rw[List.getLast?_eq_none_iff]at d;subst d;simp
   | some k=>
    obtain⟨t,rfl⟩:=sd d;simp[iL,h4]
 by_cases h5:i.op=5
 · have F:bU u f i=Y ([-1],[-1,-1]):=by unfold bU;simp[h5]
   unfold kL et bq;rw[F,eP h4,mI h5];cases d:s.getLast? with
   | none=>rw[List.getLast?_eq_none_iff]at d;subst d;simp
   | some k=>
    obtain⟨t,rfl⟩:=sd d;simp[iL,rE,h5]
 unfold kL et bq;rw[eP h4,eP h5];cases F:bU u f i with
 | none=>rfl
 | some p=>
  obtain⟨ts,ps⟩:=p;obtain⟨h1,h2⟩:=hn _ _ F h4 h5;simp only;rw[yG _ _ h1,BX _ _ h2];by_cases d:D s<D ts
  · rw[mI d,mI (Or.inl d)]
  rw[eP d];by_cases hd:s.drop (D s-D ts)=ts
  · have c1:¬(D s<D ts\/s.drop _≠ts):=λh=>h.elim d (λh=>h hd)
    have c2:¬(decide (s.drop (D s-D ts)=ts)=AS):=by simp[hd]
    rw[eP c1,eP c2];by_cases TM:i.op=14
    · obtain⟨e1,e2⟩:=FC TM F;rw[mI TM];by_cases hs:D s=D ts
      · rw[mI hs,mI ⟨by rw[hs,e2];simp,Or.inr hs⟩]
      have c3:¬(D (s.take (D s-D ts)++ps)<=20/\(i.op≠14\/D s=D ts)):=λh=>h.2.elim (λh=>h TM) hs
      rw[eP hs,eP c3]
    rw[eP TM];simp[TM]
  have c4:decide (s.drop (D s-D ts)=ts)=AS:=by simp[hd]
  rw[mI (Or.inr hd),mI c4]
theorem EY{n k:A}(h:iH n k=AT):0<=k:=by unfold iH wB at h;simp at h;exact h.1
theorem wH{n:A}(h:l.all (iH n)=AT):∀k∈l,0<=k:=λk d=>EY (zl.1 h k d)
theorem Fu{r n:A}(h:iG ps r n=AT):(∀k∈ps,0<=k)/\0<=r:=by
 unfold iG at h;simp only[sQ]at h;exact⟨wH h.2.1,EY h.2.2⟩
theorem Gm{f:aQ}{n:A}(h:dA n f=AT):(∀k∈f.aH,0<=k)/\0<=f.result/\(∀k∈f.aI,0<=k)/\f.code.all bl=AT/\1<=D f.code:=by
 unfold dA ir at h;simp only[sQ]at h;have F:=Fu h.1;have d:=h.2.2.2.1;unfold wB at d;simp at d;exact⟨F.1,F.2,wH h.2.2.1,h.2.2.2.2,Q5⟩
theorem nr{α:Type}{l:I α}{x:α}(h:l[k]? =Y x):x∈l:=dL h
theorem OV{p:Prop}(h:p:=by
 split at he
 · cases he;simp
 cases he):p:=h
theorem Ps{p:Prop}(h:p:=by
 rw[eP c15]at he;by_cases c16:i.op=20
 · rw[mI c16]at he;cases he;simp
 rw[eP c16]at he;cases he):p:=h
theorem A4{f:aQ}{i:bP}(hu:bG u=AT)(hf:f∈u.aG):∀ts ps,bU u f i=Y (ts,ps)->i.op≠4->i.op≠5->(∀t∈ts,0<=t)/\(∀p∈ps,0<=p):=by
 intro ts ps he n4 n5;unfold bG bh cO cG at hu;simp only[sQ]at hu;obtain⟨⟨-,ad⟩,-,⟨-,af⟩,⟨-,ae⟩,-⟩:=hu;have hF:=λg hg=>Gm (zl.1 af g hg)
 have hI:∀g∈u.aC,(∀k∈g.aH,0<=k)/\0<=g.result:=by
  intro g hg;have:=zl.1 ae g hg
  unfold gC at this;simp only[sQ]at this;exact Fu this.2
 have hS:∀(k:R) s,u.aA[k]? =Y s->∀x∈s,0<=x:=by
  intro k s h;have:=zl.1 ad s (nr h)
  unfold dM at this;simp only[sQ]at this;exact wH this.2
 have Tn:∀(k:R) x,(f.aH++f.aI)[k]? =Y x->0<=x:=by
  intro k x h;rcases F1.1 (nr h) with h|h
  · exact(hF f hf).1 x h
  exact(hF f hf).2.2.1 x h
 have d:∀s,(if 1<=i.a then u.aA[(i.a-1).toNat]? else G)=Y s->0<=i.a/\∀x∈s,0<=x:=by
  intro s h;by_cases F:1<=i.a
  · rw[mI F]at h;exact⟨Q5,hS _ s h⟩
  rw[eP F]at h;cases h
 unfold bU at he;generalize ai:(if 1<=i.a then u.aA[(i.a-1).toNat]? else G)=S at he d;by_cases c0:i.op=0
 · rw[mI c0]at he;exact OV
 rw[eP c0]at he;by_cases c1:i.op=1
 · rw[mI c1]at he;cases he;simp
 rw[eP c1]at he;by_cases c2:i.op=2
 · rw[mI c2]at he;rw[AF]at he;obtain⟨k,hk,e⟩:=he;cases e;simpa using Tn _ _ hk
 rw[eP c2]at he;by_cases c3:i.op=3
 · rw[mI c3]at he;rw[AF]at he;obtain⟨k,hk,e⟩:=he;cases e;simpa using Tn _ _ hk
 rw[eP c3]at he;by_cases c4:i.op=4
 · rw[mI c4]at he;exact absurd c4 n4
 rw[eP c4]at he;by_cases c5:i.op=5
 · rw[mI c5]at he;exact absurd c5 n5
 rw[eP c5]at he;by_cases c6:i.op=6\/i.op=7\/i.op=8\/i.op=9\/i.op=10
 · rw[mI c6]at he;cases he;simp
 rw[eP c6]at he;by_cases c7:i.op=11
 · rw[mI c7]at he;exact OV
 rw[eP c7]at he;by_cases c8:i.op=12
 · rw[mI c8]at he;exact OV
 rw[eP c8]at he;by_cases c9:i.op=13
 · rw[mI c9]at he;split at he
   · rename_i g hg
     cases he
     have:=hF g (nr hg)
     exact⟨this.1,by simpa using this.2.1⟩
   rw[AF]at he;obtain⟨g,hg,e⟩:=he;cases e;have:=hI g (nr hg)
   exact⟨this.1,by simpa using this.2⟩
 rw[eP c9]at he;by_cases c10:i.op=14
 · rw[mI c10]at he;cases he;simpa using(hF f hf).2.1
 rw[eP c10]at he;by_cases c11:i.op=15
 · rw[mI c11]at he;rw[AF]at he;obtain⟨s,hs,e⟩:=he;cases e;obtain⟨F,hx⟩:=d _ hs;exact⟨hx,by simpa using F⟩
 rw[eP c11]at he;by_cases c12:i.op=16
 · rw[mI c12]at he;rw[Mw]at he;obtain⟨s,hs,he⟩:=he;rw[AF]at he;obtain⟨k,hk,e⟩:=he;cases e;obtain⟨F,hx⟩:=d _ hs;exact⟨by simpa using F,by simpa using hx k (nr hk)⟩
 rw[eP c12]at he;by_cases c13:i.op=17
 · rw[mI c13]at he;rw[Mw]at he;obtain⟨s,hs,he⟩:=he;rw[AF]at he;obtain⟨k,hk,e⟩:=he;cases e;obtain⟨F,hx⟩:=d _ hs;have:=hx k (nr hk)
   refine⟨?_,Q6⟩;intro t ht;simp at ht;rcases ht with rfl|rfl<;>assumption
 rw[eP c13]at he;by_cases c14:i.op=18
 · rw[mI c14]at he;rw[AF]at he;obtain⟨s,hs,e⟩:=he;cases e;obtain⟨F,hx⟩:=d _ hs;exact⟨Q6,by simpa using F⟩
 rw[eP c14]at he;by_cases c15:i.op=19
 · rw[mI c15]at he;rw[AF]at he;obtain⟨s,hs,e⟩:=he;cases e;obtain⟨F,hx⟩:=d _ hs;exact⟨by simpa using F,Q6⟩
 exact Ps
structure pX(N:R)(a:R->A)(n:R)(st:R->By (I A))(dn:R->Bool):Prop where
 hp:Hp a n
 inj:∀i j,i<n->j<n->a i=a j->i=j
 mem:∀x,(∃i,i<n/\a i=x)↔∃k:R,x=(k:A)/\(st k).isSome=AT/\dn k=AS
 lt:∀k,(st k).isSome=AT->k<N
 seen:∀k,dn k=AT->(st k).isSome=AT
theorem pX.empty(N:R)(a:R->A):pX N a 0 (λ_=>G) (λ_=>AS):=
 ⟨λi _ h=>by omega,λi _ h=>by omega,λx=>⟨λ⟨i,h,_⟩=>by omega,λ⟨k,_,h,_⟩=>by simp at h⟩,λk h=>by simp at h,λk h=>by simp at h⟩
theorem pX.nothing{st:R->By (I A)}(h:pX N a 0 st dn):kE N st dn=G:=by
 rw[nN];intro k _;cases hs:(st k).isSome with
 | false=>rfl
 | true=>
  cases d:dn k with
  | true=>rfl
  | false=>
   obtain⟨i,hi,_⟩:=(h.mem k).2 ⟨k,rfl,hs,d⟩;omega
theorem pX.top{st:R->By (I A)}(h:pX N a n st dn)(hn:0<n):∃q:R,a 0=q/\q<N/\(st q).isSome=AT/\dn q=AS/\kE N st dn=Y q:=by
 obtain⟨q,hq,hs,hd⟩:=(h.mem _).1 ⟨0,hn,rfl⟩;refine⟨q,hq,h.lt q hs,hs,hd,?_⟩;rw[nM];refine⟨h.lt q hs,by simp[hs,hd],?_⟩;intro k hk;cases d:(st k).isSome with
 | false=>rfl
 | true=>
  cases F:dn k with
  | true=>rfl
  | false=>
   obtain⟨i,hi,e⟩:=(h.mem k).2 ⟨k,rfl,d,F⟩;have:=h.hp.root i hi
   omega
theorem pX.pop{b:R->A}{st:R->By (I A)}(h:pX N a (n+1) st dn)(hq:a 0=q)(hb:Hp b n)(hs:kC (oL a 0 n) b n):
 pX N b n st (λj=>decide (j=q)||dn j):=by
 have d:∀i,i<n->oL a 0 n i=a (if i=0 then n else i):=by
  intro i hi;unfold oL;by_cases h0:i=0
  · simp[h0]
  rw[eP h0,eP Q5,eP h0]
 obtain⟨q',al,ak,av⟩:=(h.mem _).1 ⟨0,Q5,rfl⟩;have eq:q'=q:=Q5;subst eq;have ad:∀i j,i<n->j<n->oL a 0 n i=oL a 0 n j->i=j:=by
  intro i j hi hj e;rw[d i hi,d j hj]at e;have:=h.inj _ _ (by split<;>omega) (by split<;>omega) e
  split at this<;>split at this<;>omega
 refine⟨hb,hs.inj ad,?_,h.lt,?_⟩
 · intro x;rw[<-hs.mem x];constructor
   · rintro⟨i,hi,e⟩;rw[d i hi]at e;obtain⟨k,F,h1,h2⟩:=(h.mem x).1 ⟨_,(by split<;>omega),e⟩
     refine⟨k,F,h1,?_⟩;have No:k≠q':=by
      intro ai;have:=h.inj (if i=0 then n else i) 0 (by split<;>omega) Q5 (by rw[e,F,ai,hq])
      split at this<;>omega
     simp[No,h2]
   rintro⟨k,F,h1,h2⟩;simp only[Bool.or_eq_false_iff,zG]at h2;obtain⟨i,hi,e⟩:=(h.mem x).2 ⟨k,F,h1,h2.2⟩;have ae:i≠0:=by
    intro h0;subst h0;rw[hq]at e;exact h2.1 Q5
   by_cases af:i=n
   · subst af;exact⟨0,Q5,by rw[d 0 Q5,mI rfl,e]⟩
   exact⟨i,Q5,by rw[d i Q5,eP ae,e]⟩
 intro k F;simp only[M1,xw]at F;rcases F with rfl|F
 · exact ak
 exact h.seen k F
theorem pX.push{b:R->A}{t:R}{st:R->By (I A)}(h:pX N a n st dn)(ht:t<N)(Tj:st t=G)(hb:Hp b (n+1))(hs:kC (λk=>if k=n then (t:A) else a k) b (n+1)):
 pX N b (n+1) (λk=>if k=t then Y s else st k) dn:=by
 have ae:dn t=AS:=by
  cases hd:dn t with
  | false=>rfl
  | true=>have:=h.seen t hd;rw[Tj]at this;cases this
 have ad:∀i,i<n->a i≠t:=by
  intro i hi e;obtain⟨k,F,h1,_⟩:=(h.mem _).1 ⟨i,hi,rfl⟩;have:k=t:=Q5
  subst this;rw[Tj]at h1;cases h1
 refine⟨hb,hs.inj ?_,?_,?_,?_⟩
 · intro i j hi hj e;by_cases h1:i=n
   · by_cases h2:j=n
     · omega
     rw[mI h1,eP h2]at e;exact absurd e.symm (ad j Q5)
   by_cases h2:j=n
   · rw[eP h1,mI h2]at e;exact absurd e (ad i Q5)
   rw[eP h1,eP h2]at e;exact h.inj i j Q5 Q5 e
 · intro x;rw[<-hs.mem x];constructor
   · rintro⟨i,hi,e⟩;by_cases h1:i=n
     · simp only[mI h1]at e;exact⟨t,e.symm,Q6,ae⟩
     simp only[eP h1]at e;obtain⟨k,F,h2,h3⟩:=(h.mem x).1 ⟨i,Q5,e⟩;refine⟨k,F,?_,h3⟩;split
     · rfl
     exact h2
   rintro⟨k,F,h2,h3⟩;by_cases d:k=t
   · subst d;exact⟨n,Q5,by simp[F]⟩
   simp only[eP d]at h2;obtain⟨i,hi,e⟩:=(h.mem x).2 ⟨k,F,h2,h3⟩;exact⟨i,Q5,by rw[eP Q5,e]⟩
 · intro k F;by_cases d:k=t
   · omega
   simp only[eP d]at F;exact h.lt k F
 intro k F;by_cases d:k=t
 · simp[d]
 simp only[eP d];exact h.seen k F
def dh:R->(R->Bool)->R
 | 0,_=>0
 | n+1,dn=>dh n dn+if dn n=AT then 0 else 1
theorem QL{p:Prop}(h:p:=by simp;omega):p:=h
theorem qu:∀(n q:R) (dn:R->Bool),n<=q->dh n (λj=>decide (j=q)||dn j)=dh n dn
 | 0,_,_,_=>rfl
 | n+1,q,dn,h=>by
  rw[dh,dh,qu n q _ Q5];have:decide (n=q)=AS:=QL
  simp[this]
theorem j7:∀(n q:R) (dn:R->Bool),q<n->dn q=AS->dh n (λj=>decide (j=q)||dn j)+1=dh n dn
 | 0,_,_,h,_=>by omega
 | n+1,q,dn,h,hd=>by
  by_cases e:q=n
  · subst e;rw[dh,dh,qu q q _ Q5];simp[hd]
  have:=j7 n q _ Q5 hd
  rw[dh,dh,<-this];have d:decide (n=q)=AS:=QL
  simp only[d,Bool.false_or];omega
theorem ug:∀(n:R) (dn:R->Bool),dh n dn<=n
 | 0,_=>by simp[dh]
 | n+1,dn=>by
  have:=ug n dn
  rw[dh];split<;>omega
def nW(u:aK)(f:aQ)(q:R)(i:bP)(s:I A)(st:R->By (I A)):R ⊕ (R->By (I A)):=
 match et u f i s with
 | none=>.inl q
 | some s'=>dB s' q (ch f q i) st
theorem sG{f:aQ}{st:R->By (I A)}(h:kE (D f.code) st dn=G):j5 u f (k+1) st dn=G:=by
 rw[j5,h]
theorem tD{f:aQ}{st:R->By (I A)}{i:bP}(h:kE (D f.code) st dn=Y q)(hi:f.code[q]? =Y i)(hs:st q=Y s):
 j5 u f (k+1) st dn=match nW u f q i s st with
  | .inl t=>Y t
  | .inr d=>j5 u f k d (λj=>decide (j=q)||dn j):=by
 rw[j5,h];simp only[hi,hs];unfold nW;cases et u f i s with
 | none=>rfl
 | some s'=>rfl
theorem j_:∀(l:I (By R)) (st d:R->By (I A)),dB s q l st=.inr d->∀k,(st k).isSome=AT->d k=st k
 | [],st,d,h,k,F=>by rw[dB]at h;cases h;rfl
 | none::l,st,d,h,k,F=>by rw[dB]at h;cases h
 | some t::l,st,d,h,k,F=>by
  rw[dB]at h;cases ht:st t with
  | some s0=>
   rw[ht]at h;simp only at h;by_cases e:s0=s
   · rw[mI e]at h;exact j_ l _ _ h k F
   rw[eP e]at h;cases h
  | none=>
   rw[ht]at h;simp only at h;have No:k≠t:=by intro e;subst e;rw[ht]at F;cases F
   have:=j_ l _ _ h k (by simp only[eP No];exact F)
   rw[this];simp only[eP No]
open Go.RowKit Go.Maps
def I1(v:M):By (DataW M×I MemPlace):=Y (.held v,[])
theorem Tryz.uMap:Tryz.prog.underlying 171=Y (.map 3 26):=Q7
theorem Tryz.zMap(w:T):(zeroValue 26).run Tryz.prog w=.ok (J G 0 0) w:=Q7
theorem Tryz.kInt:Tryz.prog.underlying 3=Y (.int Z):=Q7
theorem Tryz.keyed:Keyed Tryz.prog 3:=int_keyed Tryz.kInt
def yK(k:R):Lit:=.int Z (k:A)
theorem zg(k:R)(d:k<1000000):keyOf prog 3 (O Z (k:A))=Y (yK k):=keyOf_int_mk Tryz.kInt (WalkArith.wf_i64 Q5)
theorem Gi{j:R}(h:yK k=yK j):k=j:=by
 unfold yK at h;injection h with _ d
 omega
def Am:M:=J G 0 0
structure jD(w:T)(b n:R)(m:R->By M):Prop where
 is:∃DDq:DataW M,w.ownsMap prog 3 I1 b n DDq/\∀k,k<1000000->Maps.has DDq (yK k)=(m k).isSome/\DDq.atKey (yK k) (.held Am)=.held ((m k).getD Am)
theorem jD.made(w:T):jD (w.alloc (.map #[] 0)) w.heap.size 0 (λ_=>G):=
 ⟨_,World.ownsMap_made w _ _ _,λk _=>⟨rfl,rfl⟩⟩
theorem jD.lt(h:jD w b n m):b<w.heap.size:=by
 obtain⟨DDq,d,_⟩:=h.is;exact d.lt
theorem PI{p:Prop}(h:p:=by obtain⟨DDq,⟨es,clock,hb,r⟩,h2⟩:=h.is;exact⟨DDq,⟨_,_,g.trans hb,r⟩,h2⟩):p:=h
theorem jD.kept(h:jD w b n m)(g:w'.heap[b]? =w.heap[b]?):jD w' b n m:=by
 exact PI
theorem Px{p:Prop}(h:p:=by
 have:=congrArg Prod.fst (tz hv)
 simp only[(h2 k hk).2,DataW.held.injEq]at this;rw[this]):p:=h
theorem jD.look(h:jD w b n m)(k:R)(hk:k<1000000):(Instr.lookup 171 (.map (Y b)) (O Z (k:A)) AT).run prog w=.ok (.tuple #[(m k).getD Am,.bool (m k).isSome]) w:=by
 obtain⟨DDq,F,h2⟩:=h.is;obtain⟨v,ps,d,hv⟩:=F.look_ok Tryz.keyed Tryz.uMap (Tryz.zMap w) (zd:=.held Am) rfl (zg k hk);rw[d,(h2 k hk).1];exact Px
theorem jD.look1(h:jD w b n m)(k:R)(hk:k<1000000):(Instr.lookup 171 (.map (Y b)) (O Z (k:A)) AS).run prog w=.ok ((m k).getD Am) w:=by
 obtain⟨DDq,F,h2⟩:=h.is;obtain⟨v,ps,d,hv⟩:=F.lookup Tryz.keyed Tryz.uMap (Tryz.zMap w) (zd:=.held Am) rfl (zg k hk);rw[d];exact Px
theorem Py{p:Prop}(h:p:=by subst e;rw[has_put_same h1.isMap (by trivial),atKey_put_same h1.isMap (by trivial)];simp):p:=h
theorem jD.store(h:jD w b n m)(k:R)(hk:k<1000000)(hn:n<1000000)(v:M):
 ∃w',(Instr.mapUpdate 171 (.map (Y b)) (O Z (k:A)) v).run prog w=.ok () w'/\jD w' b (n+1) (λj=>if j=k then Y v else m j)/\w.grownBy w' (Y b):=by
 obtain⟨DDq,h1,h2⟩:=h.is;obtain⟨w',F,Tf,d⟩:=h1.store Tryz.keyed Tryz.uMap QB (zg k hk) (val:=v) rfl;refine⟨_,F,⟨_,Tf,λj hj=>?_⟩,d.grown⟩;by_cases e:j=k
 · exact Py
 have No:yK j≠yK k:=λh=>e (Gi h)
 rw[has_put_other No,atKey_put_other No,eP e];exact h2 j hj
open Go.RowKit
def dg(l:I A)(k:R):A:=l.getD k 0
def i7(l:I A)(i j:R):I A:=(l.set i (dg l j)).set j (dg l i)
theorem l9(l:I A)(i j:R):D (i7 l i j)=D l:=by simp[i7]
theorem ng{j:R}(hi:i<D l)(hj:j<D l):dg (i7 l i j)=oL (dg l) i j:=by
 funext k
 unfold dg i7 oL;simp only[mh,MJ];by_cases h1:k=j
 · subst h1;by_cases d:k=i
   · subst d;simp[hi,dg]
   have F:¬i=k:=λe=>d e.symm
   simp[d,F,hj,dg]
 have ad:¬j=k:=λe=>h1 e.symm
 by_cases d:k=i
 · subst d;simp[h1,ad,hi,dg]
 have F:¬i=k:=λe=>d e.symm
 simp[h1,d,ad,F,dg]
theorem zQ(l:I A)(x:A):dg (l++[x])=λk=>if k=D l then x else dg l k:=by
 funext k
 unfold dg;simp only[mh];by_cases h:k<D l
 · rw[ze h,eP Q5]
 rw[Ag Q5];by_cases d:k=D l
 · simp[d]
 rw[eP d,AK jB,AK Q5]
theorem Ed(h:k<n):dg (l.take n) k=dg l k:=by
 unfold dg;simp only[mh];rw[Lh,mI h]
def fK(l:I A):I M:=l.map λx=>O Z x
theorem mH(l:I A):D (fK l)=D l:=by simp[fK]
theorem zy{j:R}(h:j<D l):(fK l)[j]? =Y (O Z (dg l j)):=by
 unfold fK dg;rw[Ha,mh,dW h];rfl
theorem F2(l:I A)(j:R)(x:A):(fK l).set j (O Z x)=fK (l.set j x):=by
 unfold fK;rw[List.map_set]
def fF(w:T)(B:R)(v:M)(l:I A):Prop:=w.ownsRow B 3 1 v (D l) (fK l)
theorem fF.form{v:M}(h:fF w B v l):(∃ao cap,v=J ao (D l) cap)/\D l<=maxLen:=by
 obtain⟨h1,F⟩:=h;rcases F with⟨rfl,d⟩|⟨g,cap,cur,rfl,_,_,h4,h5,_⟩
 · exact⟨⟨_,0,by rw[d]⟩,by rw[d];decide⟩
 exact⟨⟨_,_,rfl⟩,Q5⟩
theorem fF.at{v:M}(h:fF w B v l)(hl:0<D l):∃g cap,v=J (Y (Q g 0 G)) (D l) cap/\B<=g/\g<w.heap.size/\(∀j,j<D l->H w (Q g j G)=Y (O Z (dg l j)))/\∀j,w.frozen? ⟨g,j,G⟩=AS:=by
 have d:=h;obtain⟨h1,h2⟩:=h;rcases h2 with⟨rfl,h3⟩|⟨g,cap,cur,rfl,F,hh,h4,h5,_⟩
 · omega
 refine⟨g,_,rfl,F,(eJ.1 hh).1,λj hj=>?_,λj=>d.frozenAt j⟩;rw[d.cellAt j Q5,zy hj]
theorem fF.set{cap:R}(h:fF w B (J (Y (Q g 0 G)) (D l) cap) l)(j:R)(x:A):fF (w.setCell (Q g j G) (O Z x)) B (J (Y (Q g 0 G)) (D l) cap) (l.set j x):=by
 have:=(World.ownsRow.stored h j (O Z x)).1
 rw[F2]at this;unfold fF;rw[List.length_set];exact this
theorem fF.keep{v:M}(h:fF w B v l)(g:∀b,v.ownBlock=Y b->w'.heap[b]? =w.heap[b]?):fF w' B v l:=by
 obtain⟨h1,F⟩:=h;refine⟨h1,?_⟩;rcases F with⟨rfl,h3⟩|⟨k,cap,cur,rfl,d,hh,r⟩
 · exact .inl ⟨rfl,h3⟩
 exact .inr ⟨k,_,_,rfl,d,(g k rfl).trans hh,r⟩
theorem fF.cut{cap:R}(h:fF w B (J (Y (Q g 0 G)) (D l) cap) l)(hn:n<=D l):fF w B (J (Y (Q g 0 G)) n cap) (l.take n):=by
 obtain⟨h1,h2⟩:=h;have d:D (l.take n)=n:=Sj
 unfold fF;rw[d];rcases h2 with⟨h3,_⟩|⟨k,c,cur,he,F,hh,h4,h5,h6,h7⟩
 · simp at h3
 simp only[jj,qN,Ij,I7,Bt]at he;obtain⟨rfl,rfl⟩:=he;refine⟨by rw[mH,d];omega,.inr ⟨g,_,_,rfl,F,hh,Q5,h5,h6,?_⟩⟩;have:fK (l.take n)=(fK l).take n:=by unfold fK;rw[List.map_take]
 rw[this,<-h7,List.take_take];congr 1;omega
attribute [local go_sem ↓] Go.wp_at_zero Go.wp_at_succ
def oG(e n a:A):I PanicEntry:=[{ v:=.iface 91 (.agg #[O Z e,O Z n,O Z a]),recovered:=AS }]
theorem dP(e n a:A)(w:T):
 Calls prog 53 #[.agg #[O Z e,O Z n,O Z a],.bool AT] w λx w'=>x=.returned (.tuple #[])/\Gr w w':=by
 go_enter func53,ntmps53
 go_wp2;go_end0
 exact⟨rfl,(G0).alloc _⟩
theorem dq(e n a:A)(w:T):
 Calls prog 53 #[.agg #[O Z e,O Z n,O Z a],.bool AS] w λx w'=>x=.panicked (oG e n a)/\Gr w w':=by
 go_enter func53,ntmps53
 go_wp2;exact⟨rfl,rfl,(G0).alloc _⟩
def Dr(o:By A)(n a:A):Ending:=match o with
 | none=>.panicked (oG 10 n a)
 | some k=>.returned (O Z k)
theorem Qq{p:Prop}(h:p:=by rw[Q_];omega):p:=h
theorem Bj(s:I A)(v:M)(n a:A)(w:T)(hR:aY w v s):
 Calls prog 165 #[v,.agg #[O Z 10,O Z n,O Z a]] w λx w'=>x=Dr s.getLast? n a/\Gr w w':=by
 obtain⟨ao,cap,rfl,hm,hc⟩:=hR;unfold maxLen at hm;have HC:=aJ hc;by_cases hl:0<D s
 · obtain⟨b,off,rfl,S6⟩:=HC (D s-1) Q5;have F:U (s.getLast? =Y (s.getD _ 0)):=aJ (by
    rw[List.getLast?_eq_getElem?,mh,dW (show D s-1<(D s) by omega)];rfl)
   have ae:Z.wrap (D s-1)=((D s-1:R):A):=Qq
   generalize s.getD _ 0=y at S6 F;have S9:((D s-1:R):A)<D s:=Q5;have d:∀w',Gr (w.alloc (X #[O Z 10,O Z n,O Z a] 91)) w'->H w' _=Y _:=λw' h=>h.cell ((zp w _ G).cell S6 Q6) Q6
   go_enter func165,ntmps165
   go_wp2_with((go_at_call 53;refine(dP _ _ _ _).mono ?_;rintro e w' ⟨rfl,BY⟩);have ad:=d w' BY)
   go_ret
   exact⟨by rw[F];rfl,Q0⟩
 · obtain rfl:s=[]:=by cases s with|nil=>rfl|cons=>simp at hl
   go_enter func165,ntmps165
   go_wp2_with((go_at_call 53;refine(dq _ _ _ _).mono ?_;rintro e w' ⟨rfl,BY⟩))
   exact⟨rfl,rfl,Q0⟩
theorem Pu{p:Prop}(h:p:=by
 apply List.ext_getElem hl
 intro i h1 h2;have:=h i h1
 rw[mh,mh,dW h1,dW h2]at this;exact this):p:=h
theorem yQ{m:I A}(hl:D l=D m)(h:∀j,j<D l->l.getD j 0=m.getD j 0):l=m:=by
 exact Pu
theorem gS(h:Gr w w')(n:R):Gr w (w'.drewN n):=⟨h.os,h.tape,h.output,h.size,h.block⟩
theorem SZ{p:Prop}(h:p:=by rw[HD];rfl):p:=h
theorem OY{p:Prop}(h:p:=by
 have HG:=aJ hg;clear hg;go_wp2_with fail;go_ret
 exact⟨SZ,HG⟩):p:=h
theorem O1{p:Prop}(h:p:=by
 go_wp2_with fail;go_ret
 exact⟨SZ,G0⟩):p:=h
theorem Rt{p:Prop}(h:p:=by exact⟨0,rfl,Lz,λj h=>by omega,G0⟩):p:=h
theorem Rz{p:Prop}(h:p:=by rw[zG];intro e;subst e;exact hlen rfl):p:=h
theorem oF(va vb:M)(l m:I A)(w:T)(ha:aY w va l)(hb:aY w vb m):
 Calls prog 74 #[va,vb] w λx w'=>x=.returned (.bool (decide (l=m)))/\Gr w w':=by
 have HA:=aJ ha;have ay:=aJ hb;obtain⟨a1,c1,rfl,hm,_⟩:=ha;obtain⟨a2,c2,rfl,ax,_⟩:=hb;unfold maxLen at hm ax;by_cases hlen:D l=D m
 · have No:((D l:A)!=D m)=AS:=by simp[hlen]
   have hM:=hlen.symm;have af:=aJ hlen;rw[hM]at No |-;clear hlen;have Vo:=aJ hM;clear hM;go_enter func74,ntmps74
   go_wp2_with fail;go_loopw[13] (λi wr=>∃k:R,i=O Z k/\k<=D l/\(∀j,j<k->l.getD j 0=m.getD j 0)/\Gr w wr) λi _=>D l-(intOf i).toNat
   case atStart=>exact Rt
   obtain⟨k,rfl,hk,Tc,hg⟩:=hrel;have ad:=aJ Tc;clear Tc;by_cases IN:k<D l
   · obtain⟨aC,aD,al,_,ak⟩:=HA.j;obtain⟨aB,aE,ae,_,TD⟩:=ay.j;rw[Vo]at ae TD;simp only[jj,Bt]at al ae;obtain⟨b1,o1,rfl,ai⟩:=ak k IN;obtain⟨b2,o2,rfl,Tx⟩:=TD k IN;obtain⟨rfl,rfl⟩:=al;obtain⟨rfl,rfl⟩:=ae;have av:=hg.cell ai Q6;have az:=hg.cell Tx Q6;have HX:∀x y,l.getD k 0=x->m.getD k 0=y->U (l.getD k 0=x/\m.getD k 0=y):=λx y h1 h2=>aJ ⟨h1,h2⟩
     obtain⟨x,hx⟩:∃x,l.getD k 0=x:=⟨_,rfl⟩;obtain⟨y,hy⟩:∃y,m.getD k 0=y:=⟨_,rfl⟩;have F:=HX x y hx hy;rw[hx]at av;rw[hy]at az;have HG:=aJ hg;clear ak TD ai Tx hg hx hy;by_cases d:x=y
     · have S9:(x !=y)=AS:=by simp[d]
       have Uv:U (∀j,j<k+1->l.getD j 0=m.getD j 0):=aJ (λj hj=>by
        by_cases e:j=k
        · subst e;rw[F.1,F.2,d]
        exact ad j Q5)
       clear d;go_wp2_with fail;go_quiet (fail)
       go_wp2_with fail;exact⟨⟨_,Q6,IN,Uv,gS HG _⟩,Qh⟩
     have S9:(x !=y)=AT:=by simp[d]
     have HD:U (decide (l=m)=AS):=aJ (by
      rw[zG];intro e;subst e;exact d (F.1.symm.trans F.2))
     clear d;go_wp2_with fail;go_quiet (fail)
     go_wp2_with fail;go_ret
     exact⟨SZ,gS HG _⟩
   have aA:k=D l:=by omega
   subst aA;have HD:U (decide (l=m)=AT):=aJ (by rw[xw];exact yQ af ad);exact OY
 have No:((D l:A)!=D m)=AT:=Sa
 have HD:U (decide (l=m)=AS):=aJ Rz;clear hlen;go_enter func74,ntmps74
 exact O1
theorem Tryz.infF:(Tryz.prog.info? 3).map (λi=>(i.zero,i.size,i.bytes))=Y (Y (O Z 0),1,8):=Q7
theorem Tryz.uInts:Tryz.prog.underlying 26=Y (.slice 3):=Q7
theorem Tryz.uIntF:Tryz.prog.underlying 3=Y (.int Z):=Q7
def I2(w:T)(e:Ending)(w':T):Prop:=∃v,e=.returned v/\w'.ownsRow w.heap.size 3 1 v 0 []/\Gr w w'
theorem FF(n:R)(hn:n<=100000)(w:T):Calls prog 154 #[J G 0 0,O Z (n:A)] w (I2 w):=by
 have h1:¬((n:A)<0):=Q5;have h3:wrap64 n=n:=by unfold wrap64;omega
 have ai:Z.wrap _=n:=Q_;by_cases h0:n=0
 · subst h0;go_enter func154,ntmps154
   go_wp2_with fail;go_ret
   exact⟨_,rfl,B5 _ _ _ _,G0⟩
 have h4:(n:A)>0:=by omega
 obtain⟨i0,hi,TU,Ty,TO⟩:=Lt Tryz.infF;have F:=λty=>Lib.run_append_grow_zeros w _ 3 ty 3 _ _ Z _ Tryz.uInts Tryz.uIntF hi TU _ 0 0 _ (run_firstCells_none _ _ 0 0 0) n Q5 Q5 Q5 Q5 RM (growslice_fits Q5 RM)
 have ae:0+n<=grownCap w _ 0 3:=grownCap_ge w _ _ _;have ad:=grownCap_le_maxLen w (0+n) 0 3 QB;generalize grownCap w _ 0 3=d at F ae ad;rw[Aq]at F ae;have TY:U ((w.alloc _).drew.ownsRow _ 3 1 _ 0 _):=aJ (by
  have:=World.ownsRow_made (e:=3) (size:=1) w (Builtin.zeroCells #[O Z 0] n++Builtin.zeroCells #[O Z 0] (d-n)) d lj ad (by simp[Builtin.zeroCells];omega)
  exact this)
 have TS:U (Gr w (w.alloc (X (Builtin.zeroCells #[O Z 0] n++Builtin.zeroCells #[O Z 0] (d-n)) 3)).drew):=aJ (((Gr.refl w).alloc _).drew);have af:=aJ F;go_enter func154,ntmps154
 go_wp2_with(at_builtin;refine CH _ rfl _ _ _ _ rfl _ _ rfl rfl _ _ (af.j _) ?_)
 all_goals go_ret
 all_goals exact⟨J (Y (Q w.heap.size 0 G)) 0 d,rfl,TY.j,TS.j⟩
def dH(w:T)(v:M)(l:I aK):Prop:=
 ∃ao cap,v=J ao (D l) cap/\D l<=maxLen/\∀i u,l[i]? =Y u->∃b off v1 v2 v3 v4 v5,ao=Y (Q b off G)/\
  w.cell? ⟨b,off+i*5,G⟩=Y v1/\H w ⟨b,off+i*5+1,G⟩=Y v2/\H w ⟨b,off+i*5+2,G⟩=Y v3/\H w ⟨b,off+i*5+3,G⟩=Y v4/\H w ⟨b,off+i*5+4,G⟩=Y v5/\bV w (.agg #[v1,v2,v3,v4,v5]) u
theorem dH.gr{v:M}{l:I aK}(h:dH w v l)(g:Gr w w'):dH w' v l:=by
 obtain⟨ao,cap,hv,hm,d⟩:=h;refine⟨_,_,hv,hm,λi x hi=>?_⟩;obtain⟨b,off,v1,v2,v3,v4,v5,h1,k1,k2,k3,k4,F,hu⟩:=d i x hi;exact⟨b,_,_,_,_,_,_,h1,g.cell k1 Q6,g.cell k2 Q6,g.cell k3 Q6,g.cell k4 Q6,g.cell F Q6,hu.gr g⟩
theorem dH.shape{v:M}{l:I aK}(h:dH w v l):∃ao cap,v=J ao (D l) cap:=by
 exact NR
theorem bV.slices{v1 v2 v3 v4 v5:M}(h:bV w (.agg #[v1,v2,v3,v4,v5]) u):(∃a c,v1=J a (D u.aA) c)/\(∃a c,v2=J a (D u.aE) c)/\(∃a c,v3=J a (D u.aG) c)/\(∃a c,v4=J a (D u.aC) c)/\∃a c,v5=J a (D u.aD) c:=by
 obtain⟨x1,x2,x3,x4,x5,he,h1,h2,h3,d,F⟩:=h;simp only[Ch,FL,Bk,I7]at he;obtain⟨rfl,rfl,rfl,rfl,rfl⟩:=he;exact⟨h1.shape,h2.shape,h3.shape,d.shape,F.shape⟩
def Jr(e:A)(IIq:R->T->Prop)(B:T->Prop)(n:R)(o:By R)(x:Ending)(w':T):Prop:=match o with
 | none=>x=.returned (.tuple #[])/\IIq n w'
 | some k=>x=.panicked (iT e (k:A))/\B w'
def jF(p:R->aK->Bool):R->I aK->By R
 | _,[]=>G
 | k,u::l=>if p k u=AT then Y k else jF p (k+1) l
theorem mB(p:aK->Bool):∀(l:I aK) (k:R),jF (λ_=>p) k l=fW p k l
 | [],_=>rfl
 | u::l,k=>by rw[jF,fW,mB p l _]
def CK(W:T)(f:FuncId)(first caps:Array M)(e:A)(l:I aK)(p:R->aK->Bool)(IIq:R->T->Prop)(B:T->Prop):Prop:=
 ∀(k:R) (u:aK) (V:T) (vu:M),l[k]? =Y u->IIq k V->bV W vu u->
  Calls prog f (first++(#[vu,.agg #[O Z e,O Z 0,O Z (k:A)]]++caps)) V λx V'=>(p k u=AS/\x=.returned (.tuple #[])/\IIq (k+1) V')\/(p k u=AT/\x=.panicked (iT e (k:A))/\B V')
theorem nD(f:FuncId)(first caps:Array M)(Vb:∀(vu vr:M) (w:T),(callFunc f (first++(#[vu,vr]++caps))).run prog w=.ok (.enter f (first++(#[vu,vr]++caps))) w)(e:A)(l:I aK)(vl:M)(p:R->aK->Bool)(d:R->T->Prop)(B:T->Prop)(W w:T)
 (hR:dH W vl l) (hB:∀k V,d k V->Gr W V) (hI:∀k V V',d k V->Gr V V'->d k V') (h0:d 0 w) (hA:CK W f first caps e l p d B) (hlen:D l<=1000000) (aA:∃a c,vl=J a (D l) c):
 Calls prog 70 #[vl,O Z e,.func (.func f) first caps] w (Jr e d B (D l) (jF p 0 l)):=by
 obtain⟨al,cl,rfl⟩:=aA;have HR:=aJ hR;have HI:=aJ hI;have ax:=aJ hB;have HA:=aJ hA;have H0:=aJ h0;have ak:=aJ Vb;clear hR hI h0 hA Vb hB;go_enter func70,ntmps70
 go_wp2_with fail;go_loopw[10] (λi wr=>∃k:R,i=O Z (k:A)/\k<=D l/\jF p 0 l=jF p k (l.drop k)/\d k wr) λi _=>D l-(intOf i).toNat
 case atStart=>exact⟨0,rfl,Lz,rfl,H0⟩
 obtain⟨k,rfl,hk,hf,hi⟩:=hrel;have HF:=aJ hf;have ad:=aJ hi;clear hf hi;by_cases IN:k<D l
 · obtain⟨u,hu⟩:=aU IN;obtain⟨ao,cap,he,_,hc⟩:=HR.j;obtain⟨b,off,v1,v2,v3,v4,v5,rfl,k1,k2,k3,k4,k5,ae⟩:=hc k u hu;have F:=ax k _ ad;have k1:=F.cell k1 Q6;have k2:=F.cell k2 Q6;have k3:=F.cell k3 Q6;have k4:=F.cell k4 Q6;have k5:=F.cell k5 Q6;simp only[jj,Bt]at he;obtain⟨rfl,rfl⟩:=he;obtain⟨⟨a1,c1,rfl⟩,⟨a2,c2,rfl⟩,⟨a3,c3,rfl⟩,⟨a4,c4,rfl⟩,⟨a5,c5,rfl⟩⟩:=ae.slices;have UB:(k:A)<D l:=by omega
   have hw:Z.wrap _=k+1:=Q_;have ai:=Gr.alloc (Gr.refl wr) (X (yE u a1 c1 a2 c2 a3 c3 a4 c4 a5 c5) 58);have aB:=aJ (HA k u _ _ hu (HI k _ _ ad ai) ae);have HS:U (jF p 0 l=if p k u=AT then Y k else jF p _ (l.drop (k+1))):=aJ (by
    rw[HF,Be IN];have:=by rw[dW IN]at hu;exact tz hu
    rw[this,jF])
   clear hc ae hu ai F;go_wp2_with fail;rw[ak,M3];refine aB.mono ?_;rintro x w2 (⟨hp,rfl,af⟩|⟨hp,rfl,av⟩)
   · have ay:=aJ af;have HN:U (jF p 0 l=jF p (k+1) _):=aJ (by rw[HS,hp];rfl);clear hp af;go_wp2_with fail;exact⟨⟨_,Q6,IN,HN,ay⟩,Qh⟩
   refine⟨rfl,?_⟩;rw[HS,mI hp];exact⟨rfl,av⟩
 have az:k=D l:=by omega
 subst az;have HN:U (jF p 0 l=G):=aJ (by rw[HF,Ln];rfl);clear IN hk;go_wp2_with fail;go_end0
 rw[HN];exact⟨rfl,ad⟩
theorem DP{α:Type}{l m:I α}(d:D l=D m)(h:∀j,j<D l->l[j]? =m[j]?):l=m:=by
 apply Mq
 intro i;by_cases hi:i<D l
 · exact h i hi
 rw[AK Q5,AK Q5]
theorem PY{p:Prop}(h:p:=by go_wp2_with fail;exact⟨⟨_,Q6,IN,Uv,OF⟩,by simp[intOf];omega⟩):p:=h
theorem A5(va vb:M)(l m:I (I A))(w:T)(ha:cS w va l)(hb:cS w vb m):
 Calls prog 73 #[va,vb,.func (.func 74) #[] #[]] w λx w'=>x=.returned (.bool (decide (l=m)))/\Gr w w':=by
 obtain⟨a1,c1,rfl,hm,ae⟩:=ha;obtain⟨a2,c2,rfl,af,TD⟩:=hb;unfold maxLen at hm af;have ai:=aJ ae;have Tr:=aJ TD;clear ae TD;by_cases hlen:D l=D m
 · have No:((D l:A)!=D m)=AS:=by simp[hlen]
   have F:=aJ hlen;clear hlen;go_enter func73,ntmps73
   go_wp2_with fail;go_loopw[17] (λi wr=>∃k:R,i=O Z k/\k<=D l/\(∀j,j<k->l[j]? =m[j]?)/\Gr w wr) λi _=>D l-(intOf i).toNat
   case atStart=>exact Rt
   obtain⟨k,rfl,hk,Tc,hg⟩:=hrel;have ad:=aJ Tc;have HG:=aJ hg;clear Tc hg;by_cases IN:k<D l
   · obtain⟨x,hx⟩:=aU IN;obtain⟨y,hy⟩:=aU (show k<(D m) by have:=F.j;omega);obtain⟨b1,o1,vx,rfl,x1,x2⟩:=ai k x hx;obtain⟨b2,o2,vy,rfl,y1,y2⟩:=Tr k y hy;obtain⟨p1,q1,rfl⟩:=x2.shape;obtain⟨p2,q2,rfl⟩:=y2.shape;have x1:=HG.cell x1 Q6;have y1:=HG.cell y1 Q6;have UB:(k:A)<D l:=by omega
     have av:(k:A)<D m:=by have:=F.j;omega
     have hw:Z.wrap _=k+1:=Q_;have al:=aJ (oF _ _ x y _ (x2.gr HG) (y2.gr HG));have HX:=aJ hx;have HY:=aJ hy;clear hx hy x2 y2;go_wp2_with fail;refine al.mono ?_;rintro z w2 ⟨rfl,IT⟩;have OF:=aJ (HG.trans IT);clear IT;by_cases d:x=y
     · have hd:decide (x=y)=AT:=by simpa using d
       rw[hd];have Uv:U (∀j,j<k+1->l[j]? =m[j]?):=aJ (λj hj=>by
        by_cases e:j=k
        · subst e;rw[HX,HY,d]
        exact ad j Q5)
       clear hd d;exact PY
     have hd:decide (x=y)=AS:=by simpa using d
     rw[hd];have HD:U (decide (l=m)=AS):=aJ (by
      rw[zG];intro e;subst e;exact d (tz (HX.symm.trans HY)))
     clear hd d;go_wp2_with fail;go_ret
     exact⟨SZ,OF⟩
   have ak:k=D l:=by omega
   subst ak;have HD:U (decide (l=m)=AT):=aJ (by rw[xw];exact DP F ad);clear IN hk;go_wp2_with fail;go_ret
   exact⟨SZ,HG⟩
 have No:((D l:A)!=D m)=AT:=Sa
 have HD:U (decide (l=m)=AS):=aJ Rz;clear hlen;go_enter func73,ntmps73
 exact O1
open Go.RowKit Go.Maps Go.WideMaps Go.WideMaps
theorem Tryz.uMapT:Tryz.prog.underlying 164=Y (.map 9 231):=Q7
def tW:M:=.agg #[J G 0 0,O Z 0,J G 0 0,J G 0 0,O Z 0]
theorem Tryz.zMapT(w:T):(zeroValue 231).run Tryz.prog w=.ok tW w:=Q7
theorem Tryz.kStr:Tryz.prog.underlying 9=Y .string:=Q7
theorem Tryz.keyedS:Keyed Tryz.prog 9:=string_keyed Tryz.kStr
theorem wi(s:ByteArray)(hs:s.size<=maxLen):keyOf prog 9 (.string s)=Y (.string s.data.toList):=keyOf_string_mk Tryz.kStr hs
structure mY(w:T)(b n:R)(m:I AI->By M):Prop where
 is:∃DDq:DataW M,w.ownsMap prog 9 I1 b n DDq/\∀k,Maps.has DDq (.string k)=(m k).isSome/\DDq.atKey (.string k) (.held tW)=.held ((m k).getD tW)
theorem mY.made(w:T):mY (w.alloc (.map #[] 0)) w.heap.size 0 (λ_=>G):=
 ⟨_,World.ownsMap_made w _ _ _,λk=>⟨rfl,rfl⟩⟩
theorem mY.lt{m:I AI->By M}(h:mY w b n m):b<w.heap.size:=by
 obtain⟨DDq,d,_⟩:=h.is;exact d.lt
theorem mY.kept{m:I AI->By M}(h:mY w b n m)(g:w'.heap[b]? =w.heap[b]?):mY w' b n m:=by
 exact PI
theorem PE{p:Prop}(h:p:=by
 have:=congrArg Prod.fst (tz hv)
 simp only[(h2 _).2,DataW.held.injEq]at this;rw[this]):p:=h
theorem mY.look{m:I AI->By M}(h:mY w b n m)(s:ByteArray)(hs:s.size<=maxLen):(Instr.lookup 164 (.map (Y b)) (.string s) AT).run prog w=.ok (.tuple #[(m s.data.toList).getD tW,.bool (m s.data.toList).isSome]) w:=by
 obtain⟨DDq,F,h2⟩:=h.is;obtain⟨v,ps,d,hv⟩:=F.look_ok Tryz.keyedS Tryz.uMapT (Tryz.zMapT w) rfl (wi s hs);rw[d,(h2 _).1];exact PE
theorem mY.look1{m:I AI->By M}(h:mY w b n m)(s:ByteArray)(hs:s.size<=maxLen):(Instr.lookup 164 (.map (Y b)) (.string s) AS).run prog w=.ok ((m s.data.toList).getD tW) w:=by
 obtain⟨DDq,F,h2⟩:=h.is;obtain⟨v,ps,d,hv⟩:=F.lookup Tryz.keyedS Tryz.uMapT (Tryz.zMapT w) rfl (wi s hs);rw[d];exact PE
theorem mY.store{m:I AI->By M}(h:mY w b n m)(s:ByteArray)(hs:s.size<=maxLen)(hn:n<1000000)(v:M):
 ∃w',(Instr.mapUpdate 164 (.map (Y b)) (.string s) v).run prog w=.ok () w'/\mY w' b (n+1) (λj=>if j=s.data.toList then Y v else m j)/\w.grownBy w' (Y b):=by
 obtain⟨DDq,h1,h2⟩:=h.is;obtain⟨w',F,Tf,d⟩:=h1.store Tryz.keyedS Tryz.uMapT QB (wi s hs) (val:=v) rfl;refine⟨_,F,⟨_,Tf,λj=>?_⟩,d.grown⟩;by_cases e:j=s.data.toList
 · exact Py
 have No:(Lit.string j)≠Lit.string _:=λh=>e (by injection h)
 rw[has_put_other No,atKey_put_other No,eP e];exact h2 j
theorem Tryz.callUnl(vals:Array M)(w:T):(callFunc 53 vals).run Tryz.prog w=.ok (.enter 53 vals) w:=Q7
theorem Tryz.callEqF(vals:Array M)(w:T):(callFunc 73 vals).run Tryz.prog w=.ok (.enter 73 vals) w:=Q7
theorem Tryz.callEqI(vals:Array M)(w:T):(callFunc 74 vals).run Tryz.prog w=.ok (.enter 74 vals) w:=Q7
theorem aP{arr:Array M}{t:TypeId}{o:R}{f:R×R}(h:w.heap[b]? =Y (X arr t f)):H w (Q b o G)=arr[o]? :=by
 simp[World.cell?,h]
theorem EO(W:T)(l:I aK):CK W 71 #[] #[] 1 l (λ_ u=>!bG u) (λ_ V=>Gr W V) (λV=>Gr W V):=by
 intro k u V vu hu d F;refine(zD u _ 1 _ V (F.gr d)).mono ?_;rintro x w' ⟨rfl,IT⟩;cases h:bG u with
 | true=>exact .inl ⟨by simp[h],by rw[D6],d.trans IT⟩
 | false=>exact .inr ⟨by simp[h],by rw[E5],d.trans IT⟩
theorem bV.parts{v:M}(h:bV w v u):∃a1 F a3 d a5 c1 c2 c3 c4 c5,v=.agg (yE u a1 c1 F c2 a3 c3 d c4 a5 c5)/\cS w (J a1 (D u.aA) c1) u.aA/\aY w (J F (D u.aE) c2) u.aE/\eE w (J a3 (D u.aG) c3) u.aG/\dS w (J d (D u.aC) c4) u.aC/\ee w (J a5 (D u.aD) c5) u.aD:=by
 obtain⟨x1,x2,x3,x4,x5,he,h1,h2,h3,h4,h5⟩:=h;obtain⟨a1,c1,rfl⟩:=h1.shape;obtain⟨F,c2,rfl⟩:=h2.shape;obtain⟨a3,c3,rfl⟩:=h3.shape;obtain⟨d,c4,rfl⟩:=h4.shape;obtain⟨a5,c5,rfl⟩:=h5.shape;exact⟨_,_,_,_,_,_,_,_,_,_,he,h1,h2,h3,h4,h5⟩
structure K6(W:T)(ub b off n:R)(cl:R)(a0:By Addr)(c0:R)(sh:I (I A)):Prop where
 box:H W (Q ub 0 G)=Y (J (Y (Q b off G)) n cl)
 cell:H W (Q b off G)=Y (J a0 (D sh) c0)
 row:cS W (J a0 (D sh) c0) sh
 pos:0<n
theorem RP{p:Prop}(h:p:=by rw[aP e1];rfl):p:=h
theorem RR{p:Prop}(h:p:=by rw[aP e0];rfl):p:=h
theorem zw(W:T)(l:I aK)(ub b off n cl:R)(a0:By Addr)(c0:R)(sh:I (I A))(hF:K6 W ub b off n cl a0 c0 sh):
 CK W 72 #[] #[.pointer (Y (Q ub 0 G))] 5 l (λ_ u=>!decide (u.aA=sh)) (λ_ V=>Gr W V) (λV=>Gr W V):=by
 intro k u V vu hu hg hR;show Calls prog 72 #[vu,.agg #[O Z 5,O Z 0,O Z (k:A)],.pointer (Y (Q ub 0 G))] V _
 obtain⟨a1,F,a3,d,a5,c1,c2,c3,c4,c5,rfl,r1,_,_,_,_⟩:=(hR.gr hg).parts;have HG:=aJ hg;have Va:=aJ r1;have HF:=aJ hF;have WR:=hF.pos;go_enter func72,ntmps72
 go_wp2_with fail;have Uu:Gr V ((V.alloc (X (yE u a1 c1 F c2 a3 c3 d c4 a5 c5) 58)).alloc (X #[O Z 5,O Z 0,O Z k] 91)):=((Gr.refl V).alloc _).alloc _;have TI:=jZ V (X (yE u a1 c1 F c2 a3 c3 d c4 a5 c5) 58);have S9:=jZ (V.alloc (X (yE u a1 c1 F c2 a3 c3 d c4 a5 c5) 58)) (X #[O Z 5,O Z 0,O Z k] 91);have S5:Gr _ ((V.alloc (X (yE u a1 c1 F c2 a3 c3 d c4 a5 c5) 58)).alloc (X #[O Z 5,O Z 0,O Z k] 91)):=(G0).alloc _;have ad:(V.alloc (X (yE u a1 c1 F c2 a3 c3 d c4 a5 c5) 58)).heap.size=V.heap.size+1:=Q6;rw[ad]at S9;have KS:U (∀w',Gr _ w'->H w' ⟨_,0,_⟩=Y (.int _ 5)/\H w' ⟨_,1,_⟩=Y (.int _ 0)/\H w' ⟨_,2,_⟩=Y (.int _ _)/\H w' ⟨_,0,_⟩=Y (J _ _ _)/\H w' _=Y _/\H w' _=Y _):=aJ (λw' g=>by
  have g0:=S5.trans g;have gV:=HG.trans (Uu.trans g);have e0:=(g0.block _ Q6 Q6).trans TI;have e1:=(g.block _ Q6 Q6).trans S9;exact⟨RP,RP,RP,RR,gV.cell HF.box Q6,gV.cell HF.cell Q6⟩)
 have Ua:=aJ Uu;generalize (V.alloc _).alloc _=W1 at KS Ua |-;refine xE (S:=(λw'=>H w' _=Y _/\H w' _=Y _/\H w' _=Y _/\H w' _=Y _/\H w' _=Y _/\H w' _=Y _)) Q7 (KS _ Gy) λhH=>?_;refine tL 0 ?_;refine tL 1 ?_;refine tL 2 ?_;refine tL 3 ?_;refine tL 4 ?_;refine tL 5 ?_;refine tL 6 ?_;refine bQ (i:=7) rfl Q7 λK hK=>?_;refine am rfl _ _ _ rfl _ fZ (Tryz.callEqF _ _) ((A5 _ _ _ _ _ (Va.gr (Ua.trans Gy)) (HF.row.gr (HG.trans (Ua.trans Gy)))).mono ?_);rintro x w2 ⟨rfl,IT⟩;have OF:=aJ ((Gy).trans IT);refine .inl ⟨_,rfl,?_⟩;refine hK _ _ (KS _ OF) λhH=>?_;try simp only[Act.put,sA,s0,s1]
 refine bQ (i:=8) rfl Q7 λK hK=>?_;by_cases hd:u.aA=sh
 · have e:decide (u.aA=sh)=AT:=by simpa using hd
   refine am rfl _ _ _ rfl #[.agg #[.int _ 5,.int _ 0,.int _ k],.bool _] (by simp[Act.eval,e]) (Tryz.callUnl _ _) ((aj _ _ _).mono ?_);rintro x w3 ⟨rfl,Ta⟩;have Te:=aJ (OF.trans Ta);refine .inl ⟨_,rfl,?_⟩;refine hK _ _ (KS _ Te) λhH=>?_;try simp only[Act.put,sA,s0,s1]
   refine Ev Q7 ?_ _;go_wp2_with fail;go_end0
   exact .inl ⟨by simp[hd],rfl,HG.trans (Ua.trans Te)⟩
 have e:decide (u.aA=sh)=AS:=by simpa using hd
 refine am rfl _ _ _ rfl #[.agg #[.int _ 5,.int _ 0,.int _ k],.bool _] (by simp[Act.eval,e]) (Tryz.callUnl _ _) ((bA _ _ _).mono ?_);rintro x w3 ⟨rfl,Ta⟩;refine .inr ⟨_,rfl,?_⟩;exact⟨rfl,.inr ⟨by simp[hd],rfl,HG.trans (Ua.trans (OF.trans Ta))⟩⟩
end Go.Proofs.YtghjmnlapcpbiaaGreatDoor
