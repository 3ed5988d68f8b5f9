import Derived.Test.YtkgncijcnlfhiabGreatW4c
import Derived.Maps.OwnSet
import Derived.Laws.OwnMore
namespace Go.Proofs.YtkgncijcnlfhiabGreat
set_option linter.unusedVariables false
set_option linter.unusedSimpArgs false
def fR(seen:List (List UInt8)):List dq->Option (List (List UInt8))
 | []=>some seen
 | e :: l=>if e.name∈seen then none else fR (e.name :: seen) l
def ji(seen:List (List UInt8))(k:Nat):List aK->Option Nat
 | []=>none
 | u :: l=>match fR seen u.aC with
  | none=>some k
  | some s=>ji s (k+1) l
def kh(l:List aK)(k:Nat):Nat:=((l.take k).map fun u=>u.aD.length).sum
def dy(l:List aK)(k:Nat):Nat:=((l.take k).map fun u=>u.aE.length).sum
theorem pt{l:List aK}{k:Nat}{u:aK}(h:l[k]? =some u):kh l (k+1)=kh l k+u.aD.length:=by
 obtain ⟨hk,rfl⟩:=List.getElem?_eq_some_iff.1 h;unfold kh;rw [List.take_succ_eq_append_getElem hk,List.map_append,List.sum_append_nat];simp only [List.map_cons,List.map_nil,List.sum_cons,List.sum_nil,Nat.add_zero]
theorem jh{l:List aK}{k:Nat}{u:aK}(h:l[k]? =some u):dy l (k+1)=dy l k+u.aE.length:=by
 obtain ⟨hk,rfl⟩:=List.getElem?_eq_some_iff.1 h;unfold dy;rw [List.take_succ_eq_append_getElem hk,List.map_append,List.sum_append_nat];simp only [List.map_cons,List.map_nil,List.sum_cons,List.sum_nil,Nat.add_zero]
def tC(N:List UInt8->Int)(u:aK)(c f:Nat)(i:aw):aw:=
 if i.op=0 then { i with a:=if i.a < u.aD.length then c+i.a else 65535 }
 else if i.op=13 then { i with a:=if i.a < u.aE.length then f+i.a else match u.aB[(i.a - u.aE.length).toNat]? with
  | some g=>N g.name
  | none=>65535 }
 else i
def pD(N:List UInt8->Int)(u:aK)(c f:Nat)(g:aO):aO:={ g with code:=g.code.map (tC N u c f) }
def nH(f:Nat)(e:dq):dq:={ e with func:=f+e.func }
def dG(N:List UInt8->Int):Nat->Nat->List aK->List Int×List aO×List dq
 | _,_,[]=>([],[],[])
 | c,f,u :: l=>
  let r:=dG N (c+u.aD.length) (f+u.aE.length) l
  (u.aD++r.1,u.aE.map (pD N u c f)++r.2.1,u.aC.map (nH f)++r.2.2)
def rS(u:aK)(f:Nat):List dq->(List UInt8->Option (aO×Int))->List UInt8->Option (aO×Int)
 | [],N=>N
 | e :: l,N=>rS u f l (fun n=>if n=e.name then (u.aE[e.func.toNat]?).map fun g=>(g,(f:Int)+e.func) else N n)
def h_:Nat->List aK->(List UInt8->Option (aO×Int))->List UInt8->Option (aO×Int)
 | _,[],N=>N
 | f,u :: l,N=>h_ (f+u.aE.length) l (rS u f u.aC N)
def dm(p:aK->Bool):Nat->List aK->Option Nat
 | _,[]=>none
 | k,u :: l=>if p u=true then some k else dm p (k+1) l
def tgtN(l:List aK)(n:List UInt8):Int:=match h_ 0 l (fun _=>none) n with
 | some (_,k)=>k
 | none=>0
def jM(N:List UInt8->Option (aO×Int))(i:fK):Bool:=match N i.name with
 | some (g,_)=>decide (i.aF=g.aF/\i.result=g.result)
 | none=>false
def cR:List aK->aK ⊕ (Int×Nat)
 | []=>.inr (4,0)
 | h :: t=>
  let l:=h :: t
  let N:=h_ 0 l (fun _=>none)
  if 6 < l.length then .inr (4,0)
  else match dm (fun u=>!ai u) 0 l with
  | some k=>.inr (1,k)
  | none=>match dm (fun u=>!decide (u.aA=h.aA)) 0 l with
  | some k=>.inr (5,k)
  | none=>match ji [] 0 l with
  | some k=>.inr (6,k)
  | none=>match dm (fun u=>u.aB.any fun i=>!(N i.name).isSome) 0 l with
  | some k=>.inr (7,k)
  | none=>match dm (fun u=>u.aB.any fun i=>!jM N i) 0 l with
  | some k=>.inr (8,k)
  | none=>
   let r:=dG (tgtN l) 0 0 l
   if 30 < r.2.1.length\/50 < r.1.length\/20 < r.2.2.length then .inr (9,0) else .inl ⟨h.aA,r.1,r.2.1,[],r.2.2⟩
theorem jg{p:aK->Bool}:∀(l:List aK) (k:Nat),dm p k l=none↔∀u∈l,p u=false
 | [],k=>by simp [dm]
 | u :: l,k=>by
  rw [dm];cases h:p u with
  | true=>simp [h]
  | false=>simp [h,jg l (k+1)]
def j7(a:Nat->Int)(i j:Nat):Nat->Int:=fun k=>if k=i then a j else if k=j then a i else a k
def Hp(a:Nat->Int)(n:Nat):Prop:=∀i,0 < i->i < n->a ((i - 1) / 2)<=a i
structure rI(a:Nat->Int)(n j:Nat):Prop where
 rest:∀i,0 < i->i < n->i≠j->a ((i - 1) / 2)<=a i
 over:∀i,0 < i->i < n->(i - 1) / 2=j->0 < j->a ((j - 1) / 2)<=a i
structure rV(a:Nat->Int)(n i:Nat):Prop where
 rest:∀c,0 < c->c < n->(c - 1) / 2≠i->a ((c - 1) / 2)<=a c
 over:∀c,0 < c->c < n->(c - 1) / 2=i->0 < i->a ((i - 1) / 2)<=a c
theorem Hp.root{a:Nat->Int}{n:Nat}(h:Hp a n):∀i,i < n->a 0<=a i:=by
 intro i
 induction i using Nat.strongRecOn with
 | _ i ih=>
  intro hi;by_cases h0:i=0
  · subst h0;exact Int.le_refl _
  · exact Int.le_trans (ih ((i - 1) / 2) Q5 Q5) (h i Q5 hi)
structure gH(a b:Nat->Int)(n:Nat):Prop where
 mem:∀x,(∃i,i < n/\a i=x)↔∃i,i < n/\b i=x
 inj:(∀i j,i < n->j < n->a i=a j->i=j)->∀i j,i < n->j < n->b i=b j->i=j
theorem gH.refl(a:Nat->Int)(n:Nat):gH a a n:=⟨fun _=>Iff.rfl,fun h=>h⟩
theorem gH.trans{a b c:Nat->Int}{n:Nat}(h:gH a b n)(k:gH b c n):gH a c n:=⟨fun x=>(h.mem x).trans (k.mem x),fun hi=>k.inj (h.inj hi)⟩
def sg(i j k:Nat):Nat:=if k=i then j else if k=j then i else k
theorem xq(a:Nat->Int)(i j k:Nat):j7 a i j k=a (sg i j k):=by unfold j7 sg;split<;>(try split)<;>rfl
theorem kw{a:Nat->Int}{n i j:Nat}(hi:i < n)(hj:j < n):gH a (j7 a i j) n:=by
 refine ⟨fun x=>⟨?_,?_⟩,fun GF p q hp hq h=>?_⟩
 · rintro ⟨k,hk,rfl⟩;by_cases h1:k=i
   · refine ⟨j,hj,?_⟩;unfold j7;split
     · rename_i e;rw [h1,e]
     · simp [h1]
   · by_cases h2:k=j
     · exact ⟨i,hi,by unfold j7;simp [h2]⟩
     · exact ⟨k,hk,by unfold j7;simp [h1,h2]⟩
 · rintro ⟨k,hk,rfl⟩;unfold j7;split
   · exact ⟨j,hj,rfl⟩
   · split
     · exact ⟨i,hi,rfl⟩
     · exact ⟨k,hk,rfl⟩
 · rw [xq,xq] at h;have:=GF (sg i j p) (sg i j q) (by unfold sg;split<;>(try split)<;>omega) (by unfold sg;split<;>(try split)<;>omega) h
   unfold sg at this;split at this<;>split at this<;>(try split at this)<;>(try split at this)<;>omega
theorem rI.stop{a:Nat->Int}{n j:Nat}(h:rI a n j)(hs:j=0\/a ((j - 1) / 2)<=a j):Hp a n:=by
 intro i h0 hi;by_cases hij:i=j
 · subst hij;rcases hs with e|e
   · omega
   · exact e
 · exact h.rest i h0 hi hij
theorem rI.step{a:Nat->Int}{n j:Nat}(h:rI a n j)(hj:j < n)(h0:0 < j)(hl:a j < a ((j - 1) / 2)):rI (j7 a ((j - 1) / 2) j) n ((j - 1) / 2):=by
 generalize hp:(j - 1) / 2=p at h hl |-;have hpj:p < j:=Q5
 refine ⟨fun i i0 i1 i2=>?_,fun i i0 i1 i2 i3=>?_⟩
 · unfold j7;by_cases e1:(i - 1) / 2=p
   · rw [if_pos e1,if_neg i2];by_cases e2:i=j
     · rw [if_pos e2];omega
     · rw [if_neg e2];have:=h.rest i i0 i1 e2
       rw [e1] at this;omega
   · rw [if_neg e1,if_neg i2];by_cases e2:(i - 1) / 2=j
     · rw [if_pos e2,if_neg Q5];have:=h.over i i0 i1 e2 h0
       rw [hp] at this;exact this
     · rw [if_neg e2];by_cases e3:i=j
       · subst e3;omega
       · rw [if_neg e3];exact h.rest i i0 i1 e3
 · unfold j7;have Qd:(p - 1) / 2≠p:=by omega
   have YT:(p - 1) / 2≠j:=Q5
   rw [if_neg Qd,if_neg YT];have h1:=h.rest p i3 Q5 Q5;rw [if_neg (show ¬i=p by omega)];by_cases e2:i=j
   · rw [if_pos e2];exact h1
   · rw [if_neg e2];have:=h.rest i i0 i1 e2
     rw [i2] at this;omega
theorem rV.stop{a:Nat->Int}{n i:Nat}(h:rV a n i)(hs:∀c,0 < c->c < n->(c - 1) / 2=i->a i<=a c):Hp a n:=by
 intro c h0 hc;by_cases e:(c - 1) / 2=i
 · rw [e];exact hs c h0 hc e
 · exact h.rest c h0 hc e
theorem rV.step{a:Nat->Int}{n i c:Nat}(h:rV a n i)(L8:0 < c)(hc:c < n)(ZT:(c - 1) / 2=i)(hl:a c < a i)(hm:∀d,0 < d->d < n->(d - 1) / 2=i->a c<=a d):rV (j7 a i c) n c:=by
 have hic:i < c:=Q5
 refine ⟨fun d d0 d1 d2=>?_,fun d d0 d1 d2 d3=>?_⟩
 · unfold j7;by_cases e1:(d - 1) / 2=i
   · rw [if_pos e1,if_neg (show ¬d=i by omega)];by_cases e2:d=c
     · rw [if_pos e2];omega
     · rw [if_neg e2];exact hm d d0 d1 e1
   · rw [if_neg e1,if_neg d2];by_cases e2:d=i
     · rw [if_pos e2];subst e2;have:=h.over c L8 hc ZT d0
       exact this
     · rw [if_neg e2];by_cases e3:d=c
       · subst e3;exact absurd ZT e1
       · rw [if_neg e3];exact h.rest d d0 d1 e1
 · unfold j7;rw [if_pos ZT,if_neg (show ¬d=i by omega),if_neg (show ¬d=c by omega)];have:=h.rest d d0 d1 Q5
   rw [d2] at this;exact this
theorem Hp.push{a:Nat->Int}{n:Nat}(h:Hp a n)(x:Int):rI (fun k=>if k=n then x else a k) (n+1) n:=by
 refine ⟨fun i i0 i1 i2=>?_,fun i i0 i1 i2 i3=>by omega⟩;rw [if_neg (show ¬(i - 1) / 2=n by omega),if_neg i2];exact h i i0 Q5
theorem Hp.pop{a:Nat->Int}{n:Nat}(h:Hp a (n+1)):rV (j7 a 0 n) n 0:=by
 refine ⟨fun c c0 c1 c2=>?_,fun c c0 c1 c2 c3=>by omega⟩;unfold j7;rw [if_neg c2,if_neg (show ¬(c - 1) / 2=n by omega),if_neg (show ¬c=0 by omega),if_neg (show ¬c=n by omega)];exact h c c0 Q5
def dQ(u:aK)(f:aO)(i:aw):Option (List Int×List Int):=
 let slots:=f.aF++f.aG
 let shape:Option (List Int):=if 1<=i.a then u.aA[(i.a - 1).toNat]? else none
 if i.op=0 then (if i.a < u.aD.length then some ([],[0]) else none)
 else if i.op=1 then some ([],[0])
 else if i.op=2 then slots[i.a.toNat]?.map fun k=>([],[k])
 else if i.op=3 then slots[i.a.toNat]?.map fun k=>([k],[])
 else if i.op=4 then some ([-1],[])
 else if i.op=5 then some ([-1],[-1,-1])
 else if i.op=6\/i.op=7\/i.op=8\/i.op=9\/i.op=10 then some ([0,0],[0])
 else if i.op=11 then (if i.a < f.code.length then some ([],[]) else none)
 else if i.op=12 then (if i.a < f.code.length then some ([0],[]) else none)
 else if i.op=13 then
  (match u.aE[i.a.toNat]? with
  | some g=>some (g.aF,[g.result])
  | none=>u.aB[i.a.toNat - u.aE.length]?.map fun g=>(g.aF,[g.result]))
 else if i.op=14 then some ([f.result],[])
 else if i.op=15 then shape.map fun s=>(s,[i.a])
 else if i.op=16 then shape.bind fun s=>s[i.b.toNat]?.map fun k=>([i.a],[k])
 else if i.op=17 then shape.bind fun s=>s[i.b.toNat]?.map fun k=>([i.a,k],[])
 else if i.op=18 then shape.map fun _=>([],[i.a])
 else if i.op=19 then shape.map fun _=>([i.a],[0])
 else if i.op=20 then some ([0],[])
 else none
def i8:List Int->List Int->Bool
 | [],[]=>true
 | t :: ts,s :: ss=>(decide (t < 0) || decide (t=s)) && i8 ts ss
 | _,_=>false
def we:List Int->List Int->Int
 | t :: ts,s :: ss=>if t < 0 then s else we ts ss
 | _,_=>0
def g8(u:aK)(f:aO)(i:aw)(stack:List Int):Option (List Int):=
 match dQ u f i with
 | none=>none
 | some (ts,ps)=>
  if stack.length < ts.length then none
  else if i8 ts (stack.drop (stack.length - ts.length))=false then none
  else
   let out:=stack.take (stack.length - ts.length)++ps.map fun p=>if p < 0 then we ts (stack.drop (stack.length - ts.length)) else p
   if out.length<=20/\(i.op≠14\/stack.length=ts.length) then some out else none
def eO(f:aO)(q:Nat)(i:aw):List (Option Nat):=
 let behind:=if q+1 < f.code.length then some (q+1) else none
 if i.op=11 then [some i.a.toNat] else if i.op=14 then [] else if i.op=12 then [behind,some i.a.toNat] else [behind]
def b7(s:List Int)(q:Nat):List (Option Nat)->(Nat->Option (List Int))->Nat ⊕ (Nat->Option (List Int))
 | [],st=>.inr st
 | none :: _,_=>.inl q
 | some t :: l,st=>
  match st t with
  | some s0=>if s0=s then b7 s q l st else .inl t
  | none=>b7 s q l (fun k=>if k=t then some s else st k)
def iQ(n:Nat)(st:Nat->Option (List Int))(dn:Nat->Bool):Option Nat:=(List.range n).find? fun k=>(st k).isSome && !dn k
def i7(u:aK)(f:aO):Nat->(Nat->Option (List Int))->(Nat->Bool)->Option Nat
 | 0,_,_=>none
 | k+1,st,dn=>
  match iQ f.code.length st dn with
  | none=>none
  | some q=>
   match f.code[q]?,st q with
   | some i,some s=>
    match g8 u f i s with
    | none=>some q
    | some s'=>
     match b7 s' q (eO f q i) st with
     | .inl t=>some t
     | .inr I9=>i7 u f k I9 (fun j=>decide (j=q) || dn j)
   | _,_=>none
def e9(u:aK)(f:aO):Option Nat:=i7 u f (f.code.length+1) (fun k=>if k=0 then some [] else none) (fun _=>false)
def eU(u:aK):Nat->List aO->Int×Nat×Nat
 | _,[]=>(0,0,0)
 | k,f :: l=>match e9 u f with
  | some q=>(10,k,q)
  | none=>eU u (k+1) l
def aY(u:aK):Int×Nat×Nat:=if ai u then eU u 0 u.aE else (1,0,0)
theorem lz{n:Nat}{st:Nat->Option (List Int)}{dn:Nat->Bool}{q:Nat}:iQ n st dn=some q↔q < n/\((st q).isSome && !dn q)=true/\∀k,k < q->((st k).isSome && !dn k)=false:=by
 unfold iQ;rw [List.find?_range_eq_some];constructor
 · rintro ⟨h1,h2,h3⟩;exact ⟨by simpa using h2,h1,fun k hk=>by
    have h4:(!((st k).isSome && !dn k))=true:=h3 k hk;rwa [Bool.not_eq_true'] at h4⟩
 · rintro ⟨h1,h2,h3⟩;exact ⟨h2,by simpa using h1,fun k hk=>by
    show (!((st k).isSome && !dn k))=true
    rw [Bool.not_eq_true'];exact h3 k hk⟩
theorem l9{n:Nat}{st:Nat->Option (List Int)}{dn:Nat->Bool}:iQ n st dn=none↔∀k,k < n->((st k).isSome && !dn k)=false:=by
 unfold iQ;rw [List.find?_eq_none];constructor
 · intro h k hk;have:=h k (List.mem_range.2 hk)
   simpa using this
 · intro h k hk;have:=h k (List.mem_range.1 hk)
   simpa using this
def aj(u:aK)(f:aO)(i:aw)(stack:List Int):Option (List Int×List Int):=
 if i.op=4 then stack.getLast?.map fun k=>([k],[])
 else if i.op=5 then stack.getLast?.map fun k=>([k],[k,k])
 else dQ u f i
def gJ(u:aK)(f:aO)(i:aw)(stack:List Int):Option (List Int):=
 match aj u f i stack with
 | none=>none
 | some (ts,ps)=>
  if stack.length < ts.length\/stack.drop (stack.length - ts.length)≠ts then none
  else if i.op=14 then (if stack.length=ts.length then some (stack.take (stack.length - ts.length)++ps) else none)
  else if (stack.take (stack.length - ts.length)++ps).length<=20 then some (stack.take (stack.length - ts.length)++ps) else none
theorem rP:∀(ts s:List Int),(∀t∈ts,0<=t)->i8 ts s=decide (s=ts)
 | [],[],_=>by simp [i8]
 | [],_ :: _,_=>by simp [i8]
 | _ :: _,[],_=>by simp [i8]
 | t :: ts,s :: ss,h=>by
  have ht:¬t < 0:=by have:=h t Q6;omega
  rw [i8,rP ts ss (fun x hx=>h x (by simp [hx]))];rw [Bool.eq_iff_iff];simp only [Bool.and_eq_true,Bool.or_eq_true,decide_eq_true_eq,ht,false_or,List.cons.injEq];exact ⟨fun h=>⟨h.1.symm,h.2⟩,fun h=>⟨h.1.symm,h.2⟩⟩
theorem tQ(a:Int):∀(ps:List Int),(∀p∈ps,0<=p)->(ps.map fun p=>if p < 0 then a else p)=ps
 | [],_=>rfl
 | p :: ps,h=>by
  have hp:¬p < 0:=by have:=h p Q6;omega
  rw [List.map_cons,if_neg hp,tQ a ps (fun x hx=>h x (by simp [hx]))]
theorem mc{s:List Int}{k:Int}(h:s.getLast? =some k):∃t,s=t++ [k]:=List.getLast?_eq_some_iff.1 h
theorem xh{u:aK}{f:aO}{i:aw}{ts ps:List Int}(h:i.op=14)(he:dQ u f i=some (ts,ps)):ts= [f.result]/\ps= []:=by
 unfold dQ at he;simp [h] at he
 exact ⟨he.1.symm,he.2⟩
theorem wj{u:aK}{f:aO}{i:aw}(s:List Int)(hn:∀ts ps,dQ u f i=some (ts,ps)->i.op≠4->i.op≠5->(∀t∈ts,0<=t)/\(∀p∈ps,0<=p)):gJ u f i s=g8 u f i s:=by
 by_cases h4:i.op=4
 · have hP:dQ u f i=some ([-1],[]):=by unfold dQ;simp [h4]
   unfold gJ g8 aj;rw [hP,if_pos h4];cases hl:s.getLast? with
   | none=>rw [List.getLast?_eq_none_iff] at hl;subst hl;simp
   | some k=>
    obtain ⟨t,rfl⟩:=mc hl;simp [i8,h4]
 · by_cases h5:i.op=5
   · have hP:dQ u f i=some ([-1],[-1,-1]):=by unfold dQ;simp [h5]
     unfold gJ g8 aj;rw [hP,if_neg h4,if_pos h5];cases hl:s.getLast? with
     | none=>rw [List.getLast?_eq_none_iff] at hl;subst hl;simp
     | some k=>
      obtain ⟨t,rfl⟩:=mc hl;simp [i8,we,h5]
   · unfold gJ g8 aj;rw [if_neg h4,if_neg h5];cases hP:dQ u f i with
     | none=>rfl
     | some p=>
      obtain ⟨ts,ps⟩:=p;obtain ⟨h1,h2⟩:=hn ts ps hP h4 h5;simp only;rw [rP ts _ h1,tQ _ ps h2];by_cases hl:s.length < ts.length
      · rw [if_pos hl,if_pos (Or.inl hl)]
      · rw [if_neg hl];by_cases hd:s.drop (s.length - ts.length)=ts
        · have c1:¬(s.length < ts.length\/s.drop (s.length - ts.length)≠ts):=fun h=>h.elim hl (fun h=>h hd)
          have c2:¬(decide (s.drop (s.length - ts.length)=ts)=false):=by simp [hd]
          rw [if_neg c1,if_neg c2];by_cases Z9:i.op=14
          · obtain ⟨e1,e2⟩:=xh Z9 hP;rw [if_pos Z9];by_cases hs:s.length=ts.length
            · rw [if_pos hs,if_pos ⟨by rw [hs,e2];simp,Or.inr hs⟩]
            · have c3:¬((s.take (s.length - ts.length)++ps).length<=20/\(i.op≠14\/s.length=ts.length)):=fun h=>h.2.elim (fun h=>h Z9) hs
              rw [if_neg hs,if_neg c3]
          · rw [if_neg Z9];simp [Z9]
        · have c4:decide (s.drop (s.length - ts.length)=ts)=false:=by simp [hd]
          rw [if_pos (Or.inr hd),if_pos c4]
theorem wo{n k:Int}(h:gD n k=true):0<=k:=by unfold gD wB at h;simp at h;exact h.1
theorem oq{n:Int}{l:List Int}(h:l.all (gD n)=true):∀k∈l,0<=k:=fun k hk=>wo (List.all_eq_true.1 h k hk)
theorem wI{ps:List Int}{r n:Int}(h:fL ps r n=true):(∀k∈ps,0<=k)/\0<=r:=by
 unfold fL at h;simp only [Bool.and_eq_true] at h;exact ⟨oq h.2.1,wo h.2.2⟩
theorem zJ{f:aO}{n:Int}(h:dD n f=true):(∀k∈f.aF,0<=k)/\0<=f.result/\(∀k∈f.aG,0<=k)/\f.code.all a_=true/\1<=f.code.length:=by
 unfold dD gG at h;simp only [Bool.and_eq_true] at h;have h1:=wI h.1;have h2:=h.2.2.2.1;unfold wB at h2;simp at h2;exact ⟨h1.1,h1.2,oq h.2.2.1,h.2.2.2.2,Q5⟩
theorem jz{α:Type}{l:List α}{k:Nat}{x:α}(h:l[k]? =some x):x∈l:=List.mem_of_getElem? h
theorem Ad{u:aK}{f:aO}{i:aw}(hu:ai u=true)(hf:f∈u.aE):∀ts ps,dQ u f i=some (ts,ps)->i.op≠4->i.op≠5->(∀t∈ts,0<=t)/\(∀p∈ps,0<=p):=by
 intro ts ps he n4 n5;unfold ai cL b9 bZ at hu;simp only [Bool.and_eq_true] at hu;obtain ⟨⟨-,Ff⟩,-,⟨-,DU⟩,⟨-,P9⟩,-⟩:=hu;have hF:∀g∈u.aE,(∀k∈g.aF,0<=k)/\0<=g.result/\(∀k∈g.aG,0<=k)/\g.code.all a_=true/\1<=g.code.length:=fun g hg=>zJ (List.all_eq_true.1 DU g hg)
 have hI:∀g∈u.aB,(∀k∈g.aF,0<=k)/\0<=g.result:=by
  intro g hg;have:=List.all_eq_true.1 P9 g hg
  unfold iM at this;simp only [Bool.and_eq_true] at this;exact wI this.2
 have hS:∀(k:Nat) s,u.aA[k]? =some s->∀x∈s,0<=x:=by
  intro k s h;have:=List.all_eq_true.1 Ff s (jz h)
  unfold dY at this;simp only [Bool.and_eq_true] at this;exact oq this.2
 have hsl:∀(k:Nat) x,(f.aF++f.aG)[k]? =some x->0<=x:=by
  intro k x h;rcases List.mem_append.1 (jz h) with h|h
  · exact (hF f hf).1 x h
  · exact (hF f hf).2.2.1 x h
 have M_:∀s,(if 1<=i.a then u.aA[(i.a - 1).toNat]? else none)=some s->0<=i.a/\∀x∈s,0<=x:=by
  intro s h;by_cases ha:1<=i.a
  · rw [if_pos ha] at h;exact ⟨Q5,hS _ s h⟩
  · rw [if_neg ha] at h;cases h
 unfold dQ at he;generalize hsE:(if 1<=i.a then u.aA[(i.a - 1).toNat]? else none)=S at he M_;by_cases c0:i.op=0
 · rw [if_pos c0] at he;split at he
   · cases he;simp
   · cases he
 rw [if_neg c0] at he;by_cases c1:i.op=1
 · rw [if_pos c1] at he;cases he;simp
 rw [if_neg c1] at he;by_cases c2:i.op=2
 · rw [if_pos c2] at he;rw [Option.map_eq_some_iff] at he;obtain ⟨k,hk,e⟩:=he;cases e;simpa using hsl _ _ hk
 rw [if_neg c2] at he;by_cases c3:i.op=3
 · rw [if_pos c3] at he;rw [Option.map_eq_some_iff] at he;obtain ⟨k,hk,e⟩:=he;cases e;simpa using hsl _ _ hk
 rw [if_neg c3] at he;by_cases c4:i.op=4
 · rw [if_pos c4] at he;exact absurd c4 n4
 rw [if_neg c4] at he;by_cases c5:i.op=5
 · rw [if_pos c5] at he;exact absurd c5 n5
 rw [if_neg c5] at he;by_cases c6:i.op=6\/i.op=7\/i.op=8\/i.op=9\/i.op=10
 · rw [if_pos c6] at he;cases he;simp
 rw [if_neg c6] at he;by_cases c7:i.op=11
 · rw [if_pos c7] at he;split at he
   · cases he;simp
   · cases he
 rw [if_neg c7] at he;by_cases c8:i.op=12
 · rw [if_pos c8] at he;split at he
   · cases he;simp
   · cases he
 rw [if_neg c8] at he;by_cases c9:i.op=13
 · rw [if_pos c9] at he;split at he
   · rename_i g hg
     cases he
     have:=hF g (jz hg)
     exact ⟨this.1,by simpa using this.2.1⟩
   · rw [Option.map_eq_some_iff] at he;obtain ⟨g,hg,e⟩:=he;cases e;have:=hI g (jz hg)
     exact ⟨this.1,by simpa using this.2⟩
 rw [if_neg c9] at he;by_cases IF:i.op=14
 · rw [if_pos IF] at he;cases he;simpa using (hF f hf).2.1
 rw [if_neg IF] at he;by_cases JF:i.op=15
 · rw [if_pos JF] at he;rw [Option.map_eq_some_iff] at he;obtain ⟨s,hs,e⟩:=he;cases e;obtain ⟨ha,hx⟩:=M_ _ hs;exact ⟨hx,by simpa using ha⟩
 rw [if_neg JF] at he;by_cases MF:i.op=16
 · rw [if_pos MF] at he;rw [Option.bind_eq_some_iff] at he;obtain ⟨s,hs,he⟩:=he;rw [Option.map_eq_some_iff] at he;obtain ⟨k,hk,e⟩:=he;cases e;obtain ⟨ha,hx⟩:=M_ _ hs;exact ⟨by simpa using ha,by simpa using hx k (jz hk)⟩
 rw [if_neg MF] at he;by_cases NF:i.op=17
 · rw [if_pos NF] at he;rw [Option.bind_eq_some_iff] at he;obtain ⟨s,hs,he⟩:=he;rw [Option.map_eq_some_iff] at he;obtain ⟨k,hk,e⟩:=he;cases e;obtain ⟨ha,hx⟩:=M_ _ hs;have:=hx k (jz hk)
   refine ⟨?_,Q6⟩;intro t ht;simp at ht;rcases ht with rfl|rfl<;>assumption
 rw [if_neg NF] at he;by_cases PF:i.op=18
 · rw [if_pos PF] at he;rw [Option.map_eq_some_iff] at he;obtain ⟨s,hs,e⟩:=he;cases e;obtain ⟨ha,hx⟩:=M_ _ hs;exact ⟨Q6,by simpa using ha⟩
 rw [if_neg PF] at he;by_cases QF:i.op=19
 · rw [if_pos QF] at he;rw [Option.map_eq_some_iff] at he;obtain ⟨s,hs,e⟩:=he;cases e;obtain ⟨ha,hx⟩:=M_ _ hs;exact ⟨by simpa using ha,Q6⟩
 rw [if_neg QF] at he;by_cases RF:i.op=20
 · rw [if_pos RF] at he;cases he;simp
 rw [if_neg RF] at he;cases he
structure lB(N:Nat)(a:Nat->Int)(n:Nat)(st:Nat->Option (List Int))(dn:Nat->Bool):Prop where
 hp:Hp a n
 inj:∀i j,i < n->j < n->a i=a j->i=j
 mem:∀x,(∃i,i < n/\a i=x)↔∃k:Nat,x=(k:Int)/\(st k).isSome=true/\dn k=false
 lt:∀k,(st k).isSome=true->k < N
 seen:∀k,dn k=true->(st k).isSome=true
theorem lB.empty(N:Nat)(a:Nat->Int):lB N a 0 (fun _=>none) (fun _=>false):=
 ⟨fun i _ h=>by omega,fun i _ h=>by omega,fun x=>⟨fun ⟨i,h,_⟩=>by omega,fun ⟨k,_,h,_⟩=>by simp at h⟩,fun k h=>by simp at h,fun k h=>by simp at h⟩
theorem lB.nothing{N:Nat}{a:Nat->Int}{st:Nat->Option (List Int)}{dn:Nat->Bool}(h:lB N a 0 st dn):iQ N st dn=none:=by
 rw [l9];intro k _;cases hs:(st k).isSome with
 | false=>rfl
 | true=>
  cases hd:dn k with
  | true=>rfl
  | false=>
   obtain ⟨i,hi,_⟩:=(h.mem k).2 ⟨k,rfl,hs,hd⟩;omega
theorem lB.top{N:Nat}{a:Nat->Int}{n:Nat}{st:Nat->Option (List Int)}{dn:Nat->Bool}(h:lB N a n st dn)(hn:0 < n):∃q:Nat,a 0=q/\q < N/\(st q).isSome=true/\dn q=false/\iQ N st dn=some q:=by
 obtain ⟨q,hq,hs,hd⟩:=(h.mem (a 0)).1 ⟨0,hn,rfl⟩;refine ⟨q,hq,h.lt q hs,hs,hd,?_⟩;rw [lz];refine ⟨h.lt q hs,by simp [hs,hd],?_⟩;intro k hk;cases EU:(st k).isSome with
 | false=>rfl
 | true=>
  cases hd':dn k with
  | true=>rfl
  | false=>
   obtain ⟨i,hi,e⟩:=(h.mem k).2 ⟨k,rfl,EU,hd'⟩;have:=h.hp.root i hi
   omega
theorem lB.pop{N:Nat}{a b:Nat->Int}{n q:Nat}{st:Nat->Option (List Int)}{dn:Nat->Bool}(h:lB N a (n+1) st dn)(hq:a 0=q)(hb:Hp b n)(hs:gH (j7 a 0 n) b n):
 lB N b n st (fun j=>decide (j=q) || dn j):=by
 have SF:∀i,i < n->j7 a 0 n i=a (if i=0 then n else i):=by
  intro i hi;unfold j7;by_cases h0:i=0
  · simp [h0]
  · rw [if_neg h0,if_neg Q5,if_neg h0]
 obtain ⟨q',hq',Kx,FU⟩:=(h.mem (a 0)).1 ⟨0,Q5,rfl⟩;have eq:q'=q:=Q5
 subst eq;have GU:∀i j,i < n->j < n->j7 a 0 n i=j7 a 0 n j->i=j:=by
  intro i j hi hj e;rw [SF i hi,SF j hj] at e;have:=h.inj _ _ (by split<;>omega) (by split<;>omega) e
  split at this<;>split at this<;>omega
 refine ⟨hb,hs.inj GU,?_,h.lt,?_⟩
 · intro x;rw [<-hs.mem x];constructor
   · rintro ⟨i,hi,e⟩;rw [SF i hi] at e;obtain ⟨k,hk,h1,h2⟩:=(h.mem x).1 ⟨_,(by split<;>omega),e⟩
     refine ⟨k,hk,h1,?_⟩;have hne:k≠q':=by
      intro hkq;have:=h.inj (if i=0 then n else i) 0 (by split<;>omega) Q5 (by rw [e,hk,hkq,hq])
      split at this<;>omega
     simp [hne,h2]
   · rintro ⟨k,hk,h1,h2⟩;simp only [Bool.or_eq_false_iff,decide_eq_false_iff_not] at h2;obtain ⟨i,hi,e⟩:=(h.mem x).2 ⟨k,hk,h1,h2.2⟩;have Kj:i≠0:=by
      intro h0;subst h0;rw [hq] at e;exact h2.1 Q5
     by_cases GF:i=n
     · subst GF;exact ⟨0,Q5,by rw [SF 0 Q5,if_pos rfl,e]⟩
     · exact ⟨i,Q5,by rw [SF i Q5,if_neg Kj,e]⟩
 · intro k hk;simp only [Bool.or_eq_true,decide_eq_true_eq] at hk;rcases hk with rfl|hk
   · exact Kx
   · exact h.seen k hk
theorem lB.push{N:Nat}{a b:Nat->Int}{n t:Nat}{st:Nat->Option (List Int)}{dn:Nat->Bool}{s:List Int}(h:lB N a n st dn)(ht:t < N)(T0:st t=none)(hb:Hp b (n+1))(hs:gH (fun k=>if k=n then (t:Int) else a k) b (n+1)):
 lB N b (n+1) (fun k=>if k=t then some s else st k) dn:=by
 have TF:dn t=false:=by
  cases hd:dn t with
  | false=>rfl
  | true=>have:=h.seen t hd;rw [T0] at this;cases this
 have VF:∀i,i < n->a i≠t:=by
  intro i hi e;obtain ⟨k,hk,h1,_⟩:=(h.mem (a i)).1 ⟨i,hi,rfl⟩;have:k=t:=Q5
  subst this;rw [T0] at h1;cases h1
 refine ⟨hb,hs.inj ?_,?_,?_,?_⟩
 · intro i j hi hj e;by_cases h1:i=n
   · by_cases h2:j=n
     · omega
     · rw [if_pos h1,if_neg h2] at e;exact absurd e.symm (VF j Q5)
   · by_cases h2:j=n
     · rw [if_neg h1,if_pos h2] at e;exact absurd e (VF i Q5)
     · rw [if_neg h1,if_neg h2] at e;exact h.inj i j Q5 Q5 e
 · intro x;rw [<-hs.mem x];constructor
   · rintro ⟨i,hi,e⟩;by_cases h1:i=n
     · simp only [if_pos h1] at e;exact ⟨t,e.symm,Q6,TF⟩
     · simp only [if_neg h1] at e;obtain ⟨k,hk,h2,h3⟩:=(h.mem x).1 ⟨i,Q5,e⟩;refine ⟨k,hk,?_,h3⟩;split
       · rfl
       · exact h2
   · rintro ⟨k,hk,h2,h3⟩;by_cases Lx:k=t
     · subst Lx;exact ⟨n,Q5,by simp [hk]⟩
     · simp only [if_neg Lx] at h2;obtain ⟨i,hi,e⟩:=(h.mem x).2 ⟨k,hk,h2,h3⟩;exact ⟨i,Q5,by rw [if_neg Q5,e]⟩
 · intro k hk;by_cases Lx:k=t
   · omega
   · simp only [if_neg Lx] at hk;exact h.lt k hk
 · intro k hk;by_cases Lx:k=t
   · simp [Lx]
   · simp only [if_neg Lx];exact h.seen k hk
def ci:Nat->(Nat->Bool)->Nat
 | 0,_=>0
 | n+1,dn=>ci n dn+if dn n=true then 0 else 1
theorem mA:∀(n q:Nat) (dn:Nat->Bool),n<=q->ci n (fun j=>decide (j=q) || dn j)=ci n dn
 | 0,_,_,_=>rfl
 | n+1,q,dn,h=>by
  rw [ci,ci,mA n q dn Q5];have:decide (n=q)=false:=by simp;omega
  simp [this]
theorem iK:∀(n q:Nat) (dn:Nat->Bool),q < n->dn q=false->ci n (fun j=>decide (j=q) || dn j)+1=ci n dn
 | 0,_,_,h,_=>by omega
 | n+1,q,dn,h,hd=>by
  by_cases e:q=n
  · subst e;rw [ci,ci,mA q q dn Q5];simp [hd]
  · have:=iK n q dn Q5 hd
    rw [ci,ci,<-this];have hn:decide (n=q)=false:=by simp;omega
    simp only [hn,Bool.false_or];omega
theorem oH:∀(n:Nat) (dn:Nat->Bool),ci n dn<=n
 | 0,_=>by simp [ci]
 | n+1,dn=>by
  have:=oH n dn
  rw [ci];split<;>omega
def mM(u:aK)(f:aO)(q:Nat)(i:aw)(s:List Int)(st:Nat->Option (List Int)):Nat ⊕ (Nat->Option (List Int)):=
 match g8 u f i s with
 | none=>.inl q
 | some s'=>b7 s' q (eO f q i) st
theorem sU{u:aK}{f:aO}{k:Nat}{st:Nat->Option (List Int)}{dn:Nat->Bool}(h:iQ f.code.length st dn=none):i7 u f (k+1) st dn=none:=by
 rw [i7,h]
theorem rh{u:aK}{f:aO}{k q:Nat}{st:Nat->Option (List Int)}{dn:Nat->Bool}{i:aw}{s:List Int}(h:iQ f.code.length st dn=some q)(hi:f.code[q]? =some i)(hs:st q=some s):
 i7 u f (k+1) st dn=match mM u f q i s st with
  | .inl t=>some t
  | .inr I9=>i7 u f k I9 (fun j=>decide (j=q) || dn j):=by
 rw [i7,h];simp only [hi,hs];unfold mM;cases g8 u f i s with
 | none=>rfl
 | some s'=>rfl
theorem fw{s:List Int}{q:Nat}:∀(l:List (Option Nat)) (st I9:Nat->Option (List Int)),b7 s q l st=.inr I9->∀k,(st k).isSome=true->I9 k=st k
 | [],st,I9,h,k,hk=>by rw [b7] at h;cases h;rfl
 | none :: l,st,I9,h,k,hk=>by rw [b7] at h;cases h
 | some t :: l,st,I9,h,k,hk=>by
  rw [b7] at h;cases ht:st t with
  | some s0=>
   rw [ht] at h;simp only at h;by_cases e:s0=s
   · rw [if_pos e] at h;exact fw l st I9 h k hk
   · rw [if_neg e] at h;cases h
  | none=>
   rw [ht] at h;simp only at h;have hne:k≠t:=by intro e;subst e;rw [ht] at hk;cases hk
   have:=fw l _ I9 h k (by simp only [if_neg hne];exact hk)
   rw [this];simp only [if_neg hne]
open Go.RowKit Go.Maps
def BT(v:Value):Option (DataW Value×List MemPlace):=some (.held v,[])
theorem Tryz.uMap:Tryz.prog.underlying 82=some (.map 3 24):=Q7
theorem Tryz.zMap(w:World):(zeroValue 24).run Tryz.prog w=.ok (.slice none 0 0) w:=Q7
theorem Tryz.kInt:Tryz.prog.underlying 3=some (.int .i64):=Q7
theorem Tryz.keyed:Keyed Tryz.prog 3:=int_keyed Tryz.kInt
def qb(k:Nat):Lit:=.int .i64 (k:Int)
theorem tB(k:Nat)(hk:k < 1000000):keyOf Tryz.prog 3 (.int .i64 (k:Int))=some (qb k):=keyOf_int_mk Tryz.kInt (WalkArith.wf_i64 Q5)
theorem yt{k j:Nat}(h:qb k=qb j):k=j:=by
 unfold qb at h;injection h with _ h2
 omega
def sY:Value:=.slice none 0 0
structure e_(w:World)(b n:Nat)(m:Nat->Option Value):Prop where
 is:∃D:DataW Value,w.ownsMap Tryz.prog 3 BT b n D/\∀k,k < 1000000->Maps.has D (qb k)=(m k).isSome/\D.atKey (qb k) (.held sY)=.held ((m k).getD sY)
theorem e_.made(w:World):e_ (w.alloc (.map #[] 0)) w.heap.size 0 (fun _=>none):=
 ⟨_,World.ownsMap_made w _ _ _,fun k _=>⟨rfl,rfl⟩⟩
theorem e_.lt{w:World}{b n:Nat}{m:Nat->Option Value}(h:e_ w b n m):b < w.heap.size:=by
 obtain ⟨D,h1,_⟩:=h.is;exact h1.lt
theorem e_.kept{w w':World}{b n:Nat}{m:Nat->Option Value}(h:e_ w b n m)(g:w'.heap[b]? =w.heap[b]?):e_ w' b n m:=by
 obtain ⟨D,⟨es,clock,hb,r⟩,h2⟩:=h.is;exact ⟨D,⟨es,clock,g.trans hb,r⟩,h2⟩
theorem e_.look{w:World}{b n:Nat}{m:Nat->Option Value}(h:e_ w b n m)(k:Nat)(hk:k < 1000000):(Instr.lookup 82 (.map (some b)) (.int .i64 (k:Int)) true).run Tryz.prog w=.ok (.tuple #[(m k).getD sY,.bool (m k).isSome]) w:=by
 obtain ⟨D,h1,h2⟩:=h.is;obtain ⟨v,ps,J9,hv⟩:=h1.look_ok Tryz.keyed Tryz.uMap (Tryz.zMap w) (zd:=.held sY) (zp:= []) rfl (tB k hk);rw [J9,(h2 k hk).1];have:=congrArg Prod.fst (Option.some.inj hv)
 simp only [(h2 k hk).2,DataW.held.injEq] at this;rw [this]
theorem e_.look1{w:World}{b n:Nat}{m:Nat->Option Value}(h:e_ w b n m)(k:Nat)(hk:k < 1000000):(Instr.lookup 82 (.map (some b)) (.int .i64 (k:Int)) false).run Tryz.prog w=.ok ((m k).getD sY) w:=by
 obtain ⟨D,h1,h2⟩:=h.is;obtain ⟨v,ps,J9,hv⟩:=h1.lookup Tryz.keyed Tryz.uMap (Tryz.zMap w) (zd:=.held sY) (zp:= []) rfl (tB k hk);rw [J9];have:=congrArg Prod.fst (Option.some.inj hv)
 simp only [(h2 k hk).2,DataW.held.injEq] at this;rw [this]
theorem e_.store{w:World}{b n:Nat}{m:Nat->Option Value}(h:e_ w b n m)(k:Nat)(hk:k < 1000000)(hn:n < 1000000)(v:Value):
 ∃w',(Instr.mapUpdate 82 (.map (some b)) (.int .i64 (k:Int)) v).run Tryz.prog w=.ok () w'/\e_ w' b (n+1) (fun j=>if j=k then some v else m j)/\w.grownBy w' (some b):=by
 obtain ⟨D,h1,h2⟩:=h.is;obtain ⟨w',J9,C1,Tn⟩:=h1.store Tryz.keyed Tryz.uMap (by unfold maxLen;omega) (tB k hk) (val:=v) (d:=.held v) (ps:= []) rfl;refine ⟨w',J9,⟨_,C1,fun j hj=>?_⟩,Tn.grown⟩;by_cases e:j=k
 · subst e;rw [has_put_same h1.isMap (by trivial),atKey_put_same h1.isMap (by trivial)];simp
 · have hne:qb j≠qb k:=fun h=>e (yt h)
   rw [has_put_other hne,atKey_put_other hne,if_neg e];exact h2 j hj
open Go.RowKit
def bW(l:List Int)(k:Nat):Int:=l.getD k 0
def ek(l:List Int)(i j:Nat):List Int:=(l.set i (bW l j)).set j (bW l i)
theorem iZ(l:List Int)(i j:Nat):(ek l i j).length=l.length:=by simp [ek]
theorem jQ{l:List Int}{i j:Nat}(hi:i < l.length)(hj:j < l.length):bW (ek l i j)=j7 (bW l) i j:=by
 funext k
 unfold bW ek j7;simp only [List.getD_eq_getElem?_getD,List.getElem?_set];by_cases h1:k=j
 · subst h1;by_cases h2:k=i
   · subst h2;simp [hi,bW]
   · have Sn:¬i=k:=fun e=>h2 e.symm
     simp [h2,Sn,hj,bW]
 · have XF:¬j=k:=fun e=>h1 e.symm
   by_cases h2:k=i
   · subst h2;simp [h1,XF,hi,bW]
   · have Sn:¬i=k:=fun e=>h2 e.symm
     simp [h1,h2,XF,Sn,bW]
theorem qV(l:List Int)(x:Int):bW (l++ [x])=fun k=>if k=l.length then x else bW l k:=by
 funext k
 unfold bW;simp only [List.getD_eq_getElem?_getD];by_cases h:k < l.length
 · rw [List.getElem?_append_left h,if_neg Q5]
 · rw [List.getElem?_append_right Q5];by_cases h2:k=l.length
   · simp [h2]
   · rw [if_neg h2,List.getElem?_eq_none gS,List.getElem?_eq_none Q5]
theorem wh{l:List Int}{n k:Nat}(h:k < n):bW (l.take n) k=bW l k:=by
 unfold bW;simp only [List.getD_eq_getElem?_getD];rw [List.getElem?_take,if_pos h]
def fP(l:List Int):List Value:=l.map fun x=>Value.int .i64 x
theorem jv(l:List Int):(fP l).length=l.length:=by simp [fP]
theorem rx{l:List Int}{j:Nat}(h:j < l.length):(fP l)[j]? =some (.int .i64 (bW l j)):=by
 unfold fP bW;rw [List.getElem?_map,List.getD_eq_getElem?_getD,List.getElem?_eq_getElem h];rfl
theorem zC(l:List Int)(j:Nat)(x:Int):(fP l).set j (.int .i64 x)=fP (l.set j x):=by
 unfold fP;rw [List.map_set]
def cr(w:World)(B:Nat)(v:Value)(l:List Int):Prop:=w.ownsRow B 3 1 v l.length (fP l)
theorem cr.form{w:World}{B:Nat}{v:Value}{l:List Int}(h:cr w B v l):(∃ao cap,v=.slice ao l.length cap)/\l.length<=maxLen:=by
 obtain ⟨h1,h2⟩:=h;rcases h2 with ⟨rfl,h3⟩|⟨g,cap,cur,rfl,_,_,h4,h5,_⟩
 · exact ⟨⟨none,0,by rw [h3]⟩,by rw [h3];decide⟩
 · exact ⟨⟨_,_,rfl⟩,Q5⟩
theorem cr.at{w:World}{B:Nat}{v:Value}{l:List Int}(h:cr w B v l)(hl:0 < l.length):∃g cap,v=.slice (some ⟨g,0,none⟩) l.length cap/\B<=g/\g < w.heap.size/\(∀j,j < l.length->w.cell? ⟨g,j,none⟩=some (.int .i64 (bW l j)))/\∀j,w.frozen? ⟨g,j,none⟩=false:=by
 have h0:=h;obtain ⟨h1,h2⟩:=h;rcases h2 with ⟨rfl,h3⟩|⟨g,cap,cur,rfl,hb,hh,h4,h5,_⟩
 · omega
 · refine ⟨g,cap,rfl,hb,(Array.getElem?_eq_some_iff.1 hh).1,fun j hj=>?_,fun j=>h0.frozenAt j⟩;rw [h0.cellAt j Q5,rx hj]
theorem cr.set{w:World}{B g cap:Nat}{l:List Int}(h:cr w B (.slice (some ⟨g,0,none⟩) l.length cap) l)(j:Nat)(x:Int):cr (w.setCell ⟨g,j,none⟩ (.int .i64 x)) B (.slice (some ⟨g,0,none⟩) l.length cap) (l.set j x):=by
 have:=(World.ownsRow.stored h j (.int .i64 x)).1
 rw [zC] at this;unfold cr;rw [List.length_set];exact this
theorem cr.keep{w w':World}{B:Nat}{v:Value}{l:List Int}(h:cr w B v l)(g:∀b,v.ownBlock=some b->w'.heap[b]? =w.heap[b]?):cr w' B v l:=by
 obtain ⟨h1,h2⟩:=h;refine ⟨h1,?_⟩;rcases h2 with ⟨rfl,h3⟩|⟨k,cap,cur,rfl,hb,hh,r⟩
 · exact .inl ⟨rfl,h3⟩
 · exact .inr ⟨k,cap,cur,rfl,hb,(g k rfl).trans hh,r⟩
theorem cr.cut{w:World}{B g cap n:Nat}{l:List Int}(h:cr w B (.slice (some ⟨g,0,none⟩) l.length cap) l)(hn:n<=l.length):cr w B (.slice (some ⟨g,0,none⟩) n cap) (l.take n):=by
 obtain ⟨h1,h2⟩:=h;have hl:(l.take n).length=n:=by rw [List.length_take];omega
 unfold cr;rw [hl];rcases h2 with ⟨h3,_⟩|⟨k,c,cur,he,hb,hh,h4,h5,h6,h7⟩
 · simp at h3
 · simp only [Value.slice.injEq,Option.some.injEq,Addr.mk.injEq,and_true,true_and] at he;obtain ⟨rfl,rfl⟩:=he;refine ⟨by rw [jv,hl];omega,.inr ⟨g,cap,cur,rfl,hb,hh,Q5,h5,h6,?_⟩⟩;have:fP (l.take n)=(fP l).take n:=by unfold fP;rw [List.map_take]
   rw [this,<-h7,List.take_take];congr 1;omega
open Go.RowKit
attribute [local go_sem ↓] Go.wp_at_zero Go.wp_at_succ
def kC(e n a:Int):List PanicEntry:= [{ v:=.iface 62 (.agg #[.int .i64 e,.int .i64 n,.int .i64 a]),recovered:=false }]
theorem bP(e n a:Int)(w:World):
 Calls Tryz.prog 64 #[.agg #[.int .i64 e,.int .i64 n,.int .i64 a],.bool true] w fun x w'=>x=.returned (.tuple #[])/\Gr w w':=by
 have I8:∀(x:Bool) (w:World),(Op.unary .not (.bool x)).run Tryz.prog w=.ok (.bool (!x)) w:=fun _ _=>rfl
 go_enter Tryz.func64,Tryz.ntmps64
 go_wp2
 go_end0
 exact ⟨rfl,(Gr.refl _).alloc _⟩
theorem bk(e n a:Int)(w:World):
 Calls Tryz.prog 64 #[.agg #[.int .i64 e,.int .i64 n,.int .i64 a],.bool false] w fun x w'=>x=.panicked (kC e n a)/\Gr w w':=by
 have I8:∀(x:Bool) (w:World),(Op.unary .not (.bool x)).run Tryz.prog w=.ok (.bool (!x)) w:=fun _ _=>rfl
 go_enter Tryz.func64,Tryz.ntmps64
 go_wp2
 exact ⟨rfl,rfl,(Gr.refl _).alloc _⟩
def xv(o:Option Int)(n a:Int):Ending:=match o with
 | none=>.panicked (kC 10 n a)
 | some k=>.returned (.int .i64 k)
set_option maxRecDepth 100000 in
set_option maxHeartbeats 1000000 in
theorem tW(s:List Int)(v:Value)(n a:Int)(w:World)(hR:aW w v s):
 Calls Tryz.prog 136 #[v,.agg #[.int .i64 10,.int .i64 n,.int .i64 a]] w fun x w'=>x=xv s.getLast? n a/\Gr w w':=by
 obtain ⟨ao,cap,rfl,hm,hc⟩:=hR;unfold maxLen at hm;have HC:=aH hc;clear hc;by_cases hl:0 < s.length
 · obtain ⟨b,off,rfl,Z0⟩:=HC.out (s.length - 1) Q5;have HS:Hid (s.getLast? =some (s.getD (s.length - 1) 0)):=aH (by
    rw [List.getLast?_eq_getElem?,List.getD_eq_getElem?_getD,List.getElem?_eq_getElem (show s.length - 1 < s.length by omega)];rfl)
   have D2:IntKind.i64.wrap ((s.length:Int) - 1)=((s.length - 1:Nat):Int):=by rw [Q_];omega
   generalize s.getD (s.length - 1) 0=y at Z0 HS;have hd:(0:Int) < (s.length:Int):=Q5
   have Y0:((s.length - 1:Nat):Int) < (s.length:Int):=Q5
   have L_:∀w',Gr (w.alloc (.cells #[.int .i64 10,.int .i64 n,.int .i64 a] 62)) w'->w'.cell? ⟨b,off+(s.length - 1),none⟩=some (.int .i64 y):=fun w' h=>h.cell ((World.grownBy_alloc w _ none).cell Z0 Q6) Q6
   clear HC Z0;go_enter Tryz.func136,Tryz.ntmps136
   go_wp2_with ((go_at_call 64;refine (bP _ _ _ _).mono ?_;rintro e w' ⟨rfl,D0⟩);have J5:=L_ w' D0)
   go_ret
   exact ⟨by rw [HS.out];rfl,Q0⟩
 · obtain rfl:s= []:=by cases s with|nil=>rfl|cons=>simp at hl
   go_enter Tryz.func136,Tryz.ntmps136
   go_wp2_with ((go_at_call 64;refine (bk _ _ _ _).mono ?_;rintro e w' ⟨rfl,D0⟩))
   exact ⟨rfl,rfl,Q0⟩
end Go.Proofs.YtkgncijcnlfhiabGreat
