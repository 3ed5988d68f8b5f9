import Derived.Test.YtkgncijcnlfhiaaGreatW4c
import Derived.Maps.OwnSet
import Derived.Laws.OwnMore
namespace Go.Proofs.YtkgncijcnlfhiaaGreat
set_option linter.unusedVariables false
set_option linter.unusedSimpArgs false
def fC(seen:List (List UInt8)):List du→Option (List (List UInt8))
 | []=>some seen
 | e :: l=>if e.name∈seen then none else fC (e.name :: seen) l
def iY(seen:List (List UInt8))(k:Nat):List aK→Option Nat
 | []=>none
 | u :: l=>match fC seen u.aC with
  | none=>some k
  | some s=>iY s (k+1) l
def jZ(l:List aK)(k:Nat):Nat:=((l.take k).map fun u=>u.aD.length).sum
def dv(l:List aK)(k:Nat):Nat:=((l.take k).map fun u=>u.aE.length).sum
theorem pw{l:List aK}{k:Nat}{u:aK}(h:l[k]? =some u):jZ l (k+1)=jZ l k+u.aD.length:=by
 obtain ⟨hk,rfl⟩:=List.getElem?_eq_some_iff.1 h;unfold jZ;rw [List.take_succ_eq_append_getElem hk,List.map_append,List.sum_append_nat];simp only [List.map_cons,List.map_nil,List.sum_cons,List.sum_nil,Nat.add_zero]
theorem i'{l:List aK}{k:Nat}{u:aK}(h:l[k]? =some u):dv l (k+1)=dv l k+u.aE.length:=by
 obtain ⟨hk,rfl⟩:=List.getElem?_eq_some_iff.1 h;unfold dv;rw [List.take_succ_eq_append_getElem hk,List.map_append,List.sum_append_nat];simp only [List.map_cons,List.map_nil,List.sum_cons,List.sum_nil,Nat.add_zero]
def rJ(N:List UInt8→Int)(u:aK)(c f:Nat)(i:aw):aw:=
 if i.op=0 then { i with a:=if i.a < u.aD.length then c+i.a else 65535 }
 else if i.op=13 then { i with a:=if i.a < u.aE.length then f+i.a else match u.aB[(i.a - u.aE.length).toNat]? with
  | some g=>N g.name
  | none=>65535 }
 else i
def oG(N:List UInt8→Int)(u:aK)(c f:Nat)(g:aO):aO:={ g with code:=g.code.map (rJ N u c f) }
def lP(f:Nat)(e:du):du:={ e with func:=f+e.func }
def A8(N:List UInt8→Int):Nat→Nat→List aK→List Int×List aO×List du
 | _,_,[]=>([],[],[])
 | c,f,u :: l=>
  let r:=A8 N (c+u.aD.length) (f+u.aE.length) l
  (u.aD++r.1,u.aE.map (oG N u c f)++r.2.1,u.aC.map (lP f)++r.2.2)
def qE(u:aK)(f:Nat):List du→(List UInt8→Option (aO×Int))→List UInt8→Option (aO×Int)
 | [],N=>N
 | e :: l,N=>qE u f l (fun n=>if n=e.name then (u.aE[e.func.toNat]?).map fun g=>(g,(f:Int)+e.func) else N n)
def fw:Nat→List aK→(List UInt8→Option (aO×Int))→List UInt8→Option (aO×Int)
 | _,[],N=>N
 | f,u :: l,N=>fw (f+u.aE.length) l (qE u f u.aC N)
def dg(p:aK→Bool):Nat→List aK→Option Nat
 | _,[]=>none
 | k,u :: l=>if p u=true then some k else dg p (k+1) l
def tgtN(l:List aK)(n:List UInt8):Int:=match fw 0 l (fun _=>none) n with
 | some (_,k)=>k
 | none=>0
def iW(N:List UInt8→Option (aO×Int))(i:fQ):Bool:=match N i.name with
 | some (g,_)=>decide (i.aF=g.aF∧i.result=g.result)
 | none=>false
def bw:List aK→aK ⊕ (Int×Nat)
 | []=>.inr (4,0)
 | h :: t=>
  let l:=h :: t
  let N:=fw 0 l (fun _=>none)
  if 6 < l.length then .inr (4,0)
  else match dg (fun u=>!ak u) 0 l with
  | some k=>.inr (1,k)
  | none=>match dg (fun u=>!decide (u.aA=h.aA)) 0 l with
  | some k=>.inr (5,k)
  | none=>match iY [] 0 l with
  | some k=>.inr (6,k)
  | none=>match dg (fun u=>u.aB.any fun i=>!(N i.name).isSome) 0 l with
  | some k=>.inr (7,k)
  | none=>match dg (fun u=>u.aB.any fun i=>!iW N i) 0 l with
  | some k=>.inr (8,k)
  | none=>
   let r:=A8 (tgtN l) 0 0 l
   if 30 < r.2.1.length∨50 < r.1.length∨20 < r.2.2.length then .inr (9,0) else .inl ⟨h.aA,r.1,r.2.1,[],r.2.2⟩
theorem iw{p:aK→Bool}:∀(l:List aK) (k:Nat),dg p k l=none↔∀u∈l,p u=false
 | [],k=>by simp [dg]
 | u :: l,k=>by
  rw [dg];cases h:p u with
  | true=>simp [h]
  | false=>simp [h,iw l (k+1)]
def jN(a:Nat→Int)(i j:Nat):Nat→Int:=fun k=>if k=i then a j else if k=j then a i else a k
def Hp(a:Nat→Int)(n:Nat):Prop:=∀i,0 < i→i < n→a ((i - 1) / 2)≤a i
structure CF(a:Nat→Int)(n j:Nat):Prop where
 rest:∀i,0 < i→i < n→i≠j→a ((i - 1) / 2)≤a i
 over:∀i,0 < i→i < n→(i - 1) / 2=j→0 < j→a ((j - 1) / 2)≤a i
structure pI(a:Nat→Int)(n i:Nat):Prop where
 rest:∀c,0 < c→c < n→(c - 1) / 2≠i→a ((c - 1) / 2)≤a c
 over:∀c,0 < c→c < n→(c - 1) / 2=i→0 < i→a ((i - 1) / 2)≤a c
theorem Hp.root{a:Nat→Int}{n:Nat}(h:Hp a n):∀i,i < n→a 0≤a i:=by
 intro i
 induction i using Nat.strongRecOn with
 | _ i ih=>
  intro hi;by_cases h0:i=0
  · subst h0;exact Int.le_refl _
  · exact Int.le_trans (ih ((i - 1) / 2) (by omega) (by omega)) (h i (by omega) hi)
structure fX(a b:Nat→Int)(n:Nat):Prop where
 mem:∀x,(∃i,i < n∧a i=x)↔∃i,i < n∧b i=x
 inj:(∀i j,i < n→j < n→a i=a j→i=j)→∀i j,i < n→j < n→b i=b j→i=j
theorem fX.refl(a:Nat→Int)(n:Nat):fX a a n:=⟨fun _=>Iff.rfl,fun h=>h⟩
theorem fX.trans{a b c:Nat→Int}{n:Nat}(h:fX a b n)(k:fX b c n):fX a c n:=⟨fun x=>(h.mem x).trans (k.mem x),fun hi=>k.inj (h.inj hi)⟩
def sg(i j k:Nat):Nat:=if k=i then j else if k=j then i else k
theorem wX(a:Nat→Int)(i j k:Nat):jN a i j k=a (sg i j k):=by unfold jN sg;split<;>(try split)<;>rfl
theorem kI{a:Nat→Int}{n i j:Nat}(hi:i < n)(hj:j < n):fX a (jN a i j) n:=by
 refine ⟨fun x=>⟨?_,?_⟩,fun hin p q hp hq h=>?_⟩
 · rintro ⟨k,hk,rfl⟩;by_cases h1:k=i
   · refine ⟨j,hj,?_⟩;unfold jN;split
     · rename_i e;rw [h1,e]
     · simp [h1]
   · by_cases h2:k=j
     · exact ⟨i,hi,by unfold jN;simp [h2]⟩
     · exact ⟨k,hk,by unfold jN;simp [h1,h2]⟩
 · rintro ⟨k,hk,rfl⟩;unfold jN;split
   · exact ⟨j,hj,rfl⟩
   · split
     · exact ⟨i,hi,rfl⟩
     · exact ⟨k,hk,rfl⟩
 · rw [wX,wX] at h;have:=hin (sg i j p) (sg i j q) (by unfold sg;split<;>(try split)<;>omega) (by unfold sg;split<;>(try split)<;>omega) h
   unfold sg at this;split at this<;>split at this<;>(try split at this)<;>(try split at this)<;>omega
theorem CF.stop{a:Nat→Int}{n j:Nat}(h:CF a n j)(hs:j=0∨a ((j - 1) / 2)≤a j):Hp a n:=by
 intro i h0 hi;by_cases hij:i=j
 · subst hij;rcases hs with e|e
   · omega
   · exact e
 · exact h.rest i h0 hi hij
theorem CF.step{a:Nat→Int}{n j:Nat}(h:CF a n j)(hj:j < n)(h0:0 < j)(hl:a j < a ((j - 1) / 2)):CF (jN a ((j - 1) / 2) j) n ((j - 1) / 2):=by
 generalize hp:(j - 1) / 2=p at h hl ⊢;have hpj:p < j:=by omega
 refine ⟨fun i i0 i1 i2=>?_,fun i i0 i1 i2 i3=>?_⟩
 · unfold jN;by_cases e1:(i - 1) / 2=p
   · rw [if_pos e1,if_neg i2];by_cases e2:i=j
     · rw [if_pos e2];omega
     · rw [if_neg e2];have:=h.rest i i0 i1 e2
       rw [e1] at this;omega
   · rw [if_neg e1,if_neg i2];by_cases e2:(i - 1) / 2=j
     · rw [if_pos e2,if_neg (by omega)];have:=h.over i i0 i1 e2 h0
       rw [hp] at this;exact this
     · rw [if_neg e2];by_cases e3:i=j
       · subst e3;omega
       · rw [if_neg e3];exact h.rest i i0 i1 e3
 · unfold jN;have hpp:(p - 1) / 2≠p:=by omega
   have hppj:(p - 1) / 2≠j:=by omega
   rw [if_neg hpp,if_neg hppj];have h1:=h.rest p i3 (by omega) (by omega);rw [if_neg (show ¬i=p by omega)];by_cases e2:i=j
   · rw [if_pos e2];exact h1
   · rw [if_neg e2];have:=h.rest i i0 i1 e2
     rw [i2] at this;omega
theorem pI.stop{a:Nat→Int}{n i:Nat}(h:pI a n i)(hs:∀c,0 < c→c < n→(c - 1) / 2=i→a i≤a c):Hp a n:=by
 intro c h0 hc;by_cases e:(c - 1) / 2=i
 · rw [e];exact hs c h0 hc e
 · exact h.rest c h0 hc e
theorem pI.step{a:Nat→Int}{n i c:Nat}(h:pI a n i)(hc0:0 < c)(hc:c < n)(hci:(c - 1) / 2=i)(hl:a c < a i)(hm:∀d,0 < d→d < n→(d - 1) / 2=i→a c≤a d):pI (jN a i c) n c:=by
 have hic:i < c:=by omega
 refine ⟨fun d d0 d1 d2=>?_,fun d d0 d1 d2 d3=>?_⟩
 · unfold jN;by_cases e1:(d - 1) / 2=i
   · rw [if_pos e1,if_neg (show ¬d=i by omega)];by_cases e2:d=c
     · rw [if_pos e2];omega
     · rw [if_neg e2];exact hm d d0 d1 e1
   · rw [if_neg e1,if_neg d2];by_cases e2:d=i
     · rw [if_pos e2];subst e2;have:=h.over c hc0 hc hci d0
       exact this
     · rw [if_neg e2];by_cases e3:d=c
       · subst e3;exact absurd hci e1
       · rw [if_neg e3];exact h.rest d d0 d1 e1
 · unfold jN;rw [if_pos hci,if_neg (show ¬d=i by omega),if_neg (show ¬d=c by omega)];have:=h.rest d d0 d1 (by omega)
   rw [d2] at this;exact this
theorem Hp.push{a:Nat→Int}{n:Nat}(h:Hp a n)(x:Int):CF (fun k=>if k=n then x else a k) (n+1) n:=by
 refine ⟨fun i i0 i1 i2=>?_,fun i i0 i1 i2 i3=>by omega⟩;rw [if_neg (show ¬(i - 1) / 2=n by omega),if_neg i2];exact h i i0 (by omega)
theorem Hp.pop{a:Nat→Int}{n:Nat}(h:Hp a (n+1)):pI (jN a 0 n) n 0:=by
 refine ⟨fun c c0 c1 c2=>?_,fun c c0 c1 c2 c3=>by omega⟩;unfold jN;rw [if_neg c2,if_neg (show ¬(c - 1) / 2=n by omega),if_neg (show ¬c=0 by omega),if_neg (show ¬c=n by omega)];exact h c c0 (by omega)
def dJ(u:aK)(f:aO)(i:aw):Option (List Int×List Int):=
 let slots:=f.aF++f.aG
 let shape:Option (List Int):=if 1≤i.a then u.aA[(i.a - 1).toNat]? else none
 if i.op=0 then (if i.a < u.aD.length then some ([],[0]) else none)
 else if i.op=1 then some ([],[0])
 else if i.op=2 then slots[i.a.toNat]?.map fun k=>([],[k])
 else if i.op=3 then slots[i.a.toNat]?.map fun k=>([k],[])
 else if i.op=4 then some ([-1],[])
 else if i.op=5 then some ([-1],[-1,-1])
 else if i.op=6∨i.op=7∨i.op=8∨i.op=9∨i.op=10 then some ([0,0],[0])
 else if i.op=11 then (if i.a < f.code.length then some ([],[]) else none)
 else if i.op=12 then (if i.a < f.code.length then some ([0],[]) else none)
 else if i.op=13 then
  (match u.aE[i.a.toNat]? with
  | some g=>some (g.aF,[g.result])
  | none=>u.aB[i.a.toNat - u.aE.length]?.map fun g=>(g.aF,[g.result]))
 else if i.op=14 then some ([f.result],[])
 else if i.op=15 then shape.map fun s=>(s,[i.a])
 else if i.op=16 then shape.bind fun s=>s[i.b.toNat]?.map fun k=>([i.a],[k])
 else if i.op=17 then shape.bind fun s=>s[i.b.toNat]?.map fun k=>([i.a,k],[])
 else if i.op=18 then shape.map fun _=>([],[i.a])
 else if i.op=19 then shape.map fun _=>([i.a],[0])
 else if i.op=20 then some ([0],[])
 else none
def iN:List Int→List Int→Bool
 | [],[]=>true
 | t :: ts,s :: ss=>(decide (t < 0) || decide (t=s)) && iN ts ss
 | _,_=>false
def vX:List Int→List Int→Int
 | t :: ts,s :: ss=>if t < 0 then s else vX ts ss
 | _,_=>0
def gE(u:aK)(f:aO)(i:aw)(stack:List Int):Option (List Int):=
 match dJ u f i with
 | none=>none
 | some (ts,ps)=>
  if stack.length < ts.length then none
  else if iN ts (stack.drop (stack.length - ts.length))=false then none
  else
   let out:=stack.take (stack.length - ts.length)++ps.map fun p=>if p < 0 then vX ts (stack.drop (stack.length - ts.length)) else p
   if out.length≤20∧(i.op≠14∨stack.length=ts.length) then some out else none
def eA(f:aO)(q:Nat)(i:aw):List (Option Nat):=
 let behind:=if q+1 < f.code.length then some (q+1) else none
 if i.op=11 then [some i.a.toNat] else if i.op=14 then [] else if i.op=12 then [behind,some i.a.toNat] else [behind]
def bz(s:List Int)(q:Nat):List (Option Nat)→(Nat→Option (List Int))→Nat ⊕ (Nat→Option (List Int))
 | [],st=>.inr st
 | none :: _,_=>.inl q
 | some t :: l,st=>
  match st t with
  | some s0=>if s0=s then bz s q l st else .inl t
  | none=>bz s q l (fun k=>if k=t then some s else st k)
def gl(n:Nat)(st:Nat→Option (List Int))(dn:Nat→Bool):Option Nat:=(List.range n).find? fun k=>(st k).isSome && !dn k
def iO(u:aK)(f:aO):Nat→(Nat→Option (List Int))→(Nat→Bool)→Option Nat
 | 0,_,_=>none
 | k+1,st,dn=>
  match gl f.code.length st dn with
  | none=>none
  | some q=>
   match f.code[q]?,st q with
   | some i,some s=>
    match gE u f i s with
    | none=>some q
    | some s'=>
     match bz s' q (eA f q i) st with
     | .inl t=>some t
     | .inr st'=>iO u f k st' (fun j=>decide (j=q) || dn j)
   | _,_=>none
def et(u:aK)(f:aO):Option Nat:=iO u f (f.code.length+1) (fun k=>if k=0 then some [] else none) (fun _=>false)
def fU(u:aK):Nat→List aO→Int×Nat×Nat
 | _,[]=>(0,0,0)
 | k,f :: l=>match et u f with
  | some q=>(10,k,q)
  | none=>fU u (k+1) l
def aa(u:aK):Int×Nat×Nat:=if ak u then fU u 0 u.aE else (1,0,0)
theorem lC{n:Nat}{st:Nat→Option (List Int)}{dn:Nat→Bool}{q:Nat}:gl n st dn=some q↔q < n∧((st q).isSome && !dn q)=true∧∀k,k < q→((st k).isSome && !dn k)=false:=by
 unfold gl;rw [List.find?_range_eq_some];constructor
 · rintro ⟨h1,h2,h3⟩;exact ⟨by simpa using h2,h1,fun k hk=>by
    have h4:(!((st k).isSome && !dn k))=true:=h3 k hk;rwa [Bool.not_eq_true'] at h4⟩
 · rintro ⟨h1,h2,h3⟩;exact ⟨h2,by simpa using h1,fun k hk=>by
    show (!((st k).isSome && !dn k))=true
    rw [Bool.not_eq_true'];exact h3 k hk⟩
theorem kz{n:Nat}{st:Nat→Option (List Int)}{dn:Nat→Bool}:gl n st dn=none↔∀k,k < n→((st k).isSome && !dn k)=false:=by
 unfold gl;rw [List.find?_eq_none];constructor
 · intro h k hk;have:=h k (List.mem_range.2 hk)
   simpa using this
 · intro h k hk;have:=h k (List.mem_range.1 hk)
   simpa using this
def A3(u:aK)(f:aO)(i:aw)(stack:List Int):Option (List Int×List Int):=
 if i.op=4 then stack.getLast?.map fun k=>([k],[])
 else if i.op=5 then stack.getLast?.map fun k=>([k],[k,k])
 else dJ u f i
def fY(u:aK)(f:aO)(i:aw)(stack:List Int):Option (List Int):=
 match A3 u f i stack with
 | none=>none
 | some (ts,ps)=>
  if stack.length < ts.length∨stack.drop (stack.length - ts.length)≠ts then none
  else if i.op=14 then (if stack.length=ts.length then some (stack.take (stack.length - ts.length)++ps) else none)
  else if (stack.take (stack.length - ts.length)++ps).length≤20 then some (stack.take (stack.length - ts.length)++ps) else none
theorem pC:∀(ts s:List Int),(∀t∈ts,0≤t)→iN ts s=decide (s=ts)
 | [],[],_=>by simp [iN]
 | [],_ :: _,_=>by simp [iN]
 | _ :: _,[],_=>by simp [iN]
 | t :: ts,s :: ss,h=>by
  have ht:¬t < 0:=by have:=h t (by simp);omega
  rw [iN,pC ts ss (fun x hx=>h x (by simp [hx]))];rw [Bool.eq_iff_iff];simp only [Bool.and_eq_true,Bool.or_eq_true,decide_eq_true_eq,ht,false_or,List.cons.injEq];exact ⟨fun h=>⟨h.1.symm,h.2⟩,fun h=>⟨h.1.symm,h.2⟩⟩
theorem CQ(a:Int):∀(ps:List Int),(∀p∈ps,0≤p)→(ps.map fun p=>if p < 0 then a else p)=ps
 | [],_=>rfl
 | p :: ps,h=>by
  have hp:¬p < 0:=by have:=h p (by simp);omega
  rw [List.map_cons,if_neg hp,CQ a ps (fun x hx=>h x (by simp [hx]))]
theorem lw{s:List Int}{k:Int}(h:s.getLast? =some k):∃t,s=t++ [k]:=List.getLast?_eq_some_iff.1 h
theorem wD{u:aK}{f:aO}{i:aw}{ts ps:List Int}(h:i.op=14)(he:dJ u f i=some (ts,ps)):ts= [f.result]∧ps= []:=by
 unfold dJ at he;simp [h] at he
 exact ⟨he.1.symm,he.2⟩
theorem wh{u:aK}{f:aO}{i:aw}(s:List Int)(hn:∀ts ps,dJ u f i=some (ts,ps)→i.op≠4→i.op≠5→(∀t∈ts,0≤t)∧(∀p∈ps,0≤p)):fY u f i s=gE u f i s:=by
 by_cases h4:i.op=4
 · have hP:dJ u f i=some ([-1],[]):=by unfold dJ;simp [h4]
   unfold fY gE A3;rw [hP,if_pos h4];cases hl:s.getLast? with
   | none=>rw [List.getLast?_eq_none_iff] at hl;subst hl;simp
   | some k=>
    obtain ⟨t,rfl⟩:=lw hl;simp [iN,h4]
 · by_cases h5:i.op=5
   · have hP:dJ u f i=some ([-1],[-1,-1]):=by unfold dJ;simp [h5]
     unfold fY gE A3;rw [hP,if_neg h4,if_pos h5];cases hl:s.getLast? with
     | none=>rw [List.getLast?_eq_none_iff] at hl;subst hl;simp
     | some k=>
      obtain ⟨t,rfl⟩:=lw hl;simp [iN,vX,h5]
   · unfold fY gE A3;rw [if_neg h4,if_neg h5];cases hP:dJ u f i with
     | none=>rfl
     | some p=>
      obtain ⟨ts,ps⟩:=p;obtain ⟨h1,h2⟩:=hn ts ps hP h4 h5;simp only;rw [pC ts _ h1,CQ _ ps h2];by_cases hl:s.length < ts.length
      · rw [if_pos hl,if_pos (Or.inl hl)]
      · rw [if_neg hl];by_cases hd:s.drop (s.length - ts.length)=ts
        · have c1:¬(s.length < ts.length∨s.drop (s.length - ts.length)≠ts):=fun h=>h.elim hl (fun h=>h hd)
          have c2:¬(decide (s.drop (s.length - ts.length)=ts)=false):=by simp [hd]
          rw [if_neg c1,if_neg c2];by_cases h14:i.op=14
          · obtain ⟨e1,e2⟩:=wD h14 hP;rw [if_pos h14];by_cases hs:s.length=ts.length
            · rw [if_pos hs,if_pos ⟨by rw [hs,e2];simp,Or.inr hs⟩]
            · have c3:¬((s.take (s.length - ts.length)++ps).length≤20∧(i.op≠14∨s.length=ts.length)):=fun h=>h.2.elim (fun h=>h h14) hs
              rw [if_neg hs,if_neg c3]
          · rw [if_neg h14];simp [h14]
        · have c4:decide (s.drop (s.length - ts.length)=ts)=false:=by simp [hd]
          rw [if_pos (Or.inr hd),if_pos c4]
theorem wH{n k:Int}(h:jT n k=true):0≤k:=by unfold jT wB at h;simp at h;exact h.1
theorem nP{n:Int}{l:List Int}(h:l.all (jT n)=true):∀k∈l,0≤k:=fun k hk=>wH (List.all_eq_true.1 h k hk)
theorem wK{ps:List Int}{r n:Int}(h:fG ps r n=true):(∀k∈ps,0≤k)∧0≤r:=by
 unfold fG at h;simp only [Bool.and_eq_true] at h;exact ⟨nP h.2.1,wH h.2.2⟩
theorem xw{f:aO}{n:Int}(h:c_ n f=true):(∀k∈f.aF,0≤k)∧0≤f.result∧(∀k∈f.aG,0≤k)∧f.code.all bH=true∧1≤f.code.length:=by
 unfold c_ gI at h;simp only [Bool.and_eq_true] at h;have h1:=wK h.1;have h2:=h.2.2.2.1;unfold wB at h2;simp at h2;exact ⟨h1.1,h1.2,nP h.2.2.1,h.2.2.2.2,by omega⟩
theorem jK{α:Type}{l:List α}{k:Nat}{x:α}(h:l[k]? =some x):x∈l:=List.mem_of_getElem? h
theorem yQ{u:aK}{f:aO}{i:aw}(hu:ak u=true)(hf:f∈u.aE):∀ts ps,dJ u f i=some (ts,ps)→i.op≠4→i.op≠5→(∀t∈ts,0≤t)∧(∀p∈ps,0≤p):=by
 intro ts ps he n4 n5;unfold ak A9 cL bm at hu;simp only [Bool.and_eq_true] at hu;obtain ⟨⟨-,hsh⟩,-,⟨-,hfs⟩,⟨-,him⟩,-⟩:=hu;have hF:∀g∈u.aE,(∀k∈g.aF,0≤k)∧0≤g.result∧(∀k∈g.aG,0≤k)∧g.code.all bH=true∧1≤g.code.length:=fun g hg=>xw (List.all_eq_true.1 hfs g hg)
 have hI:∀g∈u.aB,(∀k∈g.aF,0≤k)∧0≤g.result:=by
  intro g hg;have:=List.all_eq_true.1 him g hg
  unfold gQ at this;simp only [Bool.and_eq_true] at this;exact wK this.2
 have hS:∀(k:Nat) s,u.aA[k]? =some s→∀x∈s,0≤x:=by
  intro k s h;have:=List.all_eq_true.1 hsh s (jK h)
  unfold dj at this;simp only [Bool.and_eq_true] at this;exact nP this.2
 have hsl:∀(k:Nat) x,(f.aF++f.aG)[k]? =some x→0≤x:=by
  intro k x h;rcases List.mem_append.1 (jK h) with h|h
  · exact (hF f hf).1 x h
  · exact (hF f hf).2.2.1 x h
 have hshape:∀s,(if 1≤i.a then u.aA[(i.a - 1).toNat]? else none)=some s→0≤i.a∧∀x∈s,0≤x:=by
  intro s h;by_cases ha:1≤i.a
  · rw [if_pos ha] at h;exact ⟨by omega,hS _ s h⟩
  · rw [if_neg ha] at h;cases h
 unfold dJ at he;generalize hsE:(if 1≤i.a then u.aA[(i.a - 1).toNat]? else none)=S at he hshape;by_cases c0:i.op=0
 · rw [if_pos c0] at he;split at he
   · cases he;simp
   · cases he
 rw [if_neg c0] at he;by_cases c1:i.op=1
 · rw [if_pos c1] at he;cases he;simp
 rw [if_neg c1] at he;by_cases c2:i.op=2
 · rw [if_pos c2] at he;rw [Option.map_eq_some_iff] at he;obtain ⟨k,hk,e⟩:=he;cases e;simpa using hsl _ _ hk
 rw [if_neg c2] at he;by_cases c3:i.op=3
 · rw [if_pos c3] at he;rw [Option.map_eq_some_iff] at he;obtain ⟨k,hk,e⟩:=he;cases e;simpa using hsl _ _ hk
 rw [if_neg c3] at he;by_cases c4:i.op=4
 · rw [if_pos c4] at he;exact absurd c4 n4
 rw [if_neg c4] at he;by_cases c5:i.op=5
 · rw [if_pos c5] at he;exact absurd c5 n5
 rw [if_neg c5] at he;by_cases c6:i.op=6∨i.op=7∨i.op=8∨i.op=9∨i.op=10
 · rw [if_pos c6] at he;cases he;simp
 rw [if_neg c6] at he;by_cases c7:i.op=11
 · rw [if_pos c7] at he;split at he
   · cases he;simp
   · cases he
 rw [if_neg c7] at he;by_cases c8:i.op=12
 · rw [if_pos c8] at he;split at he
   · cases he;simp
   · cases he
 rw [if_neg c8] at he;by_cases c9:i.op=13
 · rw [if_pos c9] at he;split at he
   · rename_i g hg
     cases he
     have:=hF g (jK hg)
     exact ⟨this.1,by simpa using this.2.1⟩
   · rw [Option.map_eq_some_iff] at he;obtain ⟨g,hg,e⟩:=he;cases e;have:=hI g (jK hg)
     exact ⟨this.1,by simpa using this.2⟩
 rw [if_neg c9] at he;by_cases c10:i.op=14
 · rw [if_pos c10] at he;cases he;simpa using (hF f hf).2.1
 rw [if_neg c10] at he;by_cases c11:i.op=15
 · rw [if_pos c11] at he;rw [Option.map_eq_some_iff] at he;obtain ⟨s,hs,e⟩:=he;cases e;obtain ⟨ha,hx⟩:=hshape _ hs;exact ⟨hx,by simpa using ha⟩
 rw [if_neg c11] at he;by_cases c12:i.op=16
 · rw [if_pos c12] at he;rw [Option.bind_eq_some_iff] at he;obtain ⟨s,hs,he⟩:=he;rw [Option.map_eq_some_iff] at he;obtain ⟨k,hk,e⟩:=he;cases e;obtain ⟨ha,hx⟩:=hshape _ hs;exact ⟨by simpa using ha,by simpa using hx k (jK hk)⟩
 rw [if_neg c12] at he;by_cases c13:i.op=17
 · rw [if_pos c13] at he;rw [Option.bind_eq_some_iff] at he;obtain ⟨s,hs,he⟩:=he;rw [Option.map_eq_some_iff] at he;obtain ⟨k,hk,e⟩:=he;cases e;obtain ⟨ha,hx⟩:=hshape _ hs;have:=hx k (jK hk)
   refine ⟨?_,by simp⟩;intro t ht;simp at ht;rcases ht with rfl|rfl<;>assumption
 rw [if_neg c13] at he;by_cases c14:i.op=18
 · rw [if_pos c14] at he;rw [Option.map_eq_some_iff] at he;obtain ⟨s,hs,e⟩:=he;cases e;obtain ⟨ha,hx⟩:=hshape _ hs;exact ⟨by simp,by simpa using ha⟩
 rw [if_neg c14] at he;by_cases c15:i.op=19
 · rw [if_pos c15] at he;rw [Option.map_eq_some_iff] at he;obtain ⟨s,hs,e⟩:=he;cases e;obtain ⟨ha,hx⟩:=hshape _ hs;exact ⟨by simpa using ha,by simp⟩
 rw [if_neg c15] at he;by_cases c16:i.op=20
 · rw [if_pos c16] at he;cases he;simp
 rw [if_neg c16] at he;cases he
structure kG(N:Nat)(a:Nat→Int)(n:Nat)(st:Nat→Option (List Int))(dn:Nat→Bool):Prop where
 hp:Hp a n
 inj:∀i j,i < n→j < n→a i=a j→i=j
 mem:∀x,(∃i,i < n∧a i=x)↔∃k:Nat,x=(k:Int)∧(st k).isSome=true∧dn k=false
 lt:∀k,(st k).isSome=true→k < N
 seen:∀k,dn k=true→(st k).isSome=true
theorem kG.empty(N:Nat)(a:Nat→Int):kG N a 0 (fun _=>none) (fun _=>false):=
 ⟨fun i _ h=>by omega,fun i _ h=>by omega,fun x=>⟨fun ⟨i,h,_⟩=>by omega,fun ⟨k,_,h,_⟩=>by simp at h⟩,fun k h=>by simp at h,fun k h=>by simp at h⟩
theorem kG.nothing{N:Nat}{a:Nat→Int}{st:Nat→Option (List Int)}{dn:Nat→Bool}(h:kG N a 0 st dn):gl N st dn=none:=by
 rw [kz];intro k _;cases hs:(st k).isSome with
 | false=>rfl
 | true=>
  cases hd:dn k with
  | true=>rfl
  | false=>
   obtain ⟨i,hi,_⟩:=(h.mem k).2 ⟨k,rfl,hs,hd⟩;omega
theorem kG.top{N:Nat}{a:Nat→Int}{n:Nat}{st:Nat→Option (List Int)}{dn:Nat→Bool}(h:kG N a n st dn)(hn:0 < n):∃q:Nat,a 0=q∧q < N∧(st q).isSome=true∧dn q=false∧gl N st dn=some q:=by
 obtain ⟨q,hq,hs,hd⟩:=(h.mem (a 0)).1 ⟨0,hn,rfl⟩;refine ⟨q,hq,h.lt q hs,hs,hd,?_⟩;rw [lC];refine ⟨h.lt q hs,by simp [hs,hd],?_⟩;intro k hk;cases hs':(st k).isSome with
 | false=>rfl
 | true=>
  cases hd':dn k with
  | true=>rfl
  | false=>
   obtain ⟨i,hi,e⟩:=(h.mem k).2 ⟨k,rfl,hs',hd'⟩;have:=h.hp.root i hi
   omega
theorem kG.pop{N:Nat}{a b:Nat→Int}{n q:Nat}{st:Nat→Option (List Int)}{dn:Nat→Bool}(h:kG N a (n+1) st dn)(hq:a 0=q)(hb:Hp b n)(hs:fX (jN a 0 n) b n):
 kG N b n st (fun j=>decide (j=q) || dn j):=by
 have hsw:∀i,i < n→jN a 0 n i=a (if i=0 then n else i):=by
  intro i hi;unfold jN;by_cases h0:i=0
  · simp [h0]
  · rw [if_neg h0,if_neg (by omega),if_neg h0]
 obtain ⟨q',hq',hsq,hdq⟩:=(h.mem (a 0)).1 ⟨0,by omega,rfl⟩;have eq:q'=q:=by omega
 subst eq;have hinj:∀i j,i < n→j < n→jN a 0 n i=jN a 0 n j→i=j:=by
  intro i j hi hj e;rw [hsw i hi,hsw j hj] at e;have:=h.inj _ _ (by split<;>omega) (by split<;>omega) e
  split at this<;>split at this<;>omega
 refine ⟨hb,hs.inj hinj,?_,h.lt,?_⟩
 · intro x;rw [←hs.mem x];constructor
   · rintro ⟨i,hi,e⟩;rw [hsw i hi] at e;obtain ⟨k,hk,h1,h2⟩:=(h.mem x).1 ⟨_,(by split<;>omega),e⟩
     refine ⟨k,hk,h1,?_⟩;have hne:k≠q':=by
      intro hkq;have:=h.inj (if i=0 then n else i) 0 (by split<;>omega) (by omega) (by rw [e,hk,hkq,hq])
      split at this<;>omega
     simp [hne,h2]
   · rintro ⟨k,hk,h1,h2⟩;simp only [Bool.or_eq_false_iff,decide_eq_false_iff_not] at h2;obtain ⟨i,hi,e⟩:=(h.mem x).2 ⟨k,hk,h1,h2.2⟩;have hi0:i≠0:=by
      intro h0;subst h0;rw [hq] at e;exact h2.1 (by omega)
     by_cases hin:i=n
     · subst hin;exact ⟨0,by omega,by rw [hsw 0 (by omega),if_pos rfl,e]⟩
     · exact ⟨i,by omega,by rw [hsw i (by omega),if_neg hi0,e]⟩
 · intro k hk;simp only [Bool.or_eq_true,decide_eq_true_eq] at hk;rcases hk with rfl|hk
   · exact hsq
   · exact h.seen k hk
theorem kG.push{N:Nat}{a b:Nat→Int}{n t:Nat}{st:Nat→Option (List Int)}{dn:Nat→Bool}{s:List Int}(h:kG N a n st dn)(ht:t < N)(hst:st t=none)(hb:Hp b (n+1))(hs:fX (fun k=>if k=n then (t:Int) else a k) b (n+1)):
 kG N b (n+1) (fun k=>if k=t then some s else st k) dn:=by
 have hdt:dn t=false:=by
  cases hd:dn t with
  | false=>rfl
  | true=>have:=h.seen t hd;rw [hst] at this;cases this
 have hnt:∀i,i < n→a i≠t:=by
  intro i hi e;obtain ⟨k,hk,h1,_⟩:=(h.mem (a i)).1 ⟨i,hi,rfl⟩;have:k=t:=by omega
  subst this;rw [hst] at h1;cases h1
 refine ⟨hb,hs.inj ?_,?_,?_,?_⟩
 · intro i j hi hj e;by_cases h1:i=n
   · by_cases h2:j=n
     · omega
     · rw [if_pos h1,if_neg h2] at e;exact absurd e.symm (hnt j (by omega))
   · by_cases h2:j=n
     · rw [if_neg h1,if_pos h2] at e;exact absurd e (hnt i (by omega))
     · rw [if_neg h1,if_neg h2] at e;exact h.inj i j (by omega) (by omega) e
 · intro x;rw [←hs.mem x];constructor
   · rintro ⟨i,hi,e⟩;by_cases h1:i=n
     · simp only [if_pos h1] at e;exact ⟨t,e.symm,by simp,hdt⟩
     · simp only [if_neg h1] at e;obtain ⟨k,hk,h2,h3⟩:=(h.mem x).1 ⟨i,by omega,e⟩;refine ⟨k,hk,?_,h3⟩;split
       · rfl
       · exact h2
   · rintro ⟨k,hk,h2,h3⟩;by_cases hkt:k=t
     · subst hkt;exact ⟨n,by omega,by simp [hk]⟩
     · simp only [if_neg hkt] at h2;obtain ⟨i,hi,e⟩:=(h.mem x).2 ⟨k,hk,h2,h3⟩;exact ⟨i,by omega,by rw [if_neg (by omega),e]⟩
 · intro k hk;by_cases hkt:k=t
   · omega
   · simp only [if_neg hkt] at hk;exact h.lt k hk
 · intro k hk;by_cases hkt:k=t
   · simp [hkt]
   · simp only [if_neg hkt];exact h.seen k hk
def cV:Nat→(Nat→Bool)→Nat
 | 0,_=>0
 | n+1,dn=>cV n dn+if dn n=true then 0 else 1
theorem lB:∀(n q:Nat) (dn:Nat→Bool),n≤q→cV n (fun j=>decide (j=q) || dn j)=cV n dn
 | 0,_,_,_=>rfl
 | n+1,q,dn,h=>by
  rw [cV,cV,lB n q dn (by omega)];have:decide (n=q)=false:=by simp;omega
  simp [this]
theorem gP:∀(n q:Nat) (dn:Nat→Bool),q < n→dn q=false→cV n (fun j=>decide (j=q) || dn j)+1=cV n dn
 | 0,_,_,h,_=>by omega
 | n+1,q,dn,h,hd=>by
  by_cases e:q=n
  · subst e;rw [cV,cV,lB q q dn (by omega)];simp [hd]
  · have:=gP n q dn (by omega) hd
    rw [cV,cV,←this];have hn:decide (n=q)=false:=by simp;omega
    simp only [hn,Bool.false_or];omega
theorem mq:∀(n:Nat) (dn:Nat→Bool),cV n dn≤n
 | 0,_=>by simp [cV]
 | n+1,dn=>by
  have:=mq n dn
  rw [cV];split<;>omega
def lf(u:aK)(f:aO)(q:Nat)(i:aw)(s:List Int)(st:Nat→Option (List Int)):Nat ⊕ (Nat→Option (List Int)):=
 match gE u f i s with
 | none=>.inl q
 | some s'=>bz s' q (eA f q i) st
theorem qK{u:aK}{f:aO}{k:Nat}{st:Nat→Option (List Int)}{dn:Nat→Bool}(h:gl f.code.length st dn=none):iO u f (k+1) st dn=none:=by
 rw [iO,h]
theorem qV{u:aK}{f:aO}{k q:Nat}{st:Nat→Option (List Int)}{dn:Nat→Bool}{i:aw}{s:List Int}(h:gl f.code.length st dn=some q)(hi:f.code[q]? =some i)(hs:st q=some s):
 iO u f (k+1) st dn=match lf u f q i s st with
  | .inl t=>some t
  | .inr st'=>iO u f k st' (fun j=>decide (j=q) || dn j):=by
 rw [iO,h];simp only [hi,hs];unfold lf;cases gE u f i s with
 | none=>rfl
 | some s'=>rfl
theorem fI{s:List Int}{q:Nat}:∀(l:List (Option Nat)) (st st':Nat→Option (List Int)),bz s q l st=.inr st'→∀k,(st k).isSome=true→st' k=st k
 | [],st,st',h,k,hk=>by rw [bz] at h;cases h;rfl
 | none :: l,st,st',h,k,hk=>by rw [bz] at h;cases h
 | some t :: l,st,st',h,k,hk=>by
  rw [bz] at h;cases ht:st t with
  | some s0=>
   rw [ht] at h;simp only at h;by_cases e:s0=s
   · rw [if_pos e] at h;exact fI l st st' h k hk
   · rw [if_neg e] at h;cases h
  | none=>
   rw [ht] at h;simp only at h;have hne:k≠t:=by intro e;subst e;rw [ht] at hk;cases hk
   have:=fI l _ st' h k (by simp only [if_neg hne];exact hk)
   rw [this];simp only [if_neg hne]
open Go.RowKit Go.Maps
def zM(v:Value):Option (DataW Value×List MemPlace):=some (.held v,[])
theorem Tryz.uMap:Tryz.prog.underlying 71=some (.map 3 22):=by kernel_rfl
theorem Tryz.zMap(w:World):(zeroValue 22).run Tryz.prog w=.ok (.slice none 0 0) w:=by kernel_rfl
theorem Tryz.kInt:Tryz.prog.underlying 3=some (.int .i64):=by kernel_rfl
theorem Tryz.keyed:Keyed Tryz.prog 3:=int_keyed Tryz.kInt
def pK(k:Nat):Lit:=.int .i64 (k:Int)
theorem qu(k:Nat)(hk:k < 1000000):keyOf Tryz.prog 3 (.int .i64 (k:Int))=some (pK k):=keyOf_int_mk Tryz.kInt (WalkArith.wf_i64 (by omega))
theorem w_{k j:Nat}(h:pK k=pK j):k=j:=by
 unfold pK at h;injection h with _ h2
 omega
def rW:Value:=.slice none 0 0
structure eX(w:World)(b n:Nat)(m:Nat→Option Value):Prop where
 is:∃D:DataW Value,w.ownsMap Tryz.prog 3 zM b n D∧∀k,k < 1000000→Maps.has D (pK k)=(m k).isSome∧D.atKey (pK k) (.held rW)=.held ((m k).getD rW)
theorem eX.made(w:World):eX (w.alloc (.map #[] 0)) w.heap.size 0 (fun _=>none):=
 ⟨_,World.ownsMap_made w _ _ _,fun k _=>⟨rfl,rfl⟩⟩
theorem eX.lt{w:World}{b n:Nat}{m:Nat→Option Value}(h:eX w b n m):b < w.heap.size:=by
 obtain ⟨D,h1,_⟩:=h.is;exact h1.lt
theorem eX.kept{w w':World}{b n:Nat}{m:Nat→Option Value}(h:eX w b n m)(g:w'.heap[b]? =w.heap[b]?):eX w' b n m:=by
 obtain ⟨D,⟨es,clock,hb,r⟩,h2⟩:=h.is;exact ⟨D,⟨es,clock,g.trans hb,r⟩,h2⟩
theorem eX.look{w:World}{b n:Nat}{m:Nat→Option Value}(h:eX w b n m)(k:Nat)(hk:k < 1000000):(Instr.lookup 71 (.map (some b)) (.int .i64 (k:Int)) true).run Tryz.prog w=.ok (.tuple #[(m k).getD rW,.bool (m k).isSome]) w:=by
 obtain ⟨D,h1,h2⟩:=h.is;obtain ⟨v,ps,hrun,hv⟩:=h1.look_ok Tryz.keyed Tryz.uMap (Tryz.zMap w) (zd:=.held rW) (zp:= []) rfl (qu k hk);rw [hrun,(h2 k hk).1];have:=congrArg Prod.fst (Option.some.inj hv)
 simp only [(h2 k hk).2,DataW.held.injEq] at this;rw [this]
theorem eX.look1{w:World}{b n:Nat}{m:Nat→Option Value}(h:eX w b n m)(k:Nat)(hk:k < 1000000):(Instr.lookup 71 (.map (some b)) (.int .i64 (k:Int)) false).run Tryz.prog w=.ok ((m k).getD rW) w:=by
 obtain ⟨D,h1,h2⟩:=h.is;obtain ⟨v,ps,hrun,hv⟩:=h1.lookup Tryz.keyed Tryz.uMap (Tryz.zMap w) (zd:=.held rW) (zp:= []) rfl (qu k hk);rw [hrun];have:=congrArg Prod.fst (Option.some.inj hv)
 simp only [(h2 k hk).2,DataW.held.injEq] at this;rw [this]
theorem eX.store{w:World}{b n:Nat}{m:Nat→Option Value}(h:eX w b n m)(k:Nat)(hk:k < 1000000)(hn:n < 1000000)(v:Value):
 ∃w',(Instr.mapUpdate 71 (.map (some b)) (.int .i64 (k:Int)) v).run Tryz.prog w=.ok () w'∧eX w' b (n+1) (fun j=>if j=k then some v else m j)∧w.grownBy w' (some b):=by
 obtain ⟨D,h1,h2⟩:=h.is;obtain ⟨w',hrun,hown,hturn⟩:=h1.store Tryz.keyed Tryz.uMap (by unfold maxLen;omega) (qu k hk) (val:=v) (d:=.held v) (ps:= []) rfl;refine ⟨w',hrun,⟨_,hown,fun j hj=>?_⟩,hturn.grown⟩;by_cases e:j=k
 · subst e;rw [has_put_same h1.isMap (by trivial),atKey_put_same h1.isMap (by trivial)];simp
 · have hne:pK j≠pK k:=fun h=>e (w_ h)
   rw [has_put_other hne,atKey_put_other hne,if_neg e];exact h2 j hj
open Go.RowKit
def bZ(l:List Int)(k:Nat):Int:=l.getD k 0
def eS(l:List Int)(i j:Nat):List Int:=(l.set i (bZ l j)).set j (bZ l i)
theorem hO(l:List Int)(i j:Nat):(eS l i j).length=l.length:=by simp [eS]
theorem ik{l:List Int}{i j:Nat}(hi:i < l.length)(hj:j < l.length):bZ (eS l i j)=jN (bZ l) i j:=by
 funext k
 unfold bZ eS jN;simp only [List.getD_eq_getElem?_getD,List.getElem?_set];by_cases h1:k=j
 · subst h1;by_cases h2:k=i
   · subst h2;simp [hi,bZ]
   · have h2':¬i=k:=fun e=>h2 e.symm
     simp [h2,h2',hj,bZ]
 · have h1':¬j=k:=fun e=>h1 e.symm
   by_cases h2:k=i
   · subst h2;simp [h1,h1',hi,bZ]
   · have h2':¬i=k:=fun e=>h2 e.symm
     simp [h1,h2,h1',h2',bZ]
theorem o9(l:List Int)(x:Int):bZ (l++ [x])=fun k=>if k=l.length then x else bZ l k:=by
 funext k
 unfold bZ;simp only [List.getD_eq_getElem?_getD];by_cases h:k < l.length
 · rw [List.getElem?_append_left h,if_neg (by omega)]
 · rw [List.getElem?_append_right (by omega)];by_cases h2:k=l.length
   · simp [h2]
   · rw [if_neg h2,List.getElem?_eq_none (by simp;omega),List.getElem?_eq_none (by omega)]
theorem wm{l:List Int}{n k:Nat}(h:k < n):bZ (l.take n) k=bZ l k:=by
 unfold bZ;simp only [List.getD_eq_getElem?_getD];rw [List.getElem?_take,if_pos h]
def eh(l:List Int):List Value:=l.map fun x=>Value.int .i64 x
theorem jH(l:List Int):(eh l).length=l.length:=by simp [eh]
theorem qb{l:List Int}{j:Nat}(h:j < l.length):(eh l)[j]? =some (.int .i64 (bZ l j)):=by
 unfold eh bZ;rw [List.getElem?_map,List.getD_eq_getElem?_getD,List.getElem?_eq_getElem h];rfl
theorem xL(l:List Int)(j:Nat)(x:Int):(eh l).set j (.int .i64 x)=eh (l.set j x):=by
 unfold eh;rw [List.map_set]
def ce(w:World)(B:Nat)(v:Value)(l:List Int):Prop:=w.ownsRow B 3 1 v l.length (eh l)
theorem ce.form{w:World}{B:Nat}{v:Value}{l:List Int}(h:ce w B v l):(∃ao cap,v=.slice ao l.length cap)∧l.length≤maxLen:=by
 obtain ⟨h1,h2⟩:=h;rcases h2 with ⟨rfl,h3⟩|⟨g,cap,cur,rfl,_,_,h4,h5,_⟩
 · exact ⟨⟨none,0,by rw [h3]⟩,by rw [h3];decide⟩
 · exact ⟨⟨_,_,rfl⟩,by omega⟩
theorem ce.at{w:World}{B:Nat}{v:Value}{l:List Int}(h:ce w B v l)(hl:0 < l.length):∃g cap,v=.slice (some ⟨g,0,none⟩) l.length cap∧B≤g∧g < w.heap.size∧(∀j,j < l.length→w.cell? ⟨g,j,none⟩=some (.int .i64 (bZ l j)))∧∀j,w.frozen? ⟨g,j,none⟩=false:=by
 have h0:=h;obtain ⟨h1,h2⟩:=h;rcases h2 with ⟨rfl,h3⟩|⟨g,cap,cur,rfl,hb,hh,h4,h5,_⟩
 · omega
 · refine ⟨g,cap,rfl,hb,(Array.getElem?_eq_some_iff.1 hh).1,fun j hj=>?_,fun j=>h0.frozenAt j⟩;rw [h0.cellAt j (by omega),qb hj]
theorem ce.set{w:World}{B g cap:Nat}{l:List Int}(h:ce w B (.slice (some ⟨g,0,none⟩) l.length cap) l)(j:Nat)(x:Int):ce (w.setCell ⟨g,j,none⟩ (.int .i64 x)) B (.slice (some ⟨g,0,none⟩) l.length cap) (l.set j x):=by
 have:=(World.ownsRow.stored h j (.int .i64 x)).1
 rw [xL] at this;unfold ce;rw [List.length_set];exact this
theorem ce.keep{w w':World}{B:Nat}{v:Value}{l:List Int}(h:ce w B v l)(g:∀b,v.ownBlock=some b→w'.heap[b]? =w.heap[b]?):ce w' B v l:=by
 obtain ⟨h1,h2⟩:=h;refine ⟨h1,?_⟩;rcases h2 with ⟨rfl,h3⟩|⟨k,cap,cur,rfl,hb,hh,r⟩
 · exact .inl ⟨rfl,h3⟩
 · exact .inr ⟨k,cap,cur,rfl,hb,(g k rfl).trans hh,r⟩
theorem ce.cut{w:World}{B g cap n:Nat}{l:List Int}(h:ce w B (.slice (some ⟨g,0,none⟩) l.length cap) l)(hn:n≤l.length):ce w B (.slice (some ⟨g,0,none⟩) n cap) (l.take n):=by
 obtain ⟨h1,h2⟩:=h;have hl:(l.take n).length=n:=by rw [List.length_take];omega
 unfold ce;rw [hl];rcases h2 with ⟨h3,_⟩|⟨k,c,cur,he,hb,hh,h4,h5,h6,h7⟩
 · simp at h3
 · simp only [Value.slice.injEq,Option.some.injEq,Addr.mk.injEq,and_true,true_and] at he;obtain ⟨rfl,rfl⟩:=he;refine ⟨by rw [jH,hl];omega,.inr ⟨g,cap,cur,rfl,hb,hh,by omega,h5,h6,?_⟩⟩;have:eh (l.take n)=(eh l).take n:=by unfold eh;rw [List.map_take]
   rw [this,←h7,List.take_take];congr 1;omega
open Go.RowKit
attribute [local go_sem ↓] Go.wp_at_zero Go.wp_at_succ
def jM(e n a:Int):List PanicEntry:= [{ v:=.iface 58 (.agg #[.int .i64 e,.int .i64 n,.int .i64 a]),recovered:=false }]
theorem bU(e n a:Int)(w:World):
 Calls Tryz.prog 32 #[.agg #[.int .i64 e,.int .i64 n,.int .i64 a],.bool true] w fun x w'=>x=.returned (.tuple #[])∧Gr w w':=by
 have hnot:∀(x:Bool) (w:World),(Op.unary .not (.bool x)).run Tryz.prog w=.ok (.bool (!x)) w:=fun _ _=>rfl
 go_enter Tryz.func32,Tryz.ntmps32
 go_wp2
 go_end0
 exact ⟨rfl,(Gr.refl _).alloc _⟩
theorem bk(e n a:Int)(w:World):
 Calls Tryz.prog 32 #[.agg #[.int .i64 e,.int .i64 n,.int .i64 a],.bool false] w fun x w'=>x=.panicked (jM e n a)∧Gr w w':=by
 have hnot:∀(x:Bool) (w:World),(Op.unary .not (.bool x)).run Tryz.prog w=.ok (.bool (!x)) w:=fun _ _=>rfl
 go_enter Tryz.func32,Tryz.ntmps32
 go_wp2
 exact ⟨rfl,rfl,(Gr.refl _).alloc _⟩
def vU(o:Option Int)(n a:Int):Ending:=match o with
 | none=>.panicked (jM 10 n a)
 | some k=>.returned (.int .i64 k)
set_option maxRecDepth 100000 in
set_option maxHeartbeats 1000000 in
theorem sB(s:List Int)(v:Value)(n a:Int)(w:World)(hR:aX w v s):
 Calls Tryz.prog 118 #[v,.agg #[.int .i64 10,.int .i64 n,.int .i64 a]] w fun x w'=>x=vU s.getLast? n a∧Gr w w':=by
 obtain ⟨ao,cap,rfl,hm,hc⟩:=hR;unfold maxLen at hm;have HC:=aH hc;clear hc;by_cases hl:0 < s.length
 · obtain ⟨b,off,rfl,hcell⟩:=HC.out (s.length - 1) (by omega);have HS:Hid (s.getLast? =some (s.getD (s.length - 1) 0)):=aH (by
    rw [List.getLast?_eq_getElem?,List.getD_eq_getElem?_getD,List.getElem?_eq_getElem (show s.length - 1 < s.length by omega)];rfl)
   have hw1:IntKind.i64.wrap ((s.length:Int) - 1)=((s.length - 1:Nat):Int):=by rw [Go.IntWalk.i64_in _ (by omega)];omega
   generalize s.getD (s.length - 1) 0=y at hcell HS;have hd:(0:Int) < (s.length:Int):=by omega
   have hb1:((s.length - 1:Nat):Int) < (s.length:Int):=by omega
   have hcell':∀w',Gr (w.alloc (.cells #[.int .i64 10,.int .i64 n,.int .i64 a] 58)) w'→w'.cell? ⟨b,off+(s.length - 1),none⟩=some (.int .i64 y):=fun w' h=>h.cell ((World.grownBy_alloc w _ none).cell hcell (by simp)) (by simp)
   clear HC hcell;go_enter Tryz.func118,Tryz.ntmps118
   go_wp2_with ((go_at_call 32;refine (bU _ _ _ _).mono ?_;rintro e w' ⟨rfl,hg'⟩);have hc1:=hcell' w' hg')
   go_ret
   exact ⟨by rw [HS.out];rfl,(by repeat (first|exact Gr.refl _|assumption|refine Gr.drew ?_|refine Gr.alloc ?_ _|refine Gr.trans ?_ (by assumption)))⟩
 · obtain rfl:s= []:=by cases s with|nil=>rfl|cons=>simp at hl
   go_enter Tryz.func118,Tryz.ntmps118
   go_wp2_with ((go_at_call 32;refine (bk _ _ _ _).mono ?_;rintro e w' ⟨rfl,hg'⟩))
   exact ⟨rfl,rfl,(by repeat (first|exact Gr.refl _|assumption|refine Gr.drew ?_|refine Gr.alloc ?_ _|refine Gr.trans ?_ (by assumption)))⟩
end Go.Proofs.YtkgncijcnlfhiaaGreat
