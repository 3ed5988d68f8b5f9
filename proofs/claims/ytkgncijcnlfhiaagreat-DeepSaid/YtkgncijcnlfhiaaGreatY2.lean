namespace Go.Proofs.YtkgncijcnlfhiaaGreat
theorem sA {α : Type} (l : List α) (i : Nat) (a : α) : l.toArray.setIfInBounds i a = (l.set i a).toArray := List.setIfInBounds_toArray ..
theorem s0 {α : Type} (x a : α) (l : List α) : (x :: l).set 0 a = a :: l := rfl
theorem s1 {α : Type} (x a : α) (n : Nat) (l : List α) : (x :: l).set (n + 1) a = x :: l.set n a := rfl
set_option linter.unusedVariables false
set_option linter.unusedSimpArgs false
structure PIns where
 op:Int
 a:Int
 b:Int
structure PFunc where
 params:List Int
 result:Int
 locals:List Int
 code:List PIns
structure PImp where
 name:List UInt8
 params:List Int
 result:Int
structure PExp where
 name:List UInt8
 func:Int
structure PUnit where
 shapes:List (List Int)
 consts:List Int
 funcs:List PFunc
 imports:List PImp
 exports:List PExp
def wB(v l m:Int):Bool:=decide (l≤v∧v≤m)
def inB(n k:Int):Bool:=wB k 0 n
def operandsN(op:Int):Int:=
 if op=16∨op=17 then 2
 else if op=0∨op=1∨op=2∨op=3∨op=11∨op=12∨op=13∨op=15∨op=18∨op=19 then 1 else 0
def operandOk(v:Int)(named:Bool):Bool:=if named then wB v 0 65535 else decide (v=0)
def insOk(i:PIns):Bool:=
 wB i.op 0 20 && ((if i.op=1 then wB i.a (-2147483648) 2147483647 else operandOk i.a (decide (1≤operandsN i.op))) && operandOk i.b (decide (2≤operandsN i.op)))
def codeOk(l:List PIns):Bool:=wB l.length 1 200 && l.all insOk
def sigOk(ps:List Int)(r n:Int):Bool:=wB ps.length 0 6 && (ps.all (inB n) && inB n r)
def funcOk(n:Int)(f:PFunc):Bool:=sigOk f.params f.result n && (wB f.locals.length 0 10 && (f.locals.all (inB n) && codeOk f.code))
def funcsOk(l:List PFunc)(n:Int):Bool:=wB l.length 0 30 && l.all (funcOk n)
def nameOk(s:List UInt8):Bool:=wB s.length 1 20
def impOk(n:Int)(i:PImp):Bool:=nameOk i.name && sigOk i.params i.result n
def importsOk(l:List PImp)(n:Int):Bool:=wB l.length 0 20 && l.all (impOk n)
def expOk(m:Int)(e:PExp):Bool:=nameOk e.name && wB e.func 0 (m - 1)
def exportsOk(l:List PExp)(m:Int):Bool:=wB l.length 0 20 && l.all (expOk m)
def shapeOk(n:Int)(f:List Int):Bool:=wB f.length 1 8 && f.all (inB n)
def shapesOk(l:List (List Int)):Bool:=wB l.length 0 20 && l.all (shapeOk l.length)
def constsOk(l:List Int):Bool:=wB l.length 0 50
def unitOk(u:PUnit):Bool:=
 shapesOk u.shapes && (constsOk u.consts && (funcsOk u.funcs u.shapes.length && (importsOk u.imports u.shapes.length && exportsOk u.exports u.funcs.length)))
theorem all_take_succ{α:Type}{p:α→Bool}{l:List α}{k:Nat}{x:α}(h:l[k]? =some x):
 (l.take (k+1)).all p=((l.take k).all p && p x):=by
 obtain ⟨hk,rfl⟩:=List.getElem?_eq_some_iff.1 h;rw [List.take_succ_eq_append_getElem hk,List.all_append];simp
theorem all_false_at{α:Type}{p:α→Bool}{l:List α}{k:Nat}{x:α}(h:l[k]? =some x)(hp:p x=false):l.all p=false:=by
 obtain ⟨hk,rfl⟩:=List.getElem?_eq_some_iff.1 h;rw [Bool.eq_false_iff];intro hc;rw [List.all_eq_true] at hc;have:=hc l[k] (List.getElem_mem hk)
 rw [hp] at this;cases this
theorem all_end{α:Type}{p:α→Bool}{l:List α}{k:Nat}(h:(l.take k).all p=true)(hk:¬k < l.length):l.all p=true:=by
 rwa [List.take_of_length_le (by omega)] at h
def swp(a:Nat→Int)(i j:Nat):Nat→Int:=fun k=>if k=i then a j else if k=j then a i else a k
def Hp(a:Nat→Int)(n:Nat):Prop:=∀i,0 < i→i < n→a ((i - 1) / 2)≤a i
structure HpUp(a:Nat→Int)(n j:Nat):Prop where
 rest:∀i,0 < i→i < n→i≠j→a ((i - 1) / 2)≤a i
 over:∀i,0 < i→i < n→(i - 1) / 2=j→0 < j→a ((j - 1) / 2)≤a i
structure HpDn(a:Nat→Int)(n i:Nat):Prop where
 rest:∀c,0 < c→c < n→(c - 1) / 2≠i→a ((c - 1) / 2)≤a c
 over:∀c,0 < c→c < n→(c - 1) / 2=i→0 < i→a ((i - 1) / 2)≤a c
theorem Hp.root{a:Nat→Int}{n:Nat}(h:Hp a n):∀i,i < n→a 0≤a i:=by
 intro i
 induction i using Nat.strongRecOn with
 | _ i ih=>
  intro hi;by_cases h0:i=0
  · subst h0;exact Int.le_refl _
  · exact Int.le_trans (ih ((i - 1) / 2) (by omega) (by omega)) (h i (by omega) hi)
structure Same(a b:Nat→Int)(n:Nat):Prop where
 mem:∀x,(∃i,i < n∧a i=x)↔∃i,i < n∧b i=x
 inj:(∀i j,i < n→j < n→a i=a j→i=j)→∀i j,i < n→j < n→b i=b j→i=j
theorem Same.refl(a:Nat→Int)(n:Nat):Same a a n:=⟨fun _=>Iff.rfl,fun h=>h⟩
theorem Same.trans{a b c:Nat→Int}{n:Nat}(h:Same a b n)(k:Same b c n):Same a c n:=⟨fun x=>(h.mem x).trans (k.mem x),fun hi=>k.inj (h.inj hi)⟩
def sg(i j k:Nat):Nat:=if k=i then j else if k=j then i else k
theorem swp_sg(a:Nat→Int)(i j k:Nat):swp a i j k=a (sg i j k):=by unfold swp sg;split<;>(try split)<;>rfl
theorem swp_same{a:Nat→Int}{n i j:Nat}(hi:i < n)(hj:j < n):Same a (swp a i j) n:=by
 refine ⟨fun x=>⟨?_,?_⟩,fun hin p q hp hq h=>?_⟩
 · rintro ⟨k,hk,rfl⟩;by_cases h1:k=i
   · refine ⟨j,hj,?_⟩;unfold swp;split
     · rename_i e;rw [h1,e]
     · simp [h1]
   · by_cases h2:k=j
     · exact ⟨i,hi,by unfold swp;simp [h2]⟩
     · exact ⟨k,hk,by unfold swp;simp [h1,h2]⟩
 · rintro ⟨k,hk,rfl⟩;unfold swp;split
   · exact ⟨j,hj,rfl⟩
   · split
     · exact ⟨i,hi,rfl⟩
     · exact ⟨k,hk,rfl⟩
 · rw [swp_sg,swp_sg] at h;have:=hin (sg i j p) (sg i j q) (by unfold sg;split<;>(try split)<;>omega) (by unfold sg;split<;>(try split)<;>omega) h
   unfold sg at this;split at this<;>split at this<;>(try split at this)<;>(try split at this)<;>omega
theorem HpUp.stop{a:Nat→Int}{n j:Nat}(h:HpUp a n j)(hs:j=0∨a ((j - 1) / 2)≤a j):Hp a n:=by
 intro i h0 hi;by_cases hij:i=j
 · subst hij;rcases hs with e|e
   · omega
   · exact e
 · exact h.rest i h0 hi hij
theorem HpUp.step{a:Nat→Int}{n j:Nat}(h:HpUp a n j)(hj:j < n)(h0:0 < j)(hl:a j < a ((j - 1) / 2)):HpUp (swp a ((j - 1) / 2) j) n ((j - 1) / 2):=by
 generalize hp:(j - 1) / 2=p at h hl ⊢;have hpj:p < j:=by omega
 refine ⟨fun i i0 i1 i2=>?_,fun i i0 i1 i2 i3=>?_⟩
 · unfold swp;by_cases e1:(i - 1) / 2=p
   · rw [if_pos e1,if_neg i2];by_cases e2:i=j
     · rw [if_pos e2];omega
     · rw [if_neg e2];have:=h.rest i i0 i1 e2
       rw [e1] at this;omega
   · rw [if_neg e1,if_neg i2];by_cases e2:(i - 1) / 2=j
     · rw [if_pos e2,if_neg (by omega)];have:=h.over i i0 i1 e2 h0
       rw [hp] at this;exact this
     · rw [if_neg e2];by_cases e3:i=j
       · subst e3;omega
       · rw [if_neg e3];exact h.rest i i0 i1 e3
 · unfold swp;have hpp:(p - 1) / 2≠p:=by omega
   have hppj:(p - 1) / 2≠j:=by omega
   rw [if_neg hpp,if_neg hppj];have h1:=h.rest p i3 (by omega) (by omega);rw [if_neg (show ¬i=p by omega)];by_cases e2:i=j
   · rw [if_pos e2];exact h1
   · rw [if_neg e2];have:=h.rest i i0 i1 e2
     rw [i2] at this;omega
theorem HpDn.stop{a:Nat→Int}{n i:Nat}(h:HpDn a n i)(hs:∀c,0 < c→c < n→(c - 1) / 2=i→a i≤a c):Hp a n:=by
 intro c h0 hc;by_cases e:(c - 1) / 2=i
 · rw [e];exact hs c h0 hc e
 · exact h.rest c h0 hc e
theorem HpDn.step{a:Nat→Int}{n i c:Nat}(h:HpDn a n i)(hc0:0 < c)(hc:c < n)(hci:(c - 1) / 2=i)(hl:a c < a i)(hm:∀d,0 < d→d < n→(d - 1) / 2=i→a c≤a d):HpDn (swp a i c) n c:=by
 have hic:i < c:=by omega
 refine ⟨fun d d0 d1 d2=>?_,fun d d0 d1 d2 d3=>?_⟩
 · unfold swp;by_cases e1:(d - 1) / 2=i
   · rw [if_pos e1,if_neg (show ¬d=i by omega)];by_cases e2:d=c
     · rw [if_pos e2];omega
     · rw [if_neg e2];exact hm d d0 d1 e1
   · rw [if_neg e1,if_neg d2];by_cases e2:d=i
     · rw [if_pos e2];subst e2;have:=h.over c hc0 hc hci d0
       exact this
     · rw [if_neg e2];by_cases e3:d=c
       · subst e3;exact absurd hci e1
       · rw [if_neg e3];exact h.rest d d0 d1 e1
 · unfold swp;rw [if_pos hci,if_neg (show ¬d=i by omega),if_neg (show ¬d=c by omega)];have:=h.rest d d0 d1 (by omega)
   rw [d2] at this;exact this
theorem Hp.push{a:Nat→Int}{n:Nat}(h:Hp a n)(x:Int):HpUp (fun k=>if k=n then x else a k) (n+1) n:=by
 refine ⟨fun i i0 i1 i2=>?_,fun i i0 i1 i2 i3=>by omega⟩;rw [if_neg (show ¬(i - 1) / 2=n by omega),if_neg i2];exact h i i0 (by omega)
theorem Hp.pop{a:Nat→Int}{n:Nat}(h:Hp a (n+1)):HpDn (swp a 0 n) n 0:=by
 refine ⟨fun c c0 c1 c2=>?_,fun c c0 c1 c2 c3=>by omega⟩;unfold swp;rw [if_neg c2,if_neg (show ¬(c - 1) / 2=n by omega),if_neg (show ¬c=0 by omega),if_neg (show ¬c=n by omega)];exact h c c0 (by omega)
def effP(u:PUnit)(f:PFunc)(i:PIns):Option (List Int×List Int):=
 let slots:=f.params++f.locals
 let shape:Option (List Int):=if 1≤i.a then u.shapes[(i.a - 1).toNat]? else none
 if i.op=0 then (if i.a < u.consts.length then some ([],[0]) else none)
 else if i.op=1 then some ([],[0])
 else if i.op=2 then slots[i.a.toNat]?.map fun k=>([],[k])
 else if i.op=3 then slots[i.a.toNat]?.map fun k=>([k],[])
 else if i.op=4 then some ([-1],[])
 else if i.op=5 then some ([-1],[-1,-1])
 else if i.op=6∨i.op=7∨i.op=8∨i.op=9∨i.op=10 then some ([0,0],[0])
 else if i.op=11 then (if i.a < f.code.length then some ([],[]) else none)
 else if i.op=12 then (if i.a < f.code.length then some ([0],[]) else none)
 else if i.op=13 then
  (match u.funcs[i.a.toNat]? with
  | some g=>some (g.params,[g.result])
  | none=>u.imports[i.a.toNat - u.funcs.length]?.map fun g=>(g.params,[g.result]))
 else if i.op=14 then some ([f.result],[])
 else if i.op=15 then shape.map fun s=>(s,[i.a])
 else if i.op=16 then shape.bind fun s=>s[i.b.toNat]?.map fun k=>([i.a],[k])
 else if i.op=17 then shape.bind fun s=>s[i.b.toNat]?.map fun k=>([i.a,k],[])
 else if i.op=18 then shape.map fun _=>([],[i.a])
 else if i.op=19 then shape.map fun _=>([i.a],[0])
 else if i.op=20 then some ([0],[])
 else none
def fitsP:List Int→List Int→Bool
 | [],[]=>true
 | t :: ts,s :: ss=>(decide (t < 0) || decide (t=s)) && fitsP ts ss
 | _,_=>false
def anyP:List Int→List Int→Int
 | t :: ts,s :: ss=>if t < 0 then s else anyP ts ss
 | _,_=>0
def doneP(u:PUnit)(f:PFunc)(i:PIns)(stack:List Int):Option (List Int):=
 match effP u f i with
 | none=>none
 | some (ts,ps)=>
  if stack.length < ts.length then none
  else if fitsP ts (stack.drop (stack.length - ts.length))=false then none
  else
   let out:=stack.take (stack.length - ts.length)++ps.map fun p=>if p < 0 then anyP ts (stack.drop (stack.length - ts.length)) else p
   if out.length≤20∧(i.op≠14∨stack.length=ts.length) then some out else none
def nextP(f:PFunc)(q:Nat)(i:PIns):List (Option Nat):=
 let behind:=if q+1 < f.code.length then some (q+1) else none
 if i.op=11 then [some i.a.toNat] else if i.op=14 then [] else if i.op=12 then [behind,some i.a.toNat] else [behind]
def comesP(s:List Int)(q:Nat):List (Option Nat)→(Nat→Option (List Int))→Nat ⊕ (Nat→Option (List Int))
 | [],st=>.inr st
 | none :: _,_=>.inl q
 | some t :: l,st=>
  match st t with
  | some s0=>if s0=s then comesP s q l st else .inl t
  | none=>comesP s q l (fun k=>if k=t then some s else st k)
def leastP(n:Nat)(st:Nat→Option (List Int))(dn:Nat→Bool):Option Nat:=(List.range n).find? fun k=>(st k).isSome && !dn k
def lookP(u:PUnit)(f:PFunc):Nat→(Nat→Option (List Int))→(Nat→Bool)→Option Nat
 | 0,_,_=>none
 | k+1,st,dn=>
  match leastP f.code.length st dn with
  | none=>none
  | some q=>
   match f.code[q]?,st q with
   | some i,some s=>
    match doneP u f i s with
    | none=>some q
    | some s'=>
     match comesP s' q (nextP f q i) st with
     | .inl t=>some t
     | .inr st'=>lookP u f k st' (fun j=>decide (j=q) || dn j)
   | _,_=>none
def wrongP(u:PUnit)(f:PFunc):Option Nat:=lookP u f (f.code.length+1) (fun k=>if k=0 then some [] else none) (fun _=>false)
def funcsP(u:PUnit):Nat→List PFunc→Int×Nat×Nat
 | _,[]=>(0,0,0)
 | k,f :: l=>match wrongP u f with
  | some q=>(10,k,q)
  | none=>funcsP u (k+1) l
def verifyP(u:PUnit):Int×Nat×Nat:=if unitOk u then funcsP u 0 u.funcs else (1,0,0)
theorem leastP_some{n:Nat}{st:Nat→Option (List Int)}{dn:Nat→Bool}{q:Nat}:leastP n st dn=some q↔q < n∧((st q).isSome && !dn q)=true∧∀k,k < q→((st k).isSome && !dn k)=false:=by
 unfold leastP;rw [List.find?_range_eq_some];constructor
 · rintro ⟨h1,h2,h3⟩;exact ⟨by simpa using h2,h1,fun k hk=>by
    have h4:(!((st k).isSome && !dn k))=true:=h3 k hk;rwa [Bool.not_eq_true'] at h4⟩
 · rintro ⟨h1,h2,h3⟩;exact ⟨h2,by simpa using h1,fun k hk=>by
    show (!((st k).isSome && !dn k))=true
    rw [Bool.not_eq_true'];exact h3 k hk⟩
theorem leastP_none{n:Nat}{st:Nat→Option (List Int)}{dn:Nat→Bool}:leastP n st dn=none↔∀k,k < n→((st k).isSome && !dn k)=false:=by
 unfold leastP;rw [List.find?_eq_none];constructor
 · intro h k hk;have:=h k (List.mem_range.2 hk)
   simpa using this
 · intro h k hk;have:=h k (List.mem_range.1 hk)
   simpa using this
end Go.Proofs.YtkgncijcnlfhiaaGreat
