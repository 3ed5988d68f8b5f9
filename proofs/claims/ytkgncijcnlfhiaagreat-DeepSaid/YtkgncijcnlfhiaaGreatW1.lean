import Derived.Test.YtkgncijcnlfhiaaGreatY2
import Derived.Test.YtkgncijcnlfhiaaGreatChecked
import Derived.WalkKit
import Derived.WalkSmall
import Derived.Deep.LoopGhost
import Derived.Deep.QuietTactic
import Derived.BigQuiet
import Derived.Deep.RegionHeld3
import Derived.Deep.RegionWith
import Derived.Deep.DrawnRows
namespace Go.Proofs.YtkgncijcnlfhiaaGreat
set_option linter.unusedVariables false
set_option linter.unusedSimpArgs false
def effQ(u:PUnit)(f:PFunc)(i:PIns)(stack:List Int):Option (List Int×List Int):=
 if i.op=4 then stack.getLast?.map fun k=>([k],[])
 else if i.op=5 then stack.getLast?.map fun k=>([k],[k,k])
 else effP u f i
def doneQ(u:PUnit)(f:PFunc)(i:PIns)(stack:List Int):Option (List Int):=
 match effQ u f i stack with
 | none=>none
 | some (ts,ps)=>
  if stack.length < ts.length∨stack.drop (stack.length - ts.length)≠ts then none
  else if i.op=14 then (if stack.length=ts.length then some (stack.take (stack.length - ts.length)++ps) else none)
  else if (stack.take (stack.length - ts.length)++ps).length≤20 then some (stack.take (stack.length - ts.length)++ps) else none
theorem fitsP_eq:∀(ts s:List Int),(∀t∈ts,0≤t)→fitsP ts s=decide (s=ts)
 | [],[],_=>by simp [fitsP]
 | [],_ :: _,_=>by simp [fitsP]
 | _ :: _,[],_=>by simp [fitsP]
 | t :: ts,s :: ss,h=>by
  have ht:¬t < 0:=by have:=h t (by simp);omega
  rw [fitsP,fitsP_eq ts ss (fun x hx=>h x (by simp [hx]))];rw [Bool.eq_iff_iff];simp only [Bool.and_eq_true,Bool.or_eq_true,decide_eq_true_eq,ht,false_or,List.cons.injEq];exact ⟨fun h=>⟨h.1.symm,h.2⟩,fun h=>⟨h.1.symm,h.2⟩⟩
theorem puts_eq(a:Int):∀(ps:List Int),(∀p∈ps,0≤p)→(ps.map fun p=>if p < 0 then a else p)=ps
 | [],_=>rfl
 | p :: ps,h=>by
  have hp:¬p < 0:=by have:=h p (by simp);omega
  rw [List.map_cons,if_neg hp,puts_eq a ps (fun x hx=>h x (by simp [hx]))]
theorem last_split{s:List Int}{k:Int}(h:s.getLast? =some k):∃t,s=t++ [k]:=List.getLast?_eq_some_iff.1 h
theorem effP_ret{u:PUnit}{f:PFunc}{i:PIns}{ts ps:List Int}(h:i.op=14)(he:effP u f i=some (ts,ps)):ts= [f.result]∧ps= []:=by
 unfold effP at he;simp [h] at he
 exact ⟨he.1.symm,he.2⟩
theorem doneQ_eq{u:PUnit}{f:PFunc}{i:PIns}(s:List Int)(hn:∀ts ps,effP u f i=some (ts,ps)→i.op≠4→i.op≠5→(∀t∈ts,0≤t)∧(∀p∈ps,0≤p)):doneQ u f i s=doneP u f i s:=by
 by_cases h4:i.op=4
 · have hP:effP u f i=some ([-1],[]):=by unfold effP;simp [h4]
   unfold doneQ doneP effQ;rw [hP,if_pos h4];cases hl:s.getLast? with
   | none=>rw [List.getLast?_eq_none_iff] at hl;subst hl;simp
   | some k=>
    obtain ⟨t,rfl⟩:=last_split hl;simp [fitsP,h4]
 · by_cases h5:i.op=5
   · have hP:effP u f i=some ([-1],[-1,-1]):=by unfold effP;simp [h5]
     unfold doneQ doneP effQ;rw [hP,if_neg h4,if_pos h5];cases hl:s.getLast? with
     | none=>rw [List.getLast?_eq_none_iff] at hl;subst hl;simp
     | some k=>
      obtain ⟨t,rfl⟩:=last_split hl;simp [fitsP,anyP,h5]
   · unfold doneQ doneP effQ;rw [if_neg h4,if_neg h5];cases hP:effP u f i with
     | none=>rfl
     | some p=>
      obtain ⟨ts,ps⟩:=p;obtain ⟨h1,h2⟩:=hn ts ps hP h4 h5;simp only;rw [fitsP_eq ts _ h1,puts_eq _ ps h2];by_cases hl:s.length < ts.length
      · rw [if_pos hl,if_pos (Or.inl hl)]
      · rw [if_neg hl];by_cases hd:s.drop (s.length - ts.length)=ts
        · have c1:¬(s.length < ts.length∨s.drop (s.length - ts.length)≠ts):=fun h=>h.elim hl (fun h=>h hd)
          have c2:¬(decide (s.drop (s.length - ts.length)=ts)=false):=by simp [hd]
          rw [if_neg c1,if_neg c2];by_cases h14:i.op=14
          · obtain ⟨e1,e2⟩:=effP_ret h14 hP;rw [if_pos h14];by_cases hs:s.length=ts.length
            · rw [if_pos hs,if_pos ⟨by rw [hs,e2];simp,Or.inr hs⟩]
            · have c3:¬((s.take (s.length - ts.length)++ps).length≤20∧(i.op≠14∨s.length=ts.length)):=fun h=>h.2.elim (fun h=>h h14) hs
              rw [if_neg hs,if_neg c3]
          · rw [if_neg h14];simp [h14]
        · have c4:decide (s.drop (s.length - ts.length)=ts)=false:=by simp [hd]
          rw [if_pos (Or.inr hd),if_pos c4]
theorem inB_nn{n k:Int}(h:inB n k=true):0≤k:=by unfold inB wB at h;simp at h;exact h.1
theorem allB_nn{n:Int}{l:List Int}(h:l.all (inB n)=true):∀k∈l,0≤k:=fun k hk=>inB_nn (List.all_eq_true.1 h k hk)
theorem sig_nn{ps:List Int}{r n:Int}(h:sigOk ps r n=true):(∀k∈ps,0≤k)∧0≤r:=by
 unfold sigOk at h;simp only [Bool.and_eq_true] at h;exact ⟨allB_nn h.2.1,inB_nn h.2.2⟩
theorem func_nn{f:PFunc}{n:Int}(h:funcOk n f=true):(∀k∈f.params,0≤k)∧0≤f.result∧(∀k∈f.locals,0≤k)∧f.code.all insOk=true∧1≤f.code.length:=by
 unfold funcOk codeOk at h;simp only [Bool.and_eq_true] at h;have h1:=sig_nn h.1;have h2:=h.2.2.2.1;unfold wB at h2;simp at h2;exact ⟨h1.1,h1.2,allB_nn h.2.2.1,h.2.2.2.2,by omega⟩
theorem get_mem{α:Type}{l:List α}{k:Nat}{x:α}(h:l[k]? =some x):x∈l:=List.mem_of_getElem? h
theorem eff_nn{u:PUnit}{f:PFunc}{i:PIns}(hu:unitOk u=true)(hf:f∈u.funcs):∀ts ps,effP u f i=some (ts,ps)→i.op≠4→i.op≠5→(∀t∈ts,0≤t)∧(∀p∈ps,0≤p):=by
 intro ts ps he n4 n5;unfold unitOk shapesOk funcsOk importsOk at hu;simp only [Bool.and_eq_true] at hu;obtain ⟨⟨-,hsh⟩,-,⟨-,hfs⟩,⟨-,him⟩,-⟩:=hu;have hF:∀g∈u.funcs,(∀k∈g.params,0≤k)∧0≤g.result∧(∀k∈g.locals,0≤k)∧g.code.all insOk=true∧1≤g.code.length:=fun g hg=>func_nn (List.all_eq_true.1 hfs g hg)
 have hI:∀g∈u.imports,(∀k∈g.params,0≤k)∧0≤g.result:=by
  intro g hg;have:=List.all_eq_true.1 him g hg
  unfold impOk at this;simp only [Bool.and_eq_true] at this;exact sig_nn this.2
 have hS:∀(k:Nat) s,u.shapes[k]? =some s→∀x∈s,0≤x:=by
  intro k s h;have:=List.all_eq_true.1 hsh s (get_mem h)
  unfold shapeOk at this;simp only [Bool.and_eq_true] at this;exact allB_nn this.2
 have hsl:∀(k:Nat) x,(f.params++f.locals)[k]? =some x→0≤x:=by
  intro k x h;rcases List.mem_append.1 (get_mem h) with h|h
  · exact (hF f hf).1 x h
  · exact (hF f hf).2.2.1 x h
 have hshape:∀s,(if 1≤i.a then u.shapes[(i.a - 1).toNat]? else none)=some s→0≤i.a∧∀x∈s,0≤x:=by
  intro s h;by_cases ha:1≤i.a
  · rw [if_pos ha] at h;exact ⟨by omega,hS _ s h⟩
  · rw [if_neg ha] at h;cases h
 unfold effP at he;generalize hsE:(if 1≤i.a then u.shapes[(i.a - 1).toNat]? else none)=S at he hshape;by_cases c0:i.op=0
 · rw [if_pos c0] at he;split at he
   · cases he;simp
   · cases he
 rw [if_neg c0] at he;by_cases c1:i.op=1
 · rw [if_pos c1] at he;cases he;simp
 rw [if_neg c1] at he;by_cases c2:i.op=2
 · rw [if_pos c2] at he;rw [Option.map_eq_some_iff] at he;obtain ⟨k,hk,e⟩:=he;cases e;simpa using hsl _ _ hk
 rw [if_neg c2] at he;by_cases c3:i.op=3
 · rw [if_pos c3] at he;rw [Option.map_eq_some_iff] at he;obtain ⟨k,hk,e⟩:=he;cases e;simpa using hsl _ _ hk
 rw [if_neg c3] at he;by_cases c4:i.op=4
 · rw [if_pos c4] at he;exact absurd c4 n4
 rw [if_neg c4] at he;by_cases c5:i.op=5
 · rw [if_pos c5] at he;exact absurd c5 n5
 rw [if_neg c5] at he;by_cases c6:i.op=6∨i.op=7∨i.op=8∨i.op=9∨i.op=10
 · rw [if_pos c6] at he;cases he;simp
 rw [if_neg c6] at he;by_cases c7:i.op=11
 · rw [if_pos c7] at he;split at he
   · cases he;simp
   · cases he
 rw [if_neg c7] at he;by_cases c8:i.op=12
 · rw [if_pos c8] at he;split at he
   · cases he;simp
   · cases he
 rw [if_neg c8] at he;by_cases c9:i.op=13
 · rw [if_pos c9] at he;split at he
   · rename_i g hg
     cases he
     have:=hF g (get_mem hg)
     exact ⟨this.1,by simpa using this.2.1⟩
   · rw [Option.map_eq_some_iff] at he;obtain ⟨g,hg,e⟩:=he;cases e;have:=hI g (get_mem hg)
     exact ⟨this.1,by simpa using this.2⟩
 rw [if_neg c9] at he;by_cases c10:i.op=14
 · rw [if_pos c10] at he;cases he;simpa using (hF f hf).2.1
 rw [if_neg c10] at he;by_cases c11:i.op=15
 · rw [if_pos c11] at he;rw [Option.map_eq_some_iff] at he;obtain ⟨s,hs,e⟩:=he;cases e;obtain ⟨ha,hx⟩:=hshape _ hs;exact ⟨hx,by simpa using ha⟩
 rw [if_neg c11] at he;by_cases c12:i.op=16
 · rw [if_pos c12] at he;rw [Option.bind_eq_some_iff] at he;obtain ⟨s,hs,he⟩:=he;rw [Option.map_eq_some_iff] at he;obtain ⟨k,hk,e⟩:=he;cases e;obtain ⟨ha,hx⟩:=hshape _ hs;exact ⟨by simpa using ha,by simpa using hx k (get_mem hk)⟩
 rw [if_neg c12] at he;by_cases c13:i.op=17
 · rw [if_pos c13] at he;rw [Option.bind_eq_some_iff] at he;obtain ⟨s,hs,he⟩:=he;rw [Option.map_eq_some_iff] at he;obtain ⟨k,hk,e⟩:=he;cases e;obtain ⟨ha,hx⟩:=hshape _ hs;have:=hx k (get_mem hk)
   refine ⟨?_,by simp⟩;intro t ht;simp at ht;rcases ht with rfl|rfl<;>assumption
 rw [if_neg c13] at he;by_cases c14:i.op=18
 · rw [if_pos c14] at he;rw [Option.map_eq_some_iff] at he;obtain ⟨s,hs,e⟩:=he;cases e;obtain ⟨ha,hx⟩:=hshape _ hs;exact ⟨by simp,by simpa using ha⟩
 rw [if_neg c14] at he;by_cases c15:i.op=19
 · rw [if_pos c15] at he;rw [Option.map_eq_some_iff] at he;obtain ⟨s,hs,e⟩:=he;cases e;obtain ⟨ha,hx⟩:=hshape _ hs;exact ⟨by simpa using ha,by simp⟩
 rw [if_neg c15] at he;by_cases c16:i.op=20
 · rw [if_pos c16] at he;cases he;simp
 rw [if_neg c16] at he;cases he
structure Wait(N:Nat)(a:Nat→Int)(n:Nat)(st:Nat→Option (List Int))(dn:Nat→Bool):Prop where
 hp:Hp a n
 inj:∀i j,i < n→j < n→a i=a j→i=j
 mem:∀x,(∃i,i < n∧a i=x)↔∃k:Nat,x=(k:Int)∧(st k).isSome=true∧dn k=false
 lt:∀k,(st k).isSome=true→k < N
 seen:∀k,dn k=true→(st k).isSome=true
theorem Wait.empty(N:Nat)(a:Nat→Int):Wait N a 0 (fun _=>none) (fun _=>false):=
 ⟨fun i _ h=>by omega,fun i _ h=>by omega,fun x=>⟨fun ⟨i,h,_⟩=>by omega,fun ⟨k,_,h,_⟩=>by simp at h⟩,fun k h=>by simp at h,fun k h=>by simp at h⟩
theorem Wait.nothing{N:Nat}{a:Nat→Int}{st:Nat→Option (List Int)}{dn:Nat→Bool}(h:Wait N a 0 st dn):leastP N st dn=none:=by
 rw [leastP_none];intro k _;cases hs:(st k).isSome with
 | false=>rfl
 | true=>
  cases hd:dn k with
  | true=>rfl
  | false=>
   obtain ⟨i,hi,_⟩:=(h.mem k).2 ⟨k,rfl,hs,hd⟩;omega
theorem Wait.top{N:Nat}{a:Nat→Int}{n:Nat}{st:Nat→Option (List Int)}{dn:Nat→Bool}(h:Wait N a n st dn)(hn:0 < n):∃q:Nat,a 0=q∧q < N∧(st q).isSome=true∧dn q=false∧leastP N st dn=some q:=by
 obtain ⟨q,hq,hs,hd⟩:=(h.mem (a 0)).1 ⟨0,hn,rfl⟩;refine ⟨q,hq,h.lt q hs,hs,hd,?_⟩;rw [leastP_some];refine ⟨h.lt q hs,by simp [hs,hd],?_⟩;intro k hk;cases hs':(st k).isSome with
 | false=>rfl
 | true=>
  cases hd':dn k with
  | true=>rfl
  | false=>
   obtain ⟨i,hi,e⟩:=(h.mem k).2 ⟨k,rfl,hs',hd'⟩;have:=h.hp.root i hi
   omega
theorem Wait.pop{N:Nat}{a b:Nat→Int}{n q:Nat}{st:Nat→Option (List Int)}{dn:Nat→Bool}(h:Wait N a (n+1) st dn)(hq:a 0=q)(hb:Hp b n)(hs:Same (swp a 0 n) b n):
 Wait N b n st (fun j=>decide (j=q) || dn j):=by
 have hsw:∀i,i < n→swp a 0 n i=a (if i=0 then n else i):=by
  intro i hi;unfold swp;by_cases h0:i=0
  · simp [h0]
  · rw [if_neg h0,if_neg (by omega),if_neg h0]
 obtain ⟨q',hq',hsq,hdq⟩:=(h.mem (a 0)).1 ⟨0,by omega,rfl⟩;have eq:q'=q:=by omega
 subst eq;have hinj:∀i j,i < n→j < n→swp a 0 n i=swp a 0 n j→i=j:=by
  intro i j hi hj e;rw [hsw i hi,hsw j hj] at e;have:=h.inj _ _ (by split<;>omega) (by split<;>omega) e
  split at this<;>split at this<;>omega
 refine ⟨hb,hs.inj hinj,?_,h.lt,?_⟩
 · intro x;rw [←hs.mem x];constructor
   · rintro ⟨i,hi,e⟩;rw [hsw i hi] at e;obtain ⟨k,hk,h1,h2⟩:=(h.mem x).1 ⟨_,(by split<;>omega),e⟩
     refine ⟨k,hk,h1,?_⟩;have hne:k≠q':=by
      intro hkq;have:=h.inj (if i=0 then n else i) 0 (by split<;>omega) (by omega) (by rw [e,hk,hkq,hq])
      split at this<;>omega
     simp [hne,h2]
   · rintro ⟨k,hk,h1,h2⟩;simp only [Bool.or_eq_false_iff,decide_eq_false_iff_not] at h2;obtain ⟨i,hi,e⟩:=(h.mem x).2 ⟨k,hk,h1,h2.2⟩;have hi0:i≠0:=by
      intro h0;subst h0;rw [hq] at e;exact h2.1 (by omega)
     by_cases hin:i=n
     · subst hin;exact ⟨0,by omega,by rw [hsw 0 (by omega),if_pos rfl,e]⟩
     · exact ⟨i,by omega,by rw [hsw i (by omega),if_neg hi0,e]⟩
 · intro k hk;simp only [Bool.or_eq_true,decide_eq_true_eq] at hk;rcases hk with rfl|hk
   · exact hsq
   · exact h.seen k hk
theorem Wait.push{N:Nat}{a b:Nat→Int}{n t:Nat}{st:Nat→Option (List Int)}{dn:Nat→Bool}{s:List Int}(h:Wait N a n st dn)(ht:t < N)(hst:st t=none)(hb:Hp b (n+1))(hs:Same (fun k=>if k=n then (t:Int) else a k) b (n+1)):
 Wait N b (n+1) (fun k=>if k=t then some s else st k) dn:=by
 have hdt:dn t=false:=by
  cases hd:dn t with
  | false=>rfl
  | true=>have:=h.seen t hd;rw [hst] at this;cases this
 have hnt:∀i,i < n→a i≠t:=by
  intro i hi e;obtain ⟨k,hk,h1,_⟩:=(h.mem (a i)).1 ⟨i,hi,rfl⟩;have:k=t:=by omega
  subst this;rw [hst] at h1;cases h1
 refine ⟨hb,hs.inj ?_,?_,?_,?_⟩
 · intro i j hi hj e;by_cases h1:i=n
   · by_cases h2:j=n
     · omega
     · rw [if_pos h1,if_neg h2] at e;exact absurd e.symm (hnt j (by omega))
   · by_cases h2:j=n
     · rw [if_neg h1,if_pos h2] at e;exact absurd e (hnt i (by omega))
     · rw [if_neg h1,if_neg h2] at e;exact h.inj i j (by omega) (by omega) e
 · intro x;rw [←hs.mem x];constructor
   · rintro ⟨i,hi,e⟩;by_cases h1:i=n
     · simp only [if_pos h1] at e;exact ⟨t,e.symm,by simp,hdt⟩
     · simp only [if_neg h1] at e;obtain ⟨k,hk,h2,h3⟩:=(h.mem x).1 ⟨i,by omega,e⟩;refine ⟨k,hk,?_,h3⟩;split
       · rfl
       · exact h2
   · rintro ⟨k,hk,h2,h3⟩;by_cases hkt:k=t
     · subst hkt;exact ⟨n,by omega,by simp [hk]⟩
     · simp only [if_neg hkt] at h2;obtain ⟨i,hi,e⟩:=(h.mem x).2 ⟨k,hk,h2,h3⟩;exact ⟨i,by omega,by rw [if_neg (by omega),e]⟩
 · intro k hk;by_cases hkt:k=t
   · omega
   · simp only [if_neg hkt] at hk;exact h.lt k hk
 · intro k hk;by_cases hkt:k=t
   · simp [hkt]
   · simp only [if_neg hkt];exact h.seen k hk
def undone:Nat→(Nat→Bool)→Nat
 | 0,_=>0
 | n+1,dn=>undone n dn+if dn n=true then 0 else 1
theorem undone_same:∀(n q:Nat) (dn:Nat→Bool),n≤q→undone n (fun j=>decide (j=q) || dn j)=undone n dn
 | 0,_,_,_=>rfl
 | n+1,q,dn,h=>by
  rw [undone,undone,undone_same n q dn (by omega)];have:decide (n=q)=false:=by simp;omega
  simp [this]
theorem undone_less:∀(n q:Nat) (dn:Nat→Bool),q < n→dn q=false→undone n (fun j=>decide (j=q) || dn j)+1=undone n dn
 | 0,_,_,h,_=>by omega
 | n+1,q,dn,h,hd=>by
  by_cases e:q=n
  · subst e;rw [undone,undone,undone_same q q dn (by omega)];simp [hd]
  · have:=undone_less n q dn (by omega) hd
    rw [undone,undone,←this];have hn:decide (n=q)=false:=by simp;omega
    simp only [hn,Bool.false_or];omega
theorem undone_le:∀(n:Nat) (dn:Nat→Bool),undone n dn≤n
 | 0,_=>by simp [undone]
 | n+1,dn=>by
  have:=undone_le n dn
  rw [undone];split<;>omega
def stepP(u:PUnit)(f:PFunc)(q:Nat)(i:PIns)(s:List Int)(st:Nat→Option (List Int)):Nat ⊕ (Nat→Option (List Int)):=
 match doneP u f i s with
 | none=>.inl q
 | some s'=>comesP s' q (nextP f q i) st
theorem lookP_none{u:PUnit}{f:PFunc}{k:Nat}{st:Nat→Option (List Int)}{dn:Nat→Bool}(h:leastP f.code.length st dn=none):lookP u f (k+1) st dn=none:=by
 rw [lookP,h]
theorem lookP_step{u:PUnit}{f:PFunc}{k q:Nat}{st:Nat→Option (List Int)}{dn:Nat→Bool}{i:PIns}{s:List Int}(h:leastP f.code.length st dn=some q)(hi:f.code[q]? =some i)(hs:st q=some s):
 lookP u f (k+1) st dn=match stepP u f q i s st with
  | .inl t=>some t
  | .inr st'=>lookP u f k st' (fun j=>decide (j=q) || dn j):=by
 rw [lookP,h];simp only [hi,hs];unfold stepP;cases doneP u f i s with
 | none=>rfl
 | some s'=>rfl
theorem comesP_keep{s:List Int}{q:Nat}:∀(l:List (Option Nat)) (st st':Nat→Option (List Int)),comesP s q l st=.inr st'→∀k,(st k).isSome=true→st' k=st k
 | [],st,st',h,k,hk=>by rw [comesP] at h;cases h;rfl
 | none :: l,st,st',h,k,hk=>by rw [comesP] at h;cases h
 | some t :: l,st,st',h,k,hk=>by
  rw [comesP] at h;cases ht:st t with
  | some s0=>
   rw [ht] at h;simp only at h;by_cases e:s0=s
   · rw [if_pos e] at h;exact comesP_keep l st st' h k hk
   · rw [if_neg e] at h;cases h
  | none=>
   rw [ht] at h;simp only at h;have hne:k≠t:=by intro e;subst e;rw [ht] at hk;cases hk
   have:=comesP_keep l _ st' h k (by simp only [if_neg hne];exact hk)
   rw [this];simp only [if_neg hne]
def OkAt(u:PUnit)(f:PFunc)(T:Nat→Option (List Int))(q:Nat)(s:List Int):Prop:=∃i s',f.code[q]? =some i∧doneP u f i s=some s'∧∀t∈nextP f q i,∃t',t=some t'∧T t'=some s'
structure Tab(u:PUnit)(f:PFunc)(T:Nat→Option (List Int)):Prop where
 zero:T 0=some []
 step:∀q s,T q=some s→OkAt u f T q s
theorem comesP_all{s:List Int}{q:Nat}:∀(l:List (Option Nat)) (st st':Nat→Option (List Int)),comesP s q l st=.inr st'→∀t∈l,∃t',t=some t'∧st' t'=some s
 | [],st,st',h,t,ht=>by cases ht
 | none :: l,st,st',h,t,ht=>by simp [comesP] at h
 | some x :: l,st,st',h,t,ht=>by
  rw [comesP] at h;cases hx:st x with
  | none=>
   rw [hx] at h;simp only at h;rcases List.mem_cons.1 ht with rfl|ht
   · refine ⟨x,rfl,?_⟩;have:=comesP_keep l _ _ h x (by simp)
     rw [this];simp
   · exact comesP_all l _ _ h t ht
  | some s0=>
   rw [hx] at h;simp only at h;by_cases e:s0=s
   · rw [if_pos e] at h;rcases List.mem_cons.1 ht with rfl|ht
     · refine ⟨x,rfl,?_⟩;have:=comesP_keep l _ _ h x (by rw [hx];rfl)
       rw [this,hx,e]
     · exact comesP_all l _ _ h t ht
   · rw [if_neg e] at h;cases h
theorem comesP_new{s:List Int}{q:Nat}:∀(l:List (Option Nat)) (st st':Nat→Option (List Int)),comesP s q l st=.inr st'→∀k,(st' k).isSome=true→(st k).isSome=true∨some k∈l
 | [],st,st',h,k,hk=>by simp [comesP] at h;subst h;exact .inl hk
 | none :: l,st,st',h,k,hk=>by simp [comesP] at h
 | some x :: l,st,st',h,k,hk=>by
  rw [comesP] at h;cases hx:st x with
  | none=>
   rw [hx] at h;simp only at h;rcases comesP_new l _ _ h k hk with h1|h1
   · by_cases e:k=x
     · exact .inr (by rw [e];exact List.mem_cons_self)
     · simp only [if_neg e] at h1;exact .inl h1
   · exact .inr (List.mem_cons_of_mem _ h1)
  | some s0=>
   rw [hx] at h;simp only at h;by_cases e:s0=s
   · rw [if_pos e] at h;rcases comesP_new l _ _ h k hk with h1|h1
     · exact .inl h1
     · exact .inr (List.mem_cons_of_mem _ h1)
   · rw [if_neg e] at h;cases h
theorem done_eff{u:PUnit}{f:PFunc}{i:PIns}{s s':List Int}(h:doneP u f i s=some s'):∃ts ps,effP u f i=some (ts,ps):=by
 unfold doneP at h;cases he:effP u f i with
 | none=>rw [he] at h;cases h
 | some p=>exact ⟨p.1,p.2,rfl⟩
theorem next_lt{u:PUnit}{f:PFunc}{i:PIns}{s s':List Int}{q t:Nat}(hd:doneP u f i s=some s')(hi:f.code[q]? =some i)(ht:some t∈nextP f q i):t < f.code.length:=by
 have hq:q < f.code.length:=(List.getElem?_eq_some_iff.1 hi).1;obtain ⟨ts,ps,he⟩:=done_eff hd;unfold nextP at ht;by_cases h11:i.op=11
 · rw [if_pos h11] at ht;simp only [List.mem_singleton,Option.some.injEq] at ht;have:i.a < (f.code.length:Int):=by
    unfold effP at he;simp only [h11] at he;simp at he
    exact he.1
   omega
 · rw [if_neg h11] at ht;by_cases h14:i.op=14
   · rw [if_pos h14] at ht;cases ht
   · rw [if_neg h14] at ht;by_cases h12:i.op=12
     · rw [if_pos h12] at ht;simp only [List.mem_cons,List.not_mem_nil,or_false] at ht;rcases ht with ht|ht
       · split at ht
         · simp only [Option.some.injEq] at ht;omega
         · cases ht
       · simp only [Option.some.injEq] at ht;have:i.a < (f.code.length:Int):=by
          unfold effP at he;simp only [h12] at he;simp at he
          exact he.1
         omega
     · rw [if_neg h12] at ht;simp only [List.mem_singleton] at ht;split at ht
       · simp only [Option.some.injEq] at ht;omega
       · cases ht
theorem OkAt.mono{u:PUnit}{f:PFunc}{T T':Nat→Option (List Int)}{q:Nat}{s:List Int}(h:OkAt u f T q s)(hm:∀k,(T k).isSome=true→T' k=T k):OkAt u f T' q s:=by
 obtain ⟨i,s',h1,h2,h3⟩:=h;refine ⟨i,s',h1,h2,fun t ht=>?_⟩;obtain ⟨t',e,h4⟩:=h3 t ht;exact ⟨t',e,by rw [hm t' (by rw [h4];rfl),h4]⟩
theorem look_tab(u:PUnit)(f:PFunc):∀(k:Nat) (st:Nat→Option (List Int)) (dn:Nat→Bool),undone f.code.length dn < k→(∀q,(st q).isSome=true→q < f.code.length)→(∀q,dn q=true→∃s,st q=some s∧OkAt u f st q s)→lookP u f k st dn=none→
 ∃T,(∀q,(st q).isSome=true→T q=st q)∧∀q s,T q=some s→OkAt u f T q s
 | 0,st,dn,h,_,_,_=>by omega
 | k+1,st,dn,h,hlt,hdn,hl=>by
  cases hp:leastP f.code.length st dn with
  | none=>
   refine ⟨st,fun _ _=>rfl,fun q s hq=>?_⟩;have:=(leastP_none.1 hp) q (hlt q (by rw [hq];rfl))
   rw [hq] at this;simp at this
   obtain ⟨s2,h1,h2⟩:=hdn q this;rw [hq] at h1;cases h1
   exact h2
  | some q=>
   obtain ⟨hqn,hq1,_⟩:=leastP_some.1 hp;simp only [Bool.and_eq_true,Bool.not_eq_true'] at hq1;obtain ⟨i,hi⟩:∃i,f.code[q]? =some i:=⟨_,List.getElem?_eq_getElem hqn⟩;obtain ⟨s,hs⟩:=Option.isSome_iff_exists.1 hq1.1;rw [lookP,hp] at hl;simp only [hi,hs] at hl;cases hd:doneP u f i s with
   | none=>rw [hd] at hl;cases hl
   | some s'=>
    rw [hd] at hl;simp only at hl;cases hc:comesP s' q (nextP f q i) st with
    | inl t=>rw [hc] at hl;cases hl
    | inr st'=>
     rw [hc] at hl;simp only at hl;have hkeep:=comesP_keep (nextP f q i) st st' hc;have hok:OkAt u f st' q s:=⟨i,s',hi,hd,comesP_all _ _ _ hc⟩;have hun:=undone_less f.code.length q dn hqn hq1.2;obtain ⟨T,h1,h2⟩:=look_tab u f k st' (fun j=>decide (j=q) || dn j) (by omega) (fun j hj=>by
      rcases comesP_new _ _ _ hc j hj with h|h
      · exact hlt j h
      · exact next_lt hd hi h) (fun j hj=>by
      by_cases e:j=q
      · subst e;exact ⟨s,by rw [hkeep j hq1.1,hs],hok⟩
      · simp only [e,decide_false,Bool.false_or] at hj;obtain ⟨s2,h1,h2⟩:=hdn j hj;exact ⟨s2,by rw [hkeep j (by rw [h1];rfl),h1],h2.mono hkeep⟩) hl
     exact ⟨T,fun j hj=>by rw [h1 j (by rw [hkeep j hj];exact hj),hkeep j hj],h2⟩
theorem wrong_tab{u:PUnit}{f:PFunc}(hf:1≤f.code.length)(h:wrongP u f=none):∃T,Tab u f T:=by
 obtain ⟨T,h1,h2⟩:=look_tab u f (f.code.length+1) _ _ (by have:=undone_le f.code.length (fun _=>false);omega) (fun q hq=>by
  by_cases e:q=0
  · omega
  · simp [e] at hq) (fun q hq=>by cases hq) h
 exact ⟨T,by rw [h1 0 (by simp)];simp,h2⟩
theorem verify_tab{u:PUnit}(hu:unitOk u=true)(h:verifyP u=(0,0,0)):∀f∈u.funcs,∃T,Tab u f T:=by
 have hf:∀(l:List PFunc) (k:Nat),funcsP u k l=(0,0,0)→∀f∈l,wrongP u f=none:=by
  intro l
  induction l with
  | nil=>intro k _ f hf;cases hf
  | cons g l ih=>
   intro k h f hf;rw [funcsP] at h;cases hw:wrongP u g with
   | some q=>rw [hw] at h;simp at h
   | none=>
    rw [hw] at h;rcases List.mem_cons.1 hf with rfl|hf
    · exact hw
    · exact ih _ h f hf
 unfold verifyP at h;rw [if_pos hu] at h;intro f hm;refine wrong_tab ?_ (hf _ _ h f hm);unfold unitOk funcsOk at hu;simp only [Bool.and_eq_true] at hu;have:=List.all_eq_true.1 hu.2.2.1.2 f hm
 unfold funcOk codeOk at this;simp only [wB,Bool.and_eq_true,decide_eq_true_eq] at this;omega
open Go.RowKit
attribute [local go_sem ↓] Go.wp_at_zero Go.wp_at_succ
theorem left_region{G:Prop}(h:wpAny Tryz.prog .any #[] (fun _ _ _=>G) 0 #[] ⟨#[],[]⟩ default):G:=h.2
theorem hide{p:Prop}(h:p):Hid p:=h
def refV(e a:Int):Value:=.agg #[.int .i64 e,.int .i64 0,.int .i64 a]
def thrown(e a:Int):List PanicEntry:= [{ v:=.iface 58 (refV e a),recovered:=false }]
abbrev Gr(w w':World):Prop:=w.grownBy w' none
theorem Gr.refl(w:World):Gr w w:=World.grownBy.refl w none
theorem Gr.trans{a b c:World}(h:Gr a b)(k:Gr b c):Gr a c:=
 ⟨k.os.trans h.os,k.tape.trans h.tape,k.output.trans h.output,Nat.le_trans h.size k.size,
  fun i hi _=>(k.block i (Nat.lt_of_lt_of_le hi h.size) (by simp)).trans (h.block i hi (by simp))⟩
theorem Gr.alloc{a b:World}(h:Gr a b)(o:Obj):Gr a (b.alloc o):=h.trans (World.grownBy_alloc b o none)
theorem Gr.drew{a b:World}(h:Gr a b):Gr a b.drew:=⟨h.os,h.tape,h.output,h.size,h.block⟩
theorem unless_yes(e a:Int)(w:World):
 Calls Tryz.prog 32 #[.agg #[.int .i64 e,.int .i64 0,.int .i64 a],.bool true] w fun x w'=>
  x=.returned (.tuple #[])∧Gr w w':=by
 have hnot:∀(x:Bool) (w:World),(Op.unary .not (.bool x)).run Tryz.prog w=.ok (.bool (!x)) w:=fun _ _=>rfl
 go_enter Tryz.func32,Tryz.ntmps32
 go_wp2
 go_end0
 exact ⟨rfl,(Gr.refl _).alloc _⟩
theorem unless_no(e a:Int)(w:World):
 Calls Tryz.prog 32 #[.agg #[.int .i64 e,.int .i64 0,.int .i64 a],.bool false] w fun x w'=>
  x=.panicked (thrown e a)∧Gr w w':=by
 have hnot:∀(x:Bool) (w:World),(Op.unary .not (.bool x)).run Tryz.prog w=.ok (.bool (!x)) w:=fun _ _=>rfl
 go_enter Tryz.func32,Tryz.ntmps32
 go_wp2
 exact ⟨rfl,rfl,(Gr.refl _).alloc _⟩
theorem within_any(v l m:Int)(w:World):
 Calls Tryz.prog 72 #[.int .i64 v,.int .i64 l,.int .i64 m] w fun x w'=>
  x=.returned (.bool (wB v l m))∧w'=w:=by
 by_cases h:l≤v
 · have hd:decide (l≤v)=true:=by simpa using h
   go_enter Tryz.func72,Tryz.ntmps72
   go_wp2
   go_ret
   exact ⟨by simp [wB,h],rfl⟩
 · have hd:decide (l≤v)=false:=by simpa using h
   go_enter Tryz.func72,Tryz.ntmps72
   go_wp2
   go_ret
   exact ⟨by simp [wB];omega,rfl⟩
def ends(b:Bool)(e a:Int):Ending:=if b then .returned (.tuple #[]) else .panicked (thrown e a)
theorem ends_t(e a:Int):ends true e a=.returned (.tuple #[]):=rfl
theorem ends_f(e a:Int):ends false e a=.panicked (thrown e a):=rfl
def RInts(w:World)(v:Value)(l:List Int):Prop:=
 ∃ao cap,v=.slice ao l.length cap∧l.length≤maxLen∧∀i,i < l.length→∃b off,ao=some ⟨b,off,none⟩∧w.cell? ⟨b,off+i,none⟩=some (.int .i64 (l.getD i 0))
theorem RInts.gr{w w':World}{v:Value}{l:List Int}(h:RInts w v l)(g:Gr w w'):RInts w' v l:=by
 obtain ⟨ao,cap,hv,hm,hc⟩:=h;refine ⟨ao,cap,hv,hm,fun i hi=>?_⟩;obtain ⟨b,off,h1,h2⟩:=hc i hi;exact ⟨b,off,h1,g.cell h2 (by simp)⟩
theorem kindsOk_succ{n:Int}{l:List Int}{k:Nat}(hk:k < l.length):
 (l.take (k+1)).all (inB n)=((l.take k).all (inB n) && inB n (l.getD k 0)):=by
 rw [List.take_succ_eq_append_getElem hk,List.all_append];simp [List.getD_eq_getElem?_getD,hk]
theorem all_false_of{l:List Int}{p:Int→Bool}{k:Nat}{x:Bool}(h:(l.take (k+1)).all p=x)(hx:x=false):Hid (l.all p=false):=by
 have e:l.all p=((l.take (k+1)).all p && (l.drop (k+1)).all p):=by rw [←List.all_append,List.take_append_drop]
 exact hide (by rw [e,h,hx];rfl)
set_option maxHeartbeats 1000000 in
theorem kinds_any(l:List Int)(v:Value)(n e a:Int)(w:World)(hl:RInts w v l):
 Calls Tryz.prog 73 #[v,.int .i64 n,.agg #[.int .i64 e,.int .i64 0,.int .i64 a]] w fun x w'=>
  x=ends (l.all (inB n)) e a∧Gr w w':=by
 obtain ⟨ao,cap,rfl,hm,hc⟩:=hl;unfold maxLen at hm;go_enter Tryz.func73,Tryz.ntmps73
 go_wp2
 go_loopw [10] (fun i wr=>∃k:Nat,k≤l.length∧i=.int .i64 k∧(l.take k).all (inB n)=true∧wr.cell? ⟨w.heap.size,0,none⟩=some (.int .i64 e)∧wr.cell? ⟨w.heap.size,1,none⟩=some (.int .i64 0)∧wr.cell? ⟨w.heap.size,2,none⟩=some (.int .i64 a)∧Gr w wr) (fun i _=>l.length - (intOf i).toNat)
 case atStart=>exact ⟨0,Nat.zero_le _,rfl,by simp,by simp [go_sem],by simp [go_sem],by simp [go_sem],(Gr.refl _).alloc _⟩
 case round=>
  obtain ⟨k,hk,rfl,hall,he,hn,ha,hg⟩:=hrel;by_cases hlt:k < l.length
  · obtain ⟨b,off,hao,hcell⟩:=hc k hlt;subst hao;have HS:=hide (kindsOk_succ (n:=n) hlt);have hcell':=hg.cell hcell (by simp);generalize l.getD k 0=x at hcell' HS;clear hcell hc;cases hb:wB x 0 n
    · have HF:Hid (l.all (inB n)=false):=all_false_of (k:=k) HS.out (by rw [hall];simp [inB,hb]);go_wp2
      go_region_with (first|(go_at_call 72;refine (within_any _ _ _ _).mono ?_;rintro e w' ⟨rfl,rfl⟩)|(go_at_call 32;refine (unless_no _ _ _).mono ?_;rintro e w' ⟨rfl,hg'⟩;refine left_region ?_))
      all_goals exact ⟨rfl,by rw [HF.out];rfl,hg.drew.trans hg'⟩
    · have HT:Hid ((l.take (k+1)).all (inB n)=true):=by rw [HS.out,hall];simp [inB,hb,hide]
      go_wp2
      go_region_held3 (fun w'=>w'.cell? ⟨w.heap.size,0,none⟩=some (.int .i64 e)∧w'.cell? ⟨w.heap.size,1,none⟩=some (.int .i64 0)∧w'.cell? ⟨w.heap.size,2,none⟩=some (.int .i64 a)) (first|go_keep|exact ⟨hg'.cell (by assumption) (by simp),hg'.cell (by assumption) (by simp),hg'.cell (by assumption) (by simp)⟩) (first|(go_at_call 72;refine (within_any _ _ _ _).mono ?_;rintro e w' ⟨rfl,rfl⟩)|(go_at_call 32;refine (unless_yes _ _ _).mono ?_;rintro e w' ⟨rfl,hg'⟩))
      all_goals go_wp2
      all_goals go_roundw
      case rel=>exact ⟨k+1,by omega,by go_num,HT.out,hg'.cell he (by simp),hg'.cell hn (by simp),hg'.cell ha (by simp),hg.drew.trans hg'⟩
      case measure=>simp [intOf];omega
  · go_wp2
    go_end0
    have e1:l.take k=l:=List.take_of_length_le (by omega);rw [e1] at hall;exact ⟨by rw [hall];rfl,hg⟩
end Go.Proofs.YtkgncijcnlfhiaaGreat
