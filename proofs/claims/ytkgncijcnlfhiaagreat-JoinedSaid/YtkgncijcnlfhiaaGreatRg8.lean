import Derived.Test.YtkgncijcnlfhiaaGreatRg2
import Derived.Test.YtkgncijcnlfhiaaGreatMu
namespace Go.Proofs.YtkgncijcnlfhiaaGreat
set_option linter.unusedVariables false
set_option linter.unusedSimpArgs false
open Go.RowKit
section
variable {P:Program} {l:List Oper} {md:Region.Mode} {Q:Exit→Act→World→Prop} {S:World→Prop}
def A5(tm:Nat→Tmp)(vs:Nat→Value)(xs:List Nat)(a:Act):Act:=xs.foldl (fun a i=>a.put (some (tm i)) (vs i)) a
def BR(xs:List Nat)(L:Array Bool):Array Bool:=xs.foldl (fun L i=>L.setIfInBounds i true) L
theorem BK(xs ys:List Nat)(L:Array Bool):BR (xs++ys) L=BR ys (BR xs L):=by simp [BR]
theorem BZ(tm:Nat→Tmp)(vs:Nat→Value)(xs ys:List Nat)(a:Act):A5 tm vs (xs++ys) a=A5 tm vs ys (A5 tm vs xs a):=by simp [A5]
theorem Bv{xs ys:List Nat}(h:xs.Perm ys)(L:Array Bool):BR xs L=BR ys L:=
 h.foldl_eq' (fun x _ y _ z=>by
  by_cases e:x=y
  · subst e;rfl
  · exact Array.setIfInBounds_comm _ _ e) L
theorem Bs{tm:Nat→Tmp}{vs:Nat→Value}{xs ys:List Nat}(h:xs.Perm ys)(hd:∀x∈xs,∀y∈xs,tm x=tm y→x=y)(a:Act):A5 tm vs xs a=A5 tm vs ys a:=
 h.foldl_eq' (fun x hx y hy z=>by
  by_cases e:x=y
  · subst e;rfl
  · exact Act.put_comm z (vs x) (vs y) (fun d h1 h2=>e (hd x hx y hy (by rw [Option.some.inj h1,Option.some.inj h2])))) a
theorem CN{tm:Nat→Tmp}{vs us:Nat→Value}{xs:List Nat}(h:∀x∈xs,vs x=us x)(a:Act):A5 tm vs xs a=A5 tm us xs a:=by
 induction xs generalizing a with
 | nil=>rfl
 | cons x xs ih=>
  show A5 tm vs xs (a.put _ (vs x))=A5 tm us xs (a.put _ (us x))
  rw [h x (by simp),ih (fun y hy=>h y (by simp [hy]))]
theorem BU{xs:List Nat}{L:Array Bool}{j:Nat}(d:Bool)(h:¬j∈xs):(BR xs L).getD j d=L.getD j d:=by
 induction xs generalizing L with
 | nil=>rfl
 | cons x xs ih=>
  show (BR xs (L.setIfInBounds x true)).getD j d=_
  rw [ih (fun e=>h (by simp [e])),getD_set_ne d (fun e=>h (by simp [e]))]
theorem DC{xs:List Nat}{L:Array Bool}{j:Nat}(h:j∈xs):(BR xs L).getD j true=true:=by
 induction xs generalizing L with
 | nil=>cases h
 | cons x xs ih=>
  show (BR xs (L.setIfInBounds x true)).getD j true=true
  by_cases e:j∈xs
  · exact ih e
  · rw [BU true e];rcases List.mem_cons.1 h with rfl|h
    · rcases Nat.lt_or_ge j L.size with h'|h'<;>simp [h']
    · exact absurd h e
theorem CL{xs:List Nat}{L:Array Bool}{j:Nat}{ops:Array Oper}(h:j∈Region.ready md ops L)(hj:¬j∈xs):j∈Region.ready md ops (BR xs L):=by
 induction xs generalizing L with
 | nil=>exact h
 | cons x xs ih=>exact ih (ready_mono h (fun e=>hj (by simp [e]))) (fun e=>hj (by simp [e]))
def BV(md:Region.Mode)(ops:Array Oper):List Nat→Array Bool→Bool
 | [],_=>true
 | i :: xs,L=>(Region.ready md ops L).contains i && BV md ops xs (L.setIfInBounds i true)
theorem Ba{ops:Array Oper}:∀{xs:List Nat} {L:Array Bool},BV md ops xs L=true→∀pre i post,xs=pre++i :: post→i∈Region.ready md ops (BR pre L)
 | [],_,_,pre,i,post,e=>by simp at e
 | x :: xs,L,h,[],i,post,e=>by
  simp only [BV,Bool.and_eq_true] at h;simp only [List.nil_append,List.cons.injEq] at e;rw [←e.1];show x∈Region.ready md ops L
  simpa using h.1
 | x :: xs,L,h,p :: pre,i,post,e=>by
  simp only [BV,Bool.and_eq_true] at h;simp only [List.cons_append,List.cons.injEq] at e;rw [←e.1];exact Ba h.2 pre i post e.2
theorem CM{ops:Array Oper}{L:Array Bool}{X ds:List Nat}(hs:BV md ops X L=true)(hX:X.Nodup)(hn:ds.Nodup)(hsub:∀i∈ds,i∈X)(hlt:ds.length < X.length):Region.ready md ops (BR ds L)≠[]:=by
 have key:∀(Y pre:List Nat),X=pre++Y→(∀i∈pre,i∈ds)→∃p i q,X=p++i :: q∧(∀i∈p,i∈ds)∧¬i∈ds:=by
  intro Y
  induction Y with
  | nil=>
   intro pre e hp;exfalso
   rw [List.append_nil] at e;subst e;have:X.Perm ds:=(List.perm_ext_iff_of_nodup hX hn).2 (fun i=>⟨hp i,hsub i⟩)
   have:=this.length_eq
   omega
  | cons y Y ih=>
   intro pre e hp;by_cases hy:y∈ds
   · exact ih (pre++ [y]) (by rw [e];simp) (fun i hi=>by
      rcases List.mem_append.1 hi with hi|hi
      · exact hp i hi
      · rw [List.mem_singleton.1 hi];exact hy)
   · exact ⟨pre,y,Y,e,hp,hy⟩
 obtain ⟨p,i,q,e,hp,hi⟩:=key X [] rfl (fun _ h=>by cases h);have h1:=Ba hs p i q e;have hpn:p.Nodup:=by rw [e] at hX;exact (List.nodup_append.1 hX).1
 have hperm:(p++ds.filter (fun x=>!p.contains x)).Perm ds:=by
  have a:=List.filter_append_perm (fun x=>p.contains x) ds;have b:(ds.filter (fun x=>p.contains x)).Perm p:=(List.perm_ext_iff_of_nodup (List.Sublist.nodup List.filter_sublist hn) hpn).2 (fun x=>by
   rw [List.mem_filter];constructor
   · rintro ⟨_,h⟩;simpa using h
   · intro h;exact ⟨hp x h,by simpa using h⟩)
  exact (b.symm.append_right _).trans a
 have h2:=CL (xs:=ds.filter (fun x=>!p.contains x)) h1 (fun h=>hi (List.mem_filter.1 h).1);rw [←BK,Bv hperm] at h2;intro h;rw [h] at h2;cases h2
theorem Br{o:Oper}{w:World}{tm:Nat→Tmp}{vs:Nat→Value}(hs:∀cs b,o.op≠.select cs b){R:Value→World→Prop}
 (hQ:∀c a d v w,Q (.panic c) a w→Q (.panic c) (a.put d v) w):∀(xs:List Nat) (_:∀x∈xs,tm x ∉ o.looksAt l.toArray) (_:∀x∈xs,o.dst≠some (tm x)) (a:Act),
 (∀K:Act→World→Prop,(∀v w2,R v w2→K (a.put o.dst v) w2)→o.wp P a w K Q)→
 ∀K:Act→World→Prop,(∀v w2,R v w2→K ((A5 tm vs xs a).put o.dst v) w2)→o.wp P (A5 tm vs xs a) w K Q
 | [],_,_,a,h=>h
 | x :: xs,h1,h2,a,h=>by
  have:=bM (ops:=l.toArray) (d:=some (tm x)) (u:=vs x) hs (fun t e=>by rw [←Option.some.inj e];exact h1 x (by simp)) (fun t e=>by rw [←Option.some.inj e];exact h2 x (by simp)) (fun c a v w=>hQ c a _ v w) h
  exact Br hs hQ xs (fun y hy=>h1 y (by simp [hy])) (fun y hy=>h2 y (by simp [hy])) (a.put (some (tm x)) (vs x)) this
def Dc(md:Region.Mode)(l:List Oper)(L:Array Bool)(tm:Nat→Tmp)(deps:Nat→List Nat)(X:List Nat):Bool:=
 BV md l.toArray X L && X.all (fun i=>!L.getD i true) &&
 (List.range l.length).all (fun k=>X.contains k || L.getD k true || X.all fun i=>jk md l L i 20 k) &&
 X.all (fun j=>match l[j]? with
  | none=>false
  | some o=>o.guard.isNone && o.dst == some (tm j) && (deps j).all (fun i=>o.after.toList.any fun e=>Region.binds md e && Nat.beq e.on i) && (deps j).all (fun i=>!L.getD i true) &&
   X.all (fun i=>(deps j).contains i || !(o.looksAt l.toArray).contains (tm i)) && X.all (fun i=>Nat.beq i j || !Nat.beq (tm i) (tm j)))
def Bk:List Nat→Bool
 | []=>true
 | x :: xs=>!xs.contains x && Bk xs
theorem BN:∀{xs:List Nat},Bk xs=true→xs.Nodup
 | [],_=>List.nodup_nil
 | x :: xs,h=>by
  simp only [Bk,Bool.and_eq_true,Bool.not_eq_true'] at h;exact List.nodup_cons.2 ⟨by simpa using h.1,BN h.2⟩
def DF(P:Program)(l:List Oper)(Q:Exit→Act→World→Prop)(tm:Nat→Tmp)(deps:Nat→List Nat)(J:World→Prop)(A:Nat→Value→World→Prop)(a:Act)(j:Nat):Prop:=
 ∃o,l[j]? =some o∧∀(vs:Nat→Value) (w:World),J w→(∀i∈deps j,A i (vs i) w)→∀K:Act→World→Prop,(∀v w2,(J w2∧A j v w2∧∀i u,A i u w→A i u w2)→K ((A5 tm vs (deps j) a).put o.dst v) w2)→o.wp P (A5 tm vs (deps j) a) w K Q
def Bz(P:Program)(l:List Oper)(Q:Exit→Act→World→Prop)(tm:Nat→Tmp)(deps:Nat→List Nat)(J:World→Prop)(A:Nat→Value→World→Prop)(a:Act):List Nat→Prop
 | []=>True
 | j :: X=>DF P l Q tm deps J A a j∧Bz P l Q tm deps J A a X
theorem Bz.at_{tm:Nat→Tmp}{deps:Nat→List Nat}{J:World→Prop}{A:Nat→Value→World→Prop}{a:Act}:∀{X:List Nat},Bz P l Q tm deps J A a X→∀j∈X,DF P l Q tm deps J A a j
 | [],_,j,h=>by cases h
 | x :: X,h,j,hj=>by
  rcases List.mem_cons.1 hj with rfl|hj
  · exact h.1
  · exact h.2.at_ j hj
theorem C9{zs:List Nat}{i:Nat}{o:Oper}{fuel:Nat}{listed:Array Bool}{a:Act}{w:World}{R:Value→World→Prop}(ho:l[i]? =some o)(hw:Region.wanted o (yielded l.toArray a.tmps)=true)
 (h:∀K:Act→World→Prop,(∀v w2,R v w2→K (a.put o.dst v) w2)→o.wp P a w K Q) (rest:∀v w2,R v w2→S w2∧fT P md l.toArray Q S zs fuel (listed.setIfInBounds i true) (a.put o.dst v) w2):
 wpOp P l.toArray Q i (fun a' w'=>(zs.contains i=false→S w')∧fT P md l.toArray Q S zs fuel (listed.setIfInBounds i true) a' w') a w:=by
 refine wpOp_step (o:=o) (by simpa using ho) (fun K hK=>?_);rw [if_pos hw];exact h K (fun v w2 hr=>hK _ _ ⟨fun _=>(rest v w2 hr).1,(rest v w2 hr).2⟩)
theorem B8{zs:List Nat}(X:List Nat)(n:Nat)(hXl:X.length=n)(tm:Nat→Tmp)(deps:Nat→List Nat){fuel:Nat}{L:Array Bool}{a:Act}{w:World}(hs:Region.noSelect l.toArray=true)(hok:Dc md l L tm deps X=true)(hX:Bk X=true)(hdn:X.all (fun j=>Bk (deps j))=true)
 (hQ:∀c a d v w,Q (.panic c) a w→Q (.panic c) (a.put d v) w) (J:World→Prop) (A:Nat→Value→World→Prop) (hJS:∀w,J w→S w) (hJ:J w)
 (steps:Bz P l Q tm deps J A a X)
 (rest:∀(vs:Nat→Value) (w':World),J w'→(∀i∈X,A i (vs i) w')→fT P md l.toArray Q S zs fuel (BR X L) (A5 tm vs X a) w'):
 fT P md l.toArray Q S zs (fuel+n) L a w:=by
 subst hXl;rw [Nat.add_comm];have hXn:=BN hX;have hdn':∀j∈X,(deps j).Nodup:=fun j hj=>BN (List.all_eq_true.1 hdn j hj)
 unfold Dc at hok;simp only [Bool.and_eq_true] at hok;obtain ⟨⟨⟨hsch,hun⟩,hwt⟩,hop⟩:=hok;have hun':∀i∈X,L.getD i true=false:=fun i hi=>by simpa using List.all_eq_true.1 hun i hi
 have hop':∀j∈X,∃o,l[j]? =some o∧o.guard=none∧o.dst=some (tm j)∧(∀i∈deps j,(∃e∈o.after,Region.binds md e=true∧e.on=i)∧L.getD i true=false)∧(∀i∈X,¬i∈deps j→tm i ∉ o.looksAt l.toArray)∧∀i∈X,tm i=tm j→i=j:=fun j hj=>by
  have h:=List.all_eq_true.1 hop j hj;cases ho:l[j]? with
  | none=>rw [ho] at h;cases h
  | some o=>
   rw [ho] at h;simp only [Bool.and_eq_true,List.all_eq_true,List.any_eq_true,Bool.or_eq_true,Bool.not_eq_true'] at h;obtain ⟨⟨⟨⟨⟨h1,h2⟩,h3⟩,h4⟩,h5⟩,h6⟩:=h;refine ⟨o,rfl,by simpa using h1,by simpa using h2,fun i hi=>⟨?_,h4 i hi⟩,fun i hi hd=>?_,fun i hi e=>?_⟩
   · obtain ⟨e,he,hb,hn⟩:=h3 i hi;exact ⟨e,by simpa using he,hb,Nat.eq_of_beq_eq_true hn⟩
   · rcases h5 i hi with h|h
     · exact absurd (by simpa using h) hd
     · simpa using h
   · rcases h6 i hi with h|h
     · exact Nat.eq_of_beq_eq_true h
     · exfalso;rw [e] at h;simp at h
 have hinj:∀x∈X,∀y∈X,tm x=tm y→x=y:=fun x hx y hy e=>by
  obtain ⟨o,_,_,_,_,_,h⟩:=hop' y hy;exact h x hx e
 have main:∀(m:Nat) (ds:List Nat) (vs:Nat→Value) (w:World),ds.length+m=X.length→ds.Nodup→(∀i∈ds,i∈X)→(∀i∈X,¬i∈ds→∀k,k < l.length→¬k∈X→L.getD k true=false→iv md l.toArray (BR ds L) i k)→J w→(∀i∈ds,A i (vs i) w)→
  fT P md l.toArray Q S zs (m+fuel) (BR ds L) (A5 tm vs ds a) w:=by
  intro m
  induction m with
  | zero=>
   intro ds vs w hl hn hsub _ hJw hA;have hperm:ds.Perm X:=by
    have h1:(X.filter (fun x=>ds.contains x)).Perm ds:=(List.perm_ext_iff_of_nodup (List.Sublist.nodup List.filter_sublist hXn) hn).2 (fun x=>by
     rw [List.mem_filter];constructor
     · rintro ⟨_,h⟩;simpa using h
     · intro h;exact ⟨hsub x h,by simpa using h⟩)
    have h2:X.filter (fun x=>ds.contains x)=X:=List.Sublist.eq_of_length List.filter_sublist (by rw [h1.length_eq];omega);rw [h2] at h1;exact h1.symm
   rw [Bv hperm,Bs hperm (fun x hx y hy=>hinj x (hsub x hx) y (hsub y hy)),Nat.zero_add];exact rest vs w hJw (fun i hi=>hA i (hperm.mem_iff.2 hi))
  | succ m ih=>
   intro ds vs w hl hn hsub hW hJw hA;rw [show m+1+fuel=(m+fuel)+1 by omega];refine ⟨fun h0=>absurd h0 (CM hsch hXn hn hsub (by omega)),fun j hj=>?_⟩;obtain ⟨hju,o,ho,hall⟩:=mem_ready.1 hj;have hjds:¬j∈ds:=fun h=>by rw [DC h] at hju;cases hju
   have hjL:L.getD j true=false:=by rw [BU true hjds] at hju;exact hju
   have hol:l[j]? =some o:=by simpa using ho
   have hjX:j∈X:=by
    refine Decidable.byContradiction fun hjX=>?_
    obtain ⟨i,hi,hid⟩:∃i∈X,¬i∈ds:=by
     refine Decidable.byContradiction fun hno=>?_
     have hall2:∀i∈X,i∈ds:=fun i hi=>Decidable.byContradiction fun h=>hno ⟨i,hi,h⟩
     have:=((List.perm_ext_iff_of_nodup hXn hn).2 (fun i=>⟨hall2 i,hsub i⟩)).length_eq
     omega
    exact (hW i hi hid j (List.getElem?_eq_some_iff.1 hol).1 hjX hjL).not_ready hj
   obtain ⟨o',ho',hg,hdst,hdeps,hlook,_⟩:=hop' j hjX;rw [hol] at ho';obtain rfl:=Option.some.inj ho';have hdsub:∀i∈deps j,i∈ds:=fun i hi=>by
    obtain ⟨⟨e,he,hb,rfl⟩,hLi⟩:=hdeps i hi;refine Decidable.byContradiction fun hid=>?_
    have h1:=hall e he hb;rw [BU false hid] at h1;rcases Nat.lt_or_ge e.on L.size with h'|h'
    · simp [h'] at hLi h1;rw [hLi] at h1;cases h1
    · simp [Array.getElem?_eq_none h'] at h1
   have hperm:(deps j++ds.filter (fun x=>!(deps j).contains x)).Perm ds:=by
    have x1:=List.filter_append_perm (fun x=>(deps j).contains x) ds;have x2:(ds.filter (fun x=>(deps j).contains x)).Perm (deps j):=(List.perm_ext_iff_of_nodup (List.Sublist.nodup List.filter_sublist hn) (hdn' j hjX)).2 (fun x=>by
     rw [List.mem_filter];constructor
     · rintro ⟨_,h⟩;simpa using h
     · intro h;exact ⟨hdsub x h,by simpa using h⟩)
    exact (x2.symm.append_right _).trans x1
   have hact:A5 tm vs ds a=A5 tm vs (ds.filter (fun x=>!(deps j).contains x)) (A5 tm vs (deps j) a):=by
    rw [←BZ];exact Bs hperm.symm (fun x hx y hy=>hinj x (hsub x hx) y (hsub y hy)) a
   have hsel:∀cs b,o.op≠.select cs b:=fun cs b=>Region.noSelect_spec hs j o cs b ho
   obtain ⟨o2,ho2,hst⟩:=steps.at_ j hjX;rw [hol] at ho2;obtain rfl:=Option.some.inj ho2;have hmv:=Br (l:=l) (tm:=tm) (vs:=vs) hsel hQ (ds.filter (fun x=>!(deps j).contains x)) (fun x hx=>hlook x (hsub x (List.mem_filter.1 hx).1) (fun h=>by
    have:=(List.mem_filter.1 hx).2
    simp only [Bool.not_eq_true'] at this;rw [List.contains_iff_mem.2 h] at this;cases this)) (fun x hx e=>by
    have hxd:=(List.mem_filter.1 hx).1;rw [hdst] at e;exact hjds (hinj x (hsub x hxd) j hjX (Option.some.inj e).symm▸hxd)) (A5 tm vs (deps j) a) (hst vs w hJw (fun i hi=>hA i (hdsub i hi)))
   rw [←hact] at hmv;refine C9 (P:=P) (md:=md) (S:=S) hol (by simp [Region.wanted,hg]) hmv ?_;rintro v w2 ⟨j2,aj,stab⟩;refine ⟨hJS _ j2,?_⟩;have hne:∀x∈ds,(if x=j then v else vs x)=vs x:=fun x hx=>if_neg (fun (e:x=j)=>hjds (e▸hx))
   have hih:=ih (ds++ [j]) (fun x=>if x=j then v else vs x) w2 (by simp;omega) (List.nodup_append.2 ⟨hn,by simp,fun x hx y hy e=>by
    rw [List.mem_singleton.1 hy] at e;exact hjds (e▸hx)⟩) (fun i hi=>by
    rcases List.mem_append.1 hi with hi|hi
    · exact hsub i hi
    · rw [List.mem_singleton.1 hi];exact hjX) (fun i hi hid k hk hkX hkL=>by
    rw [BK];exact (hW i hi (fun h=>hid (List.mem_append.2 (.inl h))) k hk hkX hkL).list hj (fun e=>hid (List.mem_append.2 (.inr (by simp [e]))))) j2 (fun i hi=>by
    rcases List.mem_append.1 hi with hi|hi
    · show A i (if i=j then v else vs i) w2
      rw [hne i hi];exact stab i _ (hA i hi)
    · rw [List.mem_singleton.1 hi];show A j (if j=j then v else vs j) w2
      rw [if_pos rfl];exact aj)
   rw [BK,BZ,CN hne] at hih;have e2:A5 tm (fun x=>if x=j then v else vs x) [j] (A5 tm vs ds a)=(A5 tm vs ds a).put o.dst v:=by
    unfold A5;simp only [List.foldl_cons,List.foldl_nil,if_true];rw [hdst]
   rw [e2] at hih;exact hih
 have:=main X.length [] (fun _=>undef) w (by simp) List.nodup_nil (fun _ h=>by cases h) (fun i hi _ k hk hkX hkL=>by
  have h:=List.all_eq_true.1 hwt k (List.mem_range.2 hk);simp only [Bool.or_eq_true,hkL,Bool.false_eq_true,or_false] at h;rcases h with h|h
  · exact absurd (by simpa using h) hkX
  · exact iz (List.all_eq_true.1 h i hi)) hJ (fun _ h=>by cases h)
 exact this
end
end Go.Proofs.YtkgncijcnlfhiaaGreat
