import Derived.Test.YtkgncijcnlfhiabGreatM3
namespace Go.Proofs.YtkgncijcnlfhiabGreat
set_option linter.unusedVariables false
set_option linter.unusedSimpArgs false
def bt(r:List PV)(j:Nat):Prop:=∃v∈r,v.blk=some j
def A5(bs:List (List PV))(j:Nat):Nat:=(bs.getD j []).length+1
def jR(bs:List (List PV))(ms:List Nat):Nat:=(ms.map (A5 bs)).sum
theorem nw{f:Nat->Nat}{x:Nat}:∀{l:List Nat},x∈l->(l.map f).sum=f x+((l.erase x).map f).sum
 | [],h=>by simp at h
 | y :: l,h=>by
  by_cases c:y=x
  · subst c;simp
  · have hx:x∈l:=by
     rcases List.mem_cons.1 h with e|e
     · exact absurd e.symm c
     · exact e
    rw [List.erase_cons_tail (by simpa using c)];simp only [List.map_cons,List.sum_cons];rw [nw hx];omega
theorem pM{f:Nat->Nat}:∀{a b:List Nat},a.Nodup->(∀j∈a,j∈b)->(a.map f).sum<=(b.map f).sum
 | [],b,_,_=>by simp
 | x :: a,b,hn,hs=>by
  have hx:=hs x List.mem_cons_self;rw [nw hx];simp only [List.map_cons,List.sum_cons];have Vu:=List.nodup_cons.1 hn;have:=pM (f:=f) (b:=b.erase x) Vu.2 (fun j hj=>(List.mem_erase_of_ne (fun (e:j=x)=>Vu.1 (by rw [<-e];exact hj))).2 (hs j (List.mem_cons_of_mem _ hj)))
  omega
theorem xL{ms:List Nat}{n:Nat}(h:ms.Nodup)(hl:∀j∈ms,j < n):ms.length<=n:=by
 have:=pM (f:=fun _=>1) (b:=List.range n) h (fun j hj=>List.mem_range.2 (hl j hj))
 have e:∀l:List Nat,(l.map fun _=>1).sum=l.length:=fun l=>by induction l with
  | nil=>rfl
  | cons x l ih=>simp only [List.map_cons,List.sum_cons,ih,List.length_cons];omega
 rw [e,e,List.length_range] at this;exact this
theorem qR(bs:List (List PV))(a b:List Nat):jR bs (a++b)=jR bs a+jR bs b:=by simp [jR]
structure zS(bs:List (List PV))(st:pT)(ms:List Nat):Prop where
 nd:ms.Nodup
 mrk:∀j,st.mark j=true↔j∈ms
 all:st.all=jR bs ms
theorem fe{v:PV}{vs:List PV}{j:Nat}:bt (v :: vs) j↔v.blk=some j\/bt vs j:=by simp [bt]
theorem pj{j:Nat}:¬bt [] j:=by simp [bt]
theorem lO(bs:List (List PV)):∀(vs:List PV) (st:pT) (ms:List Nat),zS bs st ms->∃Zc,zS bs (cK bs vs st) (ms++Zc)/\(cK bs vs st).wt=st.wt++Zc.map (fun j=>bs.getD j [])/\(∀j,bt vs j->j∈ms++Zc)/\(∀j∈Zc,bt vs j)
 | [],st,ms,h=>⟨[],by simpa [cK] using h,by simp [cK],fun j hj=>absurd hj pj,fun j hj=>by simp at hj⟩
 | v :: vs,st,ms,h=>by
  cases hb:v.blk with
  | none=>
   obtain ⟨Zc,h1,h2,h3,h4⟩:=lO bs vs st ms h;rw [oS hb];refine ⟨Zc,h1,h2,fun j hj=>?_,fun j hj=>fe.2 (.inr (h4 j hj))⟩;rcases fe.1 hj with e|e
   · rw [hb] at e;cases e
   · exact h3 j e
  | some i=>
   by_cases hm:st.mark i=true
   · obtain ⟨Zc,h1,h2,h3,h4⟩:=lO bs vs st ms h;rw [rF hb hm];refine ⟨Zc,h1,h2,fun j hj=>?_,fun j hj=>fe.2 (.inr (h4 j hj))⟩;rcases fe.1 hj with e|e
     · rw [hb] at e;obtain rfl:=Option.some.inj e;exact List.mem_append_left _ ((h.mrk i).1 hm)
     · exact h3 j e
   · have Eb:st.mark i=false:=by simpa using hm
     have hi:i ∉ ms:=fun h'=>hm ((h.mrk i).2 h')
     have e:cK bs (v :: vs) st=cK bs vs ⟨fun k=>decide (k=i) || st.mark k,st.all+((bs.getD i []).length+1),st.wt++ [bs.getD i []]⟩:=by
      rw [cK,hb];simp [Eb]
     have h':zS bs ⟨fun k=>decide (k=i) || st.mark k,st.all+((bs.getD i []).length+1),st.wt++ [bs.getD i []]⟩ (ms++ [i]):=by
      refine ⟨?_,fun j=>?_,?_⟩
      · rw [List.nodup_append];exact ⟨h.nd,Q6,fun a ha b hb=>by rw [List.mem_singleton.1 hb];exact fun e=>hi (e▸ha)⟩
      · simp only [Bool.or_eq_true,decide_eq_true_eq,List.mem_append,List.mem_singleton];rw [h.mrk j];exact ⟨fun x=>x.elim .inr .inl,fun x=>x.elim .inr .inl⟩
      · show st.all+_=_
        rw [qR,h.all];simp [jR,A5]
     obtain ⟨Zc,h1,h2,h3,h4⟩:=lO bs vs _ _ h';rw [e];refine ⟨i :: Zc,?_,?_,fun j hj=>?_,fun j hj=>?_⟩
     · rw [List.append_assoc] at h1;exact h1
     · rw [h2];simp
     · rcases fe.1 hj with e|e
       · rw [hb] at e;obtain rfl:=Option.some.inj e;simp
       · have:=h3 j e;rw [List.append_assoc] at this;exact this
     · rcases List.mem_cons.1 hj with rfl|hj
       · exact fe.2 (.inl hb)
       · exact fe.2 (.inr (h4 j hj))
structure oM(bs roots:List (List PV))(st:pT)(ms:List Nat):Prop where
 inv:zS bs st ms
 clo:∀j∈ms,bs.getD j []∈st.wt\/∀i,bt (bs.getD j []) i->i∈ms
 rts:∀r∈roots,r∈st.wt\/∀i,bt r i->i∈ms
 snd:∀C:Nat->Prop,(∀r∈roots,∀i,bt r i->C i)->(∀j,C j->∀i,bt (bs.getD j []) i->C i)->(∀j∈ms,C j)/\∀r∈st.wt,∀i,bt r i->C i
theorem oM.step{bs roots:List (List PV)}{st:pT}{ms:List Nat}{wt:List (List PV)}{r:List PV}(h:oM bs roots st ms)(hw:st.wt=wt++ [r]):∃Zc,oM bs roots (cK bs r ⟨st.mark,st.all,wt⟩) (ms++Zc)/\(cK bs r ⟨st.mark,st.all,wt⟩).wt.length=wt.length+Zc.length:=by
 obtain ⟨Zc,h1,h2,h3,h4⟩:=lO bs r ⟨st.mark,st.all,wt⟩ ms ⟨h.inv.nd,h.inv.mrk,h.inv.all⟩;have keep:∀x:List PV,(x∈st.wt\/∀i,bt x i->i∈ms)->x∈(cK bs r ⟨st.mark,st.all,wt⟩).wt\/∀i,bt x i->i∈ms++Zc:=fun x hx=>by
  rcases hx with hx|hx
  · rw [hw] at hx;rcases List.mem_append.1 hx with hx|hx
    · exact .inl (by rw [h2];exact List.mem_append_left _ hx)
    · rw [List.mem_singleton.1 hx];exact .inr h3
  · exact .inr fun i hi=>List.mem_append_left _ (hx i hi)
 refine ⟨Zc,⟨h1,fun j hj=>?_,fun x hx=>keep x (h.rts x hx),fun C c1 c2=>?_⟩,by rw [h2];simp⟩
 · rcases List.mem_append.1 hj with hj|hj
   · exact keep _ (h.clo j hj)
   · exact .inl (by rw [h2];exact List.mem_append_right _ (List.mem_map.2 ⟨j,hj,rfl⟩))
 · obtain ⟨a1,a2⟩:=h.snd C c1 c2;have hr:∀i,bt r i->C i:=a2 r (by rw [hw];simp);have hm:∀j∈Zc,C j:=fun j hj=>hr j (h4 j hj)
   refine ⟨fun j hj=>(List.mem_append.1 hj).elim (a1 j) (hm j),fun x hx=>?_⟩;rw [h2] at hx;rcases List.mem_append.1 hx with hx|hx
   · exact a2 x (by rw [hw];exact List.mem_append_left _ hx)
   · obtain ⟨j,hj,rfl⟩:=List.mem_map.1 hx;exact c2 j (hm j hj)
theorem nT{bs roots:List (List PV)}(hr:∀r∈roots,∀i,bt r i->i < bs.length)(hb:∀j,j < bs.length->∀i,bt (bs.getD j []) i->i < bs.length):∀(n:Nat) (st:pT) (ms:List Nat),oM bs roots st ms->st.wt.length+bs.length<=n+ms.length->∃Zc,oM bs roots (fV bs n st) Zc/\(fV bs n st).wt= []
 | 0,st,ms,h,hn=>by
  have:=xL h.inv.nd (h.snd (fun j=>j < bs.length) hr hb).1
  exact ⟨ms,h,List.eq_nil_of_length_eq_zero (by show st.wt.length=0;omega)⟩
 | n+1,st,ms,h,hn=>by
  rcases List.eq_nil_or_concat st.wt with e|⟨wt,r,e⟩
  · rw [nF e];exact ⟨ms,h,e⟩
  · rw [List.concat_eq_append] at e;obtain ⟨Zc,h1,h2⟩:=h.step e;rw [mC e];refine nT hr hb n _ _ h1 ?_;rw [h2,List.length_append];rw [e,List.length_append] at hn;simp only [List.length_cons,List.length_nil] at hn;omega
theorem kH{L:List ch}{bs:List (List PV)}(hr:∀r∈cA L,∀i,bt r i->i < bs.length)(hb:∀j,j < bs.length->∀i,bt (bs.getD j []) i->i < bs.length):∃ms:List Nat,ms.Nodup/\cq L bs=jR bs ms/\(∀r∈cA L,∀i,bt r i->i∈ms)/\(∀j∈ms,∀i,bt (bs.getD j []) i->i∈ms)/\(∀j∈ms,j < bs.length)/\∀C:Nat->Prop,(∀r∈cA L,∀i,bt r i->C i)->(∀j,C j->∀i,bt (bs.getD j []) i->C i)->∀j∈ms,C j:=by
 have h0:oM bs (cA L) ⟨fun _=>false,0,cA L⟩ []:=⟨⟨Q6,fun j=>by simp,rfl⟩,fun j hj=>by simp at hj,fun r hr=>.inl hr,fun C c1 c2=>⟨fun j hj=>by simp at hj,c1⟩⟩;obtain ⟨ms,h,hw⟩:=nT hr hb (bs.length+(cA L).length+1) _ _ h0 (by show (cA L).length+bs.length<=_;omega);refine ⟨ms,h.inv.nd,h.inv.all,fun r hr=>?_,fun j hj=>?_,(h.snd (fun j=>j < bs.length) hr hb).1,fun C c1 c2=>(h.snd C c1 c2).1⟩
 · rcases h.rts r hr with e|e
   · rw [hw] at e;cases e
   · exact e
 · rcases h.clo j hj with e|e
   · rw [hw] at e;cases e
   · exact e
theorem mm{L L':List ch}{bs Y_:List (List PV)}(N:List Nat)(hr:∀r∈cA L,∀i,bt r i->i < bs.length)(hb:∀j,j < bs.length->∀i,bt (bs.getD j []) i->i < bs.length)(hr':∀r∈cA L',∀i,bt r i->i < Y_.length)(Er:∀j,j < Y_.length->∀i,bt (Y_.getD j []) i->i < Y_.length)
 (hz:∀j,j < bs.length->A5 Y_ j=A5 bs j)
 (h:∀D:Nat->Prop,(∀r∈cA L,∀i,bt r i->D i)->(∀j,D j->∀i,bt (bs.getD j []) i->D i)->(∀r∈cA L',∀i,bt r i->D i\/i∈N)/\(∀j,D j->∀i,bt (Y_.getD j []) i->D i\/i∈N)/\∀j∈N,∀i,bt (Y_.getD j []) i->D i\/i∈N):cq L' Y_<=cq L bs+jR Y_ N:=by
 obtain ⟨ms,n1,e1,r1,c1,l1,_⟩:=kH hr hb;obtain ⟨Zc,n2,e2,_,_,_,s2⟩:=kH hr' Er;obtain ⟨a1,a2,a3⟩:=h (fun j=>j∈ms) r1 c1;have hs:=s2 (fun j=>j∈ms\/j∈N) a1 (fun j hj=>hj.elim (a2 j) (a3 j));have h1:jR Y_ Zc<=jR Y_ (ms++N):=pM n2 (fun j hj=>List.mem_append.2 (hs j hj));have h2:jR Y_ ms=jR bs ms:=by
  unfold jR;congr 1
  exact List.map_congr_left fun j hj=>hz j (l1 j hj)
 rw [e1,e2];rw [qR,h2] at h1;exact h1
theorem fJ.in_{σ ks:List Int}{vs:List PV}(h:fJ σ ks vs){i:Nat}(hi:bt vs i):i < σ.length:=by
 obtain ⟨v,hv,e⟩:=hi;obtain ⟨p,hp,rfl⟩:=List.mem_iff_getElem.1 hv;have hk:p < ks.length:=by rw [h.1];exact hp
 exact (List.getElem?_eq_some_iff.1 (h.2 p _ _ (List.getElem?_eq_getElem hk) (List.getElem?_eq_getElem hp) i e).2).1
theorem tR{σ:List Int}{u:aK}{Ts:Nat->Nat->Option (List Int)}:∀{l:List ch} {c:Nat},kE u Ts σ c l->∀r∈cA l,∀i,bt r i->i < σ.length
 | [],_,_,r,hr,_,_=>by simp [cA] at hr
 | x :: l,c,h,r,hr,i,hi=>by
  obtain ⟨⟨f,i0,g,s,_,_,_,_,_,_,h7,h8,_⟩,h2⟩:=h;rw [cA] at hr;rcases List.mem_append.1 hr with hr|hr
  · exact tR h2 r hr i hi
  · rcases List.mem_cons.1 hr with rfl|hr
    · exact h7.in_ hi
    · rw [List.mem_singleton.1 hr] at hi;exact h8.in_ hi
theorem oD.in_{σ:List Int}{u:aK}{Ts:Nat->Nat->Option (List Int)}{m:PM}(h:oD u Ts σ m):(∀r∈cA (m.top :: m.low),∀i,bt r i->i < m.blks.length)/\∀j,j < m.blks.length->∀i,bt (m.blks.getD j []) i->i < m.blks.length:=by
 rw [<-h.aA];constructor
 · intro r hr i hi;obtain ⟨f,s,_,_,h3,h4,_⟩:=h.top.fn;rw [cA] at hr;rcases List.mem_append.1 hr with hr|hr
   · exact tR h.low r hr i hi
   · rcases List.mem_cons.1 hr with rfl|hr
     · exact h3.in_ hi
     · rw [List.mem_singleton.1 hr] at hi;exact h4.in_ hi
 · intro j hj i hi;have hj':j < m.blks.length:=by rw [<-h.aA];exact hj
   obtain ⟨s,_,_,h3⟩:=h.blks j _ _ (List.getElem?_eq_getElem hj) (List.getElem?_eq_getElem hj');rw [List.getD_eq_getElem?_getD,List.getElem?_eq_getElem hj'] at hi;exact h3.in_ hi
end Go.Proofs.YtkgncijcnlfhiabGreat
