import Derived.Test.YtkgncijcnlfhiabGreatUb
import Derived.Test.YtkgncijcnlfhiabGreatMa
namespace Go.Proofs.YtkgncijcnlfhiabGreat
set_option linter.unusedVariables false
set_option linter.unusedSimpArgs false
theorem qX{u:aK}{Ts:Nat->Nat->Option (List Int)}{q:Nat}{f:aO}(h:oD u Ts [] (eY q f)):bR (eY q f)<=(eY q f).taken:=by
 obtain ⟨ms,_,e,_,_,hl,_⟩:=kH h.in_.1 h.in_.2;have hm:ms= []:=by
  cases ms with
  | nil=>rfl
  | cons x t=>exact absurd (hl x List.mem_cons_self) (Nat.not_lt_zero x)
 subst hm;show cq ((eY q f).top :: (eY q f).low) (eY q f).blks<=0
 rw [e];exact Nat.le_refl _
def fB(us:List aK)(f h:Nat):i9:=li (gL f h) (us.map enc) (f:Int) (h:Int)
theorem pU{us:List aK}(hw:∀u∈us,sS u){f h:Nat}(hf:f<=200000)(hh:h<=5000):fB us f h=match cR us with
 | .inr (e,k)=>⟨3,(k:Int),0,e,0,[],0⟩
 | .inl u=>if (aY u).1≠0 then ⟨4,((aY u).2.1:Int),((aY u).2.2:Int),(aY u).1,0,[],0⟩ else gL f h u:=by
 unfold fB li;rw [if_neg Q5,sS.all hw 0];rfl
theorem yR{u:aK}(h:¬(aY u).1≠0):aY u=(0,0,0):=by
 have h:(aY u).1=0:=Q5
 unfold aY at h |-;split at h
 · rename_i hu
   rw [if_pos hu];have key:∀(l:List aO) (k:Nat),(eU u k l).1=0->eU u k l=(0,0,0):=by
    intro l
    induction l with
    | nil=>intro k _;rfl
    | cons f l ih=>
     intro k hk;rw [eU] at hk |-;cases hx:e9 u f with
     | some q=>rw [hx] at hk;cases hk
     | none=>rw [hx] at hk;exact ih (k+1) hk
   exact key _ _ h
 · cases h
theorem xZ{us:List aK}(hw:∀u∈us,sS u):(∃out:i9,3<=out.why/\out.why<=5/\out.steps=0/\out.told= []/\∀f h,f<=200000->h<=5000->fB us f h=out)\/∃(u:aK) (Ts:Nat->Nat->Option (List Int)) (m:PM),rZ u/\u.aB= []/\(∀n f,u.aE[n]? =some f->tf u f (Ts n))/\oD u Ts [] m/\bR m<=m.taken/\∀f h,f<=200000->h<=5000->fB us f h=eD u h f 0 m:=by
 cases hl:cR us with
 | inr r=>
  obtain ⟨e,k⟩:=r;exact .inl ⟨⟨3,(k:Int),0,e,0,[],0⟩,by show (3:Int)<=3;omega,by show (3:Int)<=5;omega,rfl,rfl,fun f h hf hh=>by rw [pU hw hf hh,hl]⟩
 | inl u=>
  by_cases hv:(aY u).1≠0
  · exact .inl ⟨⟨4,((aY u).2.1:Int),((aY u).2.2:Int),(aY u).1,0,[],0⟩,by show (3:Int)<=4;omega,by show (4:Int)<=5;omega,rfl,rfl,fun f h hf hh=>by rw [pU hw hf hh,hl];exact if_pos hv⟩
  · have Ch:=yR hv;have he:∀f h,f<=200000->h<=5000->fB us f h=gL f h u:=fun f h hf hh=>by rw [pU hw hf hh,hl];exact if_neg hv
    cases hm:jf u with
    | none=>exact .inl ⟨⟨5,0,0,0,0,[],0⟩,by show (3:Int)<=5;omega,by show (5:Int)<=5;omega,rfl,rfl,fun f h hf hh=>by rw [he f h hf hh,gL,hm]⟩
    | some q=>
     obtain ⟨g,hg,hp,hr⟩:=mt hm;have N2:=rZ.of (pY Ch);obtain ⟨Ts,hT⟩:∃Ts:Nat->Nat->Option (List Int),∀n f,u.aE[n]? =some f->tf u f (Ts n):=by
      have h:=mN (pY Ch) Ch;refine ⟨fun n=>if hn:n < u.aE.length then (h u.aE[n] (List.getElem_mem hn)).choose else fun _=>none,fun n f hf=>?_⟩;obtain ⟨hn,rfl⟩:=List.getElem?_eq_some_iff.1 hf;simp only [hn,dif_pos];exact (h u.aE[n] (List.getElem_mem hn)).choose_spec
     have hs:=qL hT hg hp hr;exact .inr ⟨u,Ts,eY q g,N2,oV hl,hT,hs,qX hs,fun f h hf hh=>by rw [he f h hf hh,gL,hm];simp only [hg]⟩
theorem tG{us:List aK}(hw:∀u∈us,sS u){f h a b:Nat}(hf:f+a<=200000)(hh:h+b<=5000):(3<=(fB us f h).why/\(fB us f h).why<=5/\(fB us f h).steps=0/\(fB us f h).told= []/\fB us (f+a) (h+b)=fB us f h/\fB us (f / 2) h=fB us f h)\/(6<=(fB us f h).why/\(fB us f h).why<=10/\(fB us f h).steps<=(f:Int)/\((fB us f h).why=7->(fB us f h).steps=(f:Int))/\(fB us (f / 2) h).steps<=((f / 2:Nat):Int)/\((fB us f h).why≠7->(fB us f h).why≠8->fB us (f+a) (h+b)=fB us f h)/\(fB us (f / 2) h).told <+:(fB us f h).told):=by
 rcases xZ hw with ⟨out,h1,h2,h3,h4,h5⟩|⟨u,Ts,m,hu,P9,hT,hm,h0,he⟩
 · rw [h5 f h Q5 Q5,h5 (f+a) (h+b) hf hh,h5 (f / 2) h Q5 Q5];exact .inl ⟨h1,h2,h3,h4,rfl,rfl⟩
 · rw [he f h Q5 Q5,he (f+a) (h+b) hf hh,he (f / 2) h Q5 Q5];obtain ⟨_,a2,a3,a4,a5⟩:=jo (h:=h) hu P9 hT f 0 m [] hm h0;obtain ⟨_,b2,_,_,_⟩:=jo (h:=h) hu P9 hT (f / 2) 0 m [] hm h0;rw [Nat.zero_add] at a2 a3 b2;refine .inr ⟨a4,a5,a2,a3,b2,fun w7 w8=>?_,?_⟩
   · have e1:=ph hu P9 hT (Nat.le_add_right h b) f 0 m.taken m [] hm h0 w8;have e2:(⟨m.top,m.low,m.blks,m.taken,m.told⟩:PM)=m:=rfl;rw [e2] at e1;rw [qO f a 0 m (by rw [e1];exact w7),e1]
   · have:=qE (h:=h) hu P9 hT (f / 2) (f - f / 2) 0 m [] hm h0
     rw [show f / 2+(f - f / 2)=f by omega] at this;exact this
end Go.Proofs.YtkgncijcnlfhiabGreat
