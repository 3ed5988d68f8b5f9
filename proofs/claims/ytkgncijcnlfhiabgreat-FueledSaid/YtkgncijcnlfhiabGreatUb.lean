import Derived.Test.YtkgncijcnlfhiabGreatUa
namespace Go.Proofs.YtkgncijcnlfhiabGreat
set_option linter.unusedVariables false
set_option linter.unusedSimpArgs false
theorem dv{a b:List PV}{i:Nat}:bt (a++b) i↔bt a i\/bt b i:=by
 unfold bt;constructor
 · rintro ⟨v,hv,e⟩;exact (List.mem_append.1 hv).elim (fun h=>.inl ⟨v,h,e⟩) (fun h=>.inr ⟨v,h,e⟩)
 · rintro (⟨v,hv,e⟩|⟨v,hv,e⟩)
   · exact ⟨v,List.mem_append_left _ hv,e⟩
   · exact ⟨v,List.mem_append_right _ hv,e⟩
theorem dV{a:List PV}{n i:Nat}(h:bt (a.take n) i):bt a i:=by obtain ⟨v,hv,e⟩:=h;exact ⟨v,List.mem_of_mem_take hv,e⟩
theorem oJ{a:List PV}{n i:Nat}(h:bt (a.drop n) i):bt a i:=by obtain ⟨v,hv,e⟩:=h;exact ⟨v,List.mem_of_mem_drop hv,e⟩
theorem eL{v:PV}{i:Nat}:bt [v] i↔v.blk=some i:=by simp [bt]
theorem ff{a:List PV}{n i:Nat}(h:(a.getD n oQ).blk=some i):bt a i:=by
 rw [List.getD_eq_getElem?_getD] at h;cases hn:a[n]? with
 | none=>rw [hn] at h;cases h
 | some v=>rw [hn] at h;exact ⟨v,List.mem_of_getElem? hn,h⟩
theorem pi{a:List PV}{n i:Nat}{v:PV}(h:bt (a.set n v) i):bt a i\/v.blk=some i:=by
 obtain ⟨x,hx,e⟩:=h;rcases List.mem_or_eq_of_mem_set hx with hx|rfl
 · exact .inl ⟨x,hx,e⟩
 · exact .inr e
theorem vM{n i:Nat}:¬bt (fQ n) i:=by
 rintro ⟨v,hv,e⟩;rw [(List.mem_replicate.1 hv).2] at e;cases e
def B8(D:Nat->Prop)(x:ch)(low:List ch):Prop:=(∀r∈cA low,∀i,bt r i->D i)/\(∀i,bt x.slots i->D i)/\∀i,bt x.stack i->D i
theorem iG{D:Nat->Prop}{x:ch}{low:List ch}:(∀r∈cA (x :: low),∀i,bt r i->D i)↔B8 D x low:=by
 constructor
 · intro h;exact ⟨fun r hr=>h r (by rw [cA];exact List.mem_append_left _ hr),h _ (by rw [cA];simp),h _ (by rw [cA];simp)⟩
 · rintro ⟨h1,h2,h3⟩ r hr;rw [cA] at hr;rcases List.mem_append.1 hr with hr|hr
   · exact h1 r hr
   · rcases List.mem_cons.1 hr with rfl|hr
     · exact h2
     · rw [List.mem_singleton.1 hr];exact h3
section
variable {u:aK} {Ts:Nat->Nat->Option (List Int)} {σ σ':List Int} {m m':PM}
theorem bX(hm:oD u Ts σ m)(Eb:oD u Ts σ' m')(hb:m'.blks=m.blks)(ht:m'.taken=m.taken)(h0:bR m<=m.taken)(h:∀D:Nat->Prop,B8 D m.top m.low->(∀j,D j->∀i,bt (m.blks.getD j []) i->D i)->B8 D m'.top m'.low):bR m'<=m'.taken:=by
 have hle:cq (m'.top :: m'.low) m'.blks<=cq (m.top :: m.low) m.blks+jR m'.blks []:=by
  refine mm [] hm.in_.1 hm.in_.2 Eb.in_.1 Eb.in_.2 (fun j _=>by rw [hb]) (fun D d1 d2=>?_);refine ⟨fun r hr i hi=>.inl (iG.2 (h D (iG.1 d1) d2) r hr i hi),fun j hj i hi=>.inl (d2 j hj i (by rw [hb] at hi;exact hi)),fun j hj=>by simp at hj⟩
 rw [ht];exact Nat.le_trans hle h0
theorem qA{bs:List (List PV)}{j p:Nat}{r:List PV}:(bs.set j r).getD p []=if p=j/\j < bs.length then r else bs.getD p []:=by
 rw [List.getD_eq_getElem?_getD,List.getElem?_set];by_cases e:j=p
 · subst e;rw [if_pos rfl];by_cases c:j < bs.length
   · rw [if_pos c,if_pos ⟨rfl,c⟩];rfl
   · rw [if_neg c,if_neg (fun h=>c h.2),List.getD_eq_getElem?_getD,List.getElem?_eq_none Q5]
 · rw [if_neg e,if_neg (fun h=>e h.1.symm),List.getD_eq_getElem?_getD]
theorem kv{bs:List (List PV)}{p:Nat}{r:List PV}:(bs++ [r]).getD p []=if p=bs.length then r else bs.getD p []:=by
 rw [List.getD_eq_getElem?_getD,List.getD_eq_getElem?_getD];by_cases e:p=bs.length
 · rw [if_pos e,e];simp
 · rw [if_neg e];by_cases c:p < bs.length
   · rw [List.getElem?_append_left c]
   · rw [List.getElem?_eq_none gS,List.getElem?_eq_none Q5]
theorem kZ(heap:Nat)(hu:rZ u)(P9:u.aB= [])(hT:∀n f,u.aE[n]? =some f->tf u f (Ts n))(h:oD u Ts σ m)(h0:bR m<=m.taken)(hs:bh u heap m=.go m'):bR m'<=m'.taken/\m.told <+:m'.told:=by
 have N2:=ku heap hu P9 hT h;rw [hs] at N2;obtain ⟨σ',Eb,_⟩:=N2;obtain ⟨f,i,base,ts,ps,a,b,hh⟩:=pI hu P9 hT h.top;have Zm:kD u m.top=some i:=by unfold kD;rw [hh.func];exact hh.code
 unfold bh at hs;rw [Zm] at hs;clear hh Zm;dsimp only at hs
 unfold eB at hs;dsimp only [PM.on,ch.behind] at hs
 by_cases e0:i.op=0
 · rw [if_pos e0] at hs;obtain rfl:=fZ.go.inj hs;exact ⟨bX h Eb rfl rfl h0 fun D ⟨r1,r2,r3⟩ hc=>⟨r1,fun i hi=>r2 i hi,fun i hi=>(dv.1 hi).elim (r3 i) fun e=>by cases eL.1 e⟩,List.prefix_rfl⟩
 rw [if_neg e0] at hs;by_cases e1:i.op=1
 · rw [if_pos e1] at hs;obtain rfl:=fZ.go.inj hs;exact ⟨bX h Eb rfl rfl h0 fun D ⟨r1,r2,r3⟩ hc=>⟨r1,fun i hi=>r2 i hi,fun i hi=>(dv.1 hi).elim (r3 i) fun e=>by cases eL.1 e⟩,List.prefix_rfl⟩
 rw [if_neg e1] at hs;by_cases e2:i.op=2
 · rw [if_pos e2] at hs;obtain rfl:=fZ.go.inj hs;exact ⟨bX h Eb rfl rfl h0 fun D ⟨r1,r2,r3⟩ hc=>⟨r1,fun i hi=>r2 i hi,fun i hi=>(dv.1 hi).elim (r3 i) fun e=>r2 i (ff (eL.1 e))⟩,List.prefix_rfl⟩
 rw [if_neg e2] at hs;by_cases e3:i.op=3
 · rw [if_pos e3] at hs;obtain rfl:=fZ.go.inj hs;exact ⟨bX h Eb rfl rfl h0 fun D ⟨r1,r2,r3⟩ hc=>⟨r1,fun i hi=>(pi hi).elim (r2 i) fun e=>r3 i (ff e),fun i hi=>r3 i (dV hi)⟩,List.prefix_rfl⟩
 rw [if_neg e3] at hs;by_cases e4:i.op=4
 · rw [if_pos e4] at hs;obtain rfl:=fZ.go.inj hs;exact ⟨bX h Eb rfl rfl h0 fun D ⟨r1,r2,r3⟩ hc=>⟨r1,fun i hi=>r2 i hi,fun i hi=>r3 i (dV hi)⟩,List.prefix_rfl⟩
 rw [if_neg e4] at hs;by_cases e5:i.op=5
 · rw [if_pos e5] at hs;obtain rfl:=fZ.go.inj hs;exact ⟨bX h Eb rfl rfl h0 fun D ⟨r1,r2,r3⟩ hc=>⟨r1,fun i hi=>r2 i hi,fun i hi=>(dv.1 hi).elim (r3 i) fun e=>r3 i (ff (eL.1 e))⟩,List.prefix_rfl⟩
 rw [if_neg e5] at hs;by_cases YM:i.op=11
 · rw [if_pos YM] at hs;obtain rfl:=fZ.go.inj hs;exact ⟨bX h Eb rfl rfl h0 fun D ⟨r1,r2,r3⟩ hc=>⟨r1,fun i hi=>r2 i hi,fun i hi=>r3 i hi⟩,List.prefix_rfl⟩
 rw [if_neg YM] at hs;by_cases ZM:i.op=12
 · rw [if_pos ZM] at hs;split at hs
   · obtain rfl:=fZ.go.inj hs;exact ⟨bX h Eb rfl rfl h0 fun D ⟨r1,r2,r3⟩ hc=>⟨r1,fun i hi=>r2 i hi,fun i hi=>r3 i (dV hi)⟩,List.prefix_rfl⟩
   · obtain rfl:=fZ.go.inj hs;exact ⟨bX h Eb rfl rfl h0 fun D ⟨r1,r2,r3⟩ hc=>⟨r1,fun i hi=>r2 i hi,fun i hi=>r3 i (dV hi)⟩,List.prefix_rfl⟩
 rw [if_neg ZM] at hs;by_cases DN:i.op=13
 · rw [if_pos DN] at hs;split at hs
   · cases hs
   · split at hs
     · cases hs
     · obtain rfl:=fZ.go.inj hs;refine ⟨bX h Eb rfl rfl h0 fun D ⟨r1,r2,r3⟩ hc=>⟨iG.2 ⟨r1,r2,fun i hi=>r3 i (dV hi)⟩,fun i hi=>(dv.1 hi).elim (fun e=>r3 i (oJ e)) fun e=>absurd e vM,fun i hi=>absurd hi pj⟩,List.prefix_rfl⟩
 rw [if_neg DN] at hs;by_cases EN:i.op=14
 · rw [if_pos EN] at hs;split at hs
   · cases hs
   · next y l hl=>
     obtain rfl:=fZ.go.inj hs;refine ⟨bX h Eb rfl rfl h0 fun D ⟨r1,r2,r3⟩ hc=>?_,List.prefix_rfl⟩;rw [hl] at r1;obtain ⟨s1,s2,s3⟩:=iG.1 r1;exact ⟨s1,s2,fun i hi=>(dv.1 hi).elim (s3 i) fun e=>r3 i (ff (eL.1 e))⟩
 rw [if_neg EN] at hs;by_cases e15:i.op=15
 · rw [if_pos e15] at hs;generalize (u.aA.getD (i.a - 1).toNat []).length=k at hs;have Rp:bR m<=(if m.taken+(k+1) > heap then bR m else m.taken):=by split<;>omega
   generalize (if m.taken+(k+1) > heap then bR m else m.taken)=tk at hs Rp;by_cases hk:tk+(k+1)<=heap
   · rw [if_pos hk] at hs;obtain rfl:=fZ.go.inj hs;refine ⟨?_,List.prefix_rfl⟩;have hle:=mm (L:=m.top :: m.low) (bs:=m.blks) [m.blks.length] h.in_.1 h.in_.2 Eb.in_.1 Eb.in_.2 (fun j hj=>by
      show ((m.blks++ [_]).getD j []).length+1=_
      rw [kv,if_neg Q5];rfl) (fun D d1 d2=>by
      obtain ⟨r1,r2,r3⟩:=iG.1 d1;have T1:∀i,bt (m.top.stack.drop (m.top.stack.length - k)) i->D i:=fun i hi=>r3 i (oJ hi)
      refine ⟨iG.2 ⟨fun r hr i hi=>.inl (r1 r hr i hi),fun i hi=>.inl (r2 i hi),fun i hi=>?_⟩,fun j hj i hi=>?_,fun j hj i hi=>?_⟩
      · rcases dv.1 hi with e|e
        · exact .inl (r3 i (dV e))
        · exact .inr (List.mem_singleton.2 (Option.some.inj (eL.1 e)).symm)
      · have P8:bt ((m.blks++ [m.top.stack.drop (m.top.stack.length - k)]).getD j []) i:=hi;rw [kv] at P8;split at P8
        · exact .inl (T1 i P8)
        · exact .inl (d2 j hj i P8)
      · have P8:bt ((m.blks++ [m.top.stack.drop (m.top.stack.length - k)]).getD j []) i:=hi;rw [List.mem_singleton.1 hj,kv,if_pos rfl] at P8;exact .inl (T1 i P8))
     have R0:jR (m.blks++ [m.top.stack.drop (m.top.stack.length - k)]) [m.blks.length]<=k+1:=by
      unfold jR A5;simp only [List.map_cons,List.map_nil,List.sum_cons,List.sum_nil];rw [kv,if_pos rfl,List.length_drop];omega
     refine Nat.le_trans hle ?_;show bR m+jR (m.blks++ [m.top.stack.drop (m.top.stack.length - k)]) [m.blks.length]<=tk+(k+1)
     omega
   · rw [if_neg hk] at hs;cases hs
 rw [if_neg e15] at hs;by_cases FN:i.op=16
 · rw [if_pos FN] at hs;split at hs
   · cases hs
   · next j hj=>
     obtain rfl:=fZ.go.inj hs;exact ⟨bX h Eb rfl rfl h0 fun D ⟨r1,r2,r3⟩ hc=>⟨r1,r2,fun i hi=>(dv.1 hi).elim (fun e=>r3 i (dV e)) fun e=>hc j (r3 j (ff hj)) i (ff (eL.1 e))⟩,List.prefix_rfl⟩
 rw [if_neg FN] at hs;by_cases GN:i.op=17
 · rw [if_pos GN] at hs;split at hs
   · cases hs
   · next j hj=>
     obtain rfl:=fZ.go.inj hs;refine ⟨?_,List.prefix_rfl⟩;have hle:=mm (L:=m.top :: m.low) (bs:=m.blks) [] h.in_.1 h.in_.2 Eb.in_.1 Eb.in_.2 (fun p hp=>by
      show ((m.blks.set j _).getD p []).length+1=(m.blks.getD p []).length+1
      rw [qA];split
      · next e=>rw [e.1,List.length_set]
      · rfl) (fun D d1 d2=>by
      obtain ⟨r1,r2,r3⟩:=iG.1 d1;refine ⟨iG.2 ⟨fun r hr i hi=>.inl (r1 r hr i hi),fun i hi=>.inl (r2 i hi),fun i hi=>.inl (r3 i (dV hi))⟩,fun p hp q hq=>?_,fun p hp=>by simp at hp⟩;have Xj:bt ((m.blks.set j ((m.blks.getD j []).set i.b.toNat (m.top.stack.getD (m.top.stack.length - 1) oQ))).getD p []) q:=hq;rw [qA] at Xj;split at Xj
      · next e=>
        rw [e.1] at hp;rcases pi Xj with e2|e2
        · exact .inl (d2 j hp q e2)
        · exact .inl (r3 q (ff e2))
      · exact .inl (d2 p hp q Xj))
     exact Nat.le_trans hle h0
 rw [if_neg GN] at hs;by_cases JN:i.op=18
 · rw [if_pos JN] at hs;obtain rfl:=fZ.go.inj hs;exact ⟨bX h Eb rfl rfl h0 fun D ⟨r1,r2,r3⟩ hc=>⟨r1,fun i hi=>r2 i hi,fun i hi=>(dv.1 hi).elim (r3 i) fun e=>by cases eL.1 e⟩,List.prefix_rfl⟩
 rw [if_neg JN] at hs;by_cases KN:i.op=19
 · rw [if_pos KN] at hs;obtain rfl:=fZ.go.inj hs;exact ⟨bX h Eb rfl rfl h0 fun D ⟨r1,r2,r3⟩ hc=>⟨r1,fun i hi=>r2 i hi,fun i hi=>(dv.1 hi).elim (fun e=>r3 i (dV e)) fun e=>by cases eL.1 e⟩,List.prefix_rfl⟩
 rw [if_neg KN] at hs;by_cases LN:i.op=20
 · rw [if_pos LN] at hs;obtain rfl:=fZ.go.inj hs;refine ⟨bX h Eb rfl rfl h0 fun D ⟨r1,r2,r3⟩ hc=>⟨r1,r2,fun i hi=>r3 i (dV hi)⟩,?_⟩;show m.told <+:if m.told.length < 1000 then _ else m.told
   split
   · exact List.prefix_append _ _
   · exact List.prefix_rfl
 rw [if_neg LN] at hs;obtain rfl:=fZ.go.inj hs;exact ⟨bX h Eb rfl rfl h0 fun D ⟨r1,r2,r3⟩ hc=>⟨r1,fun i hi=>r2 i hi,fun i hi=>(dv.1 hi).elim (fun e=>r3 i (dV e)) fun e=>by cases eL.1 e⟩,List.prefix_rfl⟩
def fZ.tk(t:Nat):fZ->fZ
 | .go m=>.go ⟨m.top,m.low,m.blks,t,m.told⟩
 | .stop w r m=>.stop w r ⟨m.top,m.low,m.blks,t,m.told⟩
theorem Ao{h h' t:Nat}{i:aw}(hi:¬i.op=15):eB u h' ⟨m.top,m.low,m.blks,t,m.told⟩ i=(eB u h m i).tk t:=by
 unfold eB;dsimp only [PM.on,ch.behind]
 by_cases e0:i.op=0
 · simp only [if_pos e0];rfl
 simp only [if_neg e0];by_cases e1:i.op=1
 · simp only [if_pos e1];rfl
 simp only [if_neg e1];by_cases e2:i.op=2
 · simp only [if_pos e2];rfl
 simp only [if_neg e2];by_cases e3:i.op=3
 · simp only [if_pos e3];rfl
 simp only [if_neg e3];by_cases e4:i.op=4
 · simp only [if_pos e4];rfl
 simp only [if_neg e4];by_cases e5:i.op=5
 · simp only [if_pos e5];rfl
 simp only [if_neg e5];by_cases YM:i.op=11
 · simp only [if_pos YM];rfl
 simp only [if_neg YM];by_cases ZM:i.op=12
 · simp only [if_pos ZM];split<;>rfl
 simp only [if_neg ZM];by_cases DN:i.op=13
 · simp only [if_pos DN];split
   · rfl
   · split<;>rfl
 simp only [if_neg DN];by_cases EN:i.op=14
 · simp only [if_pos EN];split<;>rfl
 simp only [if_neg EN];simp only [if_neg hi];by_cases FN:i.op=16
 · simp only [if_pos FN];split<;>rfl
 simp only [if_neg FN];by_cases GN:i.op=17
 · simp only [if_pos GN];split<;>rfl
 simp only [if_neg GN];by_cases JN:i.op=18
 · simp only [if_pos JN];rfl
 simp only [if_neg JN];by_cases KN:i.op=19
 · simp only [if_pos KN];rfl
 simp only [if_neg KN];by_cases LN:i.op=20
 · simp only [if_pos LN];rfl
 simp only [if_neg LN];rfl
theorem tm{h:Nat}{i:aw}(hi:i.op=15):eB u h m i=(let k:=(u.aA.getD (i.a - 1).toNat []).length
 let tk:=if m.taken+(k+1) > h then bR m else m.taken
 if tk+(k+1)<=h then .go ⟨m.top.behind (m.top.stack.take (m.top.stack.length - k)++ [⟨0,some m.blks.length⟩]),m.low,m.blks++ [m.top.stack.drop (m.top.stack.length - k)],tk+(k+1),m.told⟩ else .stop 8 0 m):=by
 unfold eB;dsimp only
 rw [if_neg (show ¬i.op=0 by omega),if_neg (show ¬i.op=1 by omega),if_neg (show ¬i.op=2 by omega),if_neg (show ¬i.op=3 by omega),if_neg (show ¬i.op=4 by omega),if_neg (show ¬i.op=5 by omega),if_neg (show ¬i.op=11 by omega),if_neg (show ¬i.op=12 by omega),if_neg (show ¬i.op=13 by omega),if_neg (show ¬i.op=14 by omega),if_pos hi]
theorem oN{h h' t:Nat}(hh:h<=h')(h0:bR m<=m.taken):(∀m1,bh u h m=.go m1->∃t1,bh u h' ⟨m.top,m.low,m.blks,t,m.told⟩=.go ⟨m1.top,m1.low,m1.blks,t1,m1.told⟩)/\∀w r m1,bh u h m=.stop w r m1->w≠8->bh u h' ⟨m.top,m.low,m.blks,t,m.told⟩=.stop w r ⟨m1.top,m1.low,m1.blks,t,m1.told⟩:=by
 cases hi:kD u m.top with
 | none=>
  have e1:bh u h m=.stop 0 0 m:=by unfold bh;rw [hi]
  have e2:bh u h' ⟨m.top,m.low,m.blks,t,m.told⟩=.stop 0 0 ⟨m.top,m.low,m.blks,t,m.told⟩:=by
   unfold bh;rw [show kD u (PM.mk m.top m.low m.blks t m.told).top=none from hi]
  rw [e1,e2];refine ⟨fun m1 h1=>(by cases h1),fun w r m1 h1 _=>?_⟩;cases h1;rfl
 | some i=>
  have e1:bh u h m=eB u h m i:=by unfold bh;rw [hi]
  have e2:bh u h' ⟨m.top,m.low,m.blks,t,m.told⟩=eB u h' ⟨m.top,m.low,m.blks,t,m.told⟩ i:=by
   unfold bh;rw [show kD u (PM.mk m.top m.low m.blks t m.told).top=some i from hi]
  rw [e1,e2];clear e1 e2;by_cases c:i.op=15
  · rw [tm c,tm c];dsimp only
    have e1:bR ⟨m.top,m.low,m.blks,t,m.told⟩=bR m:=rfl;rw [e1];generalize (u.aA.getD (i.a - 1).toNat []).length=k;have hq:bR m<=(if m.taken+(k+1) > h then bR m else m.taken):=by split<;>omega
    generalize (if m.taken+(k+1) > h then bR m else m.taken)=q at hq |-;by_cases hk:q+(k+1)<=h
    · rw [if_pos hk];have Of:(if t+(k+1) > h' then bR m else t)+(k+1)<=h':=by split<;>omega
      rw [if_pos Of];refine ⟨fun m1 h1=>?_,fun w r m1 h1 _=>by cases h1⟩;obtain rfl:=fZ.go.inj h1;exact ⟨_,rfl⟩
    · rw [if_neg hk];refine ⟨fun m1 h1=>(by cases h1),fun w r m1 h1 hw=>?_⟩;injection h1 with h2 h3 h4
      exact absurd h2.symm hw
  · have e3:=Ao (u:=u) (m:=m) (h:=h) (h':=h') (t:=t) c;constructor
    · intro m1 h1;rw [e3,h1];exact ⟨t,rfl⟩
    · intro w r m1 h1 _;rw [e3,h1];rfl
theorem ph(hu:rZ u)(P9:u.aB= [])(hT:∀n f,u.aE[n]? =some f->tf u f (Ts n)){h h':Nat}(hh:h<=h'):∀(n s t:Nat) (m:PM) (σ:List Int),oD u Ts σ m->bR m<=m.taken->(eD u h n s m).why≠8->eD u h' n s ⟨m.top,m.low,m.blks,t,m.told⟩=eD u h n s m
 | 0,s,t,m,σ,hm,h0,hw=>rfl
 | n+1,s,t,m,σ,hm,h0,hw=>by
  cases hp:bh u h m with
  | go m1=>
   obtain ⟨t1,h1⟩:=(oN (t:=t) hh h0).1 m1 hp;have N2:=ku h hu P9 hT hm;rw [hp] at N2;obtain ⟨σ1,P5,_⟩:=N2;rw [iI hp] at hw |-;rw [iI h1];exact ph hu P9 hT hh n (s+1) t1 m1 σ1 P5 (kZ h hu P9 hT hm h0 hp).1 hw
  | stop w r m1=>
   rw [dI hp] at hw |-;rw [dI ((oN (t:=t) hh h0).2 w r m1 hp hw)]
theorem qO{h:Nat}:∀(n k s:Nat) (m:PM),(eD u h n s m).why≠7->eD u h (n+k) s m=eD u h n s m
 | 0,k,s,m,hw=>absurd rfl hw
 | n+1,k,s,m,hw=>by
  rw [show n+1+k=n+k+1 by omega];cases hp:bh u h m with
  | go m1=>rw [iI hp] at hw |-;rw [iI hp];exact qO n k (s+1) m1 hw
  | stop w r m1=>rw [dI hp,dI hp]
theorem jo(hu:rZ u)(P9:u.aB= [])(hT:∀n f,u.aE[n]? =some f->tf u f (Ts n)){h:Nat}:∀(n s:Nat) (m:PM) (σ:List Int),oD u Ts σ m->bR m<=m.taken->m.told <+:(eD u h n s m).told/\(eD u h n s m).steps<=((s+n:Nat):Int)/\((eD u h n s m).why=7->(eD u h n s m).steps=((s+n:Nat):Int))/\6<=(eD u h n s m).why/\(eD u h n s m).why<=10
 | 0,s,m,σ,hm,h0=>⟨List.prefix_rfl,Int.le_refl _,fun _=>rfl,by show (6:Int)<=7;omega,by show (7:Int)<=10;omega⟩
 | n+1,s,m,σ,hm,h0=>by
  have N2:=ku h hu P9 hT hm;cases hp:bh u h m with
  | go m1=>
   rw [hp] at N2;obtain ⟨σ1,P5,_⟩:=N2;obtain ⟨t1,t2⟩:=kZ h hu P9 hT hm h0 hp;rw [iI hp];obtain ⟨a1,a2,a3,a4,a5⟩:=jo hu P9 hT n (s+1) m1 σ1 P5 t1;rw [show s+(n+1)=s+1+n by omega];exact ⟨t2.trans a1,a2,a3,a4,a5⟩
  | stop w r m1=>
   rw [hp] at N2;obtain ⟨rfl,hw⟩:=N2;rw [dI hp];refine ⟨List.prefix_rfl,?_,fun e=>?_,?_,?_⟩
   · show ((s+1:Nat):Int)<=_;omega
   · have e:w=7:=e;omega
   · show (6:Int)<=w;omega
   · show w<=10;omega
theorem qE(hu:rZ u)(P9:u.aB= [])(hT:∀n f,u.aE[n]? =some f->tf u f (Ts n)){h:Nat}:∀(n k s:Nat) (m:PM) (σ:List Int),oD u Ts σ m->bR m<=m.taken->(eD u h n s m).told <+:(eD u h (n+k) s m).told
 | 0,k,s,m,σ,hm,h0=>by rw [Nat.zero_add];exact (jo hu P9 hT k s m σ hm h0).1
 | n+1,k,s,m,σ,hm,h0=>by
  rw [show n+1+k=n+k+1 by omega];cases hp:bh u h m with
  | go m1=>
   have N2:=ku h hu P9 hT hm;rw [hp] at N2;obtain ⟨σ1,P5,_⟩:=N2;rw [iI hp,iI hp];exact qE hu P9 hT n k (s+1) m1 σ1 P5 (kZ h hu P9 hT hm h0 hp).1
  | stop w r m1=>rw [dI hp,dI hp];exact List.prefix_rfl
end
end Go.Proofs.YtkgncijcnlfhiabGreat
