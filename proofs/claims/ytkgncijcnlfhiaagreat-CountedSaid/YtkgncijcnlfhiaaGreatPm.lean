import Derived.Test.YtkgncijcnlfhiaaGreatPf
namespace Go.Proofs.YtkgncijcnlfhiaaGreat
set_option linter.unusedVariables false
set_option linter.unusedSimpArgs false
open Go.RowKit
inductive BI(K:List Int):List aw→List Int→Prop
 | nil:BI K [] []
 | put {P:List aw} {S:List Int} {x:Int} (i:Nat) (h:BI K P S) (hs:S.length < 20) (hx:K[i]? =some x):BI K (P++ [o1 0 i]) (S++ [x])
 | lit {P:List aw} {S:List Int} (h:BI K P S) (hs:S.length < 20):BI K (P++ [o1 1 (-5)]) (S++ [-5])
 | two {P:List aw} {S:List Int} {x y:Int} (o:Int) (h:BI K P (S++ [x,y])) (h6:6≤o) (h10:o≤10):BI K (P++ [o1 o 0]) (S++ [gh o x y])
theorem BI.more{K:List Int}{P:List aw}{S:List Int}(h:BI K P S)(z:Int):BI (K++ [z]) P S:=by
 induction h with
 | nil=>exact .nil
 | put i h hs hx ih=>exact .put i ih hs (by rw [List.getElem?_append_left (List.getElem?_eq_some_iff.1 hx).1];exact hx)
 | lit h hs ih=>exact .lit ih hs
 | two o h h6 h10 ih=>exact .two o ih h6 h10
theorem BI.short{K:List Int}{P:List aw}{S:List Int}(h:BI K P S):S.length≤20:=by
 induction h with
 | nil=>simp
 | put i h hs hx ih=>simp;omega
 | lit h hs ih=>simp;omega
 | two o h h6 h10 ih=>simp at ih ⊢;omega
def BT(F:List aw):aO:=⟨[],0,[],F⟩
def A6(K:List Int)(F:List aw):aK:=⟨[],K,[BT F],[],[mI]⟩
def Bn(S:List Int):List PV:=S.map fun x=>⟨x,none⟩
theorem BS(a b:List Int):Bn (a++b)=Bn a++Bn b:=by simp [Bn]
def BH(n:Nat)(S:List Int)(told:List Int):PM:=⟨⟨0,n,[],Bn S⟩,[],[],0,told⟩
theorem C1(a:List PV)(x y:PV):(a++ [x,y]).getD ((a++ [x,y]).length - 1) i_=y:=by simp [List.getD_eq_getElem?_getD]
theorem C7(a:List PV)(x y:PV):(a++ [x,y]).getD ((a++ [x,y]).length - 2) i_=x:=by simp [List.getD_eq_getElem?_getD]
theorem DB(a:List PV)(x y:PV):(a++ [x,y]).take ((a++ [x,y]).length - 2)=a:=by simp
theorem C6{K:List Int}{F:List aw}{n:Nat}{S told:List Int}{x:Int}{i hp:Nat}(hx:K[i]? =some x):fP (A6 K F) hp (BH n S told) (o1 0 i)=.go (BH (n+1) (S++ [x]) told):=by
 have e:fP (A6 K F) hp (BH n S told) (o1 0 i)=.go ⟨⟨0,n+1,[],Bn S++ [⟨K.getD i 0,none⟩]⟩,[],[],0,told⟩:=by rfl
 rw [e,List.getD_eq_getElem?_getD,hx];unfold BH;rw [BS];rfl
theorem C5{K:List Int}{F:List aw}{n:Nat}{S told:List Int}{hp:Nat}:fP (A6 K F) hp (BH n S told) (o1 1 (-5))=.go (BH (n+1) (S++ [-5]) told):=by
 have e:fP (A6 K F) hp (BH n S told) (o1 1 (-5))=.go ⟨⟨0,n+1,[],Bn S++ [⟨-5,none⟩]⟩,[],[],0,told⟩:=by rfl
 rw [e];unfold BH;rw [BS];rfl
theorem C0{K:List Int}{F:List aw}{n:Nat}{S told:List Int}{x y o:Int}{hp:Nat}(h6:6≤o)(h10:o≤10):fP (A6 K F) hp (BH n (S++ [x,y]) told) (o1 o 0)=.go (BH (n+1) (S++ [gh o x y]) told):=by
 have e:∀s:List PV,fP (A6 K F) hp ⟨⟨0,n,[],s⟩,[],[],0,told⟩ (o1 o 0)=.go ⟨⟨0,n+1,[],s.take (s.length - 2)++ [⟨gh o (s.getD (s.length - 2) i_).num (s.getD (s.length - 1) i_).num,none⟩]⟩,[],[],0,told⟩:=fun s=>by
  have:o=6∨o=7∨o=8∨o=9∨o=10:=by omega
  rcases this with rfl|rfl|rfl|rfl|rfl<;>rfl
 unfold BH;rw [BS,BS,e];have e1:=C7 (Bn S) ⟨x,none⟩ ⟨y,none⟩;have e2:=C1 (Bn S) ⟨x,none⟩ ⟨y,none⟩;have e3:=DB (Bn S) ⟨x,none⟩ ⟨y,none⟩;have hS:Bn [x,y]= [(⟨x,none⟩:PV),⟨y,none⟩]:=rfl;rw [hS];rw [e1,e2,e3];rfl
theorem Bg{K:List Int}{F:List aw}{n hp:Nat}{S told:List Int}{i:aw}(hi:F[n]? =some i):dI (A6 K F) hp (BH n S told)=fP (A6 K F) hp (BH n S told) i:=by
 have e:oa (A6 K F) (BH n S told).top=some i:=hi;rw [dI,e]
theorem BI.next{K:List Int}{P:List aw}{S S':List Int}{i:aw}(ih:∀(R:List aw) (hp m s:Nat),b7 (A6 K (P++R)) hp (m+P.length) s (BH 0 [] [])=b7 (A6 K (P++R)) hp m (s+P.length) (BH P.length S []))(hi:∀F hp,fP (A6 K F) hp (BH P.length S []) i=.go (BH (P.length+1) S' [])):
 ∀(R:List aw) (hp m s:Nat),b7 (A6 K (P++ [i]++R)) hp (m+(P++ [i]).length) s (BH 0 [] [])=b7 (A6 K (P++ [i]++R)) hp m (s+(P++ [i]).length) (BH (P++ [i]).length S' []):=by
 intro R hp m s;have e:=ih ([i]++R) hp (m+1) s;rw [List.length_append,List.append_assoc,show m+(P.length+ [i].length)=m+1+P.length by simp;omega,e];have h1:(P++([i]++R))[P.length]? =some i:=by simp
 rw [eZ ((Bg h1).trans (hi _ _))];simp [Nat.add_assoc]
theorem BI.run{K:List Int}{P:List aw}{S:List Int}(h:BI K P S):∀(R:List aw) (hp m s:Nat),b7 (A6 K (P++R)) hp (m+P.length) s (BH 0 [] [])=b7 (A6 K (P++R)) hp m (s+P.length) (BH P.length S []):=by
 induction h with
 | nil=>intro R hp m s;rfl
 | put i h hs hx ih=>exact BI.next ih fun F hp=>C6 hx
 | lit h hs ih=>exact BI.next ih fun F hp=>C5
 | two o h h6 h10 ih=>exact BI.next ih fun F hp=>C0 h6 h10
def A4(P:List aw):List aw:=P++ [o1 5 0,o1 20 0,o1 14 0]
theorem BL(P:List aw):(A4 P).length=P.length+3:=by simp [A4]
theorem BI.end_{K:List Int}{P:List aw}{v:Int}(h:BI K P [v])(hp m s:Nat):b7 (A6 K (A4 P)) hp (m+2+P.length) s (BH 0 [] [])=b7 (A6 K (A4 P)) hp m (s+P.length+2) (BH (P.length+2) [v] [v]):=by
 have e:=h.run [o1 5 0,o1 20 0,o1 14 0] hp (m+2) s;have h1:(A4 P)[P.length]? =some (o1 5 0):=by simp [A4]
 have h2:(A4 P)[P.length+1]? =some (o1 20 0):=by simp [A4]
 unfold A4 at h1 h2 ⊢;rw [e,eZ (m':=BH (P.length+1) [v,v] []) (Bg h1 |>.trans (by kernel_rfl)),eZ (m':=BH (P.length+2) [v] [v]) (Bg h2 |>.trans (by kernel_rfl))]
theorem BI.full{K:List Int}{P:List aw}{v:Int}(h:BI K P [v]):dH (A4 P).length 0 (A6 K (A4 P))=⟨6,0,0,0,v,[v],((A4 P).length:Int)⟩:=by
 have e0:dH (A4 P).length 0 (A6 K (A4 P))=b7 (A6 K (A4 P)) 0 (A4 P).length 0 (BH 0 [] []):=by kernel_rfl
 rw [e0,BL,show P.length+3=1+2+P.length by omega,h.end_ 0 1 0];have h3:(A4 P)[P.length+2]? =some (o1 14 0):=by simp [A4]
 rw [eo (m':=BH (P.length+2) [v] [v]) (why:=6) (res:=v) (Bg h3 |>.trans (by kernel_rfl))];have:((0+P.length+2+1:Nat):Int)=((1+2+P.length:Nat):Int):=by omega
 rw [this];rfl
theorem BI.less{K:List Int}{P:List aw}{v:Int}(h:BI K P [v]):dH ((A4 P).length - 1) 0 (A6 K (A4 P))=⟨7,0,0,0,0,[v],(((A4 P).length - 1:Nat):Int)⟩:=by
 have e0:dH ((A4 P).length - 1) 0 (A6 K (A4 P))=b7 (A6 K (A4 P)) 0 ((A4 P).length - 1) 0 (BH 0 [] []):=by kernel_rfl
 rw [e0,BL,show P.length+3 - 1=0+2+P.length by omega,h.end_ 0 0 0];have:((0+P.length+2:Nat):Int)=((0+2+P.length:Nat):Int):=by omega
 rw [tX,this];rfl
def zs(n:Nat):List Int:=List.replicate n 0
structure Cx(u:aK)(f:aO)(P:List aw)(n:Nat)(d:Nat→Nat):Prop where
 zero:d 0=0
 last:d P.length=n
 step:∀q i,P[q]? =some i→(i.op≠11∧i.op≠12∧i.op≠14)∧gE u f i (zs (d q))=some (zs (d (q+1)))
theorem Cx.snoc{u:aK}{f:aO}{P:List aw}{n k:Nat}{i:aw}(h:∃d,Cx u f P n d)(h1:i.op≠11∧i.op≠12∧i.op≠14)(h2:gE u f i (zs n)=some (zs k)):∃d,Cx u f (P++ [i]) k d:=by
 obtain ⟨d,h⟩:=h;refine ⟨fun q=>if q≤P.length then d q else k,?_,?_,?_⟩
 · show (if 0≤P.length then d 0 else k)=0
   rw [if_pos (Nat.zero_le _)];exact h.zero
 · show (if (P++ [i]).length≤P.length then _ else k)=k
   rw [if_neg (by simp)]
 · intro q j hj;have hq:q < (P++ [i]).length:=(List.getElem?_eq_some_iff.1 hj).1;rw [List.length_append] at hq;simp only [List.length_cons,List.length_nil] at hq;by_cases c:q < P.length
   · rw [List.getElem?_append_left c] at hj;rw [if_pos (by omega),if_pos (by omega)];exact h.step q j hj
   · have e:q=P.length:=by omega
     subst e;have:j=i:=by simpa using hj.symm
     subst this;rw [if_pos (Nat.le_refl _),if_neg (by omega),h.last];exact ⟨h1,h2⟩
theorem Ce{u:aK}{f:aO}{n i:Nat}(hi:i < u.aD.length)(hn:n < 20):gE u f (o1 0 i) (zs n)=some (zs (n+1)):=by
 have e:dJ u f (o1 0 i)=some ([],[0]):=by
  have e:dJ u f (o1 0 i)=if (i:Int) < (u.aD.length:Int) then some ([],[0]) else none:=by rfl
  rw [e,if_pos (by omega)]
 unfold gE;rw [e];simp [zs,iN,o1,List.replicate_succ']
 omega
theorem Cq{u:aK}{f:aO}{n:Nat}{a:Int}(hn:n < 20):gE u f (o1 1 a) (zs n)=some (zs (n+1)):=by
 have e:dJ u f (o1 1 a)=some ([],[0]):=by
  rfl
 unfold gE;rw [e];simp [zs,iN,o1,List.replicate_succ']
 omega
theorem DO(n k:Nat):(zs (n+k)).drop ((zs (n+k)).length - k)=zs k:=by simp [zs]
theorem DP(n k:Nat):(zs (n+k)).take ((zs (n+k)).length - k)=zs n:=by simp [zs]
theorem Ck{u:aK}{f:aO}{n:Nat}{o:Int}(h6:6≤o)(h10:o≤10)(hn:n+1≤20):gE u f (o1 o 0) (zs (n+2))=some (zs (n+1)):=by
 have e:dJ u f (o1 o 0)=some ([0,0],[0]):=by
  have:o=6∨o=7∨o=8∨o=9∨o=10:=by omega
  rcases this with rfl|rfl|rfl|rfl|rfl<;>rfl
 unfold gE;rw [e];dsimp only
 rw [if_neg (by simp [zs])];have e1:(zs (n+2)).drop ((zs (n+2)).length - [(0:Int),0].length)= [0,0]:=DO n 2;have e2:(zs (n+2)).take ((zs (n+2)).length - [(0:Int),0].length)=zs n:=DP n 2;rw [e1,e2,if_neg (by decide),if_pos]
 · simp [zs,List.replicate_succ']
 · simp [zs,o1];omega
theorem Cj{u:aK}{f:aO}:gE u f (o1 5 0) (zs 1)=some (zs 2):=by kernel_rfl
theorem Co{u:aK}{f:aO}:gE u f (o1 20 0) (zs 2)=some (zs 1):=by kernel_rfl
theorem Cf{u:aK}{F:List aw}:gE u (BT F) (o1 14 0) (zs 1)=some []:=by kernel_rfl
theorem BI.dep{K:List Int}{P:List aw}{S:List Int}(h:BI K P S)(F:List aw):∃d,Cx (A6 K F) (BT F) P S.length d:=by
 induction h with
 | nil=>exact ⟨fun _=>0,rfl,rfl,fun q i hq=>by simp at hq⟩
 | put i h hs hx ih=>
  refine Cx.snoc ih (by simp [o1]) ?_;rw [List.length_append];exact Ce (List.getElem?_eq_some_iff.1 hx).1 hs
 | lit h hs ih=>
  refine Cx.snoc ih (by simp [o1]) ?_;rw [List.length_append];exact Cq hs
 | two o h h6 h10 ih=>
  have hl:=h.short;rw [List.length_append] at ih hl;refine Cx.snoc ih (by simp only [o1];omega) ?_;rw [List.length_append];exact Ck h6 h10 (by simp at hl;omega)
theorem CO{n:Nat}{st:Nat→Option (List Int)}{dn:Nat→Bool}(h:∀j,j < n→dn j=true):gl n st dn=none:=by
 unfold gl;rw [List.find?_eq_none];intro j hj;rw [h j (List.mem_range.1 hj)];simp
theorem Bp{u:aK}{f:aO}{P:List aw}{r:aw}{n:Nat}{d:Nat→Nat}{s1:List Int}(hf:f.code=P++ [r])(hr:r.op=14)(hd:Cx u f P n d)(h1:gE u f r (zs n)=some s1):∀(k q:Nat) (st:Nat→Option (List Int)) (dn:Nat→Bool),q≤P.length→st q=some (zs (d q))→(∀j,q < j→st j=none)→(∀j,dn j=decide (j < q))→iO u f k st dn=none:=by
 have hl:f.code.length=P.length+1:=by rw [hf];simp
 intro k
 induction k with
 | zero=>intro q st dn _ _ _ _;rfl
 | succ k ih=>
  intro q st dn hq hs hn hdn;have e:gl f.code.length st dn=some q:=by
   rw [lC];refine ⟨by omega,by rw [hs,hdn];simp,fun j hj=>?_⟩;rw [hdn j,decide_eq_true hj];simp
  rw [iO,e];by_cases c:q < P.length
  · have hc:f.code[q]? =some P[q]:=by rw [hf,List.getElem?_append_left c];exact List.getElem?_eq_getElem c
    obtain ⟨⟨a1,a2,a3⟩,h2⟩:=hd.step q _ (List.getElem?_eq_getElem c);have e2:eA f q P[q]= [some (q+1)]:=by
     unfold eA;dsimp only
     rw [if_neg a1,if_neg a3,if_neg a2,if_pos (by omega)]
    dsimp only
    rw [hc,hs];dsimp only
    rw [h2];dsimp only
    rw [e2,bz,hn (q+1) (by omega)];dsimp only
    rw [bz];dsimp only
    refine ih (q+1) _ _ (by omega) (by rw [if_pos rfl]) (fun j hj=>by rw [if_neg (by omega)];exact hn j (by omega)) (fun j=>?_);rw [hdn j];by_cases c1:j=q
    · subst c1;simp
    · by_cases c2:j < q
      · simp [c2];omega
      · simp [c1,c2];omega
  · have eq:q=P.length:=by omega
    subst eq;have hc:f.code[P.length]? =some r:=by rw [hf];simp
    have e2:eA f P.length r= []:=by
     unfold eA;dsimp only
     rw [if_neg (by omega),if_pos hr]
    rw [hd.last] at hs;dsimp only
    rw [hc,hs];dsimp only
    rw [h1];dsimp only
    rw [e2,bz];dsimp only
    cases k with
    | zero=>rfl
    | succ k=>
     rw [iO,CO];intro j hj;rw [hdn j];by_cases c1:j=P.length
     · simp [c1]
     · have:j < P.length:=by omega
       simp [this]
theorem BI.wrong{K:List Int}{P:List aw}{v:Int}(h:BI K P [v]):et (A6 K (A4 P)) (BT (A4 P))=none:=by
 have d0:=h.dep (A4 P);have d1:=Cx.snoc (i:=o1 5 0) d0 (by simp [o1]) Cj;have d2:=Cx.snoc (i:=o1 20 0) d1 (by simp [o1]) Co;obtain ⟨d,hd⟩:=d2;unfold et;exact Bp (r:=o1 14 0) (by simp [A4,BT]) rfl hd Cf _ 0 _ _ (Nat.zero_le _) (by rw [hd.zero];rfl) (fun j hj=>if_neg (by omega)) (fun j=>by simp)
theorem BI.ins{K:List Int}{P:List aw}{S:List Int}(h:BI K P S)(hK:K.length≤50):(∀i∈P,bH i=true)∧∀(N:List UInt8→Int) (F:List aw),P.map (rJ N (A6 K F) 0 0)=P:=by
 induction h with
 | nil=>exact ⟨fun i hi=>by simp at hi,fun N F=>rfl⟩
 | put i h hs hx ih=>
  have hl:=(List.getElem?_eq_some_iff.1 hx).1;refine ⟨fun j hj=>?_,fun N F=>?_⟩
  · rcases List.mem_append.1 hj with hj|hj
    · exact ih.1 j hj
    · obtain rfl:j=o1 0 i:=by simpa using hj
      simp [bH,o1,wB,a9,ah];omega
  · rw [List.map_append,ih.2 N F];congr 1
    simp only [List.map_cons,List.map_nil,rJ,o1,A6,if_true];rw [if_pos (by omega)];simp
 | lit h hs ih=>
  refine ⟨fun j hj=>?_,fun N F=>?_⟩
  · rcases List.mem_append.1 hj with hj|hj
    · exact ih.1 j hj
    · obtain rfl:j=o1 1 (-5):=by simpa using hj
      decide
  · rw [List.map_append,ih.2 N F];rfl
 | two o h h6 h10 ih=>
  refine ⟨fun j hj=>?_,fun N F=>?_⟩
  · rcases List.mem_append.1 hj with hj|hj
    · exact ih.1 j hj
    · obtain rfl:j=o1 o 0:=by simpa using hj
      have:o=6∨o=7∨o=8∨o=9∨o=10:=by omega
      rcases this with rfl|rfl|rfl|rfl|rfl<;>decide
  · rw [List.map_append,ih.2 N F];congr 1
    simp only [List.map_cons,List.map_nil,rJ,o1];rw [if_neg (by omega),if_neg (by omega)]
theorem BI.ok{K:List Int}{P:List aw}{v:Int}(h:BI K P [v])(hK:K.length≤50)(hP:P.length≤57):ak (A6 K (A4 P))=true:=by
 have ha:(A4 P).all bH=true:=by
  rw [List.all_eq_true];intro i hi;unfold A4 at hi;rcases List.mem_append.1 hi with hi|hi
  · exact (h.ins hK).1 i hi
  · have:i=o1 5 0∨i=o1 20 0∨i=o1 14 0:=by simpa using hi
    rcases this with rfl|rfl|rfl<;>decide
 have hc:gI (A4 P)=true:=by
  unfold gI;rw [ha,BL];simp [wB];omega
 have hk:dE K=true:=by simp [dE,wB];omega
 have hf:c_ 0 (BT (A4 P))=true:=by
  unfold c_ BT;dsimp only
  rw [hc];rfl
 have hfs:cL [BT (A4 P)] 0=true:=by
  unfold cL;simp only [List.all_cons,List.all_nil,hf];rfl
 unfold ak A6;dsimp only
 have e:(([]:List (List Int)).length:Int)=0:=rfl;rw [hk,e,hfs];rfl
theorem BI.ver{K:List Int}{P:List aw}{v:Int}(h:BI K P [v])(hK:K.length≤50)(hP:P.length≤57):aa (A6 K (A4 P))=(0,0,0):=by
 unfold aa;rw [if_pos (h.ok hK hP)];show fU (A6 K (A4 P)) 0 [BT (A4 P)]=_
 rw [fU,h.wrong];rfl
theorem BI.link{K:List Int}{P:List aw}{v:Int}(h:BI K P [v])(hK:K.length≤50)(hP:P.length≤57):bw [A6 K (A4 P)]=.inl (A6 K (A4 P)):=by
 have ho:=h.ok hK hP;unfold bw;dsimp only
 rw [if_neg (by simp)];have e1:dg (fun u=>!ak u) 0 [A6 K (A4 P)]=none:=by
  rw [iw];intro u hu;obtain rfl:u=_:=by simpa using hu
  simp [ho]
 have e2:dg (fun u=>!decide (u.aA=(A6 K (A4 P)).aA)) 0 [A6 K (A4 P)]=none:=by
  rw [iw];intro u hu;obtain rfl:u=_:=by simpa using hu
  simp
 have e3:iY [] 0 [A6 K (A4 P)]=none:=by rfl
 rw [e1];dsimp only;rw [e2];dsimp only;rw [e3];dsimp only;have e4:∀p:fQ→Bool,dg (fun u=>u.aB.any p) 0 [A6 K (A4 P)]=none:=fun p=>by
  rw [iw];intro u hu;obtain rfl:u=_:=by simpa using hu
  rfl
 rw [e4];dsimp only;rw [e4];dsimp only;have e5:∀N,A8 N 0 0 [A6 K (A4 P)]=(K,[BT (A4 P)],[mI]):=fun N=>by
  have hm:(A4 P).map (rJ N (A6 K (A4 P)) 0 0)=A4 P:=by
   have:=(h.ins hK).2 N (A4 P)
   unfold A4 at this ⊢;rw [List.map_append,this];rfl
  unfold A8 A8;simp only [List.append_nil];show (K,[oG N (A6 K (A4 P)) 0 0 (BT (A4 P))],[mI])=_
  unfold oG BT;dsimp only
  rw [show (A4 P).map (rJ N (A6 K (A4 P)) 0 0)=A4 P from hm]
 rw [e5];dsimp only
 rw [if_neg (by simp;omega)];rfl
theorem BI.wrt{K:List Int}{P:List aw}{v:Int}(h:BI K P [v])(hK:K.length≤50)(hP:P.length≤57)(hF:∀x∈K,-9223372036854775808≤x∧x≤9223372036854775807):qH (A6 K (A4 P)):=
 rS (h.ok hK hP) hF (by simp [A6]) (fun f hf=>by
  obtain rfl:f=BT (A4 P):=by simpa [A6] using hf
  show (A4 P).length≤60
  rw [BL];omega) (by simp [A6]) (fun i hi=>by simp [A6] at hi) (by simp [A6]) (fun e he=>by
  obtain rfl:e=mI:=by simpa [A6] using he
  decide)
end Go.Proofs.YtkgncijcnlfhiaaGreat
