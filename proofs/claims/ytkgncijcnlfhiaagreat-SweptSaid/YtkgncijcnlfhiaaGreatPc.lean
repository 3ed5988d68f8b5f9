import Derived.Test.YtkgncijcnlfhiaaGreatPa
namespace Go.Proofs.YtkgncijcnlfhiaaGreat
set_option linter.unusedVariables false
set_option linter.unusedSimpArgs false
open Go.RowKit
def eP:List aw:= [o1 0 0,o1 3 0,o1 2 0,o1 12 13,o1 2 0,o1 2 0,o1 2 0,o1 15 1,o1 3 1,o1 2 0,o1 1 (-1),o1 6 0,o1 11 14,o1 11 16,o1 3 0,o1 11 2,o1 2 1,⟨16,1,2⟩,o1 14 0]
def bQ(n:Int):aK:=⟨[[0,0,0]],[n],[⟨[],0,[0,1],eP⟩],[],[mI]⟩
theorem qN(n:Int):bw [bQ n]=.inl (bQ n):=by kernel_rfl
theorem tx(n:Int):aa (bQ n)=(0,0,0):=by kernel_rfl
theorem mO(n:Int)(f h:Nat):dH f h (bQ n)=b7 (bQ n) h f 0 (fR 0 ⟨[],0,[0,1],eP⟩):=by kernel_rfl
def km(n j:Nat):List PV:= [⟨(n:Int) - j,none⟩,⟨(n:Int) - j,none⟩,⟨(n:Int) - j,none⟩]
def di(n k:Nat):List (List PV):=(List.range k).map (km n)
theorem mH(n k:Nat):(di n k).length=k:=by simp [di]
theorem pF(n k:Nat):di n (k+1)=di n k++ [km n k]:=by simp [di,List.range_succ]
theorem nJ(n:Nat){k j:Nat}(h:j < k):(di n k)[j]? =some (km n j):=by simp [di,h]
theorem ov(n:Nat){k j:Nat}(h:j < k):(di n k).getD j []=km n j:=by rw [List.getD_eq_getElem?_getD,nJ n h];rfl
def xK:Nat→Nat
 | 0=>0
 | 1=>4
 | _+2=>8
def yO(n k:Nat):PM:=⟨⟨0,2,[⟨(k:Int),none⟩,⟨0,ko (n - k)⟩],[]⟩,[],di n (n - k),xK (n - k),[]⟩
theorem re(n:Nat)(h m:Nat):b7 (bQ n) h (m+2) 0 (fR 0 ⟨[],0,[0,1],eP⟩)=b7 (bQ n) h m 2 ⟨⟨0,2,[⟨(n:Int),none⟩,i_],[]⟩,[],[],0,[]⟩:=by kernel_rfl
theorem nT(n:Int)(h m s:Nat)(a b:PV)(bs:List (List PV))(tk:Nat):b7 (bQ n) h (m+1) s ⟨⟨0,2,[a,b],[]⟩,[],bs,tk,[]⟩=b7 (bQ n) h m (s+1) ⟨⟨0,3,[a,b],[a]⟩,[],bs,tk,[]⟩:=by kernel_rfl
theorem nd(n:Int)(h:Nat)(a b:PV)(bs:List (List PV))(tk:Nat):dI (bQ n) h ⟨⟨0,3,[a,b],[a]⟩,[],bs,tk,[]⟩=if a.num=0 then .go ⟨⟨0,13,[a,b],[]⟩,[],bs,tk,[]⟩ else .go ⟨⟨0,4,[a,b],[]⟩,[],bs,tk,[]⟩:=by kernel_rfl
theorem ni(n:Int)(h m s:Nat)(a b:PV)(bs:List (List PV))(tk:Nat):b7 (bQ n) h (m+3) s ⟨⟨0,4,[a,b],[]⟩,[],bs,tk,[]⟩=b7 (bQ n) h m (s+3) ⟨⟨0,7,[a,b],[a,a,a]⟩,[],bs,tk,[]⟩:=by kernel_rfl
theorem vm(n:Int)(h:Nat)(a b:PV)(bs:List (List PV))(tk:Nat):dI (bQ n) h ⟨⟨0,7,[a,b],[a,a,a]⟩,[],bs,tk,[]⟩=if dD h 3 [⟨0,7,[a,b],[a,a,a]⟩] bs tk+4≤h then .go ⟨⟨0,8,[a,b],[⟨0,some bs.length⟩]⟩,[],bs++ [[a,a,a]],dD h 3 [⟨0,7,[a,b],[a,a,a]⟩] bs tk+4,[]⟩ else .stop 8 0 ⟨⟨0,7,[a,b],[a,a,a]⟩,[],bs,tk,[]⟩:=by kernel_rfl
theorem sG(n:Int)(h m s:Nat)(a b v:PV)(bs:List (List PV))(tk:Nat):b7 (bQ n) h (m+7) s ⟨⟨0,8,[a,b],[v]⟩,[],bs,tk,[]⟩=b7 (bQ n) h m (s+7) ⟨⟨0,2,[⟨wrap64 (a.num+-1),none⟩,v],[]⟩,[],bs,tk,[]⟩:=by kernel_rfl
theorem zg(n:Int)(h m s:Nat)(a:PV)(x:Int)(j:Nat)(bs:List (List PV))(tk:Nat):b7 (bQ n) h (m+4) s ⟨⟨0,13,[a,⟨x,some j⟩],[]⟩,[],bs,tk,[]⟩=⟨6,0,0,0,((bs.getD j []).getD 2 i_).num,[],((s+4:Nat):Int)⟩:=by kernel_rfl
theorem qB(n t:Nat)(a:PV)(ha:a.blk=none):ch [⟨0,7,[a,⟨0,some t⟩],[a,a,a]⟩] (di n (t+1))=4:=by
 unfold ch;rw [mH];show (cK (di n (t+1)) (t+1+2+1) ⟨fun _=>false,0,[[a,⟨0,some t⟩],[a,a,a]]⟩).all=4
 rw [iJ,dB ha,dB ha,dB ha];show (cK (di n (t+1)) (t+2+1) ⟨fun _=>false,0,[[a,⟨0,some t⟩]]⟩).all=4
 rw [iD,dB ha,lu (st:=⟨fun _=>false,0,[]⟩) (j:=t) (fs:=km n t) rfl rfl (nJ n (by omega))];show (cK (di n (t+1)) (t+1+1) ⟨fun k=>decide (k=t) || false,4,[km n t]⟩).all=4
 rw [iD];show (cK (di n (t+1)) (t+1) ⟨fun k=>decide (k=t) || false,4,[]⟩).all=4
 rw [jX rfl]
theorem xJ{n k m s:Nat}(hk:k < n)(hn:n≤4000):b7 (bQ n) 8 (m+13) s (yO n (k+1))=b7 (bQ n) 8 m (s+13) (yO n k):=by
 have e1:n - k=(n - (k+1))+1:=by omega
 have hr:dD 8 3 [⟨0,7,[⟨((k+1:Nat):Int),none⟩,⟨0,ko (n - (k+1))⟩],[⟨((k+1:Nat):Int),none⟩,⟨((k+1:Nat):Int),none⟩,⟨((k+1:Nat):Int),none⟩]⟩] (di n (n - (k+1))) (xK (n - (k+1)))+4=xK (n - k):=by
  rw [e1];generalize n - (k+1)=t;unfold dD;match t with
  | 0=>rfl
  | 1=>rfl
  | t+2=>
   rw [if_pos (by show 8+_ > 8;omega)];show ch [⟨0,7,[_,⟨0,some (t+1)⟩],_⟩] _+4=8
   rw [qB n (t+1) _ rfl]
 have hle:xK (n - k)≤8:=by
  generalize n - k=t;match t with
  | 0=>show 0≤8;omega
  | 1=>show 4≤8;omega
  | t+2=>show 8≤8;omega
 unfold yO;rw [show m+13=(m+12)+1 by omega,nT,show m+12=(m+11)+1 by omega,eZ (nd _ _ _ _ _ _ |>.trans (if_neg (by show ¬((k+1:Nat):Int)=0;omega))),show m+11=(m+8)+3 by omega,ni,show m+8=(m+7)+1 by omega,eZ (vm _ _ _ _ _ _ |>.trans (if_pos (by rw [hr];exact hle))),sG,hr];have e2:wrap64 (((k+1:Nat):Int)+-1)=(k:Int):=by rw [mF (by omega) (by omega)];omega
 rw [e2,mH,e1,pF];have e3:km n (n - (k+1))= [⟨((k+1:Nat):Int),none⟩,⟨((k+1:Nat):Int),none⟩,⟨((k+1:Nat):Int),none⟩]:=by
  unfold km;rw [show (n:Int) - ((n - (k+1):Nat):Int)=((k+1:Nat):Int) by omega]
 rw [e3];rfl
theorem yy{n:Nat}(hn:n≤4000)(k:Nat):∀(j m s:Nat),j+k=n→b7 (bQ n) 8 (m+13 * j) s (yO n n)=b7 (bQ n) 8 m (s+13 * j) (yO n k):=by
 intro j
 induction j generalizing k with
 | zero=>
  intro m s e;have:k=n:=by omega
  subst this;rfl
 | succ j ih=>
  intro m s e;rw [show m+13 * (j+1)=(m+13)+13 * j by omega,ih (k+1) (m+13) s (by omega),xJ (by omega) hn];congr 1
theorem th(n:Nat):(⟨⟨0,2,[⟨(n:Int),none⟩,i_],[]⟩,[],[],0,[]⟩:PM)=yO n n:=by
 unfold yO;rw [Nat.sub_self];rfl
theorem sj{n:Nat}(hn:n≤4000)(h0:1≤n):∃st,dH 200000 8 (bQ n)=⟨6,0,0,0,1,[],st⟩:=by
 rw [mO];obtain ⟨m,hm⟩:∃m,200000=((((m+4)+1)+1)+13 * n)+2:=⟨200000 - (4+1+1+13 * n+2),by omega⟩;obtain ⟨t,rfl⟩:∃t,n=t+1:=⟨n - 1,by omega⟩;rw [hm,re,th,yy hn 0 (t+1) _ _ (by omega)];unfold yO;rw [nT,eZ (nd _ _ _ _ _ _ |>.trans (if_pos rfl)),Nat.sub_zero];refine ⟨((2+13 * (t+1)+1+1+4:Nat):Int),?_⟩;show b7 (bQ _) 8 (m+4) _ ⟨⟨0,13,[_,⟨0,some t⟩],[]⟩,[],di (t+1) (t+1),_,[]⟩=_
 rw [zg,ov (t+1) (show t < t+1 by omega)];show (⟨6,0,0,0,((t+1:Nat):Int) - t,[],_⟩:i4)=_
 rw [show ((t+1:Nat):Int) - t=1 by omega]
theorem rQ{n h:Nat}(hn:n≤4000)(h2:2≤n)(hh:4≤h)(hh':h < 8):dH 200000 h (bQ n)=⟨8,0,0,0,0,[],21⟩:=by
 rw [mO];have hc:∀(k:Nat) (_:k≤4000),wrap64 (((k+1:Nat):Int)+-1)=(k:Int):=fun k hk=>by rw [mF (by omega) (by omega)];omega
 obtain ⟨t,rfl⟩:∃t,n=t+1+1:=⟨n - 2,by omega⟩;rw [show (200000:Nat)=((((((((199979+1)+3)+1)+1)+7)+1)+3)+1)+1+2 by rfl,re,nT,eZ (nd _ _ _ _ _ _ |>.trans (if_neg (by show ¬((t+1+1:Nat):Int)=0;omega))),ni];have r1:dD h 3 [⟨0,7,[⟨((t+1+1:Nat):Int),none⟩,i_],[⟨((t+1+1:Nat):Int),none⟩,⟨((t+1+1:Nat):Int),none⟩,⟨((t+1+1:Nat):Int),none⟩]⟩] [] 0=0:=by
  unfold dD;rw [if_neg (by omega)]
 rw [eZ (vm _ _ _ _ _ _ |>.trans (if_pos (by rw [r1];omega))),sG,r1];show b7 (bQ _) h _ _ ⟨⟨0,2,[⟨wrap64 (((t+1+1:Nat):Int)+-1),none⟩,⟨0,some 0⟩],[]⟩,[],di (t+1+1) 1,4,[]⟩=_
 rw [hc (t+1) (by omega),nT,eZ (nd _ _ _ _ _ _ |>.trans (if_neg (by show ¬((t+1:Nat):Int)=0;omega))),ni];have r2:dD h 3 [⟨0,7,[⟨((t+1:Nat):Int),none⟩,⟨0,some 0⟩],[⟨((t+1:Nat):Int),none⟩,⟨((t+1:Nat):Int),none⟩,⟨((t+1:Nat):Int),none⟩]⟩] (di (t+1+1) 1) 4=4:=by
  unfold dD;rw [if_pos (by omega),qB (t+1+1) 0 _ rfl]
 rw [eo (vm _ _ _ _ _ _ |>.trans (if_neg (by rw [r2];omega)))];rfl
end Go.Proofs.YtkgncijcnlfhiaaGreat
