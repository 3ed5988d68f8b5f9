import Derived.Test.YtkgncijcnlfhiaaGreatMx
namespace Go.Proofs.YtkgncijcnlfhiaaGreat
set_option linter.unusedVariables false
set_option linter.unusedSimpArgs false
open Go.RowKit
def o1(o a:Int):aw:=⟨o,a,0⟩
def i8:List aw:= [o1 0 0,o1 3 0,o1 2 0,o1 12 13,o1 2 0,o1 2 1,o1 15 1,o1 3 1,o1 2 0,o1 1 (-1),o1 6 0,o1 3 0,o1 11 2,o1 2 1,o1 19 1,o1 12 18,o1 2 2,o1 14 0,o1 2 2,o1 2 1,⟨16,1,0⟩,o1 6 0,o1 3 2,o1 2 1,⟨16,1,1⟩,o1 3 1,o1 11 13]
def mI:du:=⟨[109,97,105,110],0⟩
def bV(n:Int):aK:=⟨[[0,1]],[n],[⟨[],0,[0,1,0],i8⟩],[],[mI]⟩
theorem s_(n:Int):bw [bV n]=.inl (bV n):=by kernel_rfl
theorem vN(n:Int):aa (bV n)=(0,0,0):=by kernel_rfl
theorem nK(n:Int)(f h:Nat):dH f h (bV n)=b7 (bV n) h f 0 (fR 0 ⟨[],0,[0,1,0],i8⟩):=by kernel_rfl
def ko:Nat→Option Nat
 | 0=>none
 | j+1=>some j
def kE(n j:Nat):List PV:= [⟨(n:Int) - j,none⟩,⟨0,ko j⟩]
def dG(n k:Nat):List (List PV):=(List.range k).map (kE n)
theorem mS(n k:Nat):(dG n k).length=k:=by simp [dG]
theorem ol(n k:Nat):dG n (k+1)=dG n k++ [kE n k]:=by simp [dG,List.range_succ]
theorem nG(n:Nat){k j:Nat}(h:j < k):(dG n k)[j]? =some (kE n j):=by simp [dG,h]
theorem qF(n:Nat){k j:Nat}(h:j < k):(dG n k).getD j []=kE n j:=by rw [List.getD_eq_getElem?_getD,nG n h];rfl
def jU(n k:Nat):PM:=⟨⟨0,2,[⟨(k:Int),none⟩,⟨0,ko (n - k)⟩,i_],[]⟩,[],dG n (n - k),3 * (n - k),[]⟩
theorem sF(n:Nat)(h m:Nat):b7 (bV n) h (m+2) 0 (fR 0 ⟨[],0,[0,1,0],i8⟩)=b7 (bV n) h m 2 ⟨⟨0,2,[⟨(n:Int),none⟩,i_,i_],[]⟩,[],[],0,[]⟩:=by kernel_rfl
theorem qw(n:Int)(h m s:Nat)(a b c:PV)(bs:List (List PV))(tk:Nat):b7 (bV n) h (m+1) s ⟨⟨0,2,[a,b,c],[]⟩,[],bs,tk,[]⟩=b7 (bV n) h m (s+1) ⟨⟨0,3,[a,b,c],[a]⟩,[],bs,tk,[]⟩:=by kernel_rfl
theorem rK(n:Int)(h:Nat)(a b c:PV)(bs:List (List PV))(tk:Nat):dI (bV n) h ⟨⟨0,3,[a,b,c],[a]⟩,[],bs,tk,[]⟩=if a.num=0 then .go ⟨⟨0,13,[a,b,c],[]⟩,[],bs,tk,[]⟩ else .go ⟨⟨0,4,[a,b,c],[]⟩,[],bs,tk,[]⟩:=by kernel_rfl
theorem yH(n:Int)(h m s:Nat)(a b c:PV)(bs:List (List PV))(tk:Nat):b7 (bV n) h (m+2) s ⟨⟨0,4,[a,b,c],[]⟩,[],bs,tk,[]⟩=b7 (bV n) h m (s+2) ⟨⟨0,6,[a,b,c],[a,b]⟩,[],bs,tk,[]⟩:=by kernel_rfl
theorem yD(n:Int)(h:Nat)(a b c:PV)(bs:List (List PV))(tk:Nat):dI (bV n) h ⟨⟨0,6,[a,b,c],[a,b]⟩,[],bs,tk,[]⟩=if dD h 2 [⟨0,6,[a,b,c],[a,b]⟩] bs tk+3≤h then .go ⟨⟨0,7,[a,b,c],[⟨0,some bs.length⟩]⟩,[],bs++ [[a,b]],dD h 2 [⟨0,6,[a,b,c],[a,b]⟩] bs tk+3,[]⟩ else .stop 8 0 ⟨⟨0,6,[a,b,c],[a,b]⟩,[],bs,tk,[]⟩:=by kernel_rfl
theorem z_(n:Int)(h m s:Nat)(a b c v:PV)(bs:List (List PV))(tk:Nat):b7 (bV n) h (m+6) s ⟨⟨0,7,[a,b,c],[v]⟩,[],bs,tk,[]⟩=b7 (bV n) h m (s+6) ⟨⟨0,2,[⟨wrap64 (a.num+-1),none⟩,v,c],[]⟩,[],bs,tk,[]⟩:=by kernel_rfl
theorem AC(n:Int)(h m s:Nat)(a c:PV)(x:Int)(bs:List (List PV))(tk:Nat):b7 (bV n) h (m+5) s ⟨⟨0,13,[a,⟨x,none⟩,c],[]⟩,[],bs,tk,[]⟩=⟨6,0,0,0,c.num,[],((s+5:Nat):Int)⟩:=by kernel_rfl
theorem zw(n:Int)(h m s:Nat)(a c:PV)(x:Int)(j:Nat)(bs:List (List PV))(tk:Nat):b7 (bV n) h (m+12) s ⟨⟨0,13,[a,⟨x,some j⟩,c],[]⟩,[],bs,tk,[]⟩=b7 (bV n) h m (s+12) ⟨⟨0,13,[a,(bs.getD j []).getD 1 i_,⟨wrap64 (c.num+((bs.getD j []).getD 0 i_).num),none⟩],[]⟩,[],bs,tk,[]⟩:=by kernel_rfl
theorem mF{n:Int}(h0:-9223372036854775808≤n)(h1:n≤9223372036854775807):wrap64 n=n:=by
 unfold wrap64;omega
theorem xQ{n k h m s:Nat}(hk:k < n)(hn:n≤400)(hh:3 * (n - k)≤h):b7 (bV n) h (m+11) s (jU n (k+1))=b7 (bV n) h m (s+11) (jU n k):=by
 have e1:n - k=(n - (k+1))+1:=by omega
 have hr:dD h 2 [⟨0,6,[⟨((k+1:Nat):Int),none⟩,⟨0,ko (n - (k+1))⟩,i_],[⟨((k+1:Nat):Int),none⟩,⟨0,ko (n - (k+1))⟩]⟩] (dG n (n - (k+1))) (3 * (n - (k+1)))=3 * (n - (k+1)):=by
  unfold dD;rw [if_neg (by omega)]
 unfold jU;rw [show m+11=(m+10)+1 by omega,qw,show m+10=(m+9)+1 by omega,eZ (rK _ _ _ _ _ _ _ |>.trans (if_neg (by show ¬((k+1:Nat):Int)=0;omega))),show m+9=(m+7)+2 by omega,yH,show m+7=(m+6)+1 by omega,eZ (yD _ _ _ _ _ _ _ |>.trans (if_pos (by rw [hr];omega))),z_,hr];have e2:wrap64 (((k+1:Nat):Int)+-1)=(k:Int):=by rw [mF (by omega) (by omega)];omega
 rw [e2,mS,e1,ol];have e3:kE n (n - (k+1))= [⟨((k+1:Nat):Int),none⟩,⟨0,ko (n - (k+1))⟩]:=by
  unfold kE;rw [show (n:Int) - ((n - (k+1):Nat):Int)=((k+1:Nat):Int) by omega]
 rw [e3];rfl
theorem uP{n h:Nat}(hn:n≤400)(k:Nat):∀(j m s:Nat),j+k=n→3 * (n - k)≤h→b7 (bV n) h (m+11 * j) s (jU n n)=b7 (bV n) h m (s+11 * j) (jU n k):=by
 intro j
 induction j generalizing k with
 | zero=>
  intro m s e _;have:k=n:=by omega
  subst this;rfl
 | succ j ih=>
  intro m s e hh;rw [show m+11 * (j+1)=(m+11)+11 * j by omega,ih (k+1) (m+11) s (by omega) (by omega),xQ (by omega) hn (by omega)];congr 1
def kY(n:Nat):Nat→Int
 | 0=>0
 | t+1=>kY n t+((n:Int) - t)
theorem oK(n:Nat):∀t,t≤n→0≤kY n t∧kY n t≤n * t
 | 0,_=>by simp [kY]
 | t+1,h=>by
  have ih:=oK n t (by omega);simp only [kY];constructor
  · omega
  · have:(n:Int) * ((t+1:Nat):Int)=n * t+n:=by push_cast;rw [Int.mul_add];omega
    omega
theorem rh(n:Nat):∀t,t≤n→2 * kY n t=t * (2 * n - t+1)
 | 0,_=>by simp [kY]
 | t+1,h=>by
  have ih:=rh n t (by omega);simp only [kY];rw [Int.mul_add,ih];push_cast
  simp only [Int.mul_add,Int.add_mul,Int.mul_sub,Int.one_mul,Int.mul_one];omega
theorem t_{n h k:Nat}(hn:n≤400)(hk:k≤n)(a:PV)(tk m:Nat):∀(t s:Nat) (S:Int),t≤k→0≤S→S+kY n t≤1000000→b7 (bV n) h (m+12 * t+5) s ⟨⟨0,13,[a,⟨0,ko t⟩,⟨S,none⟩],[]⟩,[],dG n k,tk,[]⟩=⟨6,0,0,0,S+kY n t,[],((s+12 * t+5:Nat):Int)⟩:=by
 intro t
 induction t with
 | zero=>
  intro s S _ _ _;show b7 (bV n) h (m+5) s ⟨⟨0,13,[a,⟨0,none⟩,⟨S,none⟩],[]⟩,[],dG n k,tk,[]⟩=_
  rw [AC];simp [kY]
 | succ t ih=>
  intro s S ht h0 h1;show b7 (bV n) h (m+12 * (t+1)+5) s ⟨⟨0,13,[a,⟨0,some t⟩,⟨S,none⟩],[]⟩,[],dG n k,tk,[]⟩=_
  have hb:=oK n t (by omega);simp only [kY] at h1 ⊢;rw [show m+12 * (t+1)+5=(m+12 * t+5)+12 by omega,zw,qF n (show t < k by omega)];have e1:(kE n t).getD 1 i_=⟨0,ko t⟩:=rfl;have e2:((kE n t).getD 0 i_).num=(n:Int) - t:=rfl;rw [e1,e2];have e3:wrap64 (S+((n:Int) - t))=S+((n:Int) - t):=mF (by omega) (by omega);show b7 (bV n) h (m+12 * t+5) (s+12) ⟨⟨0,13,[a,⟨0,ko t⟩,⟨wrap64 (S+((n:Int) - t)),none⟩],[]⟩,[],dG n k,tk,[]⟩=_
  rw [e3,ih (s+12) (S+((n:Int) - t)) (by omega) (by omega) (by omega)];congr 1<;>omega
theorem nC(n:Nat):(⟨⟨0,2,[⟨(n:Int),none⟩,i_,i_],[]⟩,[],[],0,[]⟩:PM)=jU n n:=by
 unfold jU;rw [Nat.sub_self];rfl
theorem qL{n h:Nat}(hn:n < 400)(hh:3 * n≤h):dH 200000 h (bV n)=⟨6,0,0,0,(n:Int) * (n+1) / 2,[],((2+11 * n+2+3+2+12 * n:Nat):Int)⟩:=by
 rw [nK];obtain ⟨m,hm⟩:∃m,200000=((((m+12 * n+5)+1)+1)+11 * n)+2:=⟨200000 - (12 * n+5+1+1+11 * n+2),by omega⟩;rw [hm,sF,nC,uP (by omega) 0 n _ _ (by omega) (by omega)];unfold jU;rw [qw,eZ (rK _ _ _ _ _ _ _ |>.trans (if_pos rfl)),Nat.sub_zero];have hb:=oK n n (Nat.le_refl _);have hq:=rh n n (Nat.le_refl _);have hbb:(n:Int) * n≤399 * 399:=Int.mul_le_mul (by omega) (by omega) (by omega) (by omega);show b7 (bV n) h (m+12 * n+5) _ ⟨⟨0,13,[_,⟨0,ko n⟩,⟨0,none⟩],[]⟩,[],dG n n,_,[]⟩=_
 rw [t_ (by omega) (Nat.le_refl n) _ _ _ n _ 0 (Nat.le_refl n) (by omega) (by omega)];have e:kY n n=(n:Int) * (n+1) / 2:=by
  have:(n:Int) * (2 * n - n+1)=n * (n+1):=by congr 1;omega
  rw [this] at hq;omega
 rw [Int.zero_add,e];congr 1
 push_cast
 omega
theorem iJ(bs:List (List PV))(n:Nat)(mark:Nat→Bool)(all:Nat)(p r:List PV):cK bs (n+1) ⟨mark,all,[p,r]⟩=cK bs n (cr bs r ⟨mark,all,[p]⟩):=fK (st:=⟨mark,all,[p,r]⟩) (wt:= [p]) rfl n
theorem iD(bs:List (List PV))(n:Nat)(mark:Nat→Bool)(all:Nat)(r:List PV):cK bs (n+1) ⟨mark,all,[r]⟩=cK bs n (cr bs r ⟨mark,all,[]⟩):=fK (st:=⟨mark,all,[r]⟩) (wt:= []) rfl n
theorem xm(n t:Nat)(sl:List PV)(hsl:∃a c,sl= [a,⟨0,ko t⟩,c]∧a.blk=none∧c.blk=none):∀(j fuel:Nat) (mark:Nat→Bool) (all:Nat) (x:PV),j≤t→x.blk=none→(∀k,k < j→mark k=false)→(j=t∨∀q,ko t=some q→mark q=true)→j+2≤fuel→(cK (dG n t) fuel ⟨mark,all,[sl,[x,⟨0,ko j⟩]]⟩).all=all+3 * j:=by
 obtain ⟨a,c,rfl,ha,hc⟩:=hsl;intro j
 induction j with
 | zero=>
  intro fuel mark all x hj hx hm hq hf;obtain ⟨f,rfl⟩:∃f,fuel=f+2:=⟨fuel - 2,by omega⟩;rw [iJ,dB hx,dB (show (⟨0,ko 0⟩:PV).blk=none from rfl)];show (cK (dG n t) (f+1) ⟨mark,all,[[a,⟨0,ko t⟩,c]]⟩).all=_
  rw [iD,dB ha];have hs:cr (dG n t) [⟨0,ko t⟩,c] ⟨mark,all,[]⟩=⟨mark,all,[]⟩:=by
   cases hp:ko t with
   | none=>rw [dB rfl,dB hc];rfl
   | some q=>
    have hmq:mark q=true:=by
     rcases hq with e|e
     · subst e;cases hp
     · exact e q hp
    rw [pd (st:=⟨mark,all,[]⟩) rfl hmq,dB hc];rfl
  rw [hs,jX rfl];rfl
 | succ i ih=>
  intro fuel mark all x hj hx hm hq hf;obtain ⟨f,rfl⟩:∃f,fuel=f+1:=⟨fuel - 1,by omega⟩;rw [iJ,dB hx,lu (st:=⟨mark,all,_⟩) (j:=i) (fs:=kE n i) rfl (hm i (by omega)) (nG n (by omega))];show (cK (dG n t) f ⟨fun k=>decide (k=i) || mark k,all+(2+1),[[a,⟨0,ko t⟩,c],[⟨(n:Int) - i,none⟩,⟨0,ko i⟩]]⟩).all=_
  rw [ih f _ _ _ (by omega) rfl (fun k hk=>by simp only [Bool.or_eq_false_iff,decide_eq_false_iff_not];exact ⟨by omega,hm k (by omega)⟩) (.inr fun q e=>by
   rcases hq with h1|h1
   · subst h1;cases e;simp
   · simp [h1 q e]) (by omega)]
  omega
theorem vR{n k:Nat}(hk:k < n):ch [⟨0,6,[⟨((k+1:Nat):Int),none⟩,⟨0,ko (n - (k+1))⟩,i_],[⟨((k+1:Nat):Int),none⟩,⟨0,ko (n - (k+1))⟩]⟩] (dG n (n - (k+1)))=3 * (n - (k+1)):=by
 have h:=xm n (n - (k+1)) [⟨((k+1:Nat):Int),none⟩,⟨0,ko (n - (k+1))⟩,i_] ⟨_,_,rfl,rfl,rfl⟩ (n - (k+1)) ((n - (k+1))+2+1) (fun _=>false) 0 ⟨((k+1:Nat):Int),none⟩ (Nat.le_refl _) rfl (fun _ _=>rfl) (.inl rfl) (by omega);rw [Nat.zero_add] at h;unfold ch;rw [mS];exact h
theorem pq{n:Nat}(hn:n < 400)(h0:0 < n):dH 200000 (3 * n - 1) (bV n)=⟨8,0,0,0,0,[],((2+11 * (n - 1)+5:Nat):Int)⟩:=by
 rw [nK];obtain ⟨m,hm⟩:∃m,200000=(((((m+1)+2)+1)+1)+11 * (n - 1))+2:=⟨200000 - (1+2+1+1+11 * (n - 1)+2),by omega⟩;have hr:dD (3 * n - 1) 2 [⟨0,6,[⟨((0+1:Nat):Int),none⟩,⟨0,ko (n - (0+1))⟩,i_],[⟨((0+1:Nat):Int),none⟩,⟨0,ko (n - (0+1))⟩]⟩] (dG n (n - (0+1))) (3 * (n - (0+1)))=3 * (n - (0+1)):=by
  unfold dD;rw [if_pos (by omega),vR (by omega)]
 rw [hm,sF,nC,uP (by omega) 1 (n - 1) _ _ (by omega) (by omega)];unfold jU;rw [qw,eZ (rK _ _ _ _ _ _ _ |>.trans (if_neg (by decide))),yH,eo (yD _ _ _ _ _ _ _ |>.trans (if_neg (by rw [hr];omega)))]
end Go.Proofs.YtkgncijcnlfhiaaGreat
