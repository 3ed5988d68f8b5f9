import Derived.Test.YtkgncijcnlfhiaaGreatT1
import Derived.Lib.BufferWrite
import Derived.Lib.UnsafeStr
import Derived.Lib.Strings
import Derived.Lib.Hide
import Derived.Test.YtkgncijcnlfhiaaGreatNi
namespace Go.Proofs.YtkgncijcnlfhiaaGreat
set_option maxRecDepth 100000
set_option maxHeartbeats 4000000
set_option linter.unusedVariables false
set_option linter.unusedSimpArgs false
open Go.RowKit
attribute [local go_sem ↓] Go.wp_at_zero Go.wp_at_succ
def cZ:List UInt8→Option (UInt8×List UInt8)
 | []=>none
 | b :: r=>some (b,r)
theorem mT.some_{α:Type}{cb:Nat}{e a:Int}{w:World}{R:World→Value→α→Prop}{o:Option (α×List UInt8)}{y:α}{r':List UInt8}(ho:o=some (y,r')){x:Ending}{w':World}(h:mT cb e a w R o x w'):∃v,x=.returned v∧R w' v y∧iA w' cb r' e a∧Gc cb w w':=by subst ho;exact h
theorem mT.none_{α:Type}{cb:Nat}{e a:Int}{w:World}{R:World→Value→α→Prop}{o:Option (α×List UInt8)}(ho:o=none){x:Ending}{w':World}(h:mT cb e a w R o x w'):x=.panicked (dF e a)∧Gc cb w w':=by subst ho;exact h
theorem iX(cb:Nat)(r:List UInt8)(e a:Int)(w:World)(hc:iA w cb r e a):
 Calls Tryz.prog 142 #[.pointer (some ⟨cb,0,none⟩)] w (mT cb e a w (fun _ v y=>v=.int .u8 (y.toNat:Int)) (cZ r)):=by
 cases r with
 | nil=>
  have HC:=aH hc;clear hc;go_enter Tryz.func142,Tryz.ntmps142
  go_wp2_with fail
  refine (kJ cb [] e a 1 (by decide) _ HC.out).mono ?_;intro x w1 h;obtain ⟨rfl,hg⟩:=h.none_ (by simp [cm]);exact ⟨rfl,rfl,hg⟩
 | cons b r=>
  have HC:=aH hc;clear hc;go_enter Tryz.func142,Tryz.ntmps142
  go_wp2_with fail
  refine (kJ cb (b :: r) e a 1 (by decide) _ HC.out).mono ?_;intro x w1 h;obtain ⟨v,rfl,rfl,hcur,hg⟩:=h.some_ (y:= [b]) (r':=r) (by simp [cm]);have H1:=aH hcur;have H2:=aH hg;clear h hcur hg;go_wp2
  go_ret
  exact ⟨_,rfl,rfl,H1.out,H2.out⟩
theorem xh:∀a:Fin 256,a.val &&& 127=a.val % 128:=by decide+kernel
theorem zG(b:UInt8):bits BinOp.and IntKind.u8 (b.toNat:Int) 127=((b.toNat % 128:Nat):Int):=by
 have h:=u8_and_nat b.toNat 127 b.toNat_lt (by decide);rw [xh ⟨b.toNat,b.toNat_lt⟩] at h;exact h
def bA:Nat→Nat→List UInt8→Option (Nat×List UInt8)
 | _,_,[]=>none
 | k,v,b :: r=>
  if b.toNat % 128 * 2 ^ (7 * k) < 18446744073709551616 then
   if b.toNat < 128 then (if b.toNat≠0∨k=0 then some (v+b.toNat % 128 * 2 ^ (7 * k),r) else none)
   else bA (k+1) (v+b.toNat % 128 * 2 ^ (7 * k)) r
  else none
theorem mP(k:Nat):(7 * (k:Int)).toNat=7 * k:=by omega
theorem uZ{s:Nat}(h:s≤64):(2:Nat) ^ s * 2 ^ (64 - s)=18446744073709551616:=by rw [←Nat.pow_add,show s+(64 - s)=64 by omega]
theorem xu{low k:Nat}(h:low * 2 ^ (7 * k) < 18446744073709551616):IntKind.u64.wrap ((low:Int) * 2 ^ min (7 * (k:Int)).toNat 64)=((low * 2 ^ (7 * k):Nat):Int):=by
 rw [mP];by_cases hs:7 * k≤64
 · rw [Nat.min_eq_left hs];have e:(low:Int) * 2 ^ (7 * k)=((low * 2 ^ (7 * k):Nat):Int):=by simp
   rw [e,Go.IntWalk.u64_in _ (by omega)]
 · have hz:low=0:=by
    rcases Nat.eq_zero_or_pos low with h0|h0
    · exact h0
    · have:2 ^ 64≤2 ^ (7 * k):=Nat.pow_le_pow_right (by decide) (by omega)
      have h2:1 * 2 ^ (7 * k)≤low * 2 ^ (7 * k):=Nat.mul_le_mul_right _ h0;omega
   subst hz;simp [IntKind.wrap_u64]
theorem xP{low k:Nat}(h:low * 2 ^ (7 * k) < 18446744073709551616):(((low * 2 ^ (7 * k):Nat):Int) / 2 ^ min (7 * (k:Int)).toNat 64 == (low:Int))=true:=by
 rw [mP,beq_iff_eq];by_cases hs:7 * k≤64
 · rw [Nat.min_eq_left hs];have e:(((low * 2 ^ (7 * k):Nat):Int) / 2 ^ (7 * k))=((low * 2 ^ (7 * k) / 2 ^ (7 * k):Nat):Int):=by simp
   rw [e,Nat.mul_div_cancel _ (Nat.two_pow_pos _)]
 · have hz:low=0:=by
    rcases Nat.eq_zero_or_pos low with h0|h0
    · exact h0
    · have:2 ^ 64≤2 ^ (7 * k):=Nat.pow_le_pow_right (by decide) (by omega)
      have h2:1 * 2 ^ (7 * k)≤low * 2 ^ (7 * k):=Nat.mul_le_mul_right _ h0;omega
   subst hz;simp
theorem zZ{low k:Nat}(h:¬low * 2 ^ (7 * k) < 18446744073709551616):(IntKind.u64.wrap ((low:Int) * 2 ^ min (7 * (k:Int)).toNat 64) / 2 ^ min (7 * (k:Int)).toNat 64 == (low:Int))=false:=by
 rw [mP,beq_eq_false_iff_ne,IntKind.wrap_u64];by_cases hs:7 * k≤64
 · rw [Nat.min_eq_left hs];have e:((low:Int) * 2 ^ (7 * k) % 18446744073709551616) / 2 ^ (7 * k)=((low * 2 ^ (7 * k) % 18446744073709551616 / 2 ^ (7 * k):Nat):Int):=by simp
   rw [e];intro hc;have hc':low * 2 ^ (7 * k) % 18446744073709551616 / 2 ^ (7 * k)=low:=by exact_mod_cast hc
   have h1:low * 2 ^ (7 * k) % 18446744073709551616 < 18446744073709551616:=Nat.mod_lt _ (by decide);have h2:low * 2 ^ (7 * k) % 18446744073709551616 < low * 2 ^ (7 * k):=by omega
   have h3:=(Nat.div_lt_iff_lt_mul (Nat.two_pow_pos (7 * k))).2 h2;omega
 · rw [Nat.min_eq_right (by omega)];intro hc;have e:((low:Int) * 2 ^ 64 % 18446744073709551616)=0:=by omega
   rw [e] at hc;have:low=0:=by simp at hc;omega
   subst this;simp at h
theorem xE{v q k low:Nat}(hq:q=low * 2 ^ (7 * k))(hv:v < 2 ^ (7 * k))(hv64:v < 18446744073709551616)(hq64:q < 18446744073709551616):bits BinOp.or IntKind.u64 (v:Int) (q:Int)=((v+q:Nat):Int):=by
 rw [u64_or_nat v q hv64 hq64,Nat.or_comm,nat_join (7 * k) q v (by rw [hq];simp) hv,Nat.add_comm]
theorem ud{v q k low:Nat}(hq:q=low * 2 ^ (7 * k))(hv:v < 2 ^ (7 * k))(hv64:v < 18446744073709551616)(hq64:q < 18446744073709551616)(hl:low < 128):v+q < 18446744073709551616∧v+q < 2 ^ (7 * (k+1)):=by
 have hp:2 ^ (7 * (k+1))=2 ^ (7 * k) * 128:=by rw [show 7 * (k+1)=7 * k+7 by omega,Nat.pow_add]
 have h2:low * 2 ^ (7 * k)≤127 * 2 ^ (7 * k):=Nat.mul_le_mul_right _ (by omega);refine ⟨?_,by rw [hp];omega⟩;by_cases hs:7 * k≤64
 · have h3:=uZ hs;have h4:low < 2 ^ (64 - 7 * k):=by
    rw [←h3,hq,Nat.mul_comm] at hq64;exact Nat.lt_of_mul_lt_mul_left hq64
   have h5:(low+1) * 2 ^ (7 * k)≤2 ^ (64 - 7 * k) * 2 ^ (7 * k):=Nat.mul_le_mul_right _ h4;rw [Nat.mul_comm] at h3;rw [h3] at h5;have h6:(low+1) * 2 ^ (7 * k)=low * 2 ^ (7 * k)+2 ^ (7 * k):=by rw [Nat.add_mul,Nat.one_mul]
   omega
 · have hz:low=0:=by
    rcases Nat.eq_zero_or_pos low with h0|h0
    · exact h0
    · have:2 ^ 64≤2 ^ (7 * k):=Nat.pow_le_pow_right (by decide) (by omega)
      have h2:1 * 2 ^ (7 * k)≤low * 2 ^ (7 * k):=Nat.mul_le_mul_right _ h0;omega
   subst hz;simp at hq;omega
theorem cg(cb:Nat)(r:List UInt8)(e a:Int)(w:World)(hc:iA w cb r e a):
 Calls Tryz.prog 127 #[.pointer (some ⟨cb,0,none⟩)] w (mT cb e a w (fun _ v (y:Nat)=>v=.int .u64 (y:Int)) (bA 0 0 r)):=by
 go_enter Tryz.func127,Tryz.ntmps127
 go_wp2
 go_loopw [3,4] (fun vv sh wr=>∃(k v:Nat) (r':List UInt8),k+r'.length=r.length∧v < 2 ^ (7 * k)∧v < 18446744073709551616∧vv=.int .u64 (v:Int)∧sh=.int .i64 ((7 * k:Nat):Int)∧bA k v r'=bA 0 0 r∧iA wr cb r' e a∧Gc cb w wr) (fun _ sh _=>8000000 - (intOf sh).toNat)
 case atStart=>exact ⟨0,0,r,by simp,by simp,by decide,rfl,rfl,rfl,hc,Gc.refl _ _⟩
 case round=>
  obtain ⟨k,v,r',hkr,hv,hv64,rfl,rfl,hrd,hcur,hgc⟩:=hrel;have HV:=aH hv;have HR:=aH hrd;have HG:=aH hgc;have HCur:=aH hcur;have hrl:r.length≤1000000:=hc.2.1;have HC:=aH hc;clear hv hrd hgc hcur hc;cases r' with
  | nil=>
   go_wp2_with fail
   refine (iX cb [] e a _ HCur.out).mono ?_;intro x w1 h;obtain ⟨rfl,hg⟩:=h.none_ rfl;exact ⟨rfl,by rw [←HR.out];exact ⟨rfl,HG.out.trans hg⟩⟩
  | cons b r2=>
   go_wp2_with fail
   refine (iX cb (b :: r2) e a _ HCur.out).mono ?_;intro x w1 h;obtain ⟨v1,rfl,rfl,hcur1,hg1⟩:=h.some_ (y:=b) (r':=r2) rfl;have HG1:=aH (HG.out.trans hg1);have HC1:=aH hcur1;obtain ⟨⟨s1,h10,h1s⟩,h1l,h11,h12,h1z,h1j⟩:=hcur1;clear h hg1 h1s h10 h1z h1l;have hbl:b.toNat < 256:=b.toNat_lt;have hand:=zG b;obtain ⟨low,hlow⟩:∃low,low=b.toNat % 128:=⟨_,rfl⟩;rw [←hlow] at hand;have hl128:low < 128:=by omega
   have HLow:=aH hlow;clear hlow;have hsh0:(0:Int)≤7 * (k:Int):=by omega
   have hsh1:7 * (k:Int)≤7000000:=by simp at hkr;omega
   have hwl:IntKind.u64.wrap (low:Int)=low:=Go.IntWalk.u64_in _ (by omega);by_cases hfit:low * 2 ^ (7 * k) < 18446744073709551616
   · have hshl:=xu hfit;have hshr:=xP hfit;obtain ⟨q,hq⟩:∃q,q=low * 2 ^ (7 * k):=⟨_,rfl⟩;rw [←hq] at hshl hshr hfit;have hshl2:IntKind.u64.wrap ((low:Int) * 2 ^ (7 * k))=(q:Int):=by
      rw [show (low:Int) * 2 ^ (7 * k)=(q:Int) by rw [hq];simp,Go.IntWalk.u64_in _ (by omega)]
     have hor:=xE hq HV.out hv64 hfit;obtain ⟨hs64,hs7⟩:=ud hq HV.out hv64 hfit hl128;have HS7:=aH hs7;have HQ:=aH hq;clear hs7 hq;have HStep:Hid (bA 0 0 r=if b.toNat < 128 then (if b.toNat≠0∨k=0 then some (v+q,r2) else none) else bA (k+1) (v+q) r2):=aH (by rw [←HR.out,bA,←HLow.out,←HQ.out,if_pos hfit]);clear HR HCur;go_wp2
     go_region_held3 (fun w'=>w'.cell? ⟨cb,1,none⟩=some (.int .i64 e)∧w'.cell? ⟨cb,3,none⟩=some (.int .i64 a)∧w'.cell? ⟨cb,2,none⟩=some (.int .i64 0)) (first|go_keep|(refine ⟨?_,?_,?_⟩<;>exact hg'.cell (by assumption) (by simp))) (first|(go_at_call 32;refine (aP _ _ _).mono ?_;rintro e w' ⟨rfl,hg'⟩))
     have h13:=hg'.cell h11 (by simp);have h14:=hg'.cell h12 (by simp);have h15:=hg'.cell h1j (by simp);have HG2:=aH (HG1.out.trans (Gr.trans (Gr.drew (Gr.refl w1)) hg').toGc);have HC2:=aH (HC1.out.gr (Gr.trans (Gr.drew (Gr.refl w1)) hg'));clear hg' h11 h12 h1j HG1 HC1 hshr;by_cases hb:b.toNat < 128
     · have hb1:((b.toNat:Int) < 128):=by omega
       by_cases hz:b.toNat=0
       · have hb0:((b.toNat:Int) != 0)=false:=by simp [hz]
         by_cases hk0:k=0
         · have hk1:(7 * (k:Int) == 0)=true:=by simp [hk0]
           have HE:Hid (bA 0 0 r=some (v+q,r2)):=aH (by rw [HStep.out,if_pos hb,if_pos (.inr hk0)]);clear HStep hz hb hk0;go_wp2_with (go_at_call 32;refine (aP _ _ _).mono ?_;rintro e3 w3 ⟨rfl,hg3⟩)
           go_ret
           rw [HE.out];exact ⟨_,rfl,rfl,HC2.out.gr hg3,HG2.out.trans hg3.toGc⟩
         · have hk1:(7 * (k:Int) == 0)=false:=by rw [beq_eq_false_iff_ne];omega
           have HE:Hid (bA 0 0 r=none):=aH (by rw [HStep.out,if_pos hb,if_neg (by intro h;rcases h with h|h;exact h hz;exact hk0 h)]);clear HStep hz hb hk0;go_wp2_with (go_at_call 32;refine (aV _ _ _).mono ?_;rintro e3 w3 ⟨rfl,hg3⟩)
           exact ⟨rfl,by rw [HE.out];exact ⟨rfl,HG2.out.trans hg3.toGc⟩⟩
       · have hb0:((b.toNat:Int) != 0)=true:=by rw [bne_iff_ne];omega
         have HE:Hid (bA 0 0 r=some (v+q,r2)):=aH (by rw [HStep.out,if_pos hb,if_pos (.inl hz)]);clear HStep hz hb;go_wp2_with (go_at_call 32;refine (aP _ _ _).mono ?_;rintro e3 w3 ⟨rfl,hg3⟩)
         go_ret
         rw [HE.out];exact ⟨_,rfl,rfl,HC2.out.gr hg3,HG2.out.trans hg3.toGc⟩
     · have hb1:¬((b.toNat:Int) < 128):=by omega
       have HE:Hid (bA (k+1) (v+q) r2=bA 0 0 r):=aH (by rw [HStep.out,if_neg hb]);clear HStep hb;go_wp2
       go_roundw
       case rel=>exact ⟨k+1,v+q,r2,by simp at hkr;omega,HS7.out,hs64,by go_num,by go_num,HE.out,HC2.out,HG2.out⟩
       case measure=>simp [intOf];omega
   · have hno:=zZ hfit;have HE:Hid (bA 0 0 r=none):=aH (by rw [←HR.out,bA,←HLow.out,if_neg hfit]);clear HR hfit;go_wp2
     go_region_with (first|(go_at_call 32;refine (aV _ _ _).mono ?_;rintro e w' ⟨rfl,hg'⟩;refine aQ ?_))
     all_goals exact ⟨rfl,by rw [HE.out];exact ⟨rfl,HG1.out.trans (Gr.trans (Gr.drew (Gr.refl w1)) hg').toGc⟩⟩
open Go.RowKit
attribute [local go_sem ↓] Go.wp_at_zero Go.wp_at_succ
theorem ie:∀(r:List UInt8) (k v:Nat),v < 2 ^ (7 * k)→v < 18446744073709551616→∀n r',bA k v r=some (n,r')→n < 18446744073709551616
 | [],_,_,_,_,_,_,h=>by simp [bA] at h
 | b :: r,k,v,h1,h2,n,r',h=>by
  unfold bA at h;by_cases hf:b.toNat % 128 * 2 ^ (7 * k) < 18446744073709551616
  · rw [if_pos hf] at h;obtain ⟨s1,s2⟩:=ud (low:=b.toNat % 128) (k:=k) rfl h1 h2 hf (by omega);by_cases hb:b.toNat < 128
    · rw [if_pos hb] at h;split at h
      · simp only [Option.some.injEq,Prod.mk.injEq] at h;omega
      · cases h
    · rw [if_neg hb] at h;exact ie r _ _ s2 s1 n r' h
  · rw [if_neg hf] at h;cases h
def gu(v:Nat):Int:=if v % 2=1 then -((v / 2:Nat):Int) - 1 else ((v / 2:Nat):Int)
def ag(r:List UInt8):Option (Int×List UInt8):=(bA 0 0 r).map fun p=>(gu p.1,p.2)
def aq(r:List UInt8):Option (Int×List UInt8):=match bA 0 0 r with
 | some (n,r')=>if n≤9223372036854775807 then some ((n:Int),r') else none
 | none=>none
def dt(r:List UInt8):Option (List UInt8×List UInt8):=match bA 0 0 r with
 | some (n,r')=>cm n r'
 | none=>none
theorem AH{v:Nat}(h:v < 18446744073709551616):bits BinOp.and IntKind.u64 (v:Int) 1=((v % 2:Nat):Int):=by
 have:=u64_and_nat v 1 h (by decide)
 rw [Nat.and_one_is_mod] at this;exact this
theorem AF{v:Nat}(h:v < 18446744073709551616):bits BinOp.xor IntKind.u64 IntKind.u64.max ((v:Int) / 2)=((18446744073709551615 - v / 2:Nat):Int):=by
 have:=u64_xor_nat 18446744073709551615 (v / 2) (by decide) (by omega)
 rw [mu (by omega)] at this;rw [←this];congr 1
theorem vI{v:Nat}(h:v < 18446744073709551616):wrap64 ((18446744073709551615 - v / 2:Nat):Int)=-((v / 2:Nat):Int) - 1:=by
 unfold wrap64;omega
theorem kv(cb:Nat)(r:List UInt8)(e a:Int)(w:World)(hc:iA w cb r e a):
 Calls Tryz.prog 92 #[.pointer (some ⟨cb,0,none⟩)] w (mT cb e a w (fun _ v (y:Int)=>v=.int .i64 y) (ag r)):=by
 have HC:=aH hc;clear hc;go_enter Tryz.func92,Tryz.ntmps92
 go_wp2_with fail
 refine (cg cb r e a _ HC.out).mono ?_;intro x w1 h;cases hn:bA 0 0 r with
 | none=>
  obtain ⟨rfl,hg⟩:=h.none_ hn;exact ⟨rfl,by unfold ag;rw [hn];exact ⟨rfl,hg⟩⟩
 | some p=>
  obtain ⟨n,r'⟩:=p;obtain ⟨v,rfl,rfl,hcur,hg⟩:=h.some_ hn;have hlt:=ie r 0 0 (by simp) (by decide) n r' hn;have hand:=AH hlt;have hnot:=AF hlt;have HE:Hid (ag r=some (gu n,r')):=aH (by unfold ag;rw [hn];rfl);have H1:=aH hcur;have H2:=aH hg;clear h hcur hg hn;by_cases hodd:n % 2=1
  · have HU:Hid (gu n=-((n / 2:Nat):Int) - 1):=aH (by unfold gu;rw [if_pos hodd]);have hb1:(((n % 2:Nat):Int) == 1)=true:=by rw [hodd];rfl
    clear hodd;go_wp2
    go_ret
    rw [HE.out];refine ⟨_,rfl,?_,H1.out,H2.out⟩;rw [HU.out,←vI hlt];rfl
  · have HU:Hid (gu n=((n / 2:Nat):Int)):=aH (by unfold gu;rw [if_neg hodd]);have hb1:(((n % 2:Nat):Int) == 1)=false:=by rw [beq_eq_false_iff_ne];omega
    clear hodd;go_wp2
    go_ret
    rw [HE.out];refine ⟨_,rfl,?_,H1.out,H2.out⟩;rw [HU.out];rfl
theorem eM(cb:Nat)(r:List UInt8)(e a:Int)(w:World)(hc:iA w cb r e a):
 Calls Tryz.prog 126 #[.pointer (some ⟨cb,0,none⟩)] w (mT cb e a w (fun _ v (y:Int)=>v=.int .i64 y) (aq r)):=by
 have HC:=aH hc;clear hc;go_enter Tryz.func126,Tryz.ntmps126
 go_wp2_with fail
 refine (cg cb r e a _ HC.out).mono ?_;intro x w1 h;cases hn:bA 0 0 r with
 | none=>
  obtain ⟨rfl,hg⟩:=h.none_ hn;exact ⟨rfl,by unfold aq;rw [hn];exact ⟨rfl,hg⟩⟩
 | some p=>
  obtain ⟨n,r'⟩:=p;obtain ⟨v,rfl,rfl,hcur,hg⟩:=h.some_ hn;have H1:=aH hcur;have H2:=aH hg;obtain ⟨⟨s1,h10,h1s⟩,h1l,h11,h12,h1z,h1j⟩:=hcur;by_cases hle:n≤9223372036854775807
  · have HE:Hid (aq r=some ((n:Int),r')):=aH (by unfold aq;rw [hn];simp only [if_pos hle]);have hd:(n:Int)≤9223372036854775807:=by omega
    have hwr:IntKind.i64.wrap (n:Int)=n:=Go.IntWalk.i64_in _ (by omega);clear h hg hn hle h10 h1s h1l h1z;go_wp2_with (go_at_call 32;refine (aP _ _ _).mono ?_;rintro e3 w3 ⟨rfl,hg3⟩)
    go_ret
    rw [HE.out];exact ⟨_,rfl,rfl,H1.out.gr hg3,H2.out.trans hg3.toGc⟩
  · have HE:Hid (aq r=none):=aH (by unfold aq;rw [hn];simp only [if_neg hle]);have hd:decide (n≤9223372036854775807)=false:=by rw [decide_eq_false_iff_not];omega
    have hd2:decide ((n:Int)≤9223372036854775807)=false:=by rw [decide_eq_false_iff_not];omega
    clear h hg hn hle h10 h1s h1l h1z;go_wp2_with (go_at_call 32;refine (aV _ _ _).mono ?_;rintro e3 w3 ⟨rfl,hg3⟩)
    exact ⟨rfl,by rw [HE.out];exact ⟨rfl,H2.out.trans hg3.toGc⟩⟩
open Go.RowKit
theorem lq{w w':World}(h:Below w.heap.size w w'):Gr w w':=⟨h.os,h.tape,h.output,h.size,fun k hk _=>h.block k hk⟩
theorem Tryz.cells5:Tryz.prog.cellsOf 5=1:=by kernel_rfl
theorem nL(s:ByteArray)(w:World)(hs:s.size≤1000000):
 Calls Tryz.prog 141 #[.string s] w fun x w'=>x=.returned (.string s)∧Gr w w':=by
 by_cases h0:s.size=0
 · have h00:((s.size:Int) == 0)=true:=by rw [h0];rfl
   have HE:Hid (s=⟨#[]⟩):=aH (ByteArray.ext (Array.eq_empty_of_size_eq_zero h0));clear h0;go_enter Tryz.func141,Tryz.ntmps141
   go_wp2
   go_ret
   exact ⟨by rw [HE.out];rfl,Gr.refl _⟩
 · obtain ⟨i0,hi,hz0,hz1,hz2⟩:=info_parts Tryz.info5;-- the new row,under a name
   obtain ⟨M,hM⟩:∃M,M=madeCells (Value.int .u8 0).cells (((s.size:Nat):Int).toNat * i0.size):=⟨_,rfl⟩;have hMs:M.size=s.size:=by rw [hM,size_madeCells,hz1];simp
   have hmk:∀V:World,(Instr.makeSlice 102 (.int .i64 (s.size:Int)) (.int .i64 (s.size:Int))).run Tryz.prog V=.ok (.slice (some ⟨V.heap.size,0,none⟩) s.size s.size) (V.alloc (.cells M 5)):=by
    intro V;have h:=run_make (P:=Tryz.prog) V 102 5 i0 (.int .u8 0) Tryz.underlying102 hi hz0 .i64 .i64 (s.size:Int) (s.size:Int) (by omega) (by omega) (by rw [hz2];omega) (by omega);rw [←hM] at h;simpa using h
   clear hM;have hcopy:=Go.Lib.run_copy_row_string (P:=Tryz.prog) (w.alloc (.cells M 5)) 102 9 3 5 w.heap.size 0 s.size s.size s M 5 Tryz.underlying102 (by rw [hi];simp [hz1]) (heap_alloc_new w _) (Nat.le_refl _) (by omega);obtain ⟨Y,hY⟩:∃Y,Y=(M.toList.take 0++Go.Lib.byteCells s.data.toList++M.toList.drop (0+s.size)).toArray:=⟨_,rfl⟩;rw [←hY] at hcopy;have hYl:Y.toList=Go.Lib.byteCells s.data.toList:=by
    rw [hY,List.toList_toArray,List.take_zero,List.nil_append,List.drop_of_length_le (by rw [Array.length_toList];omega),List.append_nil]
   have hYs:Y.size=s.size:=by rw [←Array.length_toList,hYl,Go.Lib.byteCells_length,←Go.Lib.size_eq]
   have hrow:((w.alloc (.cells M 5)).setRow w.heap.size Y).heap[w.heap.size]? =some (.cells Y 5 (0,0)):=setRow_heap _ _ M _ 5 (0,0) (heap_alloc_new w _);have hne:s.data.toList≠[]:=fun e=>h0 (by rw [Go.Lib.size_eq,e];rfl)
   have hstr:=Go.Lib.run_unsafeString_row (P:=Tryz.prog) ((w.alloc (.cells M 5)).setRow w.heap.size Y) 230 3 9 5 Tryz.underlying230 Tryz.cells5 w.heap.size Y.size (by unfold World.shape?;rw [hrow]) s.data.toList hne (by rw [←Go.Lib.size_eq];omega) (by rw [←Go.Lib.size_eq];omega)
    (fun j x hx=>Go.Lib.cells_of_row hrow Y.size j _ (by rw [List.take_of_length_le (by rw [Array.length_toList];exact Nat.le_refl _),hYl];simp [Go.Lib.byteCells,hx]))
   rw [←Go.Lib.size_eq] at hstr;clear hY;have h00:((s.size:Int) == 0)=false:=by rw [beq_eq_false_iff_ne];omega
   have hpos:0 < s.size:=by omega
   go_enter Tryz.func141,Tryz.ntmps141
   go_wp2
   go_ret
   have b1:Below w.heap.size w (w.alloc (.cells M 5)):=(Below.refl _ w).alloc (Nat.le_refl _) _;have b2:Below w.heap.size (w.alloc (.cells M 5)) ((w.alloc (.cells M 5)).setRow w.heap.size Y):=⟨rfl,rfl,rfl,by simp,fun k hk=>setRow_other _ _ _ _ (by omega)⟩;exact ⟨rfl,lq (Go.Lib.below_freeze (b1.trans b2) (p:=⟨w.heap.size,0,none⟩) (Nat.le_refl _) _)⟩
theorem mi(cb:Nat)(r:List UInt8)(e a:Int)(w:World)(hc:iA w cb r e a):
 Calls Tryz.prog 132 #[.pointer (some ⟨cb,0,none⟩)] w (mT cb e a w (fun _ v (y:List UInt8)=>v=.string ⟨y.toArray⟩) (dt r)):=by
 have HC:=aH hc;clear hc;go_enter Tryz.func132,Tryz.ntmps132
 go_wp2_with fail
 refine (cg cb r e a _ HC.out).mono ?_;intro x w1 h;cases hn:bA 0 0 r with
 | none=>
  obtain ⟨rfl,hg⟩:=h.none_ hn;exact ⟨rfl,by unfold dt;rw [hn];exact ⟨rfl,hg⟩⟩
 | some p=>
  obtain ⟨n,r'⟩:=p;obtain ⟨v,rfl,rfl,hcur,hg⟩:=h.some_ hn;have hlt:=ie r 0 0 (by simp) (by decide) n r' hn;have HE:Hid (dt r=cm n r'):=aH (by unfold dt;rw [hn]);have H1:=aH hcur;have H2:=aH hg;clear h hcur hg hn;go_wp2_with fail
  refine (kJ cb r' e a n hlt _ H1.out).mono ?_;intro x w2 h;cases ht:cm n r' with
  | none=>
   obtain ⟨rfl,hg⟩:=h.none_ ht;exact ⟨rfl,by rw [HE.out,ht];exact ⟨rfl,H2.out.trans hg⟩⟩
  | some q=>
   obtain ⟨y,r2⟩:=q;obtain ⟨v,rfl,rfl,hcur,hg⟩:=h.some_ ht;have HE2:Hid (dt r=some (y,r2)):=aH (by rw [HE.out,ht]);have hyl:(⟨y.toArray⟩:ByteArray).size≤1000000:=by
    have h6:=H1.out.2.1;unfold cm at ht;split at ht
    · simp only [Option.some.injEq,Prod.mk.injEq] at ht;obtain ⟨rfl,_⟩:=ht;show (List.toArray _).size≤_
      simp;omega
    · cases ht
   have H3:=aH hcur;have H4:=aH (H2.out.trans hg);clear h hcur hg ht;go_wp2_with fail
   have hCl:Calls Tryz.prog 111 #[.string ⟨y.toArray⟩] w2 fun x w'=>x=.returned (.string ⟨y.toArray⟩)∧Gr w2 w':=by
    go_enter Tryz.func111,Tryz.ntmps111
    go_wp2_with (go_at_call 141;refine (nL _ _ hyl).mono ?_;rintro x w3 ⟨rfl,hg3⟩)
    go_ret
    exact ⟨rfl,hg3⟩
   refine hCl.mono ?_;rintro x w3 ⟨rfl,hg3⟩;go_wp2
   go_ret
   rw [HE2.out];exact ⟨_,rfl,rfl,H3.out.gr hg3,H4.out.trans hg3.toGc⟩
open Go.RowKit
attribute [local go_sem ↓] Go.wp_at_zero Go.wp_at_succ
theorem Tryz.callCpI(vals:Array Value)(w:World):(callFunc 69 vals).run Tryz.prog w=.ok (.enter 69 vals) w:=by kernel_rfl
theorem Tryz.callRen(vals:Array Value)(w:World):(callFunc 110 vals).run Tryz.prog w=.ok (.enter 110 vals) w:=by kernel_rfl
theorem Tryz.callClo(vals:Array Value)(w:World):(callFunc 111 vals).run Tryz.prog w=.ok (.enter 111 vals) w:=by kernel_rfl
theorem Tryz.infFn:(Tryz.prog.info? 48).map (·.size)=some 4:=by kernel_rfl
theorem Tryz.infEx:(Tryz.prog.info? 50).map (·.size)=some 2:=by kernel_rfl
def yL(N:List UInt8→Option (aO×Int))(u:aK)(c f:Nat)(g:aO):aO:={ g with code:=g.code.map (rZ N u c f) }
def wv(v v':Value):Prop:=∀k,v.ownBlock=some k→¬v'.ownBlock=some k
theorem wv.symm{v v':Value}(h:wv v v'):wv v' v:=fun k h1 h2=>h k h2 h1
def Aw(g:aO)(w:World)(x:Ending)(w':World):Prop:=∃vp vl vc,x=.returned (.agg #[vp,.int .i64 g.result,vl,vc])∧w'.ownsRow w.heap.size 3 1 vp g.aF.length (eh g.aF)∧w'.ownsRow w.heap.size 3 1 vl g.aG.length (eh g.aG)∧w'.ownsRow w.heap.size 26 3 vc g.code.length (g.code.flatMap cC)∧wv vp vl∧wv vp vc∧wv vl vc∧Gr w w'
theorem zq{α:Type}{m:α→α}{l:List α}{k:Nat}{x:α}(h:l[k]? =some x):((l.take k).map m++l.drop k)[k]? =some x∧((l.take k).map m++l.drop k).set k (m x)=(l.take (k+1)).map m++l.drop (k+1):=by
 obtain ⟨hk,rfl⟩:=List.getElem?_eq_some_iff.1 h;have e:((l.take k).map m).length=k:=by simp;omega
 constructor
 · rw [List.getElem?_append_right (by omega),e,Nat.sub_self,List.drop_eq_getElem_cons hk];rfl
 · rw [List.set_append_right _ _ (by omega),e,Nat.sub_self,List.drop_eq_getElem_cons hk,List.set_cons_zero,List.take_succ_eq_append_getElem hk,List.map_append,List.append_assoc];rfl
theorem oF{w:World}{b b':Nat}{e:TypeId}{size:Nat}{v:Value}{n:Nat}{xs:List Value}(h:w.ownsRow b e size v n xs)(hb:b'≤b):w.ownsRow b' e size v n xs:=by
 refine ⟨h.1,?_⟩;rcases h.2 with h|⟨g,cap,cur,e1,e2,r⟩
 · exact .inl h
 · exact .inr ⟨g,cap,cur,e1,Nat.le_trans hb e2,r⟩
theorem si{W w w':World}{cb:Nat}(h:Gr W w)(g:w.grownBy w' (some cb))(hc:W.heap.size≤cb):Gr W w':=vq h g hc
theorem kH{W w:World}{g:Nat}{cs:Array Value}(h:Gr W w)(hg:W.heap.size≤g):Gr W (w.setRow g cs):=
 ⟨h.os,h.tape,h.output,by simpa using h.size,fun i hi hne=>by rw [setRow_other w g i cs (by omega)];exact h.block i hi hne⟩
theorem nV{w w2:World}{b b2:Nat}{e e2:TypeId}{s s2:Nat}{v v2:Value}{n n2:Nat}{xs xs2:List Value}(h:w.ownsRow b e s v n xs)(h2:w2.ownsRow b2 e2 s2 v2 n2 xs2)(hb:w.heap.size≤b2):wv v v2:=fun k h1 h3=>by
 have:=(h.lt k h1).2
 have:=(h2.lt k h3).1
 omega
theorem so(W:World)(u:aK)(mb c f:Nat)(N:List UInt8→Option (aO×Int))(a1 a2 a3 a4 a5:Option Addr)(c1 c2 c3 c4 c5:Nat)(g:aO)(ap al ac:Option Addr)(cp cl cc:Nat)(w:World)(hM:uG W w u mb N a3 c3 a4 c4)(hc:c≤1000)(hf:f≤1000)
 (rp:aX w (.slice ap g.aF.length cp) g.aF) (rl:aX w (.slice al g.aG.length cl) g.aG) (rc:dM w (.slice ac g.code.length cc) g.code) (hgp:g.aF.length≤1000) (hgl:g.aG.length≤1000) (hgc:g.code.length≤1000) (hok:g.code.all bH=true):
 Calls Tryz.prog 70 #[.agg #[.slice a1 u.aA.length c1,.slice a2 u.aD.length c2,.slice a3 u.aE.length c3,.slice a4 u.aB.length c4,.slice a5 u.aC.length c5,.map (some mb),.int .i64 (c:Int),.int .i64 (f:Int)],.agg #[.slice ap g.aF.length cp,.int .i64 g.result,.slice al g.aG.length cl,.slice ac g.code.length cc]] w (Aw (yL N u c f g) w):=by
 have hb0:=heap_alloc_new w (.cells #[.slice a1 u.aA.length c1,.slice a2 u.aD.length c2,.slice a3 u.aE.length c3,.slice a4 u.aB.length c4,.slice a5 u.aC.length c5,.map (some mb),.int .i64 (c:Int),.int .i64 (f:Int)] 130);have hb1:=heap_alloc_new (w.alloc (.cells #[.slice a1 u.aA.length c1,.slice a2 u.aD.length c2,.slice a3 u.aE.length c3,.slice a4 u.aB.length c4,.slice a5 u.aC.length c5,.map (some mb),.int .i64 (c:Int),.int .i64 (f:Int)] 130)) (.cells #[.slice ap g.aF.length cp,.int .i64 g.result,.slice al g.aG.length cl,.slice ac g.code.length cc] 48);have hb2:=heap_alloc_new ((w.alloc (.cells #[.slice a1 u.aA.length c1,.slice a2 u.aD.length c2,.slice a3 u.aE.length c3,.slice a4 u.aB.length c4,.slice a5 u.aC.length c5,.map (some mb),.int .i64 (c:Int),.int .i64 (f:Int)] 130)).alloc (.cells #[.slice ap g.aF.length cp,.int .i64 g.result,.slice al g.aG.length cl,.slice ac g.code.length cc] 48)) (.cells #[.slice none 0 0,.int .i64 0,.slice none 0 0,.slice none 0 0] 48);have s1:(w.alloc (.cells #[.slice a1 u.aA.length c1,.slice a2 u.aD.length c2,.slice a3 u.aE.length c3,.slice a4 u.aB.length c4,.slice a5 u.aC.length c5,.map (some mb),.int .i64 (c:Int),.int .i64 (f:Int)] 130)).heap.size=w.heap.size+1:=by simp
 have s2:((w.alloc (.cells #[.slice a1 u.aA.length c1,.slice a2 u.aD.length c2,.slice a3 u.aE.length c3,.slice a4 u.aB.length c4,.slice a5 u.aC.length c5,.map (some mb),.int .i64 (c:Int),.int .i64 (f:Int)] 130)).alloc (.cells #[.slice ap g.aF.length cp,.int .i64 g.result,.slice al g.aG.length cl,.slice ac g.code.length cc] 48)).heap.size=w.heap.size+2:=by simp
 have s3:(((w.alloc (.cells #[.slice a1 u.aA.length c1,.slice a2 u.aD.length c2,.slice a3 u.aE.length c3,.slice a4 u.aB.length c4,.slice a5 u.aC.length c5,.map (some mb),.int .i64 (c:Int),.int .i64 (f:Int)] 130)).alloc (.cells #[.slice ap g.aF.length cp,.int .i64 g.result,.slice al g.aG.length cl,.slice ac g.code.length cc] 48)).alloc (.cells #[.slice none 0 0,.int .i64 0,.slice none 0 0,.slice none 0 0] 48)).heap.size=w.heap.size+3:=by simp
 rw [s1] at hb1;rw [s2] at hb2;have hg3:Gr w (((w.alloc (.cells #[.slice a1 u.aA.length c1,.slice a2 u.aD.length c2,.slice a3 u.aE.length c3,.slice a4 u.aB.length c4,.slice a5 u.aC.length c5,.map (some mb),.int .i64 (c:Int),.int .i64 (f:Int)] 130)).alloc (.cells #[.slice ap g.aF.length cp,.int .i64 g.result,.slice al g.aG.length cl,.slice ac g.code.length cc] 48)).alloc (.cells #[.slice none 0 0,.int .i64 0,.slice none 0 0,.slice none 0 0] 48)):=(((Gr.refl w).alloc _).alloc _).alloc _;have g2:Gr ((w.alloc (.cells #[.slice a1 u.aA.length c1,.slice a2 u.aD.length c2,.slice a3 u.aE.length c3,.slice a4 u.aB.length c4,.slice a5 u.aC.length c5,.map (some mb),.int .i64 (c:Int),.int .i64 (f:Int)] 130)).alloc (.cells #[.slice ap g.aF.length cp,.int .i64 g.result,.slice al g.aG.length cl,.slice ac g.code.length cc] 48)) (((w.alloc (.cells #[.slice a1 u.aA.length c1,.slice a2 u.aD.length c2,.slice a3 u.aE.length c3,.slice a4 u.aB.length c4,.slice a5 u.aC.length c5,.map (some mb),.int .i64 (c:Int),.int .i64 (f:Int)] 130)).alloc (.cells #[.slice ap g.aF.length cp,.int .i64 g.result,.slice al g.aG.length cl,.slice ac g.code.length cc] 48)).alloc (.cells #[.slice none 0 0,.int .i64 0,.slice none 0 0,.slice none 0 0] 48)):=(Gr.refl _).alloc _;have g1:Gr (w.alloc (.cells #[.slice a1 u.aA.length c1,.slice a2 u.aD.length c2,.slice a3 u.aE.length c3,.slice a4 u.aB.length c4,.slice a5 u.aC.length c5,.map (some mb),.int .i64 (c:Int),.int .i64 (f:Int)] 130)) (((w.alloc (.cells #[.slice a1 u.aA.length c1,.slice a2 u.aD.length c2,.slice a3 u.aE.length c3,.slice a4 u.aB.length c4,.slice a5 u.aC.length c5,.map (some mb),.int .i64 (c:Int),.int .i64 (f:Int)] 130)).alloc (.cells #[.slice ap g.aF.length cp,.int .i64 g.result,.slice al g.aG.length cl,.slice ac g.code.length cc] 48)).alloc (.cells #[.slice none 0 0,.int .i64 0,.slice none 0 0,.slice none 0 0] 48)):=((Gr.refl _).alloc _).alloc _
 have KH:Hid (∀w',Gr (((w.alloc (.cells #[.slice a1 u.aA.length c1,.slice a2 u.aD.length c2,.slice a3 u.aE.length c3,.slice a4 u.aB.length c4,.slice a5 u.aC.length c5,.map (some mb),.int .i64 (c:Int),.int .i64 (f:Int)] 130)).alloc (.cells #[.slice ap g.aF.length cp,.int .i64 g.result,.slice al g.aG.length cl,.slice ac g.code.length cc] 48)).alloc (.cells #[.slice none 0 0,.int .i64 0,.slice none 0 0,.slice none 0 0] 48)) w'→w'.heap[w.heap.size]? =some (.cells #[.slice a1 u.aA.length c1,.slice a2 u.aD.length c2,.slice a3 u.aE.length c3,.slice a4 u.aB.length c4,.slice a5 u.aC.length c5,.map (some mb),.int .i64 (c:Int),.int .i64 (f:Int)] 130 (0,0))∧w'.heap[w.heap.size+1]? =some (.cells #[.slice ap g.aF.length cp,.int .i64 g.result,.slice al g.aG.length cl,.slice ac g.code.length cc] 48 (0,0))∧w'.heap[w.heap.size+2]? =some (.cells #[.slice none 0 0,.int .i64 0,.slice none 0 0,.slice none 0 0] 48 (0,0))):=aH (fun w' g=>
  ⟨((g1.trans g).block w.heap.size (by rw [s1];omega) (by simp)).trans hb0,((g2.trans g).block (w.heap.size+1) (by rw [s2];omega) (by simp)).trans hb1,(g.block (w.heap.size+2) (by rw [s3];omega) (by simp)).trans hb2⟩)
 have KM:Hid (∀w',Gr (((w.alloc (.cells #[.slice a1 u.aA.length c1,.slice a2 u.aD.length c2,.slice a3 u.aE.length c3,.slice a4 u.aB.length c4,.slice a5 u.aC.length c5,.map (some mb),.int .i64 (c:Int),.int .i64 (f:Int)] 130)).alloc (.cells #[.slice ap g.aF.length cp,.int .i64 g.result,.slice al g.aG.length cl,.slice ac g.code.length cc] 48)).alloc (.cells #[.slice none 0 0,.int .i64 0,.slice none 0 0,.slice none 0 0] 48)) w'→w'.cell? ⟨w.heap.size,0,none⟩=some (.slice a1 u.aA.length c1)∧w'.cell? ⟨w.heap.size,1,none⟩=some (.slice a2 u.aD.length c2)∧w'.cell? ⟨w.heap.size,2,none⟩=some (.slice a3 u.aE.length c3)∧w'.cell? ⟨w.heap.size,3,none⟩=some (.slice a4 u.aB.length c4)∧w'.cell? ⟨w.heap.size,4,none⟩=some (.slice a5 u.aC.length c5)∧w'.cell? ⟨w.heap.size,5,none⟩=some (.map (some mb))∧w'.cell? ⟨w.heap.size,6,none⟩=some (.int .i64 (c:Int))∧w'.cell? ⟨w.heap.size,7,none⟩=some (.int .i64 (f:Int))):=aH (fun w' g=>by
  have e0:=(KH.out w' g).1;refine ⟨?_,?_,?_,?_,?_,?_,?_,?_⟩<;>(rw [aI e0];rfl))
 have KF:Hid (∀w',Gr (((w.alloc (.cells #[.slice a1 u.aA.length c1,.slice a2 u.aD.length c2,.slice a3 u.aE.length c3,.slice a4 u.aB.length c4,.slice a5 u.aC.length c5,.map (some mb),.int .i64 (c:Int),.int .i64 (f:Int)] 130)).alloc (.cells #[.slice ap g.aF.length cp,.int .i64 g.result,.slice al g.aG.length cl,.slice ac g.code.length cc] 48)).alloc (.cells #[.slice none 0 0,.int .i64 0,.slice none 0 0,.slice none 0 0] 48)) w'→w'.cell? ⟨w.heap.size+1,0,none⟩=some (.slice ap g.aF.length cp)∧w'.cell? ⟨w.heap.size+1,1,none⟩=some (.int .i64 g.result)∧w'.cell? ⟨w.heap.size+1,2,none⟩=some (.slice al g.aG.length cl)∧w'.cell? ⟨w.heap.size+1,3,none⟩=some (.slice ac g.code.length cc)):=aH (fun w' g=>by
  have e0:=(KH.out w' g).2.1;refine ⟨?_,?_,?_,?_⟩<;>(rw [aI e0];rfl))
 have HG3:=aH hg3;have HM:=aH hM;have HRP:=aH rp;have HRL:=aH rl;have HOK:=aH hok;have HCC:=aH (qg _ _ _ (rc.gr hg3) (by omega));have HS3:=aH s3;clear hb0 hb1 hb2 s1 s2 s3 hg3 g1 g2 hM rp rl rc hok;go_enter Tryz.func70,Tryz.ntmps70
 go_upto_region 1 with fail
 generalize (((w.alloc (.cells #[.slice a1 u.aA.length c1,.slice a2 u.aD.length c2,.slice a3 u.aE.length c3,.slice a4 u.aB.length c4,.slice a5 u.aC.length c5,.map (some mb),.int .i64 (c:Int),.int .i64 (f:Int)] 130)).alloc (.cells #[.slice ap g.aF.length cp,.int .i64 g.result,.slice al g.aG.length cl,.slice ac g.code.length cc] 48)).alloc (.cells #[.slice none 0 0,.int .i64 0,.slice none 0 0,.slice none 0 0] 48))=V3 at KH KM KF HG3 HCC HS3 ⊢;obtain ⟨f0,f1,f2,f3⟩:=KF.out V3 (Gr.refl _);go_wp2_with fail
 refine HCC.out.mono ?_;rintro x w4 ⟨vc,rfl,hoc,hg4⟩;obtain ⟨acc,ccc,rfl⟩:=aL hoc;have HOC:=aH hoc;have HG4:=aH hg4;clear hoc hg4 HCC f0 f1 f2 f3;go_wp2_with fail
 go_loopw [12] (fun i wr=>∃k:Nat,i=.int .i64 (k:Int)∧k≤g.code.length∧wr.ownsRow V3.heap.size 26 3 (.slice acc g.code.length ccc) g.code.length (((g.code.take k).map (rZ N u c f)++g.code.drop k).flatMap cC)∧Gr V3 wr) (fun i _=>g.code.length - (intOf i).toNat)
 case atStart=>exact ⟨0,rfl,Nat.zero_le _,by simpa using HOC.out,HG4.out⟩
 case round=>
  obtain ⟨k,rfl,hk,ho,hgr⟩:=hrel;have HO:=aH ho;have HGR:=aH hgr;clear HOC HG4 ho hgr;by_cases hlt:k < g.code.length
  · obtain ⟨i,hi⟩:=aY hlt;obtain ⟨cb,cap,hcb,hcB,hcS⟩:∃cb cap,Value.slice acc g.code.length ccc=.slice (some ⟨cb,0,none⟩) g.code.length cap∧V3.heap.size≤cb∧cb < wr.heap.size:=by
     rcases HO.out.2 with ⟨e,e2⟩|⟨cb,cap,cur,e,hB,hh,_⟩
     · omega
     · exact ⟨cb,cap,e,hB,(Array.getElem?_eq_some_iff.1 hh).1⟩
    simp only [Value.slice.injEq,true_and] at hcb;obtain ⟨rfl,rfl⟩:=hcb;obtain ⟨m1,m2⟩:=zq (m:=rZ N u c f) hi;have hii:bH i=true:=List.all_eq_true.1 HOK.out i (List.mem_of_getElem? hi);have HRN:=aH (oC W u mb c f N a1 a2 a3 a4 a5 c1 c2 c3 c4 c5 V3.heap.size g.code.length ccc cb k _ i wr.drew (HM.out.step (HG3.out.trans HGR.out.drew)) hc hf (World.ownsRow.drew HO.out) (by simp;omega) m1 hii);rw [m2] at HRN;have hki:(k:Int) < (g.code.length:Int):=by omega
    have hw:IntKind.i64.wrap ((k:Int)+1)=(k:Int)+1:=Go.IntWalk.i64_in _ (by omega);clear hi m1 m2 hii;go_upto_region 5 with fail
    refine wp_region_held_drew (S:=(fun w'=>w'.cell? ⟨w.heap.size,0,none⟩=some (.slice a1 u.aA.length c1)∧w'.cell? ⟨w.heap.size,1,none⟩=some (.slice a2 u.aD.length c2)∧w'.cell? ⟨w.heap.size,2,none⟩=some (.slice a3 u.aE.length c3)∧w'.cell? ⟨w.heap.size,3,none⟩=some (.slice a4 u.aB.length c4)∧w'.cell? ⟨w.heap.size,4,none⟩=some (.slice a5 u.aC.length c5)∧w'.cell? ⟨w.heap.size,5,none⟩=some (.map (some mb))∧w'.cell? ⟨w.heap.size,6,none⟩=some (.int .i64 (c:Int))∧w'.cell? ⟨w.heap.size,7,none⟩=some (.int .i64 (f:Int)))) (by kernel_rfl) (KM.out _ (Gr.drew HGR.out)) (fun hH=>?_);refine tL 0 ?_;simp only [Act.put,sA,s0,s1];refine tL 1 ?_;simp only [Act.put,sA,s0,s1];refine tL 2 ?_;simp only [Act.put,sA,s0,s1];refine tL 3 ?_;simp only [Act.put,sA,s0,s1];refine au (i:=4) rfl (by kernel_rfl) (fun K hK=>?_);refine aS rfl 110 _ _ rfl #[.agg #[.slice a1 u.aA.length c1,.slice a2 u.aD.length c2,.slice a3 u.aE.length c3,.slice a4 u.aB.length c4,.slice a5 u.aC.length c5,.map (some mb),.int .i64 (c:Int),.int .i64 (f:Int)],.pointer (some ⟨cb,k * 3,none⟩)] (by simp [Act.eval]) (Tryz.callRen _ _) (HRN.out.mono ?_);rintro z w5 ⟨rfl,ho5,hg5⟩;have HG5:=aH (si HGR.out.drew hg5 hcB);have HO5:=aH ho5;clear hg5 ho5 HRN;refine .inl ⟨_,rfl,?_⟩;refine hK.out _ _ (KM.out _ HG5.out) (fun hH=>?_);clear hK;try simp only [Act.put,sA,s0,s1]
    refine wpAnyH_done (by kernel_rfl) ?_ _;clear hH;go_wp2_with fail
    refine ⟨⟨k+1,by simp,hlt,HO5.out,HG5.out⟩,by simp [intOf];omega⟩
  · have hkk:k=g.code.length:=by omega
    subst hkk;have HO2:Hid (wr.ownsRow V3.heap.size 26 3 (.slice acc g.code.length ccc) g.code.length ((g.code.map (rZ N u c f)).flatMap cC)):=aH (by have:=HO.out;simpa using this);have hWr:w.heap.size+3≤wr.heap.size:=by have:=HGR.out.size;have:=HS3.out;omega
    clear hlt hk HO;go_upto_region 7 with fail
    refine wp_region_held_drew (S:=(fun w'=>w'.cell? ⟨w.heap.size+1,0,none⟩=some (.slice ap g.aF.length cp)∧w'.cell? ⟨w.heap.size+1,1,none⟩=some (.int .i64 g.result)∧w'.cell? ⟨w.heap.size+1,2,none⟩=some (.slice al g.aG.length cl)∧w'.cell? ⟨w.heap.size+1,3,none⟩=some (.slice ac g.code.length cc))) (by kernel_rfl) (KF.out _ (Gr.drew HGR.out)) (fun hH=>?_);refine tL 0 ?_;simp only [Act.put,sA,s0,s1];refine tL 1 ?_;simp only [Act.put,sA,s0,s1];refine tL 3 ?_;simp only [Act.put,sA,s0,s1];refine tL 4 ?_;simp only [Act.put,sA,s0,s1];refine tL 5 ?_;simp only [Act.put,sA,s0,s1];refine tL 6 ?_;simp only [Act.put,sA,s0,s1];refine tL 8 ?_;simp only [Act.put,sA,s0,s1];refine au (i:=2) rfl (by kernel_rfl) (fun K hK=>?_);refine aS rfl 69 _ _ rfl #[.slice ap g.aF.length cp] (by simp [Act.eval]) (Tryz.callCpI _ _) ((iT _ g.aF _ (HRP.out.gr (HG3.out.trans HGR.out.drew)) (by omega)).mono ?_);rintro x w1 ⟨v,rfl,hox1,hg1⟩;obtain ⟨axx,cxx,rfl⟩:=aL hox1;have HG1:=aH hg1;have HOX1:=aH hox1;clear hg1 hox1;refine .inl ⟨_,rfl,?_⟩;refine hK.out _ _ (KF.out _ (HGR.out.drew.trans HG1.out)) (fun hH=>?_);clear hK;try simp only [Act.put,sA,s0,s1]
    refine au (i:=7) rfl (by kernel_rfl) (fun K hK=>?_);refine aS rfl 69 _ _ rfl #[.slice al g.aG.length cl] (by simp [Act.eval]) (Tryz.callCpI _ _) ((iT _ g.aG _ (HRL.out.gr (HG3.out.trans (HGR.out.drew.trans HG1.out))) (by omega)).mono ?_);rintro x w2 ⟨v,rfl,hoy,hg2⟩;obtain ⟨ayy,cyy,rfl⟩:=aL hoy;have HXY:=aH (nV HOX1.out hoy (Nat.le_refl _));have HOX:=aH (cY HOX1.out hg2);have HOY:=aH (oF hoy HG1.out.size);have hgv2:=HGR.out.drew.trans (HG1.out.trans hg2);have HG2:=aH (HG1.out.trans hg2);clear hg2 hoy HG1 HOX1;refine .inl ⟨_,rfl,?_⟩;refine hK.out _ _ (KF.out _ hgv2) (fun hH=>?_);clear hK;try simp only [Act.put,sA,s0,s1]
    have KFR:Hid ((w2.setRow (w.heap.size+2) #[.slice axx g.aF.length cxx,.int .i64 g.result,.slice ayy g.aG.length cyy,.slice acc g.code.length ccc]).cell? ⟨w.heap.size+1,0,none⟩=some (.slice ap g.aF.length cp)∧(w2.setRow (w.heap.size+2) #[.slice axx g.aF.length cxx,.int .i64 g.result,.slice ayy g.aG.length cyy,.slice acc g.code.length ccc]).cell? ⟨w.heap.size+1,1,none⟩=some (.int .i64 g.result)∧(w2.setRow (w.heap.size+2) #[.slice axx g.aF.length cxx,.int .i64 g.result,.slice ayy g.aG.length cyy,.slice acc g.code.length ccc]).cell? ⟨w.heap.size+1,2,none⟩=some (.slice al g.aG.length cl)∧(w2.setRow (w.heap.size+2) #[.slice axx g.aF.length cxx,.int .i64 g.result,.slice ayy g.aG.length cyy,.slice acc g.code.length ccc]).cell? ⟨w.heap.size+1,3,none⟩=some (.slice ac g.code.length cc)):=aH (by
     have e0:=(KH.out w2 hgv2).2.1;have e1:(w2.setRow (w.heap.size+2) #[.slice axx g.aF.length cxx,.int .i64 g.result,.slice ayy g.aG.length cyy,.slice acc g.code.length ccc]).heap[w.heap.size+1]? =_:=(setRow_other _ _ _ _ (by omega)).trans e0;refine ⟨?_,?_,?_,?_⟩<;>(rw [aI e1];rfl))
    refine tL 9 ?_;simp only [Act.put,sA,s0,s1];refine au (i:=10) rfl (by kernel_rfl) (fun K hK=>?_);refine ae (by rfl) (wp_store_row (P:=Tryz.prog) 48 _ _ rfl (w.heap.size+2) #[.slice axx g.aF.length cxx,.int .i64 g.result,.slice ayy g.aG.length cyy,.slice acc g.code.length ccc] (by rfl) (by simp [Act.eval]) 48 _ (KH.out w2 hgv2).2.2 Tryz.infFn rfl (by simp [Value.oneCell']) ?_);refine hK.out _ _ (KFR.out) (fun hH=>?_);clear hK;try simp only [Act.put,sA,s0,s1]
    refine wpAnyH_done (by kernel_rfl) ?_ _;clear hH KFR;have hbr:=setRow_heap w2 (w.heap.size+2) _ #[.slice axx g.aF.length cxx,.int .i64 g.result,.slice ayy g.aG.length cyy,.slice acc g.code.length ccc] _ _ (KH.out w2 hgv2).2.2;have e0:(w2.setRow (w.heap.size+2) #[.slice axx g.aF.length cxx,.int .i64 g.result,.slice ayy g.aG.length cyy,.slice acc g.code.length ccc]).cell? ⟨w.heap.size+2,0,none⟩=some (.slice axx g.aF.length cxx):=by rw [aI hbr];rfl
    have e1:(w2.setRow (w.heap.size+2) #[.slice axx g.aF.length cxx,.int .i64 g.result,.slice ayy g.aG.length cyy,.slice acc g.code.length ccc]).cell? ⟨w.heap.size+2,1,none⟩=some (.int .i64 g.result):=by rw [aI hbr];rfl
    have e2:(w2.setRow (w.heap.size+2) #[.slice axx g.aF.length cxx,.int .i64 g.result,.slice ayy g.aG.length cyy,.slice acc g.code.length ccc]).cell? ⟨w.heap.size+2,2,none⟩=some (.slice ayy g.aG.length cyy):=by rw [aI hbr];rfl
    have e3:(w2.setRow (w.heap.size+2) #[.slice axx g.aF.length cxx,.int .i64 g.result,.slice ayy g.aG.length cyy,.slice acc g.code.length ccc]).cell? ⟨w.heap.size+2,3,none⟩=some (.slice acc g.code.length ccc):=by rw [aI hbr];rfl
    clear hbr;go_wp2_with fail
    refine bodyPost_ret (v:=.agg #[.slice axx g.aF.length cxx,.int .i64 g.result,.slice ayy g.aG.length cyy,.slice acc g.code.length ccc]) (by simp [results,Tryz.results70,go_sem,e0,e1,e2,e3]) rfl ?_;have hgw2:=kH (cs:=#[.slice axx g.aF.length cxx,.int .i64 g.result,.slice ayy g.aG.length cyy,.slice acc g.code.length ccc]) (HG3.out.trans hgv2) (g:=w.heap.size+2) (by omega);have hkeep:∀(b:Nat) (e:TypeId) (s:Nat) (v:Value) (n:Nat) (xs:List Value),w.heap.size+3≤b→w2.ownsRow b e s v n xs→(w2.setRow (w.heap.size+2) #[.slice axx g.aF.length cxx,.int .i64 g.result,.slice ayy g.aG.length cyy,.slice acc g.code.length ccc]).ownsRow w.heap.size e s v n xs:=by
     intro b e s v n xs hb ho;refine oF (b:=b) ?_ (by omega);refine ⟨ho.1,?_⟩;rcases ho.2 with h|⟨gg,cap,cur,e1,e2,e3,r⟩
     · exact .inl h
     · exact .inr ⟨gg,cap,cur,e1,e2,by rw [setRow_other _ _ _ _ (by omega)];exact e3,r⟩
    have hs3:=HS3.out;have HOC:=cY (World.ownsRow.drew HO2.out) HG2.out;refine ⟨_,_,_,rfl,hkeep wr.drew.heap.size _ _ _ _ _ hWr HOX.out,hkeep wr.drew.heap.size _ _ _ _ _ hWr HOY.out,?_,HXY.out,?_,?_,hgw2⟩
    · have:=hkeep V3.heap.size _ _ _ _ _ (by omega) HOC
      simpa [yL] using this
    · exact (nV (World.ownsRow.drew HO2.out) HOX.out (Nat.le_refl _)).symm
    · exact (nV (World.ownsRow.drew HO2.out) HOY.out (Nat.le_refl _)).symm
end Go.Proofs.YtkgncijcnlfhiaaGreat
