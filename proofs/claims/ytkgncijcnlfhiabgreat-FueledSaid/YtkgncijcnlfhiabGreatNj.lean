import Derived.Test.YtkgncijcnlfhiabGreatT1
import Derived.Lib.BufferWrite
import Derived.Lib.UnsafeStr
import Derived.Lib.Strings
import Derived.Lib.Hide
import Derived.Test.YtkgncijcnlfhiabGreatNi
namespace Go.Proofs.YtkgncijcnlfhiabGreat
set_option maxRecDepth 100000
set_option maxHeartbeats 4000000
set_option linter.unusedVariables false
set_option linter.unusedSimpArgs false
open Go.RowKit
attribute [local go_sem ↓] Go.wp_at_zero Go.wp_at_succ
def cm:List UInt8->Option (UInt8×List UInt8)
 | []=>none
 | b :: r=>some (b,r)
theorem nV.some_{α:Type}{cb:Nat}{e a:Int}{w:World}{R:World->Value->α->Prop}{o:Option (α×List UInt8)}{y:α}{r':List UInt8}(ho:o=some (y,r')){x:Ending}{w':World}(h:nV cb e a w R o x w'):∃v,x=.returned v/\R w' v y/\io w' cb r' e a/\Gc cb w w':=by subst ho;exact h
theorem nV.none_{α:Type}{cb:Nat}{e a:Int}{w:World}{R:World->Value->α->Prop}{o:Option (α×List UInt8)}(ho:o=none){x:Ending}{w':World}(h:nV cb e a w R o x w'):x=.panicked (dM e a)/\Gc cb w w':=by subst ho;exact h
theorem jG(cb:Nat)(r:List UInt8)(e a:Int)(w:World)(hc:io w cb r e a):
 Calls Tryz.prog 140 #[.pointer (some ⟨cb,0,none⟩)] w (nV cb e a w (fun _ v y=>v=.int .u8 (y.toNat:Int)) (cm r)):=by
 cases r with
 | nil=>
  have HC:=aH hc;clear hc;go_enter Tryz.func140,Tryz.ntmps140
  go_wp2_with fail
  refine (kz cb [] e a 1 Q9 _ HC.out).mono ?_;intro x w1 h;obtain ⟨rfl,hg⟩:=h.none_ (by simp [dC]);exact ⟨rfl,rfl,hg⟩
 | cons b r=>
  have HC:=aH hc;clear hc;go_enter Tryz.func140,Tryz.ntmps140
  go_wp2_with fail
  refine (kz cb (b :: r) e a 1 Q9 _ HC.out).mono ?_;intro x w1 h;obtain ⟨v,rfl,rfl,G0,hg⟩:=h.some_ (y:= [b]) (r':=r) (by simp [dC]);have H1:=aH G0;have H2:=aH hg;clear h G0 hg;go_wp2
  go_ret
  exact ⟨_,rfl,rfl,H1.out,H2.out⟩
theorem zE:∀a:Fin 256,a.val &&& 127=a.val % 128:=by decide+kernel
theorem AQ(b:UInt8):bits BinOp.and IntKind.u8 (b.toNat:Int) 127=((b.toNat % 128:Nat):Int):=by
 have h:=u8_and_nat b.toNat 127 b.toNat_lt Q9;rw [zE ⟨b.toNat,b.toNat_lt⟩] at h;exact h
def bC:Nat->Nat->List UInt8->Option (Nat×List UInt8)
 | _,_,[]=>none
 | k,v,b :: r=>
  if b.toNat % 128 * 2 ^ (7 * k) < 18446744073709551616 then
   if b.toNat < 128 then (if b.toNat≠0\/k=0 then some (v+b.toNat % 128 * 2 ^ (7 * k),r) else none)
   else bC (k+1) (v+b.toNat % 128 * 2 ^ (7 * k)) r
  else none
theorem mU(k:Nat):(7 * (k:Int)).toNat=7 * k:=Q5
theorem yX{s:Nat}(h:s<=64):(2:Nat) ^ s * 2 ^ (64 - s)=18446744073709551616:=by rw [<-Nat.pow_add,show s+(64 - s)=64 by omega]
theorem zF{low k:Nat}(h:low * 2 ^ (7 * k) < 18446744073709551616):IntKind.u64.wrap ((low:Int) * 2 ^ min (7 * (k:Int)).toNat 64)=((low * 2 ^ (7 * k):Nat):Int):=by
 rw [mU];by_cases hs:7 * k<=64
 · rw [Nat.min_eq_left hs];have e:(low:Int) * 2 ^ (7 * k)=((low * 2 ^ (7 * k):Nat):Int):=by simp
   rw [e,Go.IntWalk.u64_in _ Q5]
 · have hz:low=0:=by
    rcases Nat.eq_zero_or_pos low with h0|h0
    · exact h0
    · have:2 ^ 64<=2 ^ (7 * k):=Nat.pow_le_pow_right Q9 Q5
      have h2:1 * 2 ^ (7 * k)<=low * 2 ^ (7 * k):=Nat.mul_le_mul_right _ h0;omega
   subst hz;simp [IntKind.wrap_u64]
theorem yi{low k:Nat}(h:low * 2 ^ (7 * k) < 18446744073709551616):(((low * 2 ^ (7 * k):Nat):Int) / 2 ^ min (7 * (k:Int)).toNat 64 == (low:Int))=true:=by
 rw [mU,beq_iff_eq];by_cases hs:7 * k<=64
 · rw [Nat.min_eq_left hs];have e:(((low * 2 ^ (7 * k):Nat):Int) / 2 ^ (7 * k))=((low * 2 ^ (7 * k) / 2 ^ (7 * k):Nat):Int):=by simp
   rw [e,Nat.mul_div_cancel _ (Nat.two_pow_pos _)]
 · have hz:low=0:=by
    rcases Nat.eq_zero_or_pos low with h0|h0
    · exact h0
    · have:2 ^ 64<=2 ^ (7 * k):=Nat.pow_le_pow_right Q9 Q5
      have h2:1 * 2 ^ (7 * k)<=low * 2 ^ (7 * k):=Nat.mul_le_mul_right _ h0;omega
   subst hz;simp
theorem BH{low k:Nat}(h:¬low * 2 ^ (7 * k) < 18446744073709551616):(IntKind.u64.wrap ((low:Int) * 2 ^ min (7 * (k:Int)).toNat 64) / 2 ^ min (7 * (k:Int)).toNat 64 == (low:Int))=false:=by
 rw [mU,beq_eq_false_iff_ne,IntKind.wrap_u64];by_cases hs:7 * k<=64
 · rw [Nat.min_eq_left hs];have e:((low:Int) * 2 ^ (7 * k) % 18446744073709551616) / 2 ^ (7 * k)=((low * 2 ^ (7 * k) % 18446744073709551616 / 2 ^ (7 * k):Nat):Int):=by simp
   rw [e];intro hc;have hc':low * 2 ^ (7 * k) % 18446744073709551616 / 2 ^ (7 * k)=low:=by exact_mod_cast hc
   have h1:low * 2 ^ (7 * k) % 18446744073709551616 < 18446744073709551616:=Nat.mod_lt _ Q9;have h2:low * 2 ^ (7 * k) % 18446744073709551616 < low * 2 ^ (7 * k):=Q5
   have h3:=(Nat.div_lt_iff_lt_mul (Nat.two_pow_pos (7 * k))).2 h2;omega
 · rw [Nat.min_eq_right Q5];intro hc;have e:((low:Int) * 2 ^ 64 % 18446744073709551616)=0:=by omega
   rw [e] at hc;have:low=0:=by simp at hc;omega
   subst this;simp at h
theorem za{v q k low:Nat}(hq:q=low * 2 ^ (7 * k))(hv:v < 2 ^ (7 * k))(Ho:v < 18446744073709551616)(Eo:q < 18446744073709551616):bits BinOp.or IntKind.u64 (v:Int) (q:Int)=((v+q:Nat):Int):=by
 rw [u64_or_nat v q Ho Eo,Nat.or_comm,nat_join (7 * k) q v (by rw [hq];simp) hv,Nat.add_comm]
theorem yL{v q k low:Nat}(hq:q=low * 2 ^ (7 * k))(hv:v < 2 ^ (7 * k))(Ho:v < 18446744073709551616)(Eo:q < 18446744073709551616)(hl:low < 128):v+q < 18446744073709551616/\v+q < 2 ^ (7 * (k+1)):=by
 have hp:2 ^ (7 * (k+1))=2 ^ (7 * k) * 128:=by rw [show 7 * (k+1)=7 * k+7 by omega,Nat.pow_add]
 have h2:low * 2 ^ (7 * k)<=127 * 2 ^ (7 * k):=Nat.mul_le_mul_right _ Q5;refine ⟨?_,by rw [hp];omega⟩;by_cases hs:7 * k<=64
 · have h3:=yX hs;have h4:low < 2 ^ (64 - 7 * k):=by
    rw [<-h3,hq,Nat.mul_comm] at Eo;exact Nat.lt_of_mul_lt_mul_left Eo
   have h5:(low+1) * 2 ^ (7 * k)<=2 ^ (64 - 7 * k) * 2 ^ (7 * k):=Nat.mul_le_mul_right _ h4;rw [Nat.mul_comm] at h3;rw [h3] at h5;have h6:(low+1) * 2 ^ (7 * k)=low * 2 ^ (7 * k)+2 ^ (7 * k):=by rw [Nat.add_mul,Nat.one_mul]
   omega
 · have hz:low=0:=by
    rcases Nat.eq_zero_or_pos low with h0|h0
    · exact h0
    · have:2 ^ 64<=2 ^ (7 * k):=Nat.pow_le_pow_right Q9 Q5
      have h2:1 * 2 ^ (7 * k)<=low * 2 ^ (7 * k):=Nat.mul_le_mul_right _ h0;omega
   subst hz;simp at hq;omega
theorem dB(cb:Nat)(r:List UInt8)(e a:Int)(w:World)(hc:io w cb r e a):
 Calls Tryz.prog 115 #[.pointer (some ⟨cb,0,none⟩)] w (nV cb e a w (fun _ v (y:Nat)=>v=.int .u64 (y:Int)) (bC 0 0 r)):=by
 go_enter Tryz.func115,Tryz.ntmps115
 go_wp2
 go_loopw [3,4] (fun vv sh wr=>∃(k v:Nat) (r':List UInt8),k+r'.length=r.length/\v < 2 ^ (7 * k)/\v < 18446744073709551616/\vv=.int .u64 (v:Int)/\sh=.int .i64 ((7 * k:Nat):Int)/\bC k v r'=bC 0 0 r/\io wr cb r' e a/\Gc cb w wr) (fun _ sh _=>8000000 - (intOf sh).toNat)
 case atStart=>exact ⟨0,0,r,Q6,Q6,by decide,rfl,rfl,rfl,hc,Gc.refl _ _⟩
 case round=>
  obtain ⟨k,v,r',LP,hv,Ho,rfl,rfl,Ga,G0,hgc⟩:=hrel;have HV:=aH hv;have HR:=aH Ga;have HG:=aH hgc;have Rx:=aH G0;have Tq:r.length<=1000000:=hc.2.1;have HC:=aH hc;clear hv Ga hgc G0 hc;cases r' with
  | nil=>
   go_wp2_with fail
   refine (jG cb [] e a _ Rx.out).mono ?_;intro x w1 h;obtain ⟨rfl,hg⟩:=h.none_ rfl;exact ⟨rfl,by rw [<-HR.out];exact ⟨rfl,HG.out.trans hg⟩⟩
  | cons b r2=>
   go_wp2_with fail
   refine (jG cb (b :: r2) e a _ Rx.out).mono ?_;intro x w1 h;obtain ⟨v1,rfl,rfl,Dv,hg1⟩:=h.some_ (y:=b) (r':=r2) rfl;have I1:=aH (HG.out.trans hg1);have E6:=aH Dv;obtain ⟨⟨s1,Ev,MP⟩,NP,V8,O_,OP,EV⟩:=Dv;clear h hg1 MP Ev OP NP;have Y9:b.toNat < 256:=b.toNat_lt;have hand:=AQ b;obtain ⟨low,D1⟩:∃low,low=b.toNat % 128:=⟨_,rfl⟩;rw [<-D1] at hand;have LG:low < 128:=Q5
   have Dd:=aH D1;clear D1;have hsh0:(0:Int)<=7 * (k:Int):=Q5
   have hsh1:7 * (k:Int)<=7000000:=by simp at LP;omega
   have QP:IntKind.u64.wrap (low:Int)=low:=Go.IntWalk.u64_in _ Q5;by_cases G3:low * 2 ^ (7 * k) < 18446744073709551616
   · have FV:=zF G3;have MG:=yi G3;obtain ⟨q,hq⟩:∃q,q=low * 2 ^ (7 * k):=⟨_,rfl⟩;rw [<-hq] at FV MG G3;have hshl2:IntKind.u64.wrap ((low:Int) * 2 ^ (7 * k))=(q:Int):=by
      rw [show (low:Int) * 2 ^ (7 * k)=(q:Int) by rw [hq];simp,Go.IntWalk.u64_in _ Q5]
     have hor:=za hq HV.out Ho G3;obtain ⟨GV,hs7⟩:=yL hq HV.out Ho G3 LG;have RP:=aH hs7;have HQ:=aH hq;clear hs7 hq;have Ha:Hid (bC 0 0 r=if b.toNat < 128 then (if b.toNat≠0\/k=0 then some (v+q,r2) else none) else bC (k+1) (v+q) r2):=aH (by rw [<-HR.out,bC,<-Dd.out,<-HQ.out,if_pos G3]);clear HR Rx;go_wp2
     go_region_held3 (fun w'=>w'.cell? ⟨cb,1,none⟩=some (.int .i64 e)/\w'.cell? ⟨cb,3,none⟩=some (.int .i64 a)/\w'.cell? ⟨cb,2,none⟩=some (.int .i64 0)) (first|go_keep|(refine ⟨?_,?_,?_⟩<;>exact D0.cell Q8 Q6)) (first|(go_at_call 64;refine (aP _ _ _).mono ?_;rintro e w' ⟨rfl,D0⟩))
     have Jg:=D0.cell V8 Q6;have Z9:=D0.cell O_ Q6;have h15:=D0.cell EV Q6;have O0:=aH (I1.out.trans (Gr.trans (Gr.drew (Gr.refl w1)) D0).toGc);have O3:=aH (E6.out.gr (Gr.trans (Gr.drew (Gr.refl w1)) D0));clear D0 V8 O_ EV I1 E6 MG;by_cases hb:b.toNat < 128
     · have Y0:((b.toNat:Int) < 128):=by omega
       by_cases hz:b.toNat=0
       · have D4:((b.toNat:Int) != 0)=false:=by simp [hz]
         by_cases Je:k=0
         · have M6:(7 * (k:Int) == 0)=true:=by simp [Je]
           have HE:Hid (bC 0 0 r=some (v+q,r2)):=aH (by rw [Ha.out,if_pos hb,if_pos (.inr Je)]);clear Ha hz hb Je;go_wp2_with (go_at_call 64;refine (aP _ _ _).mono ?_;rintro e3 w3 ⟨rfl,P0⟩)
           go_ret
           rw [HE.out];exact ⟨_,rfl,rfl,O3.out.gr P0,O0.out.trans P0.toGc⟩
         · have M6:(7 * (k:Int) == 0)=false:=by rw [beq_eq_false_iff_ne];omega
           have HE:Hid (bC 0 0 r=none):=aH (by rw [Ha.out,if_pos hb,if_neg (by intro h;rcases h with h|h;exact h hz;exact Je h)]);clear Ha hz hb Je;go_wp2_with (go_at_call 64;refine (aV _ _ _).mono ?_;rintro e3 w3 ⟨rfl,P0⟩)
           exact ⟨rfl,by rw [HE.out];exact ⟨rfl,O0.out.trans P0.toGc⟩⟩
       · have D4:((b.toNat:Int) != 0)=true:=by rw [bne_iff_ne];omega
         have HE:Hid (bC 0 0 r=some (v+q,r2)):=aH (by rw [Ha.out,if_pos hb,if_pos (.inl hz)]);clear Ha hz hb;go_wp2_with (go_at_call 64;refine (aP _ _ _).mono ?_;rintro e3 w3 ⟨rfl,P0⟩)
         go_ret
         rw [HE.out];exact ⟨_,rfl,rfl,O3.out.gr P0,O0.out.trans P0.toGc⟩
     · have Y0:¬((b.toNat:Int) < 128):=by omega
       have HE:Hid (bC (k+1) (v+q) r2=bC 0 0 r):=aH (by rw [Ha.out,if_neg hb]);clear Ha hb;go_wp2
       go_roundw
       case rel=>exact ⟨k+1,v+q,r2,by simp at LP;omega,RP.out,GV,by go_num,by go_num,HE.out,O3.out,O0.out⟩
       case measure=>simp [intOf];omega
   · have Rj:=BH G3;have HE:Hid (bC 0 0 r=none):=aH (by rw [<-HR.out,bC,<-Dd.out,if_neg G3]);clear HR G3;go_wp2
     go_region_with (first|(go_at_call 64;refine (aV _ _ _).mono ?_;rintro e w' ⟨rfl,D0⟩;refine aR ?_))
     all_goals exact ⟨rfl,by rw [HE.out];exact ⟨rfl,I1.out.trans (Gr.trans (Gr.drew (Gr.refl w1)) D0).toGc⟩⟩
open Go.RowKit
attribute [local go_sem ↓] Go.wp_at_zero Go.wp_at_succ
theorem jC:∀(r:List UInt8) (k v:Nat),v < 2 ^ (7 * k)->v < 18446744073709551616->∀n r',bC k v r=some (n,r')->n < 18446744073709551616
 | [],_,_,_,_,_,_,h=>by simp [bC] at h
 | b :: r,k,v,h1,h2,n,r',h=>by
  unfold bC at h;by_cases hf:b.toNat % 128 * 2 ^ (7 * k) < 18446744073709551616
  · rw [if_pos hf] at h;obtain ⟨s1,s2⟩:=yL (low:=b.toNat % 128) (k:=k) rfl h1 h2 hf Q5;by_cases hb:b.toNat < 128
    · rw [if_pos hb] at h;split at h
      · simp only [Option.some.injEq,Prod.mk.injEq] at h;omega
      · cases h
    · rw [if_neg hb] at h;exact jC r _ _ s2 s1 n r' h
  · rw [if_neg hf] at h;cases h
def ig(v:Nat):Int:=if v % 2=1 then -((v / 2:Nat):Int) - 1 else ((v / 2:Nat):Int)
def af(r:List UInt8):Option (Int×List UInt8):=(bC 0 0 r).map fun p=>(ig p.1,p.2)
def ar(r:List UInt8):Option (Int×List UInt8):=match bC 0 0 r with
 | some (n,r')=>if n<=9223372036854775807 then some ((n:Int),r') else none
 | none=>none
def dw(r:List UInt8):Option (List UInt8×List UInt8):=match bC 0 0 r with
 | some (n,r')=>dC n r'
 | none=>none
theorem Av{v:Nat}(h:v < 18446744073709551616):bits BinOp.and IntKind.u64 (v:Int) 1=((v % 2:Nat):Int):=by
 have:=u64_and_nat v 1 h Q9
 rw [Nat.and_one_is_mod] at this;exact this
theorem BR{v:Nat}(h:v < 18446744073709551616):bits BinOp.xor IntKind.u64 IntKind.u64.max ((v:Int) / 2)=((18446744073709551615 - v / 2:Nat):Int):=by
 have:=u64_xor_nat 18446744073709551615 (v / 2) Q9 Q5
 rw [oL Q5] at this;rw [<-this];congr 1
theorem wd{v:Nat}(h:v < 18446744073709551616):wrap64 ((18446744073709551615 - v / 2:Nat):Int)=-((v / 2:Nat):Int) - 1:=by
 unfold wrap64;omega
theorem l_(cb:Nat)(r:List UInt8)(e a:Int)(w:World)(hc:io w cb r e a):
 Calls Tryz.prog 73 #[.pointer (some ⟨cb,0,none⟩)] w (nV cb e a w (fun _ v (y:Int)=>v=.int .i64 y) (af r)):=by
 have HC:=aH hc;clear hc;go_enter Tryz.func73,Tryz.ntmps73
 go_wp2_with fail
 refine (dB cb r e a _ HC.out).mono ?_;intro x w1 h;cases hn:bC 0 0 r with
 | none=>
  obtain ⟨rfl,hg⟩:=h.none_ hn;exact ⟨rfl,by unfold af;rw [hn];exact ⟨rfl,hg⟩⟩
 | some p=>
  obtain ⟨n,r'⟩:=p;obtain ⟨v,rfl,rfl,G0,hg⟩:=h.some_ hn;have J0:=jC r 0 0 Q6 Q9 n r' hn;have hand:=Av J0;have I8:=BR J0;have HE:Hid (af r=some (ig n,r')):=aH (by unfold af;rw [hn];rfl);have H1:=aH G0;have H2:=aH hg;clear h G0 hg hn;by_cases Wb:n % 2=1
  · have HU:Hid (ig n=-((n / 2:Nat):Int) - 1):=aH (by unfold ig;rw [if_pos Wb]);have Y0:(((n % 2:Nat):Int) == 1)=true:=by rw [Wb];rfl
    clear Wb;go_wp2
    go_ret
    rw [HE.out];refine ⟨_,rfl,?_,H1.out,H2.out⟩;rw [HU.out,<-wd J0];rfl
  · have HU:Hid (ig n=((n / 2:Nat):Int)):=aH (by unfold ig;rw [if_neg Wb]);have Y0:(((n % 2:Nat):Int) == 1)=false:=by rw [beq_eq_false_iff_ne];omega
    clear Wb;go_wp2
    go_ret
    rw [HE.out];refine ⟨_,rfl,?_,H1.out,H2.out⟩;rw [HU.out];rfl
theorem eX(cb:Nat)(r:List UInt8)(e a:Int)(w:World)(hc:io w cb r e a):
 Calls Tryz.prog 114 #[.pointer (some ⟨cb,0,none⟩)] w (nV cb e a w (fun _ v (y:Int)=>v=.int .i64 y) (ar r)):=by
 have HC:=aH hc;clear hc;go_enter Tryz.func114,Tryz.ntmps114
 go_wp2_with fail
 refine (dB cb r e a _ HC.out).mono ?_;intro x w1 h;cases hn:bC 0 0 r with
 | none=>
  obtain ⟨rfl,hg⟩:=h.none_ hn;exact ⟨rfl,by unfold ar;rw [hn];exact ⟨rfl,hg⟩⟩
 | some p=>
  obtain ⟨n,r'⟩:=p;obtain ⟨v,rfl,rfl,G0,hg⟩:=h.some_ hn;have H1:=aH G0;have H2:=aH hg;obtain ⟨⟨s1,Ev,MP⟩,NP,V8,O_,OP,EV⟩:=G0;by_cases hle:n<=9223372036854775807
  · have HE:Hid (ar r=some ((n:Int),r')):=aH (by unfold ar;rw [hn];simp only [if_pos hle]);have hd:(n:Int)<=9223372036854775807:=by omega
    have S3:IntKind.i64.wrap (n:Int)=n:=Q_;clear h hg hn hle Ev MP NP OP;go_wp2_with (go_at_call 64;refine (aP _ _ _).mono ?_;rintro e3 w3 ⟨rfl,P0⟩)
    go_ret
    rw [HE.out];exact ⟨_,rfl,rfl,H1.out.gr P0,H2.out.trans P0.toGc⟩
  · have HE:Hid (ar r=none):=aH (by unfold ar;rw [hn];simp only [if_neg hle]);have hd:decide (n<=9223372036854775807)=false:=by rw [decide_eq_false_iff_not];omega
    have Lf:decide ((n:Int)<=9223372036854775807)=false:=by rw [decide_eq_false_iff_not];omega
    clear h hg hn hle Ev MP NP OP;go_wp2_with (go_at_call 64;refine (aV _ _ _).mono ?_;rintro e3 w3 ⟨rfl,P0⟩)
    exact ⟨rfl,by rw [HE.out];exact ⟨rfl,H2.out.trans P0.toGc⟩⟩
open Go.RowKit
theorem nQ{w w':World}(h:Below w.heap.size w w'):Gr w w':=⟨h.os,h.tape,h.output,h.size,fun k hk _=>h.block k hk⟩
theorem Tryz.cells5:Tryz.prog.cellsOf 5=1:=Q7
theorem nt(s:ByteArray)(w:World)(hs:s.size<=1000000):
 Calls Tryz.prog 145 #[.string s] w fun x w'=>x=.returned (.string s)/\Gr w w':=by
 by_cases h0:s.size=0
 · have h00:((s.size:Int) == 0)=true:=by rw [h0];rfl
   have HE:Hid (s=⟨#[]⟩):=aH (ByteArray.ext (Array.eq_empty_of_size_eq_zero h0));clear h0;go_enter Tryz.func145,Tryz.ntmps145
   go_wp2
   go_ret
   exact ⟨by rw [HE.out];rfl,Gr.refl _⟩
 · obtain ⟨i0,hi,O6,N5,D5⟩:=info_parts Tryz.info5;-- the new row,under a name
   obtain ⟨M,hM⟩:∃M,M=madeCells (Value.int .u8 0).cells (((s.size:Nat):Int).toNat * i0.size):=⟨_,rfl⟩;have Ed:M.size=s.size:=by rw [hM,size_madeCells,N5];simp
   have Rc:∀V:World,(Instr.makeSlice 88 (.int .i64 (s.size:Int)) (.int .i64 (s.size:Int))).run Tryz.prog V=.ok (.slice (some ⟨V.heap.size,0,none⟩) s.size s.size) (V.alloc (.cells M 5)):=by
    intro V;have h:=run_make (P:=Tryz.prog) V 88 5 i0 (.int .u8 0) Tryz.underlying88 hi O6 .i64 .i64 (s.size:Int) (s.size:Int) Q5 Q5 (by rw [D5];omega) Q5;rw [<-hM] at h;simpa using h
   clear hM;have NG:=Go.Lib.run_copy_row_string (P:=Tryz.prog) (w.alloc (.cells M 5)) 88 9 3 5 w.heap.size 0 s.size s.size s M 5 Tryz.underlying88 (by rw [hi];simp [N5]) (heap_alloc_new w _) (Nat.le_refl _) Q5;obtain ⟨Y,hY⟩:∃Y,Y=(M.toList.take 0++Go.Lib.byteCells s.data.toList++M.toList.drop (0+s.size)).toArray:=⟨_,rfl⟩;rw [<-hY] at NG;have hYl:Y.toList=Go.Lib.byteCells s.data.toList:=by
    rw [hY,List.toList_toArray,List.take_zero,List.nil_append,List.drop_of_length_le (by rw [Array.length_toList];omega),List.append_nil]
   have hYs:Y.size=s.size:=by rw [<-Array.length_toList,hYl,Go.Lib.byteCells_length,<-Go.Lib.size_eq]
   have T1:((w.alloc (.cells M 5)).setRow w.heap.size Y).heap[w.heap.size]? =some (.cells Y 5 (0,0)):=setRow_heap _ _ M _ 5 (0,0) (heap_alloc_new w _);have hne:s.data.toList≠[]:=fun e=>h0 (by rw [Go.Lib.size_eq,e];rfl)
   have IV:=Go.Lib.run_unsafeString_row (P:=Tryz.prog) ((w.alloc (.cells M 5)).setRow w.heap.size Y) 238 3 9 5 Tryz.underlying238 Tryz.cells5 w.heap.size Y.size (by unfold World.shape?;rw [T1]) s.data.toList hne (by rw [<-Go.Lib.size_eq];omega) (by rw [<-Go.Lib.size_eq];omega)
    (fun j x hx=>Go.Lib.cells_of_row T1 Y.size j _ (by rw [List.take_of_length_le (by rw [Array.length_toList];exact Nat.le_refl _),hYl];simp [Go.Lib.byteCells,hx]))
   rw [<-Go.Lib.size_eq] at IV;clear hY;have h00:((s.size:Int) == 0)=false:=by rw [beq_eq_false_iff_ne];omega
   have JV:0 < s.size:=Q5
   go_enter Tryz.func145,Tryz.ntmps145
   go_wp2
   go_ret
   have b1:Below w.heap.size w (w.alloc (.cells M 5)):=(Below.refl _ w).alloc (Nat.le_refl _) _;have b2:Below w.heap.size (w.alloc (.cells M 5)) ((w.alloc (.cells M 5)).setRow w.heap.size Y):=⟨rfl,rfl,rfl,Q6,fun k hk=>setRow_other _ _ _ _ Q5⟩;exact ⟨rfl,nQ (Go.Lib.below_freeze (b1.trans b2) (p:=⟨w.heap.size,0,none⟩) (Nat.le_refl _) _)⟩
theorem oK(cb:Nat)(r:List UInt8)(e a:Int)(w:World)(hc:io w cb r e a):
 Calls Tryz.prog 120 #[.pointer (some ⟨cb,0,none⟩)] w (nV cb e a w (fun _ v (y:List UInt8)=>v=.string ⟨y.toArray⟩) (dw r)):=by
 have HC:=aH hc;clear hc;go_enter Tryz.func120,Tryz.ntmps120
 go_wp2_with fail
 refine (dB cb r e a _ HC.out).mono ?_;intro x w1 h;cases hn:bC 0 0 r with
 | none=>
  obtain ⟨rfl,hg⟩:=h.none_ hn;exact ⟨rfl,by unfold dw;rw [hn];exact ⟨rfl,hg⟩⟩
 | some p=>
  obtain ⟨n,r'⟩:=p;obtain ⟨v,rfl,rfl,G0,hg⟩:=h.some_ hn;have J0:=jC r 0 0 Q6 Q9 n r' hn;have HE:Hid (dw r=dC n r'):=aH (by unfold dw;rw [hn]);have H1:=aH G0;have H2:=aH hg;clear h G0 hg hn;go_wp2_with fail
  refine (kz cb r' e a n J0 _ H1.out).mono ?_;intro x w2 h;cases ht:dC n r' with
  | none=>
   obtain ⟨rfl,hg⟩:=h.none_ ht;exact ⟨rfl,by rw [HE.out,ht];exact ⟨rfl,H2.out.trans hg⟩⟩
  | some q=>
   obtain ⟨y,r2⟩:=q;obtain ⟨v,rfl,rfl,G0,hg⟩:=h.some_ ht;have Jf:Hid (dw r=some (y,r2)):=aH (by rw [HE.out,ht]);have I4:(⟨y.toArray⟩:ByteArray).size<=1000000:=by
    have h6:=H1.out.2.1;unfold dC at ht;split at ht
    · simp only [Option.some.injEq,Prod.mk.injEq] at ht;obtain ⟨rfl,_⟩:=ht;show (List.toArray _).size<=_
      simp;omega
    · cases ht
   have H3:=aH G0;have H4:=aH (H2.out.trans hg);clear h G0 hg ht;go_wp2_with fail
   have hCl:Calls Tryz.prog 142 #[.string ⟨y.toArray⟩] w2 fun x w'=>x=.returned (.string ⟨y.toArray⟩)/\Gr w2 w':=by
    go_enter Tryz.func142,Tryz.ntmps142
    go_wp2_with (go_at_call 145;refine (nt _ _ I4).mono ?_;rintro x w3 ⟨rfl,P0⟩)
    go_ret
    exact ⟨rfl,P0⟩
   refine hCl.mono ?_;rintro x w3 ⟨rfl,P0⟩;go_wp2
   go_ret
   rw [Jf.out];exact ⟨_,rfl,rfl,H3.out.gr P0,H4.out.trans P0.toGc⟩
open Go.RowKit
attribute [local go_sem ↓] Go.wp_at_zero Go.wp_at_succ
theorem Tryz.callCpI(M0:Array Value)(w:World):(callFunc 123 M0).run Tryz.prog w=.ok (.enter 123 M0) w:=Q7
theorem Tryz.callRen(M0:Array Value)(w:World):(callFunc 144 M0).run Tryz.prog w=.ok (.enter 144 M0) w:=Q7
theorem Tryz.callClo(M0:Array Value)(w:World):(callFunc 142 M0).run Tryz.prog w=.ok (.enter 142 M0) w:=Q7
theorem Tryz.infFn:(Tryz.prog.info? 47).map (·.size)=some 4:=Q7
theorem Tryz.infEx:(Tryz.prog.info? 60).map (·.size)=some 2:=Q7
def zn(N:List UInt8->Option (aO×Int))(u:aK)(c f:Nat)(g:aO):aO:={ g with code:=g.code.map (tz N u c f) }
def yc(v v':Value):Prop:=∀k,v.ownBlock=some k->¬v'.ownBlock=some k
theorem yc.symm{v v':Value}(h:yc v v'):yc v' v:=fun k h1 h2=>h k h2 h1
def CW(g:aO)(w:World)(x:Ending)(w':World):Prop:=∃vp vl vc,x=.returned (.agg #[vp,.int .i64 g.result,vl,vc])/\w'.ownsRow w.heap.size 3 1 vp g.aF.length (fP g.aF)/\w'.ownsRow w.heap.size 3 1 vl g.aG.length (fP g.aG)/\w'.ownsRow w.heap.size 42 3 vc g.code.length (g.code.flatMap cC)/\yc vp vl/\yc vp vc/\yc vl vc/\Gr w w'
theorem BD{α:Type}{m:α->α}{l:List α}{k:Nat}{x:α}(h:l[k]? =some x):((l.take k).map m++l.drop k)[k]? =some x/\((l.take k).map m++l.drop k).set k (m x)=(l.take (k+1)).map m++l.drop (k+1):=by
 obtain ⟨hk,rfl⟩:=List.getElem?_eq_some_iff.1 h;have e:((l.take k).map m).length=k:=by simp;omega
 constructor
 · rw [List.getElem?_append_right Q5,e,Nat.sub_self,List.drop_eq_getElem_cons hk];rfl
 · rw [List.set_append_right _ _ Q5,e,Nat.sub_self,List.drop_eq_getElem_cons hk,List.set_cons_zero,List.take_succ_eq_append_getElem hk,List.map_append,List.append_assoc];rfl
theorem pb{w:World}{b b':Nat}{e:TypeId}{size:Nat}{v:Value}{n:Nat}{xs:List Value}(h:w.ownsRow b e size v n xs)(hb:b'<=b):w.ownsRow b' e size v n xs:=by
 refine ⟨h.1,?_⟩;rcases h.2 with h|⟨g,cap,cur,e1,e2,r⟩
 · exact .inl h
 · exact .inr ⟨g,cap,cur,e1,Nat.le_trans hb e2,r⟩
theorem uj{W w w':World}{cb:Nat}(h:Gr W w)(g:w.grownBy w' (some cb))(hc:W.heap.size<=cb):Gr W w':=wG h g hc
theorem pE{W w:World}{g:Nat}{cs:Array Value}(h:Gr W w)(hg:W.heap.size<=g):Gr W (w.setRow g cs):=
 ⟨h.os,h.tape,h.output,by simpa using h.size,fun i hi hne=>by rw [setRow_other w g i cs Q5];exact h.block i hi hne⟩
theorem pd{w w2:World}{b b2:Nat}{e e2:TypeId}{s s2:Nat}{v v2:Value}{n n2:Nat}{xs xs2:List Value}(h:w.ownsRow b e s v n xs)(h2:w2.ownsRow b2 e2 s2 v2 n2 xs2)(hb:w.heap.size<=b2):yc v v2:=fun k h1 h3=>by
 have:=(h.lt k h1).2
 have:=(h2.lt k h3).1
 omega
theorem um(W:World)(u:aK)(mb c f:Nat)(N:List UInt8->Option (aO×Int))(a1 a2 a3 a4 a5:Option Addr)(c1 c2 c3 c4 c5:Nat)(g:aO)(ap al ac:Option Addr)(cp cl cc:Nat)(w:World)(hM:vh W w u mb N a3 c3 a4 c4)(hc:c<=1000)(hf:f<=1000)
 (rp:aW w (.slice ap g.aF.length cp) g.aF) (rl:aW w (.slice al g.aG.length cl) g.aG) (rc:eH w (.slice ac g.code.length cc) g.code) (hgp:g.aF.length<=1000) (Gd:g.aG.length<=1000) (hgc:g.code.length<=1000) (N2:g.code.all a_=true):
 Calls Tryz.prog 124 #[.agg #[.slice a1 u.aA.length c1,.slice a2 u.aD.length c2,.slice a3 u.aE.length c3,.slice a4 u.aB.length c4,.slice a5 u.aC.length c5,.map (some mb),.int .i64 (c:Int),.int .i64 (f:Int)],.agg #[.slice ap g.aF.length cp,.int .i64 g.result,.slice al g.aG.length cl,.slice ac g.code.length cc]] w (CW (zn N u c f g) w):=by
 have D4:=heap_alloc_new w (.cells #[.slice a1 u.aA.length c1,.slice a2 u.aD.length c2,.slice a3 u.aE.length c3,.slice a4 u.aB.length c4,.slice a5 u.aC.length c5,.map (some mb),.int .i64 (c:Int),.int .i64 (f:Int)] 209);have Y0:=heap_alloc_new (w.alloc (.cells #[.slice a1 u.aA.length c1,.slice a2 u.aD.length c2,.slice a3 u.aE.length c3,.slice a4 u.aB.length c4,.slice a5 u.aC.length c5,.map (some mb),.int .i64 (c:Int),.int .i64 (f:Int)] 209)) (.cells #[.slice ap g.aF.length cp,.int .i64 g.result,.slice al g.aG.length cl,.slice ac g.code.length cc] 47);have E5:=heap_alloc_new ((w.alloc (.cells #[.slice a1 u.aA.length c1,.slice a2 u.aD.length c2,.slice a3 u.aE.length c3,.slice a4 u.aB.length c4,.slice a5 u.aC.length c5,.map (some mb),.int .i64 (c:Int),.int .i64 (f:Int)] 209)).alloc (.cells #[.slice ap g.aF.length cp,.int .i64 g.result,.slice al g.aG.length cl,.slice ac g.code.length cc] 47)) (.cells #[.slice none 0 0,.int .i64 0,.slice none 0 0,.slice none 0 0] 47);have s1:(w.alloc (.cells #[.slice a1 u.aA.length c1,.slice a2 u.aD.length c2,.slice a3 u.aE.length c3,.slice a4 u.aB.length c4,.slice a5 u.aC.length c5,.map (some mb),.int .i64 (c:Int),.int .i64 (f:Int)] 209)).heap.size=w.heap.size+1:=Q6
 have s2:((w.alloc (.cells #[.slice a1 u.aA.length c1,.slice a2 u.aD.length c2,.slice a3 u.aE.length c3,.slice a4 u.aB.length c4,.slice a5 u.aC.length c5,.map (some mb),.int .i64 (c:Int),.int .i64 (f:Int)] 209)).alloc (.cells #[.slice ap g.aF.length cp,.int .i64 g.result,.slice al g.aG.length cl,.slice ac g.code.length cc] 47)).heap.size=w.heap.size+2:=Q6
 have s3:(((w.alloc (.cells #[.slice a1 u.aA.length c1,.slice a2 u.aD.length c2,.slice a3 u.aE.length c3,.slice a4 u.aB.length c4,.slice a5 u.aC.length c5,.map (some mb),.int .i64 (c:Int),.int .i64 (f:Int)] 209)).alloc (.cells #[.slice ap g.aF.length cp,.int .i64 g.result,.slice al g.aG.length cl,.slice ac g.code.length cc] 47)).alloc (.cells #[.slice none 0 0,.int .i64 0,.slice none 0 0,.slice none 0 0] 47)).heap.size=w.heap.size+3:=Q6
 rw [s1] at Y0;rw [s2] at E5;have P0:Gr w (((w.alloc (.cells #[.slice a1 u.aA.length c1,.slice a2 u.aD.length c2,.slice a3 u.aE.length c3,.slice a4 u.aB.length c4,.slice a5 u.aC.length c5,.map (some mb),.int .i64 (c:Int),.int .i64 (f:Int)] 209)).alloc (.cells #[.slice ap g.aF.length cp,.int .i64 g.result,.slice al g.aG.length cl,.slice ac g.code.length cc] 47)).alloc (.cells #[.slice none 0 0,.int .i64 0,.slice none 0 0,.slice none 0 0] 47)):=(((Gr.refl w).alloc _).alloc _).alloc _;have g2:Gr ((w.alloc (.cells #[.slice a1 u.aA.length c1,.slice a2 u.aD.length c2,.slice a3 u.aE.length c3,.slice a4 u.aB.length c4,.slice a5 u.aC.length c5,.map (some mb),.int .i64 (c:Int),.int .i64 (f:Int)] 209)).alloc (.cells #[.slice ap g.aF.length cp,.int .i64 g.result,.slice al g.aG.length cl,.slice ac g.code.length cc] 47)) (((w.alloc (.cells #[.slice a1 u.aA.length c1,.slice a2 u.aD.length c2,.slice a3 u.aE.length c3,.slice a4 u.aB.length c4,.slice a5 u.aC.length c5,.map (some mb),.int .i64 (c:Int),.int .i64 (f:Int)] 209)).alloc (.cells #[.slice ap g.aF.length cp,.int .i64 g.result,.slice al g.aG.length cl,.slice ac g.code.length cc] 47)).alloc (.cells #[.slice none 0 0,.int .i64 0,.slice none 0 0,.slice none 0 0] 47)):=(Gr.refl _).alloc _;have g1:Gr (w.alloc (.cells #[.slice a1 u.aA.length c1,.slice a2 u.aD.length c2,.slice a3 u.aE.length c3,.slice a4 u.aB.length c4,.slice a5 u.aC.length c5,.map (some mb),.int .i64 (c:Int),.int .i64 (f:Int)] 209)) (((w.alloc (.cells #[.slice a1 u.aA.length c1,.slice a2 u.aD.length c2,.slice a3 u.aE.length c3,.slice a4 u.aB.length c4,.slice a5 u.aC.length c5,.map (some mb),.int .i64 (c:Int),.int .i64 (f:Int)] 209)).alloc (.cells #[.slice ap g.aF.length cp,.int .i64 g.result,.slice al g.aG.length cl,.slice ac g.code.length cc] 47)).alloc (.cells #[.slice none 0 0,.int .i64 0,.slice none 0 0,.slice none 0 0] 47)):=((Gr.refl _).alloc _).alloc _
 have KH:Hid (∀w',Gr (((w.alloc (.cells #[.slice a1 u.aA.length c1,.slice a2 u.aD.length c2,.slice a3 u.aE.length c3,.slice a4 u.aB.length c4,.slice a5 u.aC.length c5,.map (some mb),.int .i64 (c:Int),.int .i64 (f:Int)] 209)).alloc (.cells #[.slice ap g.aF.length cp,.int .i64 g.result,.slice al g.aG.length cl,.slice ac g.code.length cc] 47)).alloc (.cells #[.slice none 0 0,.int .i64 0,.slice none 0 0,.slice none 0 0] 47)) w'->w'.heap[w.heap.size]? =some (.cells #[.slice a1 u.aA.length c1,.slice a2 u.aD.length c2,.slice a3 u.aE.length c3,.slice a4 u.aB.length c4,.slice a5 u.aC.length c5,.map (some mb),.int .i64 (c:Int),.int .i64 (f:Int)] 209 (0,0))/\w'.heap[w.heap.size+1]? =some (.cells #[.slice ap g.aF.length cp,.int .i64 g.result,.slice al g.aG.length cl,.slice ac g.code.length cc] 47 (0,0))/\w'.heap[w.heap.size+2]? =some (.cells #[.slice none 0 0,.int .i64 0,.slice none 0 0,.slice none 0 0] 47 (0,0))):=aH (fun w' g=>
  ⟨((g1.trans g).block w.heap.size (by rw [s1];omega) Q6).trans D4,((g2.trans g).block (w.heap.size+1) (by rw [s2];omega) Q6).trans Y0,(g.block (w.heap.size+2) (by rw [s3];omega) Q6).trans E5⟩)
 have KM:Hid (∀w',Gr (((w.alloc (.cells #[.slice a1 u.aA.length c1,.slice a2 u.aD.length c2,.slice a3 u.aE.length c3,.slice a4 u.aB.length c4,.slice a5 u.aC.length c5,.map (some mb),.int .i64 (c:Int),.int .i64 (f:Int)] 209)).alloc (.cells #[.slice ap g.aF.length cp,.int .i64 g.result,.slice al g.aG.length cl,.slice ac g.code.length cc] 47)).alloc (.cells #[.slice none 0 0,.int .i64 0,.slice none 0 0,.slice none 0 0] 47)) w'->w'.cell? ⟨w.heap.size,0,none⟩=some (.slice a1 u.aA.length c1)/\w'.cell? ⟨w.heap.size,1,none⟩=some (.slice a2 u.aD.length c2)/\w'.cell? ⟨w.heap.size,2,none⟩=some (.slice a3 u.aE.length c3)/\w'.cell? ⟨w.heap.size,3,none⟩=some (.slice a4 u.aB.length c4)/\w'.cell? ⟨w.heap.size,4,none⟩=some (.slice a5 u.aC.length c5)/\w'.cell? ⟨w.heap.size,5,none⟩=some (.map (some mb))/\w'.cell? ⟨w.heap.size,6,none⟩=some (.int .i64 (c:Int))/\w'.cell? ⟨w.heap.size,7,none⟩=some (.int .i64 (f:Int))):=aH (fun w' g=>by
  have e0:=(KH.out w' g).1;refine ⟨?_,?_,?_,?_,?_,?_,?_,?_⟩<;>(rw [aJ e0];rfl))
 have KF:Hid (∀w',Gr (((w.alloc (.cells #[.slice a1 u.aA.length c1,.slice a2 u.aD.length c2,.slice a3 u.aE.length c3,.slice a4 u.aB.length c4,.slice a5 u.aC.length c5,.map (some mb),.int .i64 (c:Int),.int .i64 (f:Int)] 209)).alloc (.cells #[.slice ap g.aF.length cp,.int .i64 g.result,.slice al g.aG.length cl,.slice ac g.code.length cc] 47)).alloc (.cells #[.slice none 0 0,.int .i64 0,.slice none 0 0,.slice none 0 0] 47)) w'->w'.cell? ⟨w.heap.size+1,0,none⟩=some (.slice ap g.aF.length cp)/\w'.cell? ⟨w.heap.size+1,1,none⟩=some (.int .i64 g.result)/\w'.cell? ⟨w.heap.size+1,2,none⟩=some (.slice al g.aG.length cl)/\w'.cell? ⟨w.heap.size+1,3,none⟩=some (.slice ac g.code.length cc)):=aH (fun w' g=>by
  have e0:=(KH.out w' g).2.1;refine ⟨?_,?_,?_,?_⟩<;>(rw [aJ e0];rfl))
 have HG3:=aH P0;have HM:=aH hM;have Fh:=aH rp;have Ks:=aH rl;have M8:=aH N2;have IC:=aH (sw _ _ _ (rc.gr P0) Q5);have Hd:=aH s3;clear D4 Y0 E5 s1 s2 s3 P0 g1 g2 hM rp rl rc N2;go_enter Tryz.func124,Tryz.ntmps124
 go_upto_region 1 with fail
 generalize (((w.alloc (.cells #[.slice a1 u.aA.length c1,.slice a2 u.aD.length c2,.slice a3 u.aE.length c3,.slice a4 u.aB.length c4,.slice a5 u.aC.length c5,.map (some mb),.int .i64 (c:Int),.int .i64 (f:Int)] 209)).alloc (.cells #[.slice ap g.aF.length cp,.int .i64 g.result,.slice al g.aG.length cl,.slice ac g.code.length cc] 47)).alloc (.cells #[.slice none 0 0,.int .i64 0,.slice none 0 0,.slice none 0 0] 47))=V3 at KH KM KF HG3 IC Hd |-;obtain ⟨f0,f1,f2,f3⟩:=KF.out V3 (Gr.refl _);go_wp2_with fail
 refine IC.out.mono ?_;rintro x w4 ⟨vc,rfl,Sx,T4⟩;obtain ⟨acc,Ke,rfl⟩:=aL Sx;have Tx:=aH Sx;have O1:=aH T4;clear Sx T4 IC f0 f1 f2 f3;go_wp2_with fail
 go_loopw [12] (fun i wr=>∃k:Nat,i=.int .i64 (k:Int)/\k<=g.code.length/\wr.ownsRow V3.heap.size 42 3 (.slice acc g.code.length Ke) g.code.length (((g.code.take k).map (tz N u c f)++g.code.drop k).flatMap cC)/\Gr V3 wr) (fun i _=>g.code.length - (intOf i).toNat)
 case atStart=>exact ⟨0,rfl,Nat.zero_le _,by simpa using Tx.out,O1.out⟩
 case round=>
  obtain ⟨k,rfl,hk,ho,M3⟩:=hrel;have HO:=aH ho;have C6:=aH M3;clear Tx O1 ho M3;by_cases J0:k < g.code.length
  · obtain ⟨i,hi⟩:=aX J0;obtain ⟨cb,cap,YU,TP,hcS⟩:∃cb cap,Value.slice acc g.code.length Ke=.slice (some ⟨cb,0,none⟩) g.code.length cap/\V3.heap.size<=cb/\cb < wr.heap.size:=by
     rcases HO.out.2 with ⟨e,e2⟩|⟨cb,cap,cur,e,hB,hh,_⟩
     · omega
     · exact ⟨cb,cap,e,hB,(Array.getElem?_eq_some_iff.1 hh).1⟩
    simp only [Value.slice.injEq,true_and] at YU;obtain ⟨rfl,rfl⟩:=YU;obtain ⟨m1,m2⟩:=BD (m:=tz N u c f) hi;have Vq:a_ i=true:=List.all_eq_true.1 M8.out i (List.mem_of_getElem? hi);have HRN:=aH (o8 W u mb c f N a1 a2 a3 a4 a5 c1 c2 c3 c4 c5 V3.heap.size g.code.length Ke cb k _ i wr.drew (HM.out.step (HG3.out.trans C6.out.drew)) hc hf (World.ownsRow.drew HO.out) gS m1 Vq);rw [m2] at HRN;have Hf:(k:Int) < (g.code.length:Int):=Q5
    have hw:IntKind.i64.wrap ((k:Int)+1)=(k:Int)+1:=Q_;clear hi m1 m2 Vq;go_upto_region 5 with fail
    refine wp_region_held_drew (S:=(fun w'=>w'.cell? ⟨w.heap.size,0,none⟩=some (.slice a1 u.aA.length c1)/\w'.cell? ⟨w.heap.size,1,none⟩=some (.slice a2 u.aD.length c2)/\w'.cell? ⟨w.heap.size,2,none⟩=some (.slice a3 u.aE.length c3)/\w'.cell? ⟨w.heap.size,3,none⟩=some (.slice a4 u.aB.length c4)/\w'.cell? ⟨w.heap.size,4,none⟩=some (.slice a5 u.aC.length c5)/\w'.cell? ⟨w.heap.size,5,none⟩=some (.map (some mb))/\w'.cell? ⟨w.heap.size,6,none⟩=some (.int .i64 (c:Int))/\w'.cell? ⟨w.heap.size,7,none⟩=some (.int .i64 (f:Int)))) Q7 (KM.out _ (Gr.drew C6.out)) (fun hH=>?_);refine tL 0 ?_;simp only [Act.put,sA,s0,s1];refine tL 1 ?_;simp only [Act.put,sA,s0,s1];refine tL 2 ?_;simp only [Act.put,sA,s0,s1];refine tL 3 ?_;simp only [Act.put,sA,s0,s1];refine aq (i:=4) rfl Q7 (fun K hK=>?_);refine aQ rfl 144 _ _ rfl #[.agg #[.slice a1 u.aA.length c1,.slice a2 u.aD.length c2,.slice a3 u.aE.length c3,.slice a4 u.aB.length c4,.slice a5 u.aC.length c5,.map (some mb),.int .i64 (c:Int),.int .i64 (f:Int)],.pointer (some ⟨cb,k * 3,none⟩)] fk (Tryz.callRen _ _) (HRN.out.mono ?_);rintro z w5 ⟨rfl,Kb,P1⟩;have T5:=aH (uj C6.out.drew P1 TP);have N8:=aH Kb;clear P1 Kb HRN;refine .inl ⟨_,rfl,?_⟩;refine hK.out _ _ (KM.out _ T5.out) (fun hH=>?_);clear hK;try simp only [Act.put,sA,s0,s1]
    refine wpAnyH_done Q7 ?_ _;clear hH;go_wp2_with fail
    refine ⟨⟨k+1,Q6,J0,N8.out,T5.out⟩,by simp [intOf];omega⟩
  · have L7:k=g.code.length:=by omega
    subst L7;have O5:Hid (wr.ownsRow V3.heap.size 42 3 (.slice acc g.code.length Ke) g.code.length ((g.code.map (tz N u c f)).flatMap cC)):=aH (by have:=HO.out;simpa using this);have hWr:w.heap.size+3<=wr.heap.size:=by have:=C6.out.size;have:=Hd.out;omega
    clear J0 hk HO;go_upto_region 7 with fail
    refine wp_region_held_drew (S:=(fun w'=>w'.cell? ⟨w.heap.size+1,0,none⟩=some (.slice ap g.aF.length cp)/\w'.cell? ⟨w.heap.size+1,1,none⟩=some (.int .i64 g.result)/\w'.cell? ⟨w.heap.size+1,2,none⟩=some (.slice al g.aG.length cl)/\w'.cell? ⟨w.heap.size+1,3,none⟩=some (.slice ac g.code.length cc))) Q7 (KF.out _ (Gr.drew C6.out)) (fun hH=>?_);refine tL 0 ?_;simp only [Act.put,sA,s0,s1];refine tL 1 ?_;simp only [Act.put,sA,s0,s1];refine tL 3 ?_;simp only [Act.put,sA,s0,s1];refine tL 4 ?_;simp only [Act.put,sA,s0,s1];refine tL 5 ?_;simp only [Act.put,sA,s0,s1];refine tL 6 ?_;simp only [Act.put,sA,s0,s1];refine tL 8 ?_;simp only [Act.put,sA,s0,s1];refine aq (i:=2) rfl Q7 (fun K hK=>?_);refine aQ rfl 123 _ _ rfl #[.slice ap g.aF.length cp] fk (Tryz.callCpI _ _) ((jE _ g.aF _ (Fh.out.gr (HG3.out.trans C6.out.drew)) Q5).mono ?_);rintro x w1 ⟨v,rfl,Vx,hg1⟩;obtain ⟨Tc,Vc,rfl⟩:=aL Vx;have I1:=aH hg1;have Wx:=aH Vx;clear hg1 Vx;refine .inl ⟨_,rfl,?_⟩;refine hK.out _ _ (KF.out _ (C6.out.drew.trans I1.out)) (fun hH=>?_);clear hK;try simp only [Act.put,sA,s0,s1]
    refine aq (i:=7) rfl Q7 (fun K hK=>?_);refine aQ rfl 123 _ _ rfl #[.slice al g.aG.length cl] fk (Tryz.callCpI _ _) ((jE _ g.aG _ (Ks.out.gr (HG3.out.trans (C6.out.drew.trans I1.out))) Q5).mono ?_);rintro x w2 ⟨v,rfl,VP,E0⟩;obtain ⟨Hi,Ii,rfl⟩:=aL VP;have FC:=aH (pd Wx.out VP (Nat.le_refl _));have XP:=aH (dA Wx.out E0);have HOY:=aH (pb VP I1.out.size);have Io:=C6.out.drew.trans (I1.out.trans E0);have O0:=aH (I1.out.trans E0);clear E0 VP I1 Wx;refine .inl ⟨_,rfl,?_⟩;refine hK.out _ _ (KF.out _ Io) (fun hH=>?_);clear hK;try simp only [Act.put,sA,s0,s1]
    have KFR:Hid ((w2.setRow (w.heap.size+2) #[.slice Tc g.aF.length Vc,.int .i64 g.result,.slice Hi g.aG.length Ii,.slice acc g.code.length Ke]).cell? ⟨w.heap.size+1,0,none⟩=some (.slice ap g.aF.length cp)/\(w2.setRow (w.heap.size+2) #[.slice Tc g.aF.length Vc,.int .i64 g.result,.slice Hi g.aG.length Ii,.slice acc g.code.length Ke]).cell? ⟨w.heap.size+1,1,none⟩=some (.int .i64 g.result)/\(w2.setRow (w.heap.size+2) #[.slice Tc g.aF.length Vc,.int .i64 g.result,.slice Hi g.aG.length Ii,.slice acc g.code.length Ke]).cell? ⟨w.heap.size+1,2,none⟩=some (.slice al g.aG.length cl)/\(w2.setRow (w.heap.size+2) #[.slice Tc g.aF.length Vc,.int .i64 g.result,.slice Hi g.aG.length Ii,.slice acc g.code.length Ke]).cell? ⟨w.heap.size+1,3,none⟩=some (.slice ac g.code.length cc)):=aH (by
     have e0:=(KH.out w2 Io).2.1;have e1:(w2.setRow (w.heap.size+2) #[.slice Tc g.aF.length Vc,.int .i64 g.result,.slice Hi g.aG.length Ii,.slice acc g.code.length Ke]).heap[w.heap.size+1]? =_:=(setRow_other _ _ _ _ Q5).trans e0;refine ⟨?_,?_,?_,?_⟩<;>(rw [aJ e1];rfl))
    refine tL 9 ?_;simp only [Act.put,sA,s0,s1];refine aq (i:=10) rfl Q7 (fun K hK=>?_);refine ae cw (wp_store_row (P:=Tryz.prog) 47 _ _ rfl (w.heap.size+2) #[.slice Tc g.aF.length Vc,.int .i64 g.result,.slice Hi g.aG.length Ii,.slice acc g.code.length Ke] cw fk 47 _ (KH.out w2 Io).2.2 Tryz.infFn rfl (by simp [Value.oneCell']) ?_);refine hK.out _ _ (KFR.out) (fun hH=>?_);clear hK;try simp only [Act.put,sA,s0,s1]
    refine wpAnyH_done Q7 ?_ _;clear hH KFR;have Nf:=setRow_heap w2 (w.heap.size+2) _ #[.slice Tc g.aF.length Vc,.int .i64 g.result,.slice Hi g.aG.length Ii,.slice acc g.code.length Ke] _ _ (KH.out w2 Io).2.2;have e0:(w2.setRow (w.heap.size+2) #[.slice Tc g.aF.length Vc,.int .i64 g.result,.slice Hi g.aG.length Ii,.slice acc g.code.length Ke]).cell? ⟨w.heap.size+2,0,none⟩=some (.slice Tc g.aF.length Vc):=by rw [aJ Nf];rfl
    have e1:(w2.setRow (w.heap.size+2) #[.slice Tc g.aF.length Vc,.int .i64 g.result,.slice Hi g.aG.length Ii,.slice acc g.code.length Ke]).cell? ⟨w.heap.size+2,1,none⟩=some (.int .i64 g.result):=by rw [aJ Nf];rfl
    have e2:(w2.setRow (w.heap.size+2) #[.slice Tc g.aF.length Vc,.int .i64 g.result,.slice Hi g.aG.length Ii,.slice acc g.code.length Ke]).cell? ⟨w.heap.size+2,2,none⟩=some (.slice Hi g.aG.length Ii):=by rw [aJ Nf];rfl
    have e3:(w2.setRow (w.heap.size+2) #[.slice Tc g.aF.length Vc,.int .i64 g.result,.slice Hi g.aG.length Ii,.slice acc g.code.length Ke]).cell? ⟨w.heap.size+2,3,none⟩=some (.slice acc g.code.length Ke):=by rw [aJ Nf];rfl
    clear Nf;go_wp2_with fail
    refine bodyPost_ret (v:=.agg #[.slice Tc g.aF.length Vc,.int .i64 g.result,.slice Hi g.aG.length Ii,.slice acc g.code.length Ke]) (by simp [results,Tryz.results124,go_sem,e0,e1,e2,e3]) rfl ?_;have KV:=pE (cs:=#[.slice Tc g.aF.length Vc,.int .i64 g.result,.slice Hi g.aG.length Ii,.slice acc g.code.length Ke]) (HG3.out.trans Io) (g:=w.heap.size+2) Q5;have hkeep:∀(b:Nat) (e:TypeId) (s:Nat) (v:Value) (n:Nat) (xs:List Value),w.heap.size+3<=b->w2.ownsRow b e s v n xs->(w2.setRow (w.heap.size+2) #[.slice Tc g.aF.length Vc,.int .i64 g.result,.slice Hi g.aG.length Ii,.slice acc g.code.length Ke]).ownsRow w.heap.size e s v n xs:=by
     intro b e s v n xs hb ho;refine pb (b:=b) ?_ Q5;refine ⟨ho.1,?_⟩;rcases ho.2 with h|⟨gg,cap,cur,e1,e2,e3,r⟩
     · exact .inl h
     · exact .inr ⟨gg,cap,cur,e1,e2,by rw [setRow_other _ _ _ _ Q5];exact e3,r⟩
    have Kh:=Hd.out;have Tx:=dA (World.ownsRow.drew O5.out) O0.out;refine ⟨_,_,_,rfl,hkeep wr.drew.heap.size _ _ _ _ _ hWr XP.out,hkeep wr.drew.heap.size _ _ _ _ _ hWr HOY.out,?_,FC.out,?_,?_,KV⟩
    · have:=hkeep V3.heap.size _ _ _ _ _ Q5 Tx
      simpa [zn] using this
    · exact (pd (World.ownsRow.drew O5.out) XP.out (Nat.le_refl _)).symm
    · exact (pd (World.ownsRow.drew O5.out) HOY.out (Nat.le_refl _)).symm
end Go.Proofs.YtkgncijcnlfhiabGreat
