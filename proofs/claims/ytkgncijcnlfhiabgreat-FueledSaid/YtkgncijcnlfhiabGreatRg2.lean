import Derived.Test.YtkgncijcnlfhiabGreatW4c
namespace Go.Proofs.YtkgncijcnlfhiabGreat
set_option maxHeartbeats 2000000
set_option linter.unusedVariables false
set_option linter.unusedSimpArgs false
open Go.RowKit
attribute [local go_sem ↓] Go.wp_at_zero Go.wp_at_succ
theorem gQ(l:List aO)(v:Value)(n e a:Int)(w:World)(hR:dH w v l):
 Calls Tryz.prog 54 #[v,.int .i64 n,.agg #[.int .i64 e,.int .i64 0,.int .i64 a]] w fun x w'=>
  x=kA (b9 l n) e a/\Gr w w':=by
 obtain ⟨ao,cap,rfl,hm,hc⟩:=hR;unfold maxLen at hm;have HC:=aH hc;clear hc;obtain ⟨he,hn,ha⟩:=gd w e a;unfold b9;cases hb:wB l.length 0 30
 · go_enter Tryz.func54,Tryz.ntmps54
   go_wp2
   go_region_with (first|(go_at_call 99;refine (aZ _ _ _ _).mono ?_;rintro e w' ⟨rfl,rfl⟩)|(go_at_call 64;refine (aV _ _ _).mono ?_;rintro e w' ⟨rfl,D0⟩;refine aR ?_))
   all_goals exact ⟨rfl,rfl,Q0⟩
 · go_enter Tryz.func54,Tryz.ntmps54
   go_wp2
   go_region_held3 (fun w'=>w'.cell? ⟨w.heap.size,0,none⟩=some (.int .i64 e)/\w'.cell? ⟨w.heap.size,1,none⟩=some (.int .i64 0)/\w'.cell? ⟨w.heap.size,2,none⟩=some (.int .i64 a)) (first|go_keep|exact ⟨D0.cell Q8 Q6,D0.cell Q8 Q6,D0.cell Q8 Q6⟩) (first|(go_at_call 99;refine (aZ _ _ _ _).mono ?_;rintro e w' ⟨rfl,rfl⟩)|(go_at_call 64;refine (aP _ _ _).mono ?_;rintro e w' ⟨rfl,D0⟩))
   have N4:=D0.cell he Q6;have C4:=D0.cell hn Q6;have J2:=D0.cell ha Q6;have Z6:Gr w w':=Q0;clear D0 he hn ha;go_wp2
   go_loopw [15] (fun i wr=>∃k:Nat,k<=l.length/\i=.int .i64 k/\(l.take k).all (dD n)=true/\wr.cell? ⟨w.heap.size,0,none⟩=some (.int .i64 e)/\wr.cell? ⟨w.heap.size,1,none⟩=some (.int .i64 0)/\wr.cell? ⟨w.heap.size,2,none⟩=some (.int .i64 a)/\Gr w wr) (fun i _=>l.length - (intOf i).toNat)
   case atStart=>exact ⟨0,Nat.zero_le _,rfl,Q6,N4,C4,J2,Z6⟩
   case round=>
    clear N4 C4 J2 Z6;obtain ⟨k,hk,rfl,C2,he,hn,ha,hg⟩:=hrel;have HA:=aH C2;clear C2;by_cases J0:k < l.length
    · obtain ⟨x,hx⟩:=aX J0;obtain ⟨b,off,vp,vl,vc,K_,L8,J5,S5,Pd,M',Em,Rn⟩:=HC.out k x hx;subst K_;have Xf:=hg.cell L8 Q6;have Vh:=hg.cell J5 Q6;have Nn:=hg.cell S5 Q6;have MT:=hg.cell Pd Q6;have Pq:=Em.choose_spec.choose_spec.2.1;unfold maxLen at Pq;obtain ⟨al,cl,rfl⟩:=Em.shape;obtain ⟨ap,cp,rfl⟩:=M'.shape;obtain ⟨ac,cc,rfl⟩:=Rn.shape;have Fh:=aH (M'.gr hg);have Ks:=aH (Em.gr hg);have NO:=aH (Rn.gr hg);have HX:=aH hx;clear hx L8 J5 S5 Pd M' Em Rn;have P8:(wr.alloc (.cells #[.slice ap x.aF.length cp,.int .i64 x.result,.slice al x.aG.length cl,.slice ac x.code.length cc] 47)).cell? ⟨wr.heap.size,2,none⟩=some (.slice al x.aG.length cl):=by simp [go_sem]
      have OO:(wr.alloc (.cells #[.slice ap x.aF.length cp,.int .i64 x.result,.slice al x.aG.length cl,.slice ac x.code.length cc] 47)).cell? ⟨wr.heap.size,3,none⟩=some (.slice ac x.code.length cc):=by simp [go_sem]
      have On:=(World.grownBy_alloc wr (.cells #[.slice ap x.aF.length cp,.int .i64 x.result,.slice al x.aG.length cl,.slice ac x.code.length cc] 47) none).cell he Q6;have Pn:=(World.grownBy_alloc wr (.cells #[.slice ap x.aF.length cp,.int .i64 x.result,.slice al x.aG.length cl,.slice ac x.code.length cc] 47) none).cell hn Q6;have Qn:=(World.grownBy_alloc wr (.cells #[.slice ap x.aF.length cp,.int .i64 x.result,.slice al x.aG.length cl,.slice ac x.code.length cc] 47) none).cell ha Q6;cases He:fL x.aF x.result n
      · have HF:Hid (l.all (dD n)=false):=aH (bE HX.out (by simp [dD,He]));have HS:=aH He;clear He;go_wp2_with (go_at_call 101;refine (eG (fj x.aF _ x.result n e a _ (by exact Fh.out.gr Q0)) HS.out).mono ?_;rintro e w1 ⟨rfl,hg1⟩)
        exact ⟨rfl,by rw [HF.out];rfl,Q0⟩
      · have HS:=aH He;go_wp2_with (go_at_call 101;refine (bO (fj x.aF _ x.result n e a _ (by exact Fh.out.gr Q0)) HS.out).mono ?_;rintro e w1 ⟨rfl,hg1⟩)
        have N4:=hg1.cell On Q6;have C4:=hg1.cell Pn Q6;have J2:=hg1.cell Qn Q6;have Ge:=hg1.cell P8 Q6;have FE:=hg1.cell OO Q6;have M3:Gr wr w1:=Q0;clear P8 OO On Pn Qn he hn ha hg1;cases Y9:wB x.aG.length 0 10
        · have HF:Hid (l.all (dD n)=false):=aH (bE HX.out (by simp [dD,Y9]));go_region_with (first|(go_at_call 99;refine (aZ _ _ _ _).mono ?_;rintro e w' ⟨rfl,rfl⟩)|(go_at_call 64;refine (aV _ _ _).mono ?_;rintro e w' ⟨rfl,D0⟩;refine aR ?_))
          all_goals exact ⟨rfl,by rw [HF.out];rfl,Q0⟩
        · go_region_held3 (fun w'=>w'.cell? ⟨w.heap.size,0,none⟩=some (.int .i64 e)/\w'.cell? ⟨w.heap.size,1,none⟩=some (.int .i64 0)/\w'.cell? ⟨w.heap.size,2,none⟩=some (.int .i64 a)/\w'.cell? ⟨wr.heap.size,2,none⟩=some (.slice al x.aG.length cl)) (first|go_keep|(refine ⟨?_,?_,?_,?_⟩<;>exact D0.cell Q8 Q6)) (first|(go_at_call 99;refine (aZ _ _ _ _).mono ?_;rintro e w' ⟨rfl,rfl⟩)|(go_at_call 64;refine (aP _ _ _).mono ?_;rintro e w' ⟨rfl,D0⟩))
          have D9:=D0.cell N4 Q6;have T6:=D0.cell C4 Q6;have Eh:=D0.cell J2 Q6;have Js:=D0.cell Ge Q6;have NT:=D0.cell FE Q6;have Xh:Gr wr w':=Q0;clear M3 D0 N4 C4 J2 Ge FE;cases Sa:x.aG.all (gD n)
          · have HF:Hid (l.all (dD n)=false):=aH (bE HX.out (by simp [dD,Sa]));have HK:=aH Sa;clear Sa;go_wp2_with (go_at_call 100;refine (eG (fO x.aG _ n e a _ (by exact Ks.out.gr Q0)) HK.out).mono ?_;rintro e w2 ⟨rfl,E0⟩)
            exact ⟨rfl,by rw [HF.out];rfl,Q0⟩
          · have HK:=aH Sa;go_wp2_with (go_at_call 100;refine (bO (fO x.aG _ n e a _ (by exact Ks.out.gr Q0)) HK.out).mono ?_;rintro e w2 ⟨rfl,E0⟩;have he3:=E0.cell D9 Q6;have Zj:=E0.cell T6 Q6;have ha3:=E0.cell Eh Q6;have hi33:=E0.cell NT Q6)
            cases Qq:gG x.code
            · have HF:Hid (l.all (dD n)=false):=aH (bE HX.out (by simp [dD,Qq]));have H_:=aH Qq;clear Qq;go_wp2_with (go_at_call 102;refine (eG (qo x.code _ e a _ (by exact NO.out.gr Q0)) H_.out).mono ?_;rintro e w3 ⟨rfl,P0⟩)
              exact ⟨rfl,by rw [HF.out];rfl,Q0⟩
            · have HT:Hid ((l.take (k+1)).all (dD n)=true):=aH (by rw [dk HX.out,HA.out];simp [dD,He,Y9,HK.out,Qq]);have H_:=aH Qq;clear Qq;go_wp2_with (go_at_call 102;refine (bO (qo x.code _ e a _ (by exact NO.out.gr Q0)) H_.out).mono ?_;rintro e w3 ⟨rfl,P0⟩)
              go_roundw
              case rel=>exact ⟨k+1,Q5,by go_num,HT.out,P0.cell he3 Q6,P0.cell Zj Q6,P0.cell ha3 Q6,Q0⟩
              case measure=>simp [intOf];omega
    · go_wp2
      go_end0
      exact ⟨by rw [lH HA.out J0];rfl,hg⟩
open Go.RowKit
attribute [local go_sem ↓] Go.wp_at_zero Go.wp_at_succ
theorem iW(l:List UInt8)(v:Value)(e a:Int)(w:World)(h:ei v l):
 Calls Tryz.prog 103 #[v,.agg #[.int .i64 e,.int .i64 0,.int .i64 a]] w fun x w'=>x=kA (ee l) e a/\Gr w w':=by
 obtain ⟨s,rfl,rfl,hs⟩:=h;exact wP s e a w hs
theorem ft(l:List fK)(v:Value)(n e a:Int)(w:World)(hR:bo w v l):
 Calls Tryz.prog 55 #[v,.int .i64 n,.agg #[.int .i64 e,.int .i64 0,.int .i64 a]] w fun x w'=>
  x=kA (bZ l n) e a/\Gr w w':=by
 obtain ⟨ao,cap,rfl,hm,hc⟩:=hR;unfold maxLen at hm;have HC:=aH hc;clear hc;obtain ⟨he,hn,ha⟩:=gd w e a;unfold bZ;cases hb:wB l.length 0 20
 · go_enter Tryz.func55,Tryz.ntmps55
   go_wp2
   go_region_with (first|(go_at_call 99;refine (aZ _ _ _ _).mono ?_;rintro e w' ⟨rfl,rfl⟩)|(go_at_call 64;refine (aV _ _ _).mono ?_;rintro e w' ⟨rfl,D0⟩;refine aR ?_))
   all_goals exact ⟨rfl,rfl,Q0⟩
 · go_enter Tryz.func55,Tryz.ntmps55
   go_wp2
   go_region_held3 (fun w'=>w'.cell? ⟨w.heap.size,0,none⟩=some (.int .i64 e)/\w'.cell? ⟨w.heap.size,1,none⟩=some (.int .i64 0)/\w'.cell? ⟨w.heap.size,2,none⟩=some (.int .i64 a)) (first|go_keep|exact ⟨D0.cell Q8 Q6,D0.cell Q8 Q6,D0.cell Q8 Q6⟩) (first|(go_at_call 99;refine (aZ _ _ _ _).mono ?_;rintro e w' ⟨rfl,rfl⟩)|(go_at_call 64;refine (aP _ _ _).mono ?_;rintro e w' ⟨rfl,D0⟩))
   have N4:=D0.cell he Q6;have C4:=D0.cell hn Q6;have J2:=D0.cell ha Q6;have Z6:Gr w w':=Q0;clear D0 he hn ha;go_wp2
   go_loopw [15] (fun i wr=>∃k:Nat,k<=l.length/\i=.int .i64 k/\(l.take k).all (iM n)=true/\wr.cell? ⟨w.heap.size,0,none⟩=some (.int .i64 e)/\wr.cell? ⟨w.heap.size,1,none⟩=some (.int .i64 0)/\wr.cell? ⟨w.heap.size,2,none⟩=some (.int .i64 a)/\Gr w wr) (fun i _=>l.length - (intOf i).toNat)
   case atStart=>exact ⟨0,Nat.zero_le _,rfl,Q6,N4,C4,J2,Z6⟩
   case round=>
    clear N4 C4 J2 Z6;obtain ⟨k,hk,rfl,C2,he,hn,ha,hg⟩:=hrel;have HA:=aH C2;clear C2;by_cases J0:k < l.length
    · obtain ⟨x,hx⟩:=aX J0;obtain ⟨b,off,vs,vp,K_,L8,J5,S5,Ck,M'⟩:=HC.out k x hx;subst K_;have Xf:=hg.cell L8 Q6;have Vh:=hg.cell J5 Q6;have Nn:=hg.cell S5 Q6;obtain ⟨ap,cp,rfl⟩:=M'.shape;have Fh:=aH (M'.gr hg);have Ea:=aH Ck;obtain ⟨s,rfl,hsl,Ra⟩:=Ck;have HX:=aH hx;clear hx L8 J5 S5 M' hsl Ra;have Fe:(wr.alloc (.cells #[.string s,.slice ap x.aF.length cp,.int .i64 x.result] 71)).cell? ⟨wr.heap.size,1,none⟩=some (.slice ap x.aF.length cp):=by simp [go_sem]
      have P8:(wr.alloc (.cells #[.string s,.slice ap x.aF.length cp,.int .i64 x.result] 71)).cell? ⟨wr.heap.size,2,none⟩=some (.int .i64 x.result):=by simp [go_sem]
      have On:=(World.grownBy_alloc wr (.cells #[.string s,.slice ap x.aF.length cp,.int .i64 x.result] 71) none).cell he Q6;have Pn:=(World.grownBy_alloc wr (.cells #[.string s,.slice ap x.aF.length cp,.int .i64 x.result] 71) none).cell hn Q6;have Qn:=(World.grownBy_alloc wr (.cells #[.string s,.slice ap x.aF.length cp,.int .i64 x.result] 71) none).cell ha Q6;cases He:ee x.name
      · have HF:Hid (l.all (iM n)=false):=aH (bE HX.out (by simp [iM,He]));have HS:=aH He;clear He;go_wp2_with (go_at_call 103;refine (eG (iW x.name _ e a _ Ea.out) HS.out).mono ?_;rintro e w1 ⟨rfl,hg1⟩)
        exact ⟨rfl,by rw [HF.out];rfl,Q0⟩
      · have HS:=aH He;cases Sa:fL x.aF x.result n
        · have HF:Hid (l.all (iM n)=false):=aH (bE HX.out (by simp [iM,Sa]));have HK:=aH Sa;clear Sa He;go_wp2_with (first|(go_at_call 103;refine (bO (iW x.name _ e a _ Ea.out) HS.out).mono ?_;rintro e w1 ⟨rfl,hg1⟩;have N4:=hg1.cell On Q6;have C4:=hg1.cell Pn Q6;have J2:=hg1.cell Qn Q6;have Wh:=hg1.cell Fe Q6;have Ge:=hg1.cell P8 Q6)|(go_at_call 101;refine (eG (fj x.aF _ x.result n e a _ (by exact Fh.out.gr Q0)) HK.out).mono ?_;rintro e w2 ⟨rfl,E0⟩))
          exact ⟨rfl,by rw [HF.out];rfl,Q0⟩
        · have HT:Hid ((l.take (k+1)).all (iM n)=true):=aH (by rw [dk HX.out,HA.out];simp [iM,He,Sa]);have HK:=aH Sa;clear Sa He;go_wp2_with (first|(go_at_call 103;refine (bO (iW x.name _ e a _ Ea.out) HS.out).mono ?_;rintro e w1 ⟨rfl,hg1⟩;have N4:=hg1.cell On Q6;have C4:=hg1.cell Pn Q6;have J2:=hg1.cell Qn Q6;have Wh:=hg1.cell Fe Q6;have Ge:=hg1.cell P8 Q6)|(go_at_call 101;refine (bO (fj x.aF _ x.result n e a _ (by exact Fh.out.gr Q0)) HK.out).mono ?_;rintro e w2 ⟨rfl,E0⟩))
          go_roundw
          case rel=>exact ⟨k+1,Q5,by go_num,HT.out,E0.cell N4 Q6,E0.cell C4 Q6,E0.cell J2 Q6,Q0⟩
          case measure=>simp [intOf];omega
    · go_wp2
      go_end0
      exact ⟨by rw [lH HA.out J0];rfl,hg⟩
open Go.RowKit
attribute [local go_sem ↓] Go.wp_at_zero Go.wp_at_succ
theorem iH(l:List dq)(v:Value)(n e a:Int)(w:World)(hn:0<=n)(Vu:n<=1000000)(hR:dJ w v l):
 Calls Tryz.prog 56 #[v,.int .i64 n,.agg #[.int .i64 e,.int .i64 0,.int .i64 a]] w fun x w'=>
  x=kA (bm l n) e a/\Gr w w':=by
 obtain ⟨ao,cap,rfl,hm,hc⟩:=hR;unfold maxLen at hm;have S3:IntKind.i64.wrap (n - 1)=n - 1:=Q_;have HC:=aH hc;clear hc;obtain ⟨he,hn,ha⟩:=gd w e a;unfold bm;cases hb:wB l.length 0 20
 · go_enter Tryz.func56,Tryz.ntmps56
   go_wp2
   go_region_with (first|(go_at_call 99;refine (aZ _ _ _ _).mono ?_;rintro e w' ⟨rfl,rfl⟩)|(go_at_call 64;refine (aV _ _ _).mono ?_;rintro e w' ⟨rfl,D0⟩;refine aR ?_))
   all_goals exact ⟨rfl,rfl,Q0⟩
 · go_enter Tryz.func56,Tryz.ntmps56
   go_wp2
   go_region_held3 (fun w'=>w'.cell? ⟨w.heap.size,0,none⟩=some (.int .i64 e)/\w'.cell? ⟨w.heap.size,1,none⟩=some (.int .i64 0)/\w'.cell? ⟨w.heap.size,2,none⟩=some (.int .i64 a)) (first|go_keep|exact ⟨D0.cell Q8 Q6,D0.cell Q8 Q6,D0.cell Q8 Q6⟩) (first|(go_at_call 99;refine (aZ _ _ _ _).mono ?_;rintro e w' ⟨rfl,rfl⟩)|(go_at_call 64;refine (aP _ _ _).mono ?_;rintro e w' ⟨rfl,D0⟩))
   have N4:=D0.cell he Q6;have C4:=D0.cell hn Q6;have J2:=D0.cell ha Q6;have Z6:Gr w w':=Q0;clear D0 he hn ha;go_wp2
   go_loopw [15] (fun i wr=>∃k:Nat,k<=l.length/\i=.int .i64 k/\(l.take k).all (hO n)=true/\wr.cell? ⟨w.heap.size,0,none⟩=some (.int .i64 e)/\wr.cell? ⟨w.heap.size,1,none⟩=some (.int .i64 0)/\wr.cell? ⟨w.heap.size,2,none⟩=some (.int .i64 a)/\Gr w wr) (fun i _=>l.length - (intOf i).toNat)
   case atStart=>exact ⟨0,Nat.zero_le _,rfl,Q6,N4,C4,J2,Z6⟩
   case round=>
    clear N4 C4 J2 Z6;obtain ⟨k,hk,rfl,C2,he,hn,ha,hg⟩:=hrel;have HA:=aH C2;clear C2;by_cases J0:k < l.length
    · obtain ⟨x,hx⟩:=aX J0;obtain ⟨b,off,vs,K_,L8,J5,Ck⟩:=HC.out k x hx;subst K_;have Xf:=hg.cell L8 Q6;have Vh:=hg.cell J5 Q6;have Ea:=aH Ck;obtain ⟨s,rfl,hsl,Ra⟩:=Ck;have HX:=aH hx;clear hx L8 J5 hsl Ra;have Fe:(wr.alloc (.cells #[.string s,.int .i64 x.func] 60)).cell? ⟨wr.heap.size,1,none⟩=some (.int .i64 x.func):=by simp [go_sem]
      have On:=(World.grownBy_alloc wr (.cells #[.string s,.int .i64 x.func] 60) none).cell he Q6;have Pn:=(World.grownBy_alloc wr (.cells #[.string s,.int .i64 x.func] 60) none).cell hn Q6;have Qn:=(World.grownBy_alloc wr (.cells #[.string s,.int .i64 x.func] 60) none).cell ha Q6;cases He:ee x.name
      · have HF:Hid (l.all (hO n)=false):=aH (bE HX.out (by simp [hO,He]));have HS:=aH He;clear He;go_wp2_with (go_at_call 103;refine (eG (iW x.name _ e a _ Ea.out) HS.out).mono ?_;rintro e w1 ⟨rfl,hg1⟩)
        exact ⟨rfl,by rw [HF.out];rfl,Q0⟩
      · have HS:=aH He;go_wp2_with (first|(go_at_call 103;refine (bO (iW x.name _ e a _ Ea.out) HS.out).mono ?_;rintro e w1 ⟨rfl,hg1⟩;have N4:=hg1.cell On Q6;have C4:=hg1.cell Pn Q6;have J2:=hg1.cell Qn Q6;have Wh:=hg1.cell Fe Q6))
        have M3:Gr w w1:=Q0;clear Fe On Pn Qn he hn ha hg1;cases Sa:wB x.func 0 (n - 1)
        · have HF:Hid (l.all (hO n)=false):=aH (bE HX.out (by simp [hO,Sa]));go_region_with (first|(go_at_call 99;refine (aZ _ _ _ _).mono ?_;rintro e w' ⟨rfl,rfl⟩)|(go_at_call 64;refine (aV _ _ _).mono ?_;rintro e w' ⟨rfl,D0⟩;refine aR ?_))
          all_goals exact ⟨rfl,by rw [HF.out];rfl,Q0⟩
        · have HT:Hid ((l.take (k+1)).all (hO n)=true):=aH (by rw [dk HX.out,HA.out];simp [hO,He,Sa]);go_region_held3 (fun w'=>w'.cell? ⟨w.heap.size,0,none⟩=some (.int .i64 e)/\w'.cell? ⟨w.heap.size,1,none⟩=some (.int .i64 0)/\w'.cell? ⟨w.heap.size,2,none⟩=some (.int .i64 a)/\w'.cell? ⟨wr.heap.size,1,none⟩=some (.int .i64 x.func)) (first|go_keep|(refine ⟨?_,?_,?_,?_⟩<;>exact D0.cell Q8 Q6)) (first|(go_at_call 99;refine (aZ _ _ _ _).mono ?_;rintro e w' ⟨rfl,rfl⟩)|(go_at_call 64;refine (aP _ _ _).mono ?_;rintro e w' ⟨rfl,D0⟩))
          go_wp2
          go_roundw
          case rel=>exact ⟨k+1,Q5,by go_num,HT.out,D0.cell N4 Q6,D0.cell C4 Q6,D0.cell J2 Q6,Q0⟩
          case measure=>simp [intOf];omega
    · go_wp2
      go_end0
      exact ⟨by rw [lH HA.out J0];rfl,hg⟩
open Go.RowKit
attribute [local go_sem ↓] Go.wp_at_zero Go.wp_at_succ
theorem eT{w w':World}(g:Gr w w'){p q:Nat}{v0 v1 v2 v3 v4 v5 v6 v7:Value}
 (h:w.cell? ⟨p,0,none⟩=some v0/\w.cell? ⟨p,1,none⟩=some v1/\w.cell? ⟨p,2,none⟩=some v2/\w.cell? ⟨p,3,none⟩=some v3/\w.cell? ⟨p,4,none⟩=some v4/\w.cell? ⟨q,0,none⟩=some v5/\w.cell? ⟨q,1,none⟩=some v6/\w.cell? ⟨q,2,none⟩=some v7):
 w'.cell? ⟨p,0,none⟩=some v0/\w'.cell? ⟨p,1,none⟩=some v1/\w'.cell? ⟨p,2,none⟩=some v2/\w'.cell? ⟨p,3,none⟩=some v3/\w'.cell? ⟨p,4,none⟩=some v4/\w'.cell? ⟨q,0,none⟩=some v5/\w'.cell? ⟨q,1,none⟩=some v6/\w'.cell? ⟨q,2,none⟩=some v7:=by
 obtain ⟨h0,h1,h2,h3,h4,h5,h6,h7⟩:=h;exact ⟨g.cell h0 Q6,g.cell h1 Q6,g.cell h2 Q6,g.cell h3 Q6,g.cell h4 Q6,g.cell h5 Q6,g.cell h6 Q6,g.cell h7 Q6⟩
theorem bo.shape{w:World}{v:Value}{l:List fK}(h:bo w v l):∃ao cap,v=.slice ao l.length cap:=by
 obtain ⟨ao,cap,hv,_⟩:=h;exact ⟨ao,cap,hv⟩
theorem dJ.shape{w:World}{v:Value}{l:List dq}(h:dJ w v l):∃ao cap,v=.slice ao l.length cap:=by
 obtain ⟨ao,cap,hv,_⟩:=h;exact ⟨ao,cap,hv⟩
theorem km(u:aK)(v:Value)(e a:Int)(w:World)(hR:cO w v u):
 Calls Tryz.prog 31 #[v,.agg #[.int .i64 e,.int .i64 0,.int .i64 a]] w fun x w'=>
  x=kA (ai u) e a/\Gr w w':=by
 obtain ⟨v1,v2,v3,v4,v5,rfl,h1,h2,h3,h4,h5⟩:=hR;have m1:=h1.choose_spec.choose_spec.2.1;have m2:=h2.choose_spec.choose_spec.2.1;have m3:=h3.choose_spec.choose_spec.2.1;obtain ⟨a1,c1,rfl⟩:=h1.shape;obtain ⟨a2,c2,rfl⟩:=h2.shape;obtain ⟨a3,c3,rfl⟩:=h3.shape;obtain ⟨a4,c4,rfl⟩:=h4.shape;obtain ⟨a5,c5,rfl⟩:=h5.shape;have H1:=aH h1;have H2:=aH h2;have H3:=aH h3;have H4:=aH h4;have H5:=aH h5;have IE:=aH m2;clear h1 h2 h3 h4 h5 m2;unfold maxLen at m1 m3;obtain ⟨k0,k1,k2,k3,k4,ke,kn,ka⟩:((w.alloc (.cells #[.slice a1 u.aA.length c1,.slice a2 u.aD.length c2,.slice a3 u.aE.length c3,.slice a4 u.aB.length c4,.slice a5 u.aC.length c5] 29)).alloc (.cells #[.int .i64 e,.int .i64 0,.int .i64 a] 62)).cell? ⟨w.heap.size,0,none⟩=some (.slice a1 u.aA.length c1)/\((w.alloc (.cells #[.slice a1 u.aA.length c1,.slice a2 u.aD.length c2,.slice a3 u.aE.length c3,.slice a4 u.aB.length c4,.slice a5 u.aC.length c5] 29)).alloc (.cells #[.int .i64 e,.int .i64 0,.int .i64 a] 62)).cell? ⟨w.heap.size,1,none⟩=some (.slice a2 u.aD.length c2)/\((w.alloc (.cells #[.slice a1 u.aA.length c1,.slice a2 u.aD.length c2,.slice a3 u.aE.length c3,.slice a4 u.aB.length c4,.slice a5 u.aC.length c5] 29)).alloc (.cells #[.int .i64 e,.int .i64 0,.int .i64 a] 62)).cell? ⟨w.heap.size,2,none⟩=some (.slice a3 u.aE.length c3)/\((w.alloc (.cells #[.slice a1 u.aA.length c1,.slice a2 u.aD.length c2,.slice a3 u.aE.length c3,.slice a4 u.aB.length c4,.slice a5 u.aC.length c5] 29)).alloc (.cells #[.int .i64 e,.int .i64 0,.int .i64 a] 62)).cell? ⟨w.heap.size,3,none⟩=some (.slice a4 u.aB.length c4)/\((w.alloc (.cells #[.slice a1 u.aA.length c1,.slice a2 u.aD.length c2,.slice a3 u.aE.length c3,.slice a4 u.aB.length c4,.slice a5 u.aC.length c5] 29)).alloc (.cells #[.int .i64 e,.int .i64 0,.int .i64 a] 62)).cell? ⟨w.heap.size,4,none⟩=some (.slice a5 u.aC.length c5)/\((w.alloc (.cells #[.slice a1 u.aA.length c1,.slice a2 u.aD.length c2,.slice a3 u.aE.length c3,.slice a4 u.aB.length c4,.slice a5 u.aC.length c5] 29)).alloc (.cells #[.int .i64 e,.int .i64 0,.int .i64 a] 62)).cell? ⟨w.heap.size+1,0,none⟩=some (.int .i64 e)/\((w.alloc (.cells #[.slice a1 u.aA.length c1,.slice a2 u.aD.length c2,.slice a3 u.aE.length c3,.slice a4 u.aB.length c4,.slice a5 u.aC.length c5] 29)).alloc (.cells #[.int .i64 e,.int .i64 0,.int .i64 a] 62)).cell? ⟨w.heap.size+1,1,none⟩=some (.int .i64 0)/\((w.alloc (.cells #[.slice a1 u.aA.length c1,.slice a2 u.aD.length c2,.slice a3 u.aE.length c3,.slice a4 u.aB.length c4,.slice a5 u.aC.length c5] 29)).alloc (.cells #[.int .i64 e,.int .i64 0,.int .i64 a] 62)).cell? ⟨w.heap.size+1,2,none⟩=some (.int .i64 a):=by
  refine ⟨?_,?_,?_,?_,?_,?_,?_,?_⟩<;>simp [go_sem]
 unfold ai;cases b0:cL u.aA
 · have B0:=aH b0;clear b0;go_enter Tryz.func31,Tryz.ntmps31
   go_wp2_with (first|(go_at_call 52;refine (eG (d' u.aA _ e a _ (by exact H1.out.gr Q0)) B0.out).mono ?_;rintro e w1 ⟨rfl,hg1⟩))
   exact ⟨rfl,rfl,Q0⟩
 · have B0:=aH b0;clear b0;cases b1:cV u.aD
   · have B1:=aH b1;clear b1;go_enter Tryz.func31,Tryz.ntmps31
     go_wp2_with (first|(go_at_call 52;refine (bO (d' u.aA _ e a _ (by exact H1.out.gr Q0)) B0.out).mono ?_;rintro e w1 ⟨rfl,hg1⟩;obtain ⟨Yf,Zf,Cg,Dg,Eg,Fg,Gg,Hg⟩:=eT hg1 ⟨k0,k1,k2,k3,k4,ke,kn,ka⟩)|(go_at_call 53;refine (eG (eZ _ u.aD e a _ ⟨a2,c2,rfl⟩ (by exact IE.out)) B1.out).mono ?_;rintro e w2 ⟨rfl,E0⟩))
     exact ⟨rfl,rfl,Q0⟩
   · have B1:=aH b1;clear b1;cases b2:b9 u.aE u.aA.length
     · have B2:=aH b2;clear b2;go_enter Tryz.func31,Tryz.ntmps31
       go_wp2_with (first|(go_at_call 52;refine (bO (d' u.aA _ e a _ (by exact H1.out.gr Q0)) B0.out).mono ?_;rintro e w1 ⟨rfl,hg1⟩;obtain ⟨Yf,Zf,Cg,Dg,Eg,Fg,Gg,Hg⟩:=eT hg1 ⟨k0,k1,k2,k3,k4,ke,kn,ka⟩)|(go_at_call 53;refine (bO (eZ _ u.aD e a _ ⟨a2,c2,rfl⟩ (by exact IE.out)) B1.out).mono ?_;rintro e w2 ⟨rfl,E0⟩;obtain ⟨Dk,Ek,Fk,Gk,Hk,Ik,Jk,Kk⟩:=eT E0 ⟨Yf,Zf,Cg,Dg,Eg,Fg,Gg,Hg⟩)|(go_at_call 54;refine (eG (gQ u.aE _ u.aA.length e a _ (by exact H3.out.gr Q0)) B2.out).mono ?_;rintro e w3 ⟨rfl,P0⟩))
       exact ⟨rfl,rfl,Q0⟩
     · have B2:=aH b2;clear b2;cases b3:bZ u.aB u.aA.length
       · have B3:=aH b3;clear b3;go_enter Tryz.func31,Tryz.ntmps31
         go_wp2_with (first|(go_at_call 52;refine (bO (d' u.aA _ e a _ (by exact H1.out.gr Q0)) B0.out).mono ?_;rintro e w1 ⟨rfl,hg1⟩;obtain ⟨Yf,Zf,Cg,Dg,Eg,Fg,Gg,Hg⟩:=eT hg1 ⟨k0,k1,k2,k3,k4,ke,kn,ka⟩)|(go_at_call 53;refine (bO (eZ _ u.aD e a _ ⟨a2,c2,rfl⟩ (by exact IE.out)) B1.out).mono ?_;rintro e w2 ⟨rfl,E0⟩;obtain ⟨Dk,Ek,Fk,Gk,Hk,Ik,Jk,Kk⟩:=eT E0 ⟨Yf,Zf,Cg,Dg,Eg,Fg,Gg,Hg⟩)|(go_at_call 54;refine (bO (gQ u.aE _ u.aA.length e a _ (by exact H3.out.gr Q0)) B2.out).mono ?_;rintro e w3 ⟨rfl,P0⟩;obtain ⟨Ls,Ms,Ns,Ps,Qs,Rs,Ss,Vs⟩:=eT P0 ⟨Dk,Ek,Fk,Gk,Hk,Ik,Jk,Kk⟩)|(go_at_call 55;refine (eG (ft u.aB _ u.aA.length e a _ (by exact H4.out.gr Q0)) B3.out).mono ?_;rintro e w4 ⟨rfl,T4⟩))
         exact ⟨rfl,rfl,Q0⟩
       · have B3:=aH b3;clear b3;cases b4:bm u.aC u.aE.length
         · have B4:=aH b4;clear b4;have HL:Hid ((u.aE.length:Int)<=1000000):=aH (by have:=B2.out;simp [b9,wB] at this;omega);go_enter Tryz.func31,Tryz.ntmps31
           go_wp2_with (first|(go_at_call 52;refine (bO (d' u.aA _ e a _ (by exact H1.out.gr Q0)) B0.out).mono ?_;rintro e w1 ⟨rfl,hg1⟩;obtain ⟨Yf,Zf,Cg,Dg,Eg,Fg,Gg,Hg⟩:=eT hg1 ⟨k0,k1,k2,k3,k4,ke,kn,ka⟩)|(go_at_call 53;refine (bO (eZ _ u.aD e a _ ⟨a2,c2,rfl⟩ (by exact IE.out)) B1.out).mono ?_;rintro e w2 ⟨rfl,E0⟩;obtain ⟨Dk,Ek,Fk,Gk,Hk,Ik,Jk,Kk⟩:=eT E0 ⟨Yf,Zf,Cg,Dg,Eg,Fg,Gg,Hg⟩)|(go_at_call 54;refine (bO (gQ u.aE _ u.aA.length e a _ (by exact H3.out.gr Q0)) B2.out).mono ?_;rintro e w3 ⟨rfl,P0⟩;obtain ⟨Ls,Ms,Ns,Ps,Qs,Rs,Ss,Vs⟩:=eT P0 ⟨Dk,Ek,Fk,Gk,Hk,Ik,Jk,Kk⟩)|(go_at_call 55;refine (bO (ft u.aB _ u.aA.length e a _ (by exact H4.out.gr Q0)) B3.out).mono ?_;rintro e w4 ⟨rfl,T4⟩;obtain ⟨JE,KE,ME,OE,PE,QE,RE,SE⟩:=eT T4 ⟨Ls,Ms,Ns,Ps,Qs,Rs,Ss,Vs⟩)|(go_at_call 56;refine (eG (iH u.aC _ u.aE.length e a _ Q5 (by exact HL.out) (by exact H5.out.gr Q0)) B4.out).mono ?_;rintro e w5 ⟨rfl,P1⟩))
           exact ⟨rfl,rfl,Q0⟩
         · have B4:=aH b4;clear b4;have HL:Hid ((u.aE.length:Int)<=1000000):=aH (by have:=B2.out;simp [b9,wB] at this;omega);go_enter Tryz.func31,Tryz.ntmps31
           go_wp2_with (first|(go_at_call 52;refine (bO (d' u.aA _ e a _ (by exact H1.out.gr Q0)) B0.out).mono ?_;rintro e w1 ⟨rfl,hg1⟩;obtain ⟨Yf,Zf,Cg,Dg,Eg,Fg,Gg,Hg⟩:=eT hg1 ⟨k0,k1,k2,k3,k4,ke,kn,ka⟩)|(go_at_call 53;refine (bO (eZ _ u.aD e a _ ⟨a2,c2,rfl⟩ (by exact IE.out)) B1.out).mono ?_;rintro e w2 ⟨rfl,E0⟩;obtain ⟨Dk,Ek,Fk,Gk,Hk,Ik,Jk,Kk⟩:=eT E0 ⟨Yf,Zf,Cg,Dg,Eg,Fg,Gg,Hg⟩)|(go_at_call 54;refine (bO (gQ u.aE _ u.aA.length e a _ (by exact H3.out.gr Q0)) B2.out).mono ?_;rintro e w3 ⟨rfl,P0⟩;obtain ⟨Ls,Ms,Ns,Ps,Qs,Rs,Ss,Vs⟩:=eT P0 ⟨Dk,Ek,Fk,Gk,Hk,Ik,Jk,Kk⟩)|(go_at_call 55;refine (bO (ft u.aB _ u.aA.length e a _ (by exact H4.out.gr Q0)) B3.out).mono ?_;rintro e w4 ⟨rfl,T4⟩;obtain ⟨JE,KE,ME,OE,PE,QE,RE,SE⟩:=eT T4 ⟨Ls,Ms,Ns,Ps,Qs,Rs,Ss,Vs⟩)|(go_at_call 56;refine (bO (iH u.aC _ u.aE.length e a _ Q5 (by exact HL.out) (by exact H5.out.gr Q0)) B4.out).mono ?_;rintro e w5 ⟨rfl,P1⟩;obtain ⟨k0_5,k1_5,k2_5,k3_5,k4_5,ke_5,kn_5,ka_5⟩:=eT P1 ⟨JE,KE,ME,OE,PE,QE,RE,SE⟩))
           go_end0
           exact ⟨rfl,Q0⟩
open Go.RowKit
theorem dF{P:Program}{l:List Oper}{md:Region.Mode}{Q:Exit->Act->World->Prop}{S:World->Prop}{i:Nat}{oi:Oper}{v:Value}{fuel:Nat}{C0:Array Bool}{a:Act}{w:World}(hi:l[i]? =some oi)
 (hs:Region.noSelect l.toArray=true) (hf:Region.free md l.toArray C0 i=true) (hr:(Region.ready md l.toArray C0).contains i=true)
 (hQ:∀c a w,Q (.panic c) (a.put oi.dst v) w->Q (.panic c) a w) (hw:Region.wanted oi (yielded l.toArray a.tmps)=true) (hy:∀w,S w->(execOp a.eval oi).run P w=.ok (.value v) w) (hS:S w)
 (h:wpAnyH P md l.toArray Q S fuel (C0.setIfInBounds i true) (a.put oi.dst v) w):wpAnyH P md l.toArray Q S (fuel+1) C0 a w:=
 wpAnyH_take (by simpa using hi) hs hf hr hQ (.inl ⟨hw,hy⟩) hS h
theorem tL{P:Program}{l:List Oper}{md:Region.Mode}{Q:Exit->Act->World->Prop}{S:World->Prop}(i:Nat){oi:Oper}{v:Value}{fuel:Nat}{C0:Array Bool}{a:Act}{w:World}(h:wpAnyH P md l.toArray Q S fuel (C0.setIfInBounds i true) (a.put oi.dst v) w)(hi:l[i]? =some oi:=by rfl)(hy:∀w,S w->(execOp a.eval oi).run P w=.ok (.value v) w:=by intro w hS;go_simp<;>rfl)(hS:S w:=by assumption)(hs:Region.noSelect l.toArray=true:=by kernel_rfl)(hf:Region.free md l.toArray C0 i=true:=by kernel_rfl)(hr:(Region.ready md l.toArray C0).contains i=true:=by kernel_rfl)(hQ:∀c a w,Q (.panic c) (a.put oi.dst v) w->Q (.panic c) a w:=by intro c a w h;exact h)(hw:Region.wanted oi (yielded l.toArray a.tmps)=true:=by rfl):wpAnyH P md l.toArray Q S (fuel+1) C0 a w:=dF hi hs hf hr hQ hw hy hS h
theorem eJ{P:Program}{l:List Oper}{md:Region.Mode}{Q:Exit->Act->World->Prop}{S:World->Prop}{i:Nat}{oi:Oper}{fuel:Nat}{C0:Array Bool}{a:Act}{w:World}(hi:l[i]? =some oi)
 (hs:Region.noSelect l.toArray=true) (hf:Region.free md l.toArray C0 i=true) (hr:(Region.ready md l.toArray C0).contains i=true)
 (hQ:∀c a w,Q (.panic c) (a.put oi.dst undef) w->Q (.panic c) a w) (hw:Region.wanted oi (yielded l.toArray a.tmps)=false) (hS:S w)
 (h:wpAnyH P md l.toArray Q S fuel (C0.setIfInBounds i true) (a.put oi.dst undef) w):wpAnyH P md l.toArray Q S (fuel+1) C0 a w:=
 wpAnyH_take (by simpa using hi) hs hf hr hQ (.inr ⟨hw,rfl⟩) hS h
theorem aq{P:Program}{l:List Oper}{md:Region.Mode}{Q:Exit->Act->World->Prop}{S:World->Prop}{i:Nat}{o:Oper}{fuel:Nat}{C0:Array Bool}{a:Act}{w:World}(ho:l[i]? =some o)(hr:Region.ready md l.toArray C0= [i])
 (h:∀K':Act->World->Prop,Shut (∀a w,S w->(S w->wpAnyH P md l.toArray Q S fuel (C0.setIfInBounds i true) a w)->K' a w)->if Region.wanted o (yielded l.toArray a.tmps)=true then Oper.wp P o a w K' Q else K' (a.put o.dst undef) w):wpAnyH P md l.toArray Q S (fuel+1) C0 a w:=
 wpAnyH_ready hr Q6 (AllReadyH.cons (by simpa using ho) h AllReadyH.nil)
theorem ae{c:Bool}{A B:Prop}(hc:c=true)(h:A):if c=true then A else B:=by rw [if_pos hc];exact h
theorem wn{o:Oper}{a:Act}{K:Act->World->Prop}{Q:Exit->Act->World->Prop}{w:World}(f:FuncId)(args:Array Operand)(Ws:Array TypeId)
 (ho:o.op=.call { callee:=.value (.func f),args:=args,argTypes:=Ws }) (M0:Array Value) (hv:args.map a.eval=M0) (Yh:(callFunc f M0).run Tryz.prog w=.ok (.enter f M0) w) (h:Calls Tryz.prog f M0 w (fun x w'=>(∃v,x=.returned v/\K (a.put o.dst v) w')\/(∃c,x=.panicked c/\Q (.panic c) a w'))):
 Oper.wp Tryz.prog o a w K Q:=by
 unfold Oper.wp;have he:(execOp a.eval o).run Tryz.prog w=.ok (.enter f M0) w:=by
  subst hv;simp [execOp,ho,resolve,invoke,Act.eval,go_sem]
  exact Yh
 rw [he,Oper.upon_enter];refine h.mono ?_;rintro x w' (⟨v,rfl,hk⟩|⟨v,rfl,hk⟩)
 · exact hk
 · exact hk
theorem aQ{ops:Array Oper}{o:Oper}{a:Act}{K:Act->World->Prop}{Q:Exit->Act->World->Prop}{E:Prop}{w:World}(hw:Region.wanted o (yielded ops a.tmps)=true)(f:FuncId)(args:Array Operand)(Ws:Array TypeId)
 (ho:o.op=.call { callee:=.value (.func f),args:=args,argTypes:=Ws }) (M0:Array Value) (hv:args.map a.eval=M0) (Yh:(callFunc f M0).run Tryz.prog w=.ok (.enter f M0) w) (h:Calls Tryz.prog f M0 w (fun x w'=>(∃v,x=.returned v/\K (a.put o.dst v) w')\/(∃c,x=.panicked c/\Q (.panic c) a w'))):
 if Region.wanted o (yielded ops a.tmps)=true then Oper.wp Tryz.prog o a w K Q else E:=by
 rw [if_pos hw];unfold Oper.wp;have he:(execOp a.eval o).run Tryz.prog w=.ok (.enter f M0) w:=by
  subst hv;simp [execOp,ho,resolve,invoke,Act.eval,go_sem]
  exact Yh
 rw [he,Oper.upon_enter];refine h.mono ?_;rintro x w' (⟨v,rfl,hk⟩|⟨v,rfl,hk⟩)
 · exact hk
 · exact hk
open Go.RowKit
theorem Act.put_defers_(a:Act)(d:Option Tmp)(v:Value):(a.put d v).defers=a.defers:=by cases d<;>rfl
theorem c_{P:Program}{ops:Array Oper}{Q:Exit->Act->World->Prop}{o:Oper}{a:Act}{d:Option Tmp}{u:Value}{w:World}(hs:∀cs b,o.op≠.select cs b)(hd:∀t,d=some t->t ∉ o.looksAt ops)(hne:∀t,d=some t->o.dst≠some t)
 (hQ:∀c a v w,Q (.panic c) a w->Q (.panic c) (a.put d v) w) {R:Value->World->Prop} (h:∀K:Act->World->Prop,(∀v w2,R v w2->K (a.put o.dst v) w2)->o.wp P a w K Q):
 ∀K:Act->World->Prop,(∀v w2,R v w2->K ((a.put d u).put o.dst v) w2)->o.wp P (a.put d u) w K Q:=by
 intro K hK;have hc:∀v,(a.put d u).put o.dst v=(a.put o.dst v).put d u:=fun v=>Act.put_comm a u v hne
 have h2:=h (fun a2 w2=>(∃v,a2=a.put o.dst v/\R v w2)) (fun v w2 hr=>⟨v,rfl,hr⟩);have key:∀v w2,(∃v',a.put o.dst v=a.put o.dst v'/\R v' w2)->K ((a.put d u).put o.dst v) w2:=by
  rintro v w2 ⟨v',e,r⟩;rw [hc v,e,<-hc v'];exact hK v' w2 r
 unfold Oper.wp at *;rw [execOp_put (ops:=ops) o hs a d u hd];generalize (execOp a.eval o).run P w=res at *;cases res with
 | ok n w'=>
  cases n<;>simp only [Oper.upon] at h2 |-
  case value v=>exact key v w' h2
  case skip=>exact key undef w' h2
  case defer dd=>
   obtain ⟨v',e,_⟩:=h2;exfalso
   have e2:=congrArg Act.defers e;rw [Act.put_defers_,Act.put_defers_] at e2;have:=congrArg List.length e2
   simp at this
  case enter f args=>
   refine Calls.mono h2 fun e Fm he=>?_
   cases e with
   | returned v=>exact key v Fm he
   | panicked c=>exact hQ _ _ _ _ he
   | outgrown=>exact he
  case row row args=>exact Rows.mono h2 fun v Fm he=>key v Fm he
 | halt x w'=>
  cases x<;>simp only [Oper.upon] at h2 |-
  case panic v=>exact hQ _ _ _ _ h2
section
variable {P:Program} {l:List Oper} {md:Region.Mode} {Q:Exit->Act->World->Prop} {S:World->Prop}
theorem ew{i:Nat}{o:Oper}{fuel:Nat}{C0:Array Bool}{a:Act}{w:World}{R:Value->World->Prop}(ho:l[i]? =some o)(hw:Region.wanted o (yielded l.toArray a.tmps)=true)
 (h:∀K:Act->World->Prop,(∀v w2,R v w2->K (a.put o.dst v) w2)->o.wp P a w K Q) (rest:∀v w2,R v w2->S w2/\wpAnyH P md l.toArray Q S fuel (C0.setIfInBounds i true) (a.put o.dst v) w2):
 wpOp P l.toArray Q i (fun a' w'=>S w'/\wpAnyH P md l.toArray Q S fuel (C0.setIfInBounds i true) a' w') a w:=by
 refine wpOp_step (o:=o) (by simpa using ho) (fun K hK=>?_);rw [if_pos hw];exact h K (fun v w2 hr=>hK _ _ (rest v w2 hr))
theorem AR{x y:Nat}{ox oy:Oper}{fuel:Nat}{C0:Array Bool}{a:Act}{w:World}(hx:l[x]? =some ox)(hy:l[y]? =some oy)(hs:Region.noSelect l.toArray=true)(N9:ox.apart l.toArray oy=true)(hne:x≠y)
 (hr:Region.ready md l.toArray C0= [x,y]) (OT:Region.ready md l.toArray (C0.setIfInBounds x true)= [y]) (Xs:Region.ready md l.toArray (C0.setIfInBounds y true)= [x])
 (Ix:Region.wanted ox (yielded l.toArray a.tmps)=true) (Jx:Region.wanted oy (yielded l.toArray a.tmps)=true)
 (hQ:∀c a d v w,Q (.panic c) a w->Q (.panic c) (a.put d v) w) (J:World->Prop) (Ax Ay:Value->World->Prop) (hJS:∀w,J w->S w) (hJ:J w)
 (stepX:∀w',J w'->∀K:Act->World->Prop,(∀v w2,(J w2/\Ax v w2/\∀u,Ay u w'->Ay u w2)->K (a.put ox.dst v) w2)->ox.wp P a w' K Q)
 (stepY:∀w',J w'->∀K:Act->World->Prop,(∀v w2,(J w2/\Ay v w2/\∀u,Ax u w'->Ax u w2)->K (a.put oy.dst v) w2)->oy.wp P a w' K Q)
 (rest:∀vx vy w',J w'->Ax vx w'->Ay vy w'->wpAnyH P md l.toArray Q S fuel ((C0.setIfInBounds x true).setIfInBounds y true) ((a.put ox.dst vx).put oy.dst vy) w'):
 wpAnyH P md l.toArray Q S (fuel+1+1) C0 a w:=by
 obtain ⟨h1,h2,h3⟩:=Oper.apart_spec N9;have Ys:∀cs b,ox.op≠.select cs b:=fun cs b=>Region.noSelect_spec hs x ox cs b (by simpa using hx)
 have ZB:∀cs b,oy.op≠.select cs b:=fun cs b=>Region.noSelect_spec hs y oy cs b (by simpa using hy)
 have Sn:∀d,oy.dst=some d->ox.dst≠some d:=fun d hd e=>h2 d e hd
 refine wpAnyH_all hr Q6 fun i hi=>?_
 rcases List.mem_cons.1 hi with rfl|hi
 · refine ew hx Ix (stepX w hJ) ?_;rintro vx w2 ⟨j2,ax,_⟩;refine ⟨hJS _ j2,wpAnyH_all OT Q6 fun i hi=>?_⟩;rcases List.mem_cons.1 hi with rfl|hi
   · refine ew hy ((wanted_put oy a ox.dst vx h1).trans Jx) (c_ (ops:=l.toArray) ZB h1 h2 (fun c a v w=>hQ c a _ v w) (stepY w2 j2)) ?_;rintro vy w3 ⟨j3,ay,k⟩;exact ⟨hJS _ j3,rest vx vy w3 j3 (k _ ax) ay⟩
   · cases hi
 · rcases List.mem_cons.1 hi with rfl|hi
   · refine ew hy Jx (stepY w hJ) ?_;rintro vy w2 ⟨j2,ay,_⟩;refine ⟨hJS _ j2,wpAnyH_all Xs Q6 fun i hi=>?_⟩;rcases List.mem_cons.1 hi with rfl|hi
     · refine ew hx ((wanted_put ox a oy.dst vy h3).trans Ix) (c_ (ops:=l.toArray) Ys h3 Sn (fun c a v w=>hQ c a _ v w) (stepX w2 j2)) ?_;rintro vx w3 ⟨j3,ax,k⟩;refine ⟨hJS _ j3,?_⟩;have:=rest vx vy w3 j3 ax (k _ ay)
       rw [Array.setIfInBounds_comm _ _ hne,Act.put_comm a vx vy h2] at this;exact this
     · cases hi
   · cases hi
theorem zI{x y z t:Nat}{ox oy oz ot:Oper}{fuel:Nat}{C0:Array Bool}{a:Act}{w:World}(hx:l[x]? =some ox)(hy:l[y]? =some oy)(hz:l[z]? =some oz)(ht:l[t]? =some ot)(hs:Region.noSelect l.toArray=true)
 (Gh:ox.apart l.toArray oy=true) (hxz:ox.apart l.toArray oz=true) (hyz:oy.apart l.toArray oz=true) (htz:ot.apart l.toArray oz=true) (PT:x≠y) (QT:x≠z) (RT:y≠z) (ntz:t≠z)
 (hr:Region.ready md l.toArray C0= [x,y,z])
 (OT:Region.ready md l.toArray (C0.setIfInBounds x true)= [y,z]) (Xs:Region.ready md l.toArray (C0.setIfInBounds y true)= [x,z]) (DC:Region.ready md l.toArray (C0.setIfInBounds z true)= [x,y])
 (TE:Region.ready md l.toArray ((C0.setIfInBounds x true).setIfInBounds z true)= [y]) (VE:Region.ready md l.toArray ((C0.setIfInBounds y true).setIfInBounds z true)= [x])
 (TT:(Region.ready md l.toArray ((C0.setIfInBounds x true).setIfInBounds y true)).contains t=true) (VT:Region.free md l.toArray ((C0.setIfInBounds x true).setIfInBounds y true) t=true)
 (XE:Region.ready md l.toArray (((C0.setIfInBounds x true).setIfInBounds y true).setIfInBounds t true)= [z])
 (YE:(Region.ready md l.toArray (((C0.setIfInBounds x true).setIfInBounds y true).setIfInBounds z true)).contains t=true) (ZE:Region.free md l.toArray (((C0.setIfInBounds x true).setIfInBounds y true).setIfInBounds z true) t=true)
 (Ix:Region.wanted ox (yielded l.toArray a.tmps)=true) (Jx:Region.wanted oy (yielded l.toArray a.tmps)=true) (PO:Region.wanted oz (yielded l.toArray a.tmps)=true)
 (hQ:∀c a d v w,Q (.panic c) a w->Q (.panic c) (a.put d v) w) (hQ':∀c a d v w,Q (.panic c) (a.put d v) w->Q (.panic c) a w) (J:World->Prop) (Ax Ay Az:Value->World->Prop) (T:Value->Value->Value->Prop) (hJS:∀w,J w->S w) (hJ:J w)
 (stepX:∀w',J w'->∀K:Act->World->Prop,(∀v w2,(J w2/\Ax v w2/\(∀u,Ay u w'->Ay u w2)/\∀u,Az u w'->Az u w2)->K (a.put ox.dst v) w2)->ox.wp P a w' K Q)
 (stepY:∀w',J w'->∀K:Act->World->Prop,(∀v w2,(J w2/\Ay v w2/\(∀u,Ax u w'->Ax u w2)/\∀u,Az u w'->Az u w2)->K (a.put oy.dst v) w2)->oy.wp P a w' K Q)
 (Lj:∀w',J w'->∀K:Act->World->Prop,(∀v w2,(J w2/\Az v w2/\(∀u,Ax u w'->Ax u w2)/\∀u,Ay u w'->Ay u w2)->K (a.put oz.dst v) w2)->oz.wp P a w' K Q)
 (stepT:∀vx vy w',J w'->Ax vx w'->Ay vy w'->∃vt,T vx vy vt/\Region.wanted ot (yielded l.toArray ((a.put ox.dst vx).put oy.dst vy).tmps)=true/\∀w,S w->(execOp ((a.put ox.dst vx).put oy.dst vy).eval ot).run P w=.ok (.value vt) w)
 (rest:∀vx vy vz vt w',J w'->Ax vx w'->Ay vy w'->Az vz w'->T vx vy vt->wpAnyH P md l.toArray Q S fuel ((((C0.setIfInBounds x true).setIfInBounds y true).setIfInBounds z true).setIfInBounds t true) ((((a.put ox.dst vx).put oy.dst vy).put oz.dst vz).put ot.dst vt) w'):
 wpAnyH P md l.toArray Q S (fuel+1+1+1+1) C0 a w:=by
 obtain ⟨QO,xy2,RO⟩:=Oper.apart_spec Gh;obtain ⟨SO,xz2,TO⟩:=Oper.apart_spec hxz;obtain ⟨VO,yz2,WO⟩:=Oper.apart_spec hyz;obtain ⟨tz1,tz2,tz3⟩:=Oper.apart_spec htz;have Ys:∀cs b,ox.op≠.select cs b:=fun cs b=>Region.noSelect_spec hs x ox cs b (by simpa using hx)
 have ZB:∀cs b,oy.op≠.select cs b:=fun cs b=>Region.noSelect_spec hs y oy cs b (by simpa using hy)
 have R0:∀cs b,oz.op≠.select cs b:=fun cs b=>Region.noSelect_spec hs z oz cs b (by simpa using hz)
 have T0:∀cs b,ot.op≠.select cs b:=fun cs b=>Region.noSelect_spec hs t ot cs b (by simpa using ht)
 have DF:∀d,oy.dst=some d->ox.dst≠some d:=fun d hd e=>xy2 d e hd
 have EF:∀d,oz.dst=some d->ox.dst≠some d:=fun d hd e=>xz2 d e hd
 have FF:∀d,oz.dst=some d->oy.dst≠some d:=fun d hd e=>yz2 d e hd
 have fin:∀vx vy vz w',J w'->Ax vx w'->Ay vy w'->Az vz w'->wpAnyH P md l.toArray Q S (fuel+1) (((C0.setIfInBounds x true).setIfInBounds y true).setIfInBounds z true) (((a.put ox.dst vx).put oy.dst vy).put oz.dst vz) w':=by
  intro vx vy vz w' j ax ay az;obtain ⟨vt,hT,O9,WT⟩:=stepT vx vy w' j ax ay;exact dF ht hs ZE YE (fun c a w=>hQ' c a _ _ w) ((wanted_put ot _ oz.dst vz tz3).trans O9) (fun w hw=>by rw [execOp_put (ops:=l.toArray) ot T0 _ oz.dst vz tz3];exact WT w hw) (hJS _ j) (rest vx vy vz vt w' j ax ay az hT)
 have mid:∀vx vy w',J w'->Ax vx w'->Ay vy w'->wpAnyH P md l.toArray Q S (fuel+1+1) ((C0.setIfInBounds x true).setIfInBounds y true) ((a.put ox.dst vx).put oy.dst vy) w':=by
  intro vx vy w' j ax ay;obtain ⟨vt,hT,O9,WT⟩:=stepT vx vy w' j ax ay;refine dF ht hs VT TT (fun c a w=>hQ' c a _ _ w) O9 WT (hJS _ j) ?_;refine wpAnyH_all XE Q6 fun i hi=>?_
  rcases List.mem_cons.1 hi with rfl|hi
  · have st:=c_ (ops:=l.toArray) (u:=vt) R0 tz1 tz2 (fun c a v w=>hQ c a _ v w) (c_ (ops:=l.toArray) (u:=vy) R0 VO yz2 (fun c a v w=>hQ c a _ v w) (c_ (ops:=l.toArray) (u:=vx) R0 SO xz2 (fun c a v w=>hQ c a _ v w) (Lj w' j)));refine ew hz (((wanted_put oz _ ot.dst vt tz1).trans ((wanted_put oz _ oy.dst vy VO).trans (wanted_put oz a ox.dst vx SO))).trans PO) st ?_;rintro vz w2 ⟨j2,az,kx,ky⟩;refine ⟨hJS _ j2,?_⟩;have:=rest vx vy vz vt w2 j2 (kx _ ax) (ky _ ay) az hT
    rw [Array.setIfInBounds_comm _ _ (Ne.symm ntz),<-Act.put_comm ((a.put ox.dst vx).put oy.dst vy) vt vz tz2] at this;exact this
  · cases hi
 refine wpAnyH_all hr Q6 fun i hi=>?_
 have hi:i=x\/i=y\/i=z:=by simpa using hi
 rcases hi with rfl|rfl|rfl
 · refine ew hx Ix (stepX w hJ) ?_;rintro vx w2 ⟨j2,ax,_,_⟩;refine ⟨hJS _ j2,wpAnyH_all OT Q6 fun i hi=>?_⟩;have hi:i=y\/i=z:=by simpa using hi
   rcases hi with rfl|rfl
   · refine ew hy ((wanted_put oy a ox.dst vx QO).trans Jx) (c_ (ops:=l.toArray) ZB QO xy2 (fun c a v w=>hQ c a _ v w) (stepY w2 j2)) ?_;rintro vy w3 ⟨j3,ay,kx,_⟩;exact ⟨hJS _ j3,mid vx vy w3 j3 (kx _ ax) ay⟩
   · refine ew hz ((wanted_put oz a ox.dst vx SO).trans PO) (c_ (ops:=l.toArray) R0 SO xz2 (fun c a v w=>hQ c a _ v w) (Lj w2 j2)) ?_;rintro vz w3 ⟨j3,az,kx,_⟩;refine ⟨hJS _ j3,wpAnyH_all TE Q6 fun i hi=>?_⟩;rcases List.mem_cons.1 hi with rfl|hi
     · refine ew hy (((wanted_put oy _ oz.dst vz WO).trans (wanted_put oy a ox.dst vx QO)).trans Jx) (c_ (ops:=l.toArray) ZB WO FF (fun c a v w=>hQ c a _ v w) (c_ (ops:=l.toArray) ZB QO xy2 (fun c a v w=>hQ c a _ v w) (stepY w3 j3))) ?_;rintro vy w4 ⟨j4,ay,kx4,XT⟩;refine ⟨hJS _ j4,?_⟩;have:=fin vx vy vz w4 j4 (kx4 _ (kx _ ax)) ay (XT _ az)
       rw [Array.setIfInBounds_comm _ _ RT,Act.put_comm (a.put ox.dst vx) vy vz yz2] at this;exact this
     · cases hi
 · refine ew hy Jx (stepY w hJ) ?_;rintro vy w2 ⟨j2,ay,_,_⟩;refine ⟨hJS _ j2,wpAnyH_all Xs Q6 fun i hi=>?_⟩;have hi:i=x\/i=z:=by simpa using hi
   rcases hi with rfl|rfl
   · refine ew hx ((wanted_put ox a oy.dst vy RO).trans Ix) (c_ (ops:=l.toArray) Ys RO DF (fun c a v w=>hQ c a _ v w) (stepX w2 j2)) ?_;rintro vx w3 ⟨j3,ax,ky,_⟩;refine ⟨hJS _ j3,?_⟩;have:=mid vx vy w3 j3 ax (ky _ ay)
     rw [Array.setIfInBounds_comm _ _ PT,Act.put_comm a vx vy xy2] at this;exact this
   · refine ew hz ((wanted_put oz a oy.dst vy VO).trans PO) (c_ (ops:=l.toArray) R0 VO yz2 (fun c a v w=>hQ c a _ v w) (Lj w2 j2)) ?_;rintro vz w3 ⟨j3,az,_,ky⟩;refine ⟨hJS _ j3,wpAnyH_all VE Q6 fun i hi=>?_⟩;rcases List.mem_cons.1 hi with rfl|hi
     · refine ew hx (((wanted_put ox _ oz.dst vz TO).trans (wanted_put ox a oy.dst vy RO)).trans Ix) (c_ (ops:=l.toArray) Ys TO EF (fun c a v w=>hQ c a _ v w) (c_ (ops:=l.toArray) Ys RO DF (fun c a v w=>hQ c a _ v w) (stepX w3 j3))) ?_;rintro vx w4 ⟨j4,ax,ky4,XT⟩;refine ⟨hJS _ j4,?_⟩;have:=fin vx vy vz w4 j4 ax (ky4 _ (ky _ ay)) (XT _ az)
       rw [Array.setIfInBounds_comm _ _ PT,Array.setIfInBounds_comm _ _ QT,Act.put_comm a vx vy xy2,Act.put_comm (a.put oy.dst vy) vx vz xz2] at this;exact this
     · cases hi
 · refine ew hz PO (Lj w hJ) ?_;rintro vz w2 ⟨j2,az,_,_⟩;refine ⟨hJS _ j2,AR hx hy hs Gh PT DC (by rw [Array.setIfInBounds_comm _ _ (Ne.symm QT)];exact TE) (by rw [Array.setIfInBounds_comm _ _ (Ne.symm RT)];exact VE) ((wanted_put ox a oz.dst vz TO).trans Ix) ((wanted_put oy a oz.dst vz WO).trans Jx) hQ (fun w=>J w/\Az vz w) Ax Ay (fun w h=>hJS w h.1) ⟨j2,az⟩ ?_ ?_ ?_⟩
   · intro w' j';exact c_ (ops:=l.toArray) Ys TO EF (fun c a v w=>hQ c a _ v w) (fun K hK=>stepX w' j'.1 K (fun v w2 h=>hK v w2 ⟨⟨h.1,h.2.2.2 _ j'.2⟩,h.2.1,h.2.2.1⟩))
   · intro w' j';exact c_ (ops:=l.toArray) ZB WO FF (fun c a v w=>hQ c a _ v w) (fun K hK=>stepY w' j'.1 K (fun v w2 h=>hK v w2 ⟨⟨h.1,h.2.2.2 _ j'.2⟩,h.2.1,h.2.2.1⟩))
   · intro vx vy w' j' ax ay;have:=fin vx vy vz w' j'.1 ax ay j'.2
     rw [Array.setIfInBounds_comm _ _ RT,Array.setIfInBounds_comm _ _ QT,Act.put_comm (a.put ox.dst vx) vy vz yz2,Act.put_comm a vx vz xz2] at this;exact this
end
end Go.Proofs.YtkgncijcnlfhiabGreat
