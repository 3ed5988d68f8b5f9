import Derived.Test.YtkgncijcnlfhiaaGreatW4c
namespace Go.Proofs.YtkgncijcnlfhiaaGreat
set_option maxHeartbeats 2000000
set_option linter.unusedVariables false
set_option linter.unusedSimpArgs false
open Go.RowKit
attribute [local go_sem ↓] Go.wp_at_zero Go.wp_at_succ
theorem fj(l:List aO)(v:Value)(n e a:Int)(w:World)(hR:cG w v l):
 Calls Tryz.prog 44 #[v,.int .i64 n,.agg #[.int .i64 e,.int .i64 0,.int .i64 a]] w fun x w'=>
  x=jO (cL l n) e a∧Gr w w':=by
 obtain ⟨ao,cap,rfl,hm,hc⟩:=hR;unfold maxLen at hm;have HC:=aH hc;clear hc;obtain ⟨he,hn,ha⟩:=BD w e a;unfold cL;cases hb:wB l.length 0 30
 · go_enter Tryz.func44,Tryz.ntmps44
   go_wp2
   go_region_with (first|(go_at_call 72;refine (aZ _ _ _ _).mono ?_;rintro e w' ⟨rfl,rfl⟩)|(go_at_call 32;refine (aV _ _ _).mono ?_;rintro e w' ⟨rfl,hg'⟩;refine aQ ?_))
   all_goals exact ⟨rfl,rfl,(by repeat (first|exact Gr.refl _|assumption|refine Gr.drew ?_|refine Gr.alloc ?_ _|refine Gr.trans ?_ (by assumption)))⟩
 · go_enter Tryz.func44,Tryz.ntmps44
   go_wp2
   go_region_held3 (fun w'=>w'.cell? ⟨w.heap.size,0,none⟩=some (.int .i64 e)∧w'.cell? ⟨w.heap.size,1,none⟩=some (.int .i64 0)∧w'.cell? ⟨w.heap.size,2,none⟩=some (.int .i64 a)) (first|go_keep|exact ⟨hg'.cell (by assumption) (by simp),hg'.cell (by assumption) (by simp),hg'.cell (by assumption) (by simp)⟩) (first|(go_at_call 72;refine (aZ _ _ _ _).mono ?_;rintro e w' ⟨rfl,rfl⟩)|(go_at_call 32;refine (aP _ _ _).mono ?_;rintro e w' ⟨rfl,hg'⟩))
   have he1:=hg'.cell he (by simp);have hn1:=hg'.cell hn (by simp);have ha1:=hg'.cell ha (by simp);have hg0:Gr w w':=(by repeat (first|exact Gr.refl _|assumption|refine Gr.drew ?_|refine Gr.alloc ?_ _|refine Gr.trans ?_ (by assumption)));clear hg' he hn ha;go_wp2
   go_loopw [15] (fun i wr=>∃k:Nat,k≤l.length∧i=.int .i64 k∧(l.take k).all (c_ n)=true∧wr.cell? ⟨w.heap.size,0,none⟩=some (.int .i64 e)∧wr.cell? ⟨w.heap.size,1,none⟩=some (.int .i64 0)∧wr.cell? ⟨w.heap.size,2,none⟩=some (.int .i64 a)∧Gr w wr) (fun i _=>l.length - (intOf i).toNat)
   case atStart=>exact ⟨0,Nat.zero_le _,rfl,by simp,he1,hn1,ha1,hg0⟩
   case round=>
    clear he1 hn1 ha1 hg0;obtain ⟨k,hk,rfl,hall,he,hn,ha,hg⟩:=hrel;have HA:=aH hall;clear hall;by_cases hlt:k < l.length
    · obtain ⟨x,hx⟩:=aY hlt;obtain ⟨b,off,vp,vl,vc,hao,hc0,hc1,hc2,hc3,hRp,hRl,hRc⟩:=HC.out k x hx;subst hao;have hc0':=hg.cell hc0 (by simp);have hc1':=hg.cell hc1 (by simp);have hc2':=hg.cell hc2 (by simp);have hc3':=hg.cell hc3 (by simp);have hml:=hRl.choose_spec.choose_spec.2.1;unfold maxLen at hml;obtain ⟨al,cl,rfl⟩:=hRl.shape;obtain ⟨ap,cp,rfl⟩:=hRp.shape;obtain ⟨ac,cc,rfl⟩:=hRc.shape;have HRP:=aH (hRp.gr hg);have HRL:=aH (hRl.gr hg);have HRC:=aH (hRc.gr hg);have HX:=aH hx;clear hx hc0 hc1 hc2 hc3 hRp hRl hRc;have hi2:(wr.alloc (.cells #[.slice ap x.aF.length cp,.int .i64 x.result,.slice al x.aG.length cl,.slice ac x.code.length cc] 48)).cell? ⟨wr.heap.size,2,none⟩=some (.slice al x.aG.length cl):=by simp [go_sem]
      have hi3:(wr.alloc (.cells #[.slice ap x.aF.length cp,.int .i64 x.result,.slice al x.aG.length cl,.slice ac x.code.length cc] 48)).cell? ⟨wr.heap.size,3,none⟩=some (.slice ac x.code.length cc):=by simp [go_sem]
      have hea:=(World.grownBy_alloc wr (.cells #[.slice ap x.aF.length cp,.int .i64 x.result,.slice al x.aG.length cl,.slice ac x.code.length cc] 48) none).cell he (by simp);have hna:=(World.grownBy_alloc wr (.cells #[.slice ap x.aF.length cp,.int .i64 x.result,.slice al x.aG.length cl,.slice ac x.code.length cc] 48) none).cell hn (by simp);have haa:=(World.grownBy_alloc wr (.cells #[.slice ap x.aF.length cp,.int .i64 x.result,.slice al x.aG.length cl,.slice ac x.code.length cc] 48) none).cell ha (by simp);cases hsg:fG x.aF x.result n
      · have HF:Hid (l.all (c_ n)=false):=aH (bD HX.out (by simp [c_,hsg]));have HS:=aH hsg;clear hsg;go_wp2_with (go_at_call 74;refine (dy (fE x.aF _ x.result n e a _ (by exact HRP.out.gr (by repeat (first|exact Gr.refl _|assumption|refine Gr.drew ?_|refine Gr.alloc ?_ _|refine Gr.trans ?_ (by assumption))))) HS.out).mono ?_;rintro e w1 ⟨rfl,hg1⟩)
        exact ⟨rfl,by rw [HF.out];rfl,(by repeat (first|exact Gr.refl _|assumption|refine Gr.drew ?_|refine Gr.alloc ?_ _|refine Gr.trans ?_ (by assumption)))⟩
      · have HS:=aH hsg;go_wp2_with (go_at_call 74;refine (bT (fE x.aF _ x.result n e a _ (by exact HRP.out.gr (by repeat (first|exact Gr.refl _|assumption|refine Gr.drew ?_|refine Gr.alloc ?_ _|refine Gr.trans ?_ (by assumption))))) HS.out).mono ?_;rintro e w1 ⟨rfl,hg1⟩)
        have he1:=hg1.cell hea (by simp);have hn1:=hg1.cell hna (by simp);have ha1:=hg1.cell haa (by simp);have hi21:=hg1.cell hi2 (by simp);have hi31:=hg1.cell hi3 (by simp);have hgr:Gr wr w1:=(by repeat (first|exact Gr.refl _|assumption|refine Gr.drew ?_|refine Gr.alloc ?_ _|refine Gr.trans ?_ (by assumption)));clear hi2 hi3 hea hna haa he hn ha hg1;cases hbl:wB x.aG.length 0 10
        · have HF:Hid (l.all (c_ n)=false):=aH (bD HX.out (by simp [c_,hbl]));go_region_with (first|(go_at_call 72;refine (aZ _ _ _ _).mono ?_;rintro e w' ⟨rfl,rfl⟩)|(go_at_call 32;refine (aV _ _ _).mono ?_;rintro e w' ⟨rfl,hg'⟩;refine aQ ?_))
          all_goals exact ⟨rfl,by rw [HF.out];rfl,(by repeat (first|exact Gr.refl _|assumption|refine Gr.drew ?_|refine Gr.alloc ?_ _|refine Gr.trans ?_ (by assumption)))⟩
        · go_region_held3 (fun w'=>w'.cell? ⟨w.heap.size,0,none⟩=some (.int .i64 e)∧w'.cell? ⟨w.heap.size,1,none⟩=some (.int .i64 0)∧w'.cell? ⟨w.heap.size,2,none⟩=some (.int .i64 a)∧w'.cell? ⟨wr.heap.size,2,none⟩=some (.slice al x.aG.length cl)) (first|go_keep|(refine ⟨?_,?_,?_,?_⟩<;>exact hg'.cell (by assumption) (by simp))) (first|(go_at_call 72;refine (aZ _ _ _ _).mono ?_;rintro e w' ⟨rfl,rfl⟩)|(go_at_call 32;refine (aP _ _ _).mono ?_;rintro e w' ⟨rfl,hg'⟩))
          have he2:=hg'.cell he1 (by simp);have hn2:=hg'.cell hn1 (by simp);have ha2:=hg'.cell ha1 (by simp);have hi22:=hg'.cell hi21 (by simp);have hi32:=hg'.cell hi31 (by simp);have hgr2:Gr wr w':=(by repeat (first|exact Gr.refl _|assumption|refine Gr.drew ?_|refine Gr.alloc ?_ _|refine Gr.trans ?_ (by assumption)));clear hgr hg' he1 hn1 ha1 hi21 hi31;cases hkl:x.aG.all (jT n)
          · have HF:Hid (l.all (c_ n)=false):=aH (bD HX.out (by simp [c_,hkl]));have HK:=aH hkl;clear hkl;go_wp2_with (go_at_call 73;refine (dy (ek x.aG _ n e a _ (by exact HRL.out.gr (by repeat (first|exact Gr.refl _|assumption|refine Gr.drew ?_|refine Gr.alloc ?_ _|refine Gr.trans ?_ (by assumption))))) HK.out).mono ?_;rintro e w2 ⟨rfl,hg2⟩)
            exact ⟨rfl,by rw [HF.out];rfl,(by repeat (first|exact Gr.refl _|assumption|refine Gr.drew ?_|refine Gr.alloc ?_ _|refine Gr.trans ?_ (by assumption)))⟩
          · have HK:=aH hkl;go_wp2_with (go_at_call 73;refine (bT (ek x.aG _ n e a _ (by exact HRL.out.gr (by repeat (first|exact Gr.refl _|assumption|refine Gr.drew ?_|refine Gr.alloc ?_ _|refine Gr.trans ?_ (by assumption))))) HK.out).mono ?_;rintro e w2 ⟨rfl,hg2⟩;have he3:=hg2.cell he2 (by simp);have hn3:=hg2.cell hn2 (by simp);have ha3:=hg2.cell ha2 (by simp);have hi33:=hg2.cell hi32 (by simp))
            cases hcd:gI x.code
            · have HF:Hid (l.all (c_ n)=false):=aH (bD HX.out (by simp [c_,hcd]));have HK2:=aH hcd;clear hcd;go_wp2_with (go_at_call 75;refine (dy (CG x.code _ e a _ (by exact HRC.out.gr (by repeat (first|exact Gr.refl _|assumption|refine Gr.drew ?_|refine Gr.alloc ?_ _|refine Gr.trans ?_ (by assumption))))) HK2.out).mono ?_;rintro e w3 ⟨rfl,hg3⟩)
              exact ⟨rfl,by rw [HF.out];rfl,(by repeat (first|exact Gr.refl _|assumption|refine Gr.drew ?_|refine Gr.alloc ?_ _|refine Gr.trans ?_ (by assumption)))⟩
            · have HT:Hid ((l.take (k+1)).all (c_ n)=true):=aH (by rw [A_ HX.out,HA.out];simp [c_,hsg,hbl,HK.out,hcd]);have HK2:=aH hcd;clear hcd;go_wp2_with (go_at_call 75;refine (bT (CG x.code _ e a _ (by exact HRC.out.gr (by repeat (first|exact Gr.refl _|assumption|refine Gr.drew ?_|refine Gr.alloc ?_ _|refine Gr.trans ?_ (by assumption))))) HK2.out).mono ?_;rintro e w3 ⟨rfl,hg3⟩)
              go_roundw
              case rel=>exact ⟨k+1,by omega,by go_num,HT.out,hg3.cell he3 (by simp),hg3.cell hn3 (by simp),hg3.cell ha3 (by simp),(by repeat (first|exact Gr.refl _|assumption|refine Gr.drew ?_|refine Gr.alloc ?_ _|refine Gr.trans ?_ (by assumption)))⟩
              case measure=>simp [intOf];omega
    · go_wp2
      go_end0
      exact ⟨by rw [kL HA.out hlt];rfl,hg⟩
open Go.RowKit
attribute [local go_sem ↓] Go.wp_at_zero Go.wp_at_succ
theorem g_(l:List UInt8)(v:Value)(e a:Int)(w:World)(h:ii v l):
 Calls Tryz.prog 76 #[v,.agg #[.int .i64 e,.int .i64 0,.int .i64 a]] w fun x w'=>x=jO (fB l) e a∧Gr w w':=by
 obtain ⟨s,rfl,rfl,hs⟩:=h;exact vT s e a w hs
theorem fM(l:List fQ)(v:Value)(n e a:Int)(w:World)(hR:bK w v l):
 Calls Tryz.prog 45 #[v,.int .i64 n,.agg #[.int .i64 e,.int .i64 0,.int .i64 a]] w fun x w'=>
  x=jO (bm l n) e a∧Gr w w':=by
 obtain ⟨ao,cap,rfl,hm,hc⟩:=hR;unfold maxLen at hm;have HC:=aH hc;clear hc;obtain ⟨he,hn,ha⟩:=BD w e a;unfold bm;cases hb:wB l.length 0 20
 · go_enter Tryz.func45,Tryz.ntmps45
   go_wp2
   go_region_with (first|(go_at_call 72;refine (aZ _ _ _ _).mono ?_;rintro e w' ⟨rfl,rfl⟩)|(go_at_call 32;refine (aV _ _ _).mono ?_;rintro e w' ⟨rfl,hg'⟩;refine aQ ?_))
   all_goals exact ⟨rfl,rfl,(by repeat (first|exact Gr.refl _|assumption|refine Gr.drew ?_|refine Gr.alloc ?_ _|refine Gr.trans ?_ (by assumption)))⟩
 · go_enter Tryz.func45,Tryz.ntmps45
   go_wp2
   go_region_held3 (fun w'=>w'.cell? ⟨w.heap.size,0,none⟩=some (.int .i64 e)∧w'.cell? ⟨w.heap.size,1,none⟩=some (.int .i64 0)∧w'.cell? ⟨w.heap.size,2,none⟩=some (.int .i64 a)) (first|go_keep|exact ⟨hg'.cell (by assumption) (by simp),hg'.cell (by assumption) (by simp),hg'.cell (by assumption) (by simp)⟩) (first|(go_at_call 72;refine (aZ _ _ _ _).mono ?_;rintro e w' ⟨rfl,rfl⟩)|(go_at_call 32;refine (aP _ _ _).mono ?_;rintro e w' ⟨rfl,hg'⟩))
   have he1:=hg'.cell he (by simp);have hn1:=hg'.cell hn (by simp);have ha1:=hg'.cell ha (by simp);have hg0:Gr w w':=(by repeat (first|exact Gr.refl _|assumption|refine Gr.drew ?_|refine Gr.alloc ?_ _|refine Gr.trans ?_ (by assumption)));clear hg' he hn ha;go_wp2
   go_loopw [15] (fun i wr=>∃k:Nat,k≤l.length∧i=.int .i64 k∧(l.take k).all (gQ n)=true∧wr.cell? ⟨w.heap.size,0,none⟩=some (.int .i64 e)∧wr.cell? ⟨w.heap.size,1,none⟩=some (.int .i64 0)∧wr.cell? ⟨w.heap.size,2,none⟩=some (.int .i64 a)∧Gr w wr) (fun i _=>l.length - (intOf i).toNat)
   case atStart=>exact ⟨0,Nat.zero_le _,rfl,by simp,he1,hn1,ha1,hg0⟩
   case round=>
    clear he1 hn1 ha1 hg0;obtain ⟨k,hk,rfl,hall,he,hn,ha,hg⟩:=hrel;have HA:=aH hall;clear hall;by_cases hlt:k < l.length
    · obtain ⟨x,hx⟩:=aY hlt;obtain ⟨b,off,vs,vp,hao,hc0,hc1,hc2,hRs,hRp⟩:=HC.out k x hx;subst hao;have hc0':=hg.cell hc0 (by simp);have hc1':=hg.cell hc1 (by simp);have hc2':=hg.cell hc2 (by simp);obtain ⟨ap,cp,rfl⟩:=hRp.shape;have HRP:=aH (hRp.gr hg);have HRS:=aH hRs;obtain ⟨s,rfl,hsl,hsm⟩:=hRs;have HX:=aH hx;clear hx hc0 hc1 hc2 hRp hsl hsm;have hi1:(wr.alloc (.cells #[.string s,.slice ap x.aF.length cp,.int .i64 x.result] 53)).cell? ⟨wr.heap.size,1,none⟩=some (.slice ap x.aF.length cp):=by simp [go_sem]
      have hi2:(wr.alloc (.cells #[.string s,.slice ap x.aF.length cp,.int .i64 x.result] 53)).cell? ⟨wr.heap.size,2,none⟩=some (.int .i64 x.result):=by simp [go_sem]
      have hea:=(World.grownBy_alloc wr (.cells #[.string s,.slice ap x.aF.length cp,.int .i64 x.result] 53) none).cell he (by simp);have hna:=(World.grownBy_alloc wr (.cells #[.string s,.slice ap x.aF.length cp,.int .i64 x.result] 53) none).cell hn (by simp);have haa:=(World.grownBy_alloc wr (.cells #[.string s,.slice ap x.aF.length cp,.int .i64 x.result] 53) none).cell ha (by simp);cases hsg:fB x.name
      · have HF:Hid (l.all (gQ n)=false):=aH (bD HX.out (by simp [gQ,hsg]));have HS:=aH hsg;clear hsg;go_wp2_with (go_at_call 76;refine (dy (g_ x.name _ e a _ HRS.out) HS.out).mono ?_;rintro e w1 ⟨rfl,hg1⟩)
        exact ⟨rfl,by rw [HF.out];rfl,(by repeat (first|exact Gr.refl _|assumption|refine Gr.drew ?_|refine Gr.alloc ?_ _|refine Gr.trans ?_ (by assumption)))⟩
      · have HS:=aH hsg;cases hkl:fG x.aF x.result n
        · have HF:Hid (l.all (gQ n)=false):=aH (bD HX.out (by simp [gQ,hkl]));have HK:=aH hkl;clear hkl hsg;go_wp2_with (first|(go_at_call 76;refine (bT (g_ x.name _ e a _ HRS.out) HS.out).mono ?_;rintro e w1 ⟨rfl,hg1⟩;have he1:=hg1.cell hea (by simp);have hn1:=hg1.cell hna (by simp);have ha1:=hg1.cell haa (by simp);have hi11:=hg1.cell hi1 (by simp);have hi21:=hg1.cell hi2 (by simp))|(go_at_call 74;refine (dy (fE x.aF _ x.result n e a _ (by exact HRP.out.gr (by repeat (first|exact Gr.refl _|assumption|refine Gr.drew ?_|refine Gr.alloc ?_ _|refine Gr.trans ?_ (by assumption))))) HK.out).mono ?_;rintro e w2 ⟨rfl,hg2⟩))
          exact ⟨rfl,by rw [HF.out];rfl,(by repeat (first|exact Gr.refl _|assumption|refine Gr.drew ?_|refine Gr.alloc ?_ _|refine Gr.trans ?_ (by assumption)))⟩
        · have HT:Hid ((l.take (k+1)).all (gQ n)=true):=aH (by rw [A_ HX.out,HA.out];simp [gQ,hsg,hkl]);have HK:=aH hkl;clear hkl hsg;go_wp2_with (first|(go_at_call 76;refine (bT (g_ x.name _ e a _ HRS.out) HS.out).mono ?_;rintro e w1 ⟨rfl,hg1⟩;have he1:=hg1.cell hea (by simp);have hn1:=hg1.cell hna (by simp);have ha1:=hg1.cell haa (by simp);have hi11:=hg1.cell hi1 (by simp);have hi21:=hg1.cell hi2 (by simp))|(go_at_call 74;refine (bT (fE x.aF _ x.result n e a _ (by exact HRP.out.gr (by repeat (first|exact Gr.refl _|assumption|refine Gr.drew ?_|refine Gr.alloc ?_ _|refine Gr.trans ?_ (by assumption))))) HK.out).mono ?_;rintro e w2 ⟨rfl,hg2⟩))
          go_roundw
          case rel=>exact ⟨k+1,by omega,by go_num,HT.out,hg2.cell he1 (by simp),hg2.cell hn1 (by simp),hg2.cell ha1 (by simp),(by repeat (first|exact Gr.refl _|assumption|refine Gr.drew ?_|refine Gr.alloc ?_ _|refine Gr.trans ?_ (by assumption)))⟩
          case measure=>simp [intOf];omega
    · go_wp2
      go_end0
      exact ⟨by rw [kL HA.out hlt];rfl,hg⟩
open Go.RowKit
attribute [local go_sem ↓] Go.wp_at_zero Go.wp_at_succ
theorem gS(l:List du)(v:Value)(n e a:Int)(w:World)(hn:0≤n)(hn':n≤1000000)(hR:b8 w v l):
 Calls Tryz.prog 46 #[v,.int .i64 n,.agg #[.int .i64 e,.int .i64 0,.int .i64 a]] w fun x w'=>
  x=jO (b_ l n) e a∧Gr w w':=by
 obtain ⟨ao,cap,rfl,hm,hc⟩:=hR;unfold maxLen at hm;have hwr:IntKind.i64.wrap (n - 1)=n - 1:=Go.IntWalk.i64_in _ (by omega);have HC:=aH hc;clear hc;obtain ⟨he,hn,ha⟩:=BD w e a;unfold b_;cases hb:wB l.length 0 20
 · go_enter Tryz.func46,Tryz.ntmps46
   go_wp2
   go_region_with (first|(go_at_call 72;refine (aZ _ _ _ _).mono ?_;rintro e w' ⟨rfl,rfl⟩)|(go_at_call 32;refine (aV _ _ _).mono ?_;rintro e w' ⟨rfl,hg'⟩;refine aQ ?_))
   all_goals exact ⟨rfl,rfl,(by repeat (first|exact Gr.refl _|assumption|refine Gr.drew ?_|refine Gr.alloc ?_ _|refine Gr.trans ?_ (by assumption)))⟩
 · go_enter Tryz.func46,Tryz.ntmps46
   go_wp2
   go_region_held3 (fun w'=>w'.cell? ⟨w.heap.size,0,none⟩=some (.int .i64 e)∧w'.cell? ⟨w.heap.size,1,none⟩=some (.int .i64 0)∧w'.cell? ⟨w.heap.size,2,none⟩=some (.int .i64 a)) (first|go_keep|exact ⟨hg'.cell (by assumption) (by simp),hg'.cell (by assumption) (by simp),hg'.cell (by assumption) (by simp)⟩) (first|(go_at_call 72;refine (aZ _ _ _ _).mono ?_;rintro e w' ⟨rfl,rfl⟩)|(go_at_call 32;refine (aP _ _ _).mono ?_;rintro e w' ⟨rfl,hg'⟩))
   have he1:=hg'.cell he (by simp);have hn1:=hg'.cell hn (by simp);have ha1:=hg'.cell ha (by simp);have hg0:Gr w w':=(by repeat (first|exact Gr.refl _|assumption|refine Gr.drew ?_|refine Gr.alloc ?_ _|refine Gr.trans ?_ (by assumption)));clear hg' he hn ha;go_wp2
   go_loopw [15] (fun i wr=>∃k:Nat,k≤l.length∧i=.int .i64 k∧(l.take k).all (gi n)=true∧wr.cell? ⟨w.heap.size,0,none⟩=some (.int .i64 e)∧wr.cell? ⟨w.heap.size,1,none⟩=some (.int .i64 0)∧wr.cell? ⟨w.heap.size,2,none⟩=some (.int .i64 a)∧Gr w wr) (fun i _=>l.length - (intOf i).toNat)
   case atStart=>exact ⟨0,Nat.zero_le _,rfl,by simp,he1,hn1,ha1,hg0⟩
   case round=>
    clear he1 hn1 ha1 hg0;obtain ⟨k,hk,rfl,hall,he,hn,ha,hg⟩:=hrel;have HA:=aH hall;clear hall;by_cases hlt:k < l.length
    · obtain ⟨x,hx⟩:=aY hlt;obtain ⟨b,off,vs,hao,hc0,hc1,hRs⟩:=HC.out k x hx;subst hao;have hc0':=hg.cell hc0 (by simp);have hc1':=hg.cell hc1 (by simp);have HRS:=aH hRs;obtain ⟨s,rfl,hsl,hsm⟩:=hRs;have HX:=aH hx;clear hx hc0 hc1 hsl hsm;have hi1:(wr.alloc (.cells #[.string s,.int .i64 x.func] 50)).cell? ⟨wr.heap.size,1,none⟩=some (.int .i64 x.func):=by simp [go_sem]
      have hea:=(World.grownBy_alloc wr (.cells #[.string s,.int .i64 x.func] 50) none).cell he (by simp);have hna:=(World.grownBy_alloc wr (.cells #[.string s,.int .i64 x.func] 50) none).cell hn (by simp);have haa:=(World.grownBy_alloc wr (.cells #[.string s,.int .i64 x.func] 50) none).cell ha (by simp);cases hsg:fB x.name
      · have HF:Hid (l.all (gi n)=false):=aH (bD HX.out (by simp [gi,hsg]));have HS:=aH hsg;clear hsg;go_wp2_with (go_at_call 76;refine (dy (g_ x.name _ e a _ HRS.out) HS.out).mono ?_;rintro e w1 ⟨rfl,hg1⟩)
        exact ⟨rfl,by rw [HF.out];rfl,(by repeat (first|exact Gr.refl _|assumption|refine Gr.drew ?_|refine Gr.alloc ?_ _|refine Gr.trans ?_ (by assumption)))⟩
      · have HS:=aH hsg;go_wp2_with (first|(go_at_call 76;refine (bT (g_ x.name _ e a _ HRS.out) HS.out).mono ?_;rintro e w1 ⟨rfl,hg1⟩;have he1:=hg1.cell hea (by simp);have hn1:=hg1.cell hna (by simp);have ha1:=hg1.cell haa (by simp);have hi11:=hg1.cell hi1 (by simp)))
        have hgr:Gr w w1:=(by repeat (first|exact Gr.refl _|assumption|refine Gr.drew ?_|refine Gr.alloc ?_ _|refine Gr.trans ?_ (by assumption)));clear hi1 hea hna haa he hn ha hg1;cases hkl:wB x.func 0 (n - 1)
        · have HF:Hid (l.all (gi n)=false):=aH (bD HX.out (by simp [gi,hkl]));go_region_with (first|(go_at_call 72;refine (aZ _ _ _ _).mono ?_;rintro e w' ⟨rfl,rfl⟩)|(go_at_call 32;refine (aV _ _ _).mono ?_;rintro e w' ⟨rfl,hg'⟩;refine aQ ?_))
          all_goals exact ⟨rfl,by rw [HF.out];rfl,(by repeat (first|exact Gr.refl _|assumption|refine Gr.drew ?_|refine Gr.alloc ?_ _|refine Gr.trans ?_ (by assumption)))⟩
        · have HT:Hid ((l.take (k+1)).all (gi n)=true):=aH (by rw [A_ HX.out,HA.out];simp [gi,hsg,hkl]);go_region_held3 (fun w'=>w'.cell? ⟨w.heap.size,0,none⟩=some (.int .i64 e)∧w'.cell? ⟨w.heap.size,1,none⟩=some (.int .i64 0)∧w'.cell? ⟨w.heap.size,2,none⟩=some (.int .i64 a)∧w'.cell? ⟨wr.heap.size,1,none⟩=some (.int .i64 x.func)) (first|go_keep|(refine ⟨?_,?_,?_,?_⟩<;>exact hg'.cell (by assumption) (by simp))) (first|(go_at_call 72;refine (aZ _ _ _ _).mono ?_;rintro e w' ⟨rfl,rfl⟩)|(go_at_call 32;refine (aP _ _ _).mono ?_;rintro e w' ⟨rfl,hg'⟩))
          go_wp2
          go_roundw
          case rel=>exact ⟨k+1,by omega,by go_num,HT.out,hg'.cell he1 (by simp),hg'.cell hn1 (by simp),hg'.cell ha1 (by simp),(by repeat (first|exact Gr.refl _|assumption|refine Gr.drew ?_|refine Gr.alloc ?_ _|refine Gr.trans ?_ (by assumption)))⟩
          case measure=>simp [intOf];omega
    · go_wp2
      go_end0
      exact ⟨by rw [kL HA.out hlt];rfl,hg⟩
open Go.RowKit
attribute [local go_sem ↓] Go.wp_at_zero Go.wp_at_succ
theorem eL{w w':World}(g:Gr w w'){p q:Nat}{v0 v1 v2 v3 v4 v5 v6 v7:Value}
 (h:w.cell? ⟨p,0,none⟩=some v0∧w.cell? ⟨p,1,none⟩=some v1∧w.cell? ⟨p,2,none⟩=some v2∧w.cell? ⟨p,3,none⟩=some v3∧w.cell? ⟨p,4,none⟩=some v4∧w.cell? ⟨q,0,none⟩=some v5∧w.cell? ⟨q,1,none⟩=some v6∧w.cell? ⟨q,2,none⟩=some v7):
 w'.cell? ⟨p,0,none⟩=some v0∧w'.cell? ⟨p,1,none⟩=some v1∧w'.cell? ⟨p,2,none⟩=some v2∧w'.cell? ⟨p,3,none⟩=some v3∧w'.cell? ⟨p,4,none⟩=some v4∧w'.cell? ⟨q,0,none⟩=some v5∧w'.cell? ⟨q,1,none⟩=some v6∧w'.cell? ⟨q,2,none⟩=some v7:=by
 obtain ⟨h0,h1,h2,h3,h4,h5,h6,h7⟩:=h;exact ⟨g.cell h0 (by simp),g.cell h1 (by simp),g.cell h2 (by simp),g.cell h3 (by simp),g.cell h4 (by simp),g.cell h5 (by simp),g.cell h6 (by simp),g.cell h7 (by simp)⟩
theorem bK.shape{w:World}{v:Value}{l:List fQ}(h:bK w v l):∃ao cap,v=.slice ao l.length cap:=by
 obtain ⟨ao,cap,hv,_⟩:=h;exact ⟨ao,cap,hv⟩
theorem b8.shape{w:World}{v:Value}{l:List du}(h:b8 w v l):∃ao cap,v=.slice ao l.length cap:=by
 obtain ⟨ao,cap,hv,_⟩:=h;exact ⟨ao,cap,hv⟩
theorem jw(u:aK)(v:Value)(e a:Int)(w:World)(hR:cD w v u):
 Calls Tryz.prog 25 #[v,.agg #[.int .i64 e,.int .i64 0,.int .i64 a]] w fun x w'=>
  x=jO (ak u) e a∧Gr w w':=by
 obtain ⟨v1,v2,v3,v4,v5,rfl,h1,h2,h3,h4,h5⟩:=hR;have m1:=h1.choose_spec.choose_spec.2.1;have m2:=h2.choose_spec.choose_spec.2.1;have m3:=h3.choose_spec.choose_spec.2.1;obtain ⟨a1,c1,rfl⟩:=h1.shape;obtain ⟨a2,c2,rfl⟩:=h2.shape;obtain ⟨a3,c3,rfl⟩:=h3.shape;obtain ⟨a4,c4,rfl⟩:=h4.shape;obtain ⟨a5,c5,rfl⟩:=h5.shape;have H1:=aH h1;have H2:=aH h2;have H3:=aH h3;have H4:=aH h4;have H5:=aH h5;have H2m:=aH m2;clear h1 h2 h3 h4 h5 m2;unfold maxLen at m1 m3;obtain ⟨k0,k1,k2,k3,k4,ke,kn,ka⟩:((w.alloc (.cells #[.slice a1 u.aA.length c1,.slice a2 u.aD.length c2,.slice a3 u.aE.length c3,.slice a4 u.aB.length c4,.slice a5 u.aC.length c5] 33)).alloc (.cells #[.int .i64 e,.int .i64 0,.int .i64 a] 58)).cell? ⟨w.heap.size,0,none⟩=some (.slice a1 u.aA.length c1)∧((w.alloc (.cells #[.slice a1 u.aA.length c1,.slice a2 u.aD.length c2,.slice a3 u.aE.length c3,.slice a4 u.aB.length c4,.slice a5 u.aC.length c5] 33)).alloc (.cells #[.int .i64 e,.int .i64 0,.int .i64 a] 58)).cell? ⟨w.heap.size,1,none⟩=some (.slice a2 u.aD.length c2)∧((w.alloc (.cells #[.slice a1 u.aA.length c1,.slice a2 u.aD.length c2,.slice a3 u.aE.length c3,.slice a4 u.aB.length c4,.slice a5 u.aC.length c5] 33)).alloc (.cells #[.int .i64 e,.int .i64 0,.int .i64 a] 58)).cell? ⟨w.heap.size,2,none⟩=some (.slice a3 u.aE.length c3)∧((w.alloc (.cells #[.slice a1 u.aA.length c1,.slice a2 u.aD.length c2,.slice a3 u.aE.length c3,.slice a4 u.aB.length c4,.slice a5 u.aC.length c5] 33)).alloc (.cells #[.int .i64 e,.int .i64 0,.int .i64 a] 58)).cell? ⟨w.heap.size,3,none⟩=some (.slice a4 u.aB.length c4)∧((w.alloc (.cells #[.slice a1 u.aA.length c1,.slice a2 u.aD.length c2,.slice a3 u.aE.length c3,.slice a4 u.aB.length c4,.slice a5 u.aC.length c5] 33)).alloc (.cells #[.int .i64 e,.int .i64 0,.int .i64 a] 58)).cell? ⟨w.heap.size,4,none⟩=some (.slice a5 u.aC.length c5)∧((w.alloc (.cells #[.slice a1 u.aA.length c1,.slice a2 u.aD.length c2,.slice a3 u.aE.length c3,.slice a4 u.aB.length c4,.slice a5 u.aC.length c5] 33)).alloc (.cells #[.int .i64 e,.int .i64 0,.int .i64 a] 58)).cell? ⟨w.heap.size+1,0,none⟩=some (.int .i64 e)∧((w.alloc (.cells #[.slice a1 u.aA.length c1,.slice a2 u.aD.length c2,.slice a3 u.aE.length c3,.slice a4 u.aB.length c4,.slice a5 u.aC.length c5] 33)).alloc (.cells #[.int .i64 e,.int .i64 0,.int .i64 a] 58)).cell? ⟨w.heap.size+1,1,none⟩=some (.int .i64 0)∧((w.alloc (.cells #[.slice a1 u.aA.length c1,.slice a2 u.aD.length c2,.slice a3 u.aE.length c3,.slice a4 u.aB.length c4,.slice a5 u.aC.length c5] 33)).alloc (.cells #[.int .i64 e,.int .i64 0,.int .i64 a] 58)).cell? ⟨w.heap.size+1,2,none⟩=some (.int .i64 a):=by
  refine ⟨?_,?_,?_,?_,?_,?_,?_,?_⟩<;>simp [go_sem]
 unfold ak;cases b0:A9 u.aA
 · have B0:=aH b0;clear b0;go_enter Tryz.func25,Tryz.ntmps25
   go_wp2_with (first|(go_at_call 42;refine (dy (dr u.aA _ e a _ (by exact H1.out.gr (by repeat (first|exact Gr.refl _|assumption|refine Gr.drew ?_|refine Gr.alloc ?_ _|refine Gr.trans ?_ (by assumption))))) B0.out).mono ?_;rintro e w1 ⟨rfl,hg1⟩))
   exact ⟨rfl,rfl,(by repeat (first|exact Gr.refl _|assumption|refine Gr.drew ?_|refine Gr.alloc ?_ _|refine Gr.trans ?_ (by assumption)))⟩
 · have B0:=aH b0;clear b0;cases b1:dE u.aD
   · have B1:=aH b1;clear b1;go_enter Tryz.func25,Tryz.ntmps25
     go_wp2_with (first|(go_at_call 42;refine (bT (dr u.aA _ e a _ (by exact H1.out.gr (by repeat (first|exact Gr.refl _|assumption|refine Gr.drew ?_|refine Gr.alloc ?_ _|refine Gr.trans ?_ (by assumption))))) B0.out).mono ?_;rintro e w1 ⟨rfl,hg1⟩;obtain ⟨k0_1,k1_1,k2_1,k3_1,k4_1,ke_1,kn_1,ka_1⟩:=eL hg1 ⟨k0,k1,k2,k3,k4,ke,kn,ka⟩)|(go_at_call 43;refine (dy (eN _ u.aD e a _ ⟨a2,c2,rfl⟩ (by exact H2m.out)) B1.out).mono ?_;rintro e w2 ⟨rfl,hg2⟩))
     exact ⟨rfl,rfl,(by repeat (first|exact Gr.refl _|assumption|refine Gr.drew ?_|refine Gr.alloc ?_ _|refine Gr.trans ?_ (by assumption)))⟩
   · have B1:=aH b1;clear b1;cases b2:cL u.aE u.aA.length
     · have B2:=aH b2;clear b2;go_enter Tryz.func25,Tryz.ntmps25
       go_wp2_with (first|(go_at_call 42;refine (bT (dr u.aA _ e a _ (by exact H1.out.gr (by repeat (first|exact Gr.refl _|assumption|refine Gr.drew ?_|refine Gr.alloc ?_ _|refine Gr.trans ?_ (by assumption))))) B0.out).mono ?_;rintro e w1 ⟨rfl,hg1⟩;obtain ⟨k0_1,k1_1,k2_1,k3_1,k4_1,ke_1,kn_1,ka_1⟩:=eL hg1 ⟨k0,k1,k2,k3,k4,ke,kn,ka⟩)|(go_at_call 43;refine (bT (eN _ u.aD e a _ ⟨a2,c2,rfl⟩ (by exact H2m.out)) B1.out).mono ?_;rintro e w2 ⟨rfl,hg2⟩;obtain ⟨k0_2,k1_2,k2_2,k3_2,k4_2,ke_2,kn_2,ka_2⟩:=eL hg2 ⟨k0_1,k1_1,k2_1,k3_1,k4_1,ke_1,kn_1,ka_1⟩)|(go_at_call 44;refine (dy (fj u.aE _ u.aA.length e a _ (by exact H3.out.gr (by repeat (first|exact Gr.refl _|assumption|refine Gr.drew ?_|refine Gr.alloc ?_ _|refine Gr.trans ?_ (by assumption))))) B2.out).mono ?_;rintro e w3 ⟨rfl,hg3⟩))
       exact ⟨rfl,rfl,(by repeat (first|exact Gr.refl _|assumption|refine Gr.drew ?_|refine Gr.alloc ?_ _|refine Gr.trans ?_ (by assumption)))⟩
     · have B2:=aH b2;clear b2;cases b3:bm u.aB u.aA.length
       · have B3:=aH b3;clear b3;go_enter Tryz.func25,Tryz.ntmps25
         go_wp2_with (first|(go_at_call 42;refine (bT (dr u.aA _ e a _ (by exact H1.out.gr (by repeat (first|exact Gr.refl _|assumption|refine Gr.drew ?_|refine Gr.alloc ?_ _|refine Gr.trans ?_ (by assumption))))) B0.out).mono ?_;rintro e w1 ⟨rfl,hg1⟩;obtain ⟨k0_1,k1_1,k2_1,k3_1,k4_1,ke_1,kn_1,ka_1⟩:=eL hg1 ⟨k0,k1,k2,k3,k4,ke,kn,ka⟩)|(go_at_call 43;refine (bT (eN _ u.aD e a _ ⟨a2,c2,rfl⟩ (by exact H2m.out)) B1.out).mono ?_;rintro e w2 ⟨rfl,hg2⟩;obtain ⟨k0_2,k1_2,k2_2,k3_2,k4_2,ke_2,kn_2,ka_2⟩:=eL hg2 ⟨k0_1,k1_1,k2_1,k3_1,k4_1,ke_1,kn_1,ka_1⟩)|(go_at_call 44;refine (bT (fj u.aE _ u.aA.length e a _ (by exact H3.out.gr (by repeat (first|exact Gr.refl _|assumption|refine Gr.drew ?_|refine Gr.alloc ?_ _|refine Gr.trans ?_ (by assumption))))) B2.out).mono ?_;rintro e w3 ⟨rfl,hg3⟩;obtain ⟨k0_3,k1_3,k2_3,k3_3,k4_3,ke_3,kn_3,ka_3⟩:=eL hg3 ⟨k0_2,k1_2,k2_2,k3_2,k4_2,ke_2,kn_2,ka_2⟩)|(go_at_call 45;refine (dy (fM u.aB _ u.aA.length e a _ (by exact H4.out.gr (by repeat (first|exact Gr.refl _|assumption|refine Gr.drew ?_|refine Gr.alloc ?_ _|refine Gr.trans ?_ (by assumption))))) B3.out).mono ?_;rintro e w4 ⟨rfl,hg4⟩))
         exact ⟨rfl,rfl,(by repeat (first|exact Gr.refl _|assumption|refine Gr.drew ?_|refine Gr.alloc ?_ _|refine Gr.trans ?_ (by assumption)))⟩
       · have B3:=aH b3;clear b3;cases b4:b_ u.aC u.aE.length
         · have B4:=aH b4;clear b4;have HL:Hid ((u.aE.length:Int)≤1000000):=aH (by have:=B2.out;simp [cL,wB] at this;omega);go_enter Tryz.func25,Tryz.ntmps25
           go_wp2_with (first|(go_at_call 42;refine (bT (dr u.aA _ e a _ (by exact H1.out.gr (by repeat (first|exact Gr.refl _|assumption|refine Gr.drew ?_|refine Gr.alloc ?_ _|refine Gr.trans ?_ (by assumption))))) B0.out).mono ?_;rintro e w1 ⟨rfl,hg1⟩;obtain ⟨k0_1,k1_1,k2_1,k3_1,k4_1,ke_1,kn_1,ka_1⟩:=eL hg1 ⟨k0,k1,k2,k3,k4,ke,kn,ka⟩)|(go_at_call 43;refine (bT (eN _ u.aD e a _ ⟨a2,c2,rfl⟩ (by exact H2m.out)) B1.out).mono ?_;rintro e w2 ⟨rfl,hg2⟩;obtain ⟨k0_2,k1_2,k2_2,k3_2,k4_2,ke_2,kn_2,ka_2⟩:=eL hg2 ⟨k0_1,k1_1,k2_1,k3_1,k4_1,ke_1,kn_1,ka_1⟩)|(go_at_call 44;refine (bT (fj u.aE _ u.aA.length e a _ (by exact H3.out.gr (by repeat (first|exact Gr.refl _|assumption|refine Gr.drew ?_|refine Gr.alloc ?_ _|refine Gr.trans ?_ (by assumption))))) B2.out).mono ?_;rintro e w3 ⟨rfl,hg3⟩;obtain ⟨k0_3,k1_3,k2_3,k3_3,k4_3,ke_3,kn_3,ka_3⟩:=eL hg3 ⟨k0_2,k1_2,k2_2,k3_2,k4_2,ke_2,kn_2,ka_2⟩)|(go_at_call 45;refine (bT (fM u.aB _ u.aA.length e a _ (by exact H4.out.gr (by repeat (first|exact Gr.refl _|assumption|refine Gr.drew ?_|refine Gr.alloc ?_ _|refine Gr.trans ?_ (by assumption))))) B3.out).mono ?_;rintro e w4 ⟨rfl,hg4⟩;obtain ⟨k0_4,k1_4,k2_4,k3_4,k4_4,ke_4,kn_4,ka_4⟩:=eL hg4 ⟨k0_3,k1_3,k2_3,k3_3,k4_3,ke_3,kn_3,ka_3⟩)|(go_at_call 46;refine (dy (gS u.aC _ u.aE.length e a _ (by omega) (by exact HL.out) (by exact H5.out.gr (by repeat (first|exact Gr.refl _|assumption|refine Gr.drew ?_|refine Gr.alloc ?_ _|refine Gr.trans ?_ (by assumption))))) B4.out).mono ?_;rintro e w5 ⟨rfl,hg5⟩))
           exact ⟨rfl,rfl,(by repeat (first|exact Gr.refl _|assumption|refine Gr.drew ?_|refine Gr.alloc ?_ _|refine Gr.trans ?_ (by assumption)))⟩
         · have B4:=aH b4;clear b4;have HL:Hid ((u.aE.length:Int)≤1000000):=aH (by have:=B2.out;simp [cL,wB] at this;omega);go_enter Tryz.func25,Tryz.ntmps25
           go_wp2_with (first|(go_at_call 42;refine (bT (dr u.aA _ e a _ (by exact H1.out.gr (by repeat (first|exact Gr.refl _|assumption|refine Gr.drew ?_|refine Gr.alloc ?_ _|refine Gr.trans ?_ (by assumption))))) B0.out).mono ?_;rintro e w1 ⟨rfl,hg1⟩;obtain ⟨k0_1,k1_1,k2_1,k3_1,k4_1,ke_1,kn_1,ka_1⟩:=eL hg1 ⟨k0,k1,k2,k3,k4,ke,kn,ka⟩)|(go_at_call 43;refine (bT (eN _ u.aD e a _ ⟨a2,c2,rfl⟩ (by exact H2m.out)) B1.out).mono ?_;rintro e w2 ⟨rfl,hg2⟩;obtain ⟨k0_2,k1_2,k2_2,k3_2,k4_2,ke_2,kn_2,ka_2⟩:=eL hg2 ⟨k0_1,k1_1,k2_1,k3_1,k4_1,ke_1,kn_1,ka_1⟩)|(go_at_call 44;refine (bT (fj u.aE _ u.aA.length e a _ (by exact H3.out.gr (by repeat (first|exact Gr.refl _|assumption|refine Gr.drew ?_|refine Gr.alloc ?_ _|refine Gr.trans ?_ (by assumption))))) B2.out).mono ?_;rintro e w3 ⟨rfl,hg3⟩;obtain ⟨k0_3,k1_3,k2_3,k3_3,k4_3,ke_3,kn_3,ka_3⟩:=eL hg3 ⟨k0_2,k1_2,k2_2,k3_2,k4_2,ke_2,kn_2,ka_2⟩)|(go_at_call 45;refine (bT (fM u.aB _ u.aA.length e a _ (by exact H4.out.gr (by repeat (first|exact Gr.refl _|assumption|refine Gr.drew ?_|refine Gr.alloc ?_ _|refine Gr.trans ?_ (by assumption))))) B3.out).mono ?_;rintro e w4 ⟨rfl,hg4⟩;obtain ⟨k0_4,k1_4,k2_4,k3_4,k4_4,ke_4,kn_4,ka_4⟩:=eL hg4 ⟨k0_3,k1_3,k2_3,k3_3,k4_3,ke_3,kn_3,ka_3⟩)|(go_at_call 46;refine (bT (gS u.aC _ u.aE.length e a _ (by omega) (by exact HL.out) (by exact H5.out.gr (by repeat (first|exact Gr.refl _|assumption|refine Gr.drew ?_|refine Gr.alloc ?_ _|refine Gr.trans ?_ (by assumption))))) B4.out).mono ?_;rintro e w5 ⟨rfl,hg5⟩;obtain ⟨k0_5,k1_5,k2_5,k3_5,k4_5,ke_5,kn_5,ka_5⟩:=eL hg5 ⟨k0_4,k1_4,k2_4,k3_4,k4_4,ke_4,kn_4,ka_4⟩))
           go_end0
           exact ⟨rfl,(by repeat (first|exact Gr.refl _|assumption|refine Gr.drew ?_|refine Gr.alloc ?_ _|refine Gr.trans ?_ (by assumption)))⟩
open Go.RowKit
theorem kK{P:Program}{l:List Oper}{md:Region.Mode}{Q:Exit→Act→World→Prop}{S:World→Prop}{i:Nat}{oi:Oper}{v:Value}{fuel:Nat}{listed:Array Bool}{a:Act}{w:World}(hi:l[i]? =some oi)
 (hs:Region.noSelect l.toArray=true) (hf:Region.free md l.toArray listed i=true) (hr:(Region.ready md l.toArray listed).contains i=true)
 (hQ:∀c a w,Q (.panic c) (a.put oi.dst v) w→Q (.panic c) a w) (hw:Region.wanted oi (yielded l.toArray a.tmps)=true) (hy:∀w,S w→(execOp a.eval oi).run P w=.ok (.value v) w) (hS:S w)
 (h:wpAnyH P md l.toArray Q S fuel (listed.setIfInBounds i true) (a.put oi.dst v) w):wpAnyH P md l.toArray Q S (fuel+1) listed a w:=
 wpAnyH_take (by simpa using hi) hs hf hr hQ (.inl ⟨hw,hy⟩) hS h
theorem tL{P:Program}{l:List Oper}{md:Region.Mode}{Q:Exit→Act→World→Prop}{S:World→Prop}(i:Nat){oi:Oper}{v:Value}{fuel:Nat}{listed:Array Bool}{a:Act}{w:World}(h:wpAnyH P md l.toArray Q S fuel (listed.setIfInBounds i true) (a.put oi.dst v) w)(hi:l[i]? =some oi:=by rfl)(hy:∀w,S w→(execOp a.eval oi).run P w=.ok (.value v) w:=by intro w hS;go_simp<;>rfl)(hS:S w:=by assumption)(hs:Region.noSelect l.toArray=true:=by kernel_rfl)(hf:Region.free md l.toArray listed i=true:=by kernel_rfl)(hr:(Region.ready md l.toArray listed).contains i=true:=by kernel_rfl)(hQ:∀c a w,Q (.panic c) (a.put oi.dst v) w→Q (.panic c) a w:=by intro c a w h;exact h)(hw:Region.wanted oi (yielded l.toArray a.tmps)=true:=by rfl):wpAnyH P md l.toArray Q S (fuel+1) listed a w:=kK hi hs hf hr hQ hw hy hS h
theorem eC{P:Program}{l:List Oper}{md:Region.Mode}{Q:Exit→Act→World→Prop}{S:World→Prop}{i:Nat}{oi:Oper}{fuel:Nat}{listed:Array Bool}{a:Act}{w:World}(hi:l[i]? =some oi)
 (hs:Region.noSelect l.toArray=true) (hf:Region.free md l.toArray listed i=true) (hr:(Region.ready md l.toArray listed).contains i=true)
 (hQ:∀c a w,Q (.panic c) (a.put oi.dst undef) w→Q (.panic c) a w) (hw:Region.wanted oi (yielded l.toArray a.tmps)=false) (hS:S w)
 (h:wpAnyH P md l.toArray Q S fuel (listed.setIfInBounds i true) (a.put oi.dst undef) w):wpAnyH P md l.toArray Q S (fuel+1) listed a w:=
 wpAnyH_take (by simpa using hi) hs hf hr hQ (.inr ⟨hw,rfl⟩) hS h
theorem au{P:Program}{l:List Oper}{md:Region.Mode}{Q:Exit→Act→World→Prop}{S:World→Prop}{i:Nat}{o:Oper}{fuel:Nat}{listed:Array Bool}{a:Act}{w:World}(ho:l[i]? =some o)(hr:Region.ready md l.toArray listed= [i])
 (h:∀K':Act→World→Prop,Shut (∀a w,S w→(S w→wpAnyH P md l.toArray Q S fuel (listed.setIfInBounds i true) a w)→K' a w)→if Region.wanted o (yielded l.toArray a.tmps)=true then Oper.wp P o a w K' Q else K' (a.put o.dst undef) w):wpAnyH P md l.toArray Q S (fuel+1) listed a w:=
 wpAnyH_ready hr (by simp) (AllReadyH.cons (by simpa using ho) h AllReadyH.nil)
theorem ae{c:Bool}{A B:Prop}(hc:c=true)(h:A):if c=true then A else B:=by rw [if_pos hc];exact h
theorem l_{o:Oper}{a:Act}{K:Act→World→Prop}{Q:Exit→Act→World→Prop}{w:World}(f:FuncId)(args:Array Operand)(ats:Array TypeId)
 (ho:o.op=.call { callee:=.value (.func f),args:=args,argTypes:=ats }) (vals:Array Value) (hv:args.map a.eval=vals) (hcf:(callFunc f vals).run Tryz.prog w=.ok (.enter f vals) w) (h:Calls Tryz.prog f vals w (fun x w'=>(∃v,x=.returned v∧K (a.put o.dst v) w')∨(∃c,x=.panicked c∧Q (.panic c) a w'))):
 Oper.wp Tryz.prog o a w K Q:=by
 unfold Oper.wp;have he:(execOp a.eval o).run Tryz.prog w=.ok (.enter f vals) w:=by
  subst hv;simp [execOp,ho,resolve,invoke,Act.eval,go_sem]
  exact hcf
 rw [he,Oper.upon_enter];refine h.mono ?_;rintro x w' (⟨v,rfl,hk⟩|⟨v,rfl,hk⟩)
 · exact hk
 · exact hk
theorem aS{ops:Array Oper}{o:Oper}{a:Act}{K:Act→World→Prop}{Q:Exit→Act→World→Prop}{E:Prop}{w:World}(hw:Region.wanted o (yielded ops a.tmps)=true)(f:FuncId)(args:Array Operand)(ats:Array TypeId)
 (ho:o.op=.call { callee:=.value (.func f),args:=args,argTypes:=ats }) (vals:Array Value) (hv:args.map a.eval=vals) (hcf:(callFunc f vals).run Tryz.prog w=.ok (.enter f vals) w) (h:Calls Tryz.prog f vals w (fun x w'=>(∃v,x=.returned v∧K (a.put o.dst v) w')∨(∃c,x=.panicked c∧Q (.panic c) a w'))):
 if Region.wanted o (yielded ops a.tmps)=true then Oper.wp Tryz.prog o a w K Q else E:=by
 rw [if_pos hw];unfold Oper.wp;have he:(execOp a.eval o).run Tryz.prog w=.ok (.enter f vals) w:=by
  subst hv;simp [execOp,ho,resolve,invoke,Act.eval,go_sem]
  exact hcf
 rw [he,Oper.upon_enter];refine h.mono ?_;rintro x w' (⟨v,rfl,hk⟩|⟨v,rfl,hk⟩)
 · exact hk
 · exact hk
open Go.RowKit
theorem Act.put_defers_(a:Act)(d:Option Tmp)(v:Value):(a.put d v).defers=a.defers:=by cases d<;>rfl
theorem bM{P:Program}{ops:Array Oper}{Q:Exit→Act→World→Prop}{o:Oper}{a:Act}{d:Option Tmp}{u:Value}{w:World}(hs:∀cs b,o.op≠.select cs b)(hd:∀t,d=some t→t ∉ o.looksAt ops)(hne:∀t,d=some t→o.dst≠some t)
 (hQ:∀c a v w,Q (.panic c) a w→Q (.panic c) (a.put d v) w) {R:Value→World→Prop} (h:∀K:Act→World→Prop,(∀v w2,R v w2→K (a.put o.dst v) w2)→o.wp P a w K Q):
 ∀K:Act→World→Prop,(∀v w2,R v w2→K ((a.put d u).put o.dst v) w2)→o.wp P (a.put d u) w K Q:=by
 intro K hK;have hc:∀v,(a.put d u).put o.dst v=(a.put o.dst v).put d u:=fun v=>Act.put_comm a u v hne
 have h2:=h (fun a2 w2=>(∃v,a2=a.put o.dst v∧R v w2)) (fun v w2 hr=>⟨v,rfl,hr⟩);have key:∀v w2,(∃v',a.put o.dst v=a.put o.dst v'∧R v' w2)→K ((a.put d u).put o.dst v) w2:=by
  rintro v w2 ⟨v',e,r⟩;rw [hc v,e,←hc v'];exact hK v' w2 r
 unfold Oper.wp at *;rw [execOp_put (ops:=ops) o hs a d u hd];generalize (execOp a.eval o).run P w=res at *;cases res with
 | ok n w'=>
  cases n<;>simp only [Oper.upon] at h2 ⊢
  case value v=>exact key v w' h2
  case skip=>exact key undef w' h2
  case defer dd=>
   obtain ⟨v',e,_⟩:=h2;exfalso
   have e2:=congrArg Act.defers e;rw [Act.put_defers_,Act.put_defers_] at e2;have:=congrArg List.length e2
   simp at this
  case enter f args=>
   refine Calls.mono h2 fun e w'' he=>?_
   cases e with
   | returned v=>exact key v w'' he
   | panicked c=>exact hQ _ _ _ _ he
   | outgrown=>exact he
  case row row args=>exact Rows.mono h2 fun v w'' he=>key v w'' he
 | halt x w'=>
  cases x<;>simp only [Oper.upon] at h2 ⊢
  case panic v=>exact hQ _ _ _ _ h2
section
variable {P:Program} {l:List Oper} {md:Region.Mode} {Q:Exit→Act→World→Prop} {S:World→Prop}
theorem cy{i:Nat}{o:Oper}{fuel:Nat}{listed:Array Bool}{a:Act}{w:World}{R:Value→World→Prop}(ho:l[i]? =some o)(hw:Region.wanted o (yielded l.toArray a.tmps)=true)
 (h:∀K:Act→World→Prop,(∀v w2,R v w2→K (a.put o.dst v) w2)→o.wp P a w K Q) (rest:∀v w2,R v w2→S w2∧wpAnyH P md l.toArray Q S fuel (listed.setIfInBounds i true) (a.put o.dst v) w2):
 wpOp P l.toArray Q i (fun a' w'=>S w'∧wpAnyH P md l.toArray Q S fuel (listed.setIfInBounds i true) a' w') a w:=by
 refine wpOp_step (o:=o) (by simpa using ho) (fun K hK=>?_);rw [if_pos hw];exact h K (fun v w2 hr=>hK _ _ (rest v w2 hr))
theorem yi{x y:Nat}{ox oy:Oper}{fuel:Nat}{listed:Array Bool}{a:Act}{w:World}(hx:l[x]? =some ox)(hy:l[y]? =some oy)(hs:Region.noSelect l.toArray=true)(hap:ox.apart l.toArray oy=true)(hne:x≠y)
 (hr:Region.ready md l.toArray listed= [x,y]) (hrx:Region.ready md l.toArray (listed.setIfInBounds x true)= [y]) (hry:Region.ready md l.toArray (listed.setIfInBounds y true)= [x])
 (hwx:Region.wanted ox (yielded l.toArray a.tmps)=true) (hwy:Region.wanted oy (yielded l.toArray a.tmps)=true)
 (hQ:∀c a d v w,Q (.panic c) a w→Q (.panic c) (a.put d v) w) (J:World→Prop) (Ax Ay:Value→World→Prop) (hJS:∀w,J w→S w) (hJ:J w)
 (stepX:∀w',J w'→∀K:Act→World→Prop,(∀v w2,(J w2∧Ax v w2∧∀u,Ay u w'→Ay u w2)→K (a.put ox.dst v) w2)→ox.wp P a w' K Q)
 (stepY:∀w',J w'→∀K:Act→World→Prop,(∀v w2,(J w2∧Ay v w2∧∀u,Ax u w'→Ax u w2)→K (a.put oy.dst v) w2)→oy.wp P a w' K Q)
 (rest:∀vx vy w',J w'→Ax vx w'→Ay vy w'→wpAnyH P md l.toArray Q S fuel ((listed.setIfInBounds x true).setIfInBounds y true) ((a.put ox.dst vx).put oy.dst vy) w'):
 wpAnyH P md l.toArray Q S (fuel+1+1) listed a w:=by
 obtain ⟨h1,h2,h3⟩:=Oper.apart_spec hap;have hsx:∀cs b,ox.op≠.select cs b:=fun cs b=>Region.noSelect_spec hs x ox cs b (by simpa using hx)
 have hsy:∀cs b,oy.op≠.select cs b:=fun cs b=>Region.noSelect_spec hs y oy cs b (by simpa using hy)
 have h2':∀d,oy.dst=some d→ox.dst≠some d:=fun d hd e=>h2 d e hd
 refine wpAnyH_all hr (by simp) fun i hi=>?_
 rcases List.mem_cons.1 hi with rfl|hi
 · refine cy hx hwx (stepX w hJ) ?_;rintro vx w2 ⟨j2,ax,_⟩;refine ⟨hJS _ j2,wpAnyH_all hrx (by simp) fun i hi=>?_⟩;rcases List.mem_cons.1 hi with rfl|hi
   · refine cy hy ((wanted_put oy a ox.dst vx h1).trans hwy) (bM (ops:=l.toArray) hsy h1 h2 (fun c a v w=>hQ c a _ v w) (stepY w2 j2)) ?_;rintro vy w3 ⟨j3,ay,k⟩;exact ⟨hJS _ j3,rest vx vy w3 j3 (k _ ax) ay⟩
   · cases hi
 · rcases List.mem_cons.1 hi with rfl|hi
   · refine cy hy hwy (stepY w hJ) ?_;rintro vy w2 ⟨j2,ay,_⟩;refine ⟨hJS _ j2,wpAnyH_all hry (by simp) fun i hi=>?_⟩;rcases List.mem_cons.1 hi with rfl|hi
     · refine cy hx ((wanted_put ox a oy.dst vy h3).trans hwx) (bM (ops:=l.toArray) hsx h3 h2' (fun c a v w=>hQ c a _ v w) (stepX w2 j2)) ?_;rintro vx w3 ⟨j3,ax,k⟩;refine ⟨hJS _ j3,?_⟩;have:=rest vx vy w3 j3 ax (k _ ay)
       rw [Array.setIfInBounds_comm _ _ hne,Act.put_comm a vx vy h2] at this;exact this
     · cases hi
   · cases hi
theorem xD{x y z t:Nat}{ox oy oz ot:Oper}{fuel:Nat}{listed:Array Bool}{a:Act}{w:World}(hx:l[x]? =some ox)(hy:l[y]? =some oy)(hz:l[z]? =some oz)(ht:l[t]? =some ot)(hs:Region.noSelect l.toArray=true)
 (hxy:ox.apart l.toArray oy=true) (hxz:ox.apart l.toArray oz=true) (hyz:oy.apart l.toArray oz=true) (htz:ot.apart l.toArray oz=true) (nxy:x≠y) (nxz:x≠z) (nyz:y≠z) (ntz:t≠z)
 (hr:Region.ready md l.toArray listed= [x,y,z])
 (hrx:Region.ready md l.toArray (listed.setIfInBounds x true)= [y,z]) (hry:Region.ready md l.toArray (listed.setIfInBounds y true)= [x,z]) (hrz:Region.ready md l.toArray (listed.setIfInBounds z true)= [x,y])
 (hrxz:Region.ready md l.toArray ((listed.setIfInBounds x true).setIfInBounds z true)= [y]) (hryz:Region.ready md l.toArray ((listed.setIfInBounds y true).setIfInBounds z true)= [x])
 (hrxy:(Region.ready md l.toArray ((listed.setIfInBounds x true).setIfInBounds y true)).contains t=true) (hfxy:Region.free md l.toArray ((listed.setIfInBounds x true).setIfInBounds y true) t=true)
 (hrxyt:Region.ready md l.toArray (((listed.setIfInBounds x true).setIfInBounds y true).setIfInBounds t true)= [z])
 (hrxyz:(Region.ready md l.toArray (((listed.setIfInBounds x true).setIfInBounds y true).setIfInBounds z true)).contains t=true) (hfxyz:Region.free md l.toArray (((listed.setIfInBounds x true).setIfInBounds y true).setIfInBounds z true) t=true)
 (hwx:Region.wanted ox (yielded l.toArray a.tmps)=true) (hwy:Region.wanted oy (yielded l.toArray a.tmps)=true) (hwz:Region.wanted oz (yielded l.toArray a.tmps)=true)
 (hQ:∀c a d v w,Q (.panic c) a w→Q (.panic c) (a.put d v) w) (hQ':∀c a d v w,Q (.panic c) (a.put d v) w→Q (.panic c) a w) (J:World→Prop) (Ax Ay Az:Value→World→Prop) (T:Value→Value→Value→Prop) (hJS:∀w,J w→S w) (hJ:J w)
 (stepX:∀w',J w'→∀K:Act→World→Prop,(∀v w2,(J w2∧Ax v w2∧(∀u,Ay u w'→Ay u w2)∧∀u,Az u w'→Az u w2)→K (a.put ox.dst v) w2)→ox.wp P a w' K Q)
 (stepY:∀w',J w'→∀K:Act→World→Prop,(∀v w2,(J w2∧Ay v w2∧(∀u,Ax u w'→Ax u w2)∧∀u,Az u w'→Az u w2)→K (a.put oy.dst v) w2)→oy.wp P a w' K Q)
 (stepZ:∀w',J w'→∀K:Act→World→Prop,(∀v w2,(J w2∧Az v w2∧(∀u,Ax u w'→Ax u w2)∧∀u,Ay u w'→Ay u w2)→K (a.put oz.dst v) w2)→oz.wp P a w' K Q)
 (stepT:∀vx vy w',J w'→Ax vx w'→Ay vy w'→∃vt,T vx vy vt∧Region.wanted ot (yielded l.toArray ((a.put ox.dst vx).put oy.dst vy).tmps)=true∧∀w,S w→(execOp ((a.put ox.dst vx).put oy.dst vy).eval ot).run P w=.ok (.value vt) w)
 (rest:∀vx vy vz vt w',J w'→Ax vx w'→Ay vy w'→Az vz w'→T vx vy vt→wpAnyH P md l.toArray Q S fuel ((((listed.setIfInBounds x true).setIfInBounds y true).setIfInBounds z true).setIfInBounds t true) ((((a.put ox.dst vx).put oy.dst vy).put oz.dst vz).put ot.dst vt) w'):
 wpAnyH P md l.toArray Q S (fuel+1+1+1+1) listed a w:=by
 obtain ⟨xy1,xy2,xy3⟩:=Oper.apart_spec hxy;obtain ⟨xz1,xz2,xz3⟩:=Oper.apart_spec hxz;obtain ⟨yz1,yz2,yz3⟩:=Oper.apart_spec hyz;obtain ⟨tz1,tz2,tz3⟩:=Oper.apart_spec htz;have hsx:∀cs b,ox.op≠.select cs b:=fun cs b=>Region.noSelect_spec hs x ox cs b (by simpa using hx)
 have hsy:∀cs b,oy.op≠.select cs b:=fun cs b=>Region.noSelect_spec hs y oy cs b (by simpa using hy)
 have hsz:∀cs b,oz.op≠.select cs b:=fun cs b=>Region.noSelect_spec hs z oz cs b (by simpa using hz)
 have hst:∀cs b,ot.op≠.select cs b:=fun cs b=>Region.noSelect_spec hs t ot cs b (by simpa using ht)
 have xy2':∀d,oy.dst=some d→ox.dst≠some d:=fun d hd e=>xy2 d e hd
 have xz2':∀d,oz.dst=some d→ox.dst≠some d:=fun d hd e=>xz2 d e hd
 have yz2':∀d,oz.dst=some d→oy.dst≠some d:=fun d hd e=>yz2 d e hd
 have fin:∀vx vy vz w',J w'→Ax vx w'→Ay vy w'→Az vz w'→wpAnyH P md l.toArray Q S (fuel+1) (((listed.setIfInBounds x true).setIfInBounds y true).setIfInBounds z true) (((a.put ox.dst vx).put oy.dst vy).put oz.dst vz) w':=by
  intro vx vy vz w' j ax ay az;obtain ⟨vt,hT,hwt,hyt⟩:=stepT vx vy w' j ax ay;exact kK ht hs hfxyz hrxyz (fun c a w=>hQ' c a _ _ w) ((wanted_put ot _ oz.dst vz tz3).trans hwt) (fun w hw=>by rw [execOp_put (ops:=l.toArray) ot hst _ oz.dst vz tz3];exact hyt w hw) (hJS _ j) (rest vx vy vz vt w' j ax ay az hT)
 have mid:∀vx vy w',J w'→Ax vx w'→Ay vy w'→wpAnyH P md l.toArray Q S (fuel+1+1) ((listed.setIfInBounds x true).setIfInBounds y true) ((a.put ox.dst vx).put oy.dst vy) w':=by
  intro vx vy w' j ax ay;obtain ⟨vt,hT,hwt,hyt⟩:=stepT vx vy w' j ax ay;refine kK ht hs hfxy hrxy (fun c a w=>hQ' c a _ _ w) hwt hyt (hJS _ j) ?_;refine wpAnyH_all hrxyt (by simp) fun i hi=>?_
  rcases List.mem_cons.1 hi with rfl|hi
  · have st:=bM (ops:=l.toArray) (u:=vt) hsz tz1 tz2 (fun c a v w=>hQ c a _ v w) (bM (ops:=l.toArray) (u:=vy) hsz yz1 yz2 (fun c a v w=>hQ c a _ v w) (bM (ops:=l.toArray) (u:=vx) hsz xz1 xz2 (fun c a v w=>hQ c a _ v w) (stepZ w' j)));refine cy hz (((wanted_put oz _ ot.dst vt tz1).trans ((wanted_put oz _ oy.dst vy yz1).trans (wanted_put oz a ox.dst vx xz1))).trans hwz) st ?_;rintro vz w2 ⟨j2,az,kx,ky⟩;refine ⟨hJS _ j2,?_⟩;have:=rest vx vy vz vt w2 j2 (kx _ ax) (ky _ ay) az hT
    rw [Array.setIfInBounds_comm _ _ (Ne.symm ntz),←Act.put_comm ((a.put ox.dst vx).put oy.dst vy) vt vz tz2] at this;exact this
  · cases hi
 refine wpAnyH_all hr (by simp) fun i hi=>?_
 have hi:i=x∨i=y∨i=z:=by simpa using hi
 rcases hi with rfl|rfl|rfl
 · refine cy hx hwx (stepX w hJ) ?_;rintro vx w2 ⟨j2,ax,_,_⟩;refine ⟨hJS _ j2,wpAnyH_all hrx (by simp) fun i hi=>?_⟩;have hi:i=y∨i=z:=by simpa using hi
   rcases hi with rfl|rfl
   · refine cy hy ((wanted_put oy a ox.dst vx xy1).trans hwy) (bM (ops:=l.toArray) hsy xy1 xy2 (fun c a v w=>hQ c a _ v w) (stepY w2 j2)) ?_;rintro vy w3 ⟨j3,ay,kx,_⟩;exact ⟨hJS _ j3,mid vx vy w3 j3 (kx _ ax) ay⟩
   · refine cy hz ((wanted_put oz a ox.dst vx xz1).trans hwz) (bM (ops:=l.toArray) hsz xz1 xz2 (fun c a v w=>hQ c a _ v w) (stepZ w2 j2)) ?_;rintro vz w3 ⟨j3,az,kx,_⟩;refine ⟨hJS _ j3,wpAnyH_all hrxz (by simp) fun i hi=>?_⟩;rcases List.mem_cons.1 hi with rfl|hi
     · refine cy hy (((wanted_put oy _ oz.dst vz yz3).trans (wanted_put oy a ox.dst vx xy1)).trans hwy) (bM (ops:=l.toArray) hsy yz3 yz2' (fun c a v w=>hQ c a _ v w) (bM (ops:=l.toArray) hsy xy1 xy2 (fun c a v w=>hQ c a _ v w) (stepY w3 j3))) ?_;rintro vy w4 ⟨j4,ay,kx4,kz4⟩;refine ⟨hJS _ j4,?_⟩;have:=fin vx vy vz w4 j4 (kx4 _ (kx _ ax)) ay (kz4 _ az)
       rw [Array.setIfInBounds_comm _ _ nyz,Act.put_comm (a.put ox.dst vx) vy vz yz2] at this;exact this
     · cases hi
 · refine cy hy hwy (stepY w hJ) ?_;rintro vy w2 ⟨j2,ay,_,_⟩;refine ⟨hJS _ j2,wpAnyH_all hry (by simp) fun i hi=>?_⟩;have hi:i=x∨i=z:=by simpa using hi
   rcases hi with rfl|rfl
   · refine cy hx ((wanted_put ox a oy.dst vy xy3).trans hwx) (bM (ops:=l.toArray) hsx xy3 xy2' (fun c a v w=>hQ c a _ v w) (stepX w2 j2)) ?_;rintro vx w3 ⟨j3,ax,ky,_⟩;refine ⟨hJS _ j3,?_⟩;have:=mid vx vy w3 j3 ax (ky _ ay)
     rw [Array.setIfInBounds_comm _ _ nxy,Act.put_comm a vx vy xy2] at this;exact this
   · refine cy hz ((wanted_put oz a oy.dst vy yz1).trans hwz) (bM (ops:=l.toArray) hsz yz1 yz2 (fun c a v w=>hQ c a _ v w) (stepZ w2 j2)) ?_;rintro vz w3 ⟨j3,az,_,ky⟩;refine ⟨hJS _ j3,wpAnyH_all hryz (by simp) fun i hi=>?_⟩;rcases List.mem_cons.1 hi with rfl|hi
     · refine cy hx (((wanted_put ox _ oz.dst vz xz3).trans (wanted_put ox a oy.dst vy xy3)).trans hwx) (bM (ops:=l.toArray) hsx xz3 xz2' (fun c a v w=>hQ c a _ v w) (bM (ops:=l.toArray) hsx xy3 xy2' (fun c a v w=>hQ c a _ v w) (stepX w3 j3))) ?_;rintro vx w4 ⟨j4,ax,ky4,kz4⟩;refine ⟨hJS _ j4,?_⟩;have:=fin vx vy vz w4 j4 ax (ky4 _ (ky _ ay)) (kz4 _ az)
       rw [Array.setIfInBounds_comm _ _ nxy,Array.setIfInBounds_comm _ _ nxz,Act.put_comm a vx vy xy2,Act.put_comm (a.put oy.dst vy) vx vz xz2] at this;exact this
     · cases hi
 · refine cy hz hwz (stepZ w hJ) ?_;rintro vz w2 ⟨j2,az,_,_⟩;refine ⟨hJS _ j2,yi hx hy hs hxy nxy hrz (by rw [Array.setIfInBounds_comm _ _ (Ne.symm nxz)];exact hrxz) (by rw [Array.setIfInBounds_comm _ _ (Ne.symm nyz)];exact hryz) ((wanted_put ox a oz.dst vz xz3).trans hwx) ((wanted_put oy a oz.dst vz yz3).trans hwy) hQ (fun w=>J w∧Az vz w) Ax Ay (fun w h=>hJS w h.1) ⟨j2,az⟩ ?_ ?_ ?_⟩
   · intro w' j';exact bM (ops:=l.toArray) hsx xz3 xz2' (fun c a v w=>hQ c a _ v w) (fun K hK=>stepX w' j'.1 K (fun v w2 h=>hK v w2 ⟨⟨h.1,h.2.2.2 _ j'.2⟩,h.2.1,h.2.2.1⟩))
   · intro w' j';exact bM (ops:=l.toArray) hsy yz3 yz2' (fun c a v w=>hQ c a _ v w) (fun K hK=>stepY w' j'.1 K (fun v w2 h=>hK v w2 ⟨⟨h.1,h.2.2.2 _ j'.2⟩,h.2.1,h.2.2.1⟩))
   · intro vx vy w' j' ax ay;have:=fin vx vy vz w' j'.1 ax ay j'.2
     rw [Array.setIfInBounds_comm _ _ nyz,Array.setIfInBounds_comm _ _ nxz,Act.put_comm (a.put ox.dst vx) vy vz yz2,Act.put_comm a vx vz xz2] at this;exact this
end
end Go.Proofs.YtkgncijcnlfhiaaGreat
