import Derived.Test.YtkgncijcnlfhiaaGreatW6e
import Derived.Test.YtkgncijcnlfhiaaGreatW1
namespace Go.Proofs.YtkgncijcnlfhiaaGreat
set_option linter.unusedVariables false
set_option linter.unusedSimpArgs false
open Go.RowKit
attribute [local go_sem ↓] Go.wp_at_zero Go.wp_at_succ
theorem carry7{w w':World}(g:Gr w w'){p q:Nat}{v0 v1 v2 v3 v4 v5 v6 v7:Value}
 (h:w.cell? ⟨p,0,none⟩=some v0∧w.cell? ⟨p,1,none⟩=some v1∧w.cell? ⟨p,2,none⟩=some v2∧w.cell? ⟨p,3,none⟩=some v3∧w.cell? ⟨p,4,none⟩=some v4∧w.cell? ⟨q,0,none⟩=some v5∧w.cell? ⟨q,1,none⟩=some v6∧w.cell? ⟨q,2,none⟩=some v7):
 w'.cell? ⟨p,0,none⟩=some v0∧w'.cell? ⟨p,1,none⟩=some v1∧w'.cell? ⟨p,2,none⟩=some v2∧w'.cell? ⟨p,3,none⟩=some v3∧w'.cell? ⟨p,4,none⟩=some v4∧w'.cell? ⟨q,0,none⟩=some v5∧w'.cell? ⟨q,1,none⟩=some v6∧w'.cell? ⟨q,2,none⟩=some v7:=by
 obtain ⟨h0,h1,h2,h3,h4,h5,h6,h7⟩:=h;exact ⟨g.cell h0 (by simp),g.cell h1 (by simp),g.cell h2 (by simp),g.cell h3 (by simp),g.cell h4 (by simp),g.cell h5 (by simp),g.cell h6 (by simp),g.cell h7 (by simp)⟩
theorem RImports.shape{w:World}{v:Value}{l:List PImp}(h:RImports w v l):∃ao cap,v=.slice ao l.length cap:=by
 obtain ⟨ao,cap,hv,_⟩:=h;exact ⟨ao,cap,hv⟩
theorem RExports.shape{w:World}{v:Value}{l:List PExp}(h:RExports w v l):∃ao cap,v=.slice ao l.length cap:=by
 obtain ⟨ao,cap,hv,_⟩:=h;exact ⟨ao,cap,hv⟩
set_option maxHeartbeats 2000000 in
theorem unit_any(u:PUnit)(v:Value)(e a:Int)(w:World)(hR:RUnit w v u):
 Calls Tryz.prog 25 #[v,.agg #[.int .i64 e,.int .i64 0,.int .i64 a]] w fun x w'=>
  x=ends (unitOk u) e a∧Gr w w':=by
 obtain ⟨v1,v2,v3,v4,v5,rfl,h1,h2,h3,h4,h5⟩:=hR;have m1:=h1.choose_spec.choose_spec.2.1;have m2:=h2.choose_spec.choose_spec.2.1;have m3:=h3.choose_spec.choose_spec.2.1;obtain ⟨a1,c1,rfl⟩:=h1.shape;obtain ⟨a2,c2,rfl⟩:=h2.shape;obtain ⟨a3,c3,rfl⟩:=h3.shape;obtain ⟨a4,c4,rfl⟩:=h4.shape;obtain ⟨a5,c5,rfl⟩:=h5.shape;have H1:=hide h1;have H2:=hide h2;have H3:=hide h3;have H4:=hide h4;have H5:=hide h5;have H2m:=hide m2;clear h1 h2 h3 h4 h5 m2;unfold maxLen at m1 m3;obtain ⟨k0,k1,k2,k3,k4,ke,kn,ka⟩:((w.alloc (.cells #[.slice a1 u.shapes.length c1,.slice a2 u.consts.length c2,.slice a3 u.funcs.length c3,.slice a4 u.imports.length c4,.slice a5 u.exports.length c5] 33)).alloc (.cells #[.int .i64 e,.int .i64 0,.int .i64 a] 58)).cell? ⟨w.heap.size,0,none⟩=some (.slice a1 u.shapes.length c1)∧((w.alloc (.cells #[.slice a1 u.shapes.length c1,.slice a2 u.consts.length c2,.slice a3 u.funcs.length c3,.slice a4 u.imports.length c4,.slice a5 u.exports.length c5] 33)).alloc (.cells #[.int .i64 e,.int .i64 0,.int .i64 a] 58)).cell? ⟨w.heap.size,1,none⟩=some (.slice a2 u.consts.length c2)∧((w.alloc (.cells #[.slice a1 u.shapes.length c1,.slice a2 u.consts.length c2,.slice a3 u.funcs.length c3,.slice a4 u.imports.length c4,.slice a5 u.exports.length c5] 33)).alloc (.cells #[.int .i64 e,.int .i64 0,.int .i64 a] 58)).cell? ⟨w.heap.size,2,none⟩=some (.slice a3 u.funcs.length c3)∧((w.alloc (.cells #[.slice a1 u.shapes.length c1,.slice a2 u.consts.length c2,.slice a3 u.funcs.length c3,.slice a4 u.imports.length c4,.slice a5 u.exports.length c5] 33)).alloc (.cells #[.int .i64 e,.int .i64 0,.int .i64 a] 58)).cell? ⟨w.heap.size,3,none⟩=some (.slice a4 u.imports.length c4)∧((w.alloc (.cells #[.slice a1 u.shapes.length c1,.slice a2 u.consts.length c2,.slice a3 u.funcs.length c3,.slice a4 u.imports.length c4,.slice a5 u.exports.length c5] 33)).alloc (.cells #[.int .i64 e,.int .i64 0,.int .i64 a] 58)).cell? ⟨w.heap.size,4,none⟩=some (.slice a5 u.exports.length c5)∧((w.alloc (.cells #[.slice a1 u.shapes.length c1,.slice a2 u.consts.length c2,.slice a3 u.funcs.length c3,.slice a4 u.imports.length c4,.slice a5 u.exports.length c5] 33)).alloc (.cells #[.int .i64 e,.int .i64 0,.int .i64 a] 58)).cell? ⟨w.heap.size+1,0,none⟩=some (.int .i64 e)∧((w.alloc (.cells #[.slice a1 u.shapes.length c1,.slice a2 u.consts.length c2,.slice a3 u.funcs.length c3,.slice a4 u.imports.length c4,.slice a5 u.exports.length c5] 33)).alloc (.cells #[.int .i64 e,.int .i64 0,.int .i64 a] 58)).cell? ⟨w.heap.size+1,1,none⟩=some (.int .i64 0)∧((w.alloc (.cells #[.slice a1 u.shapes.length c1,.slice a2 u.consts.length c2,.slice a3 u.funcs.length c3,.slice a4 u.imports.length c4,.slice a5 u.exports.length c5] 33)).alloc (.cells #[.int .i64 e,.int .i64 0,.int .i64 a] 58)).cell? ⟨w.heap.size+1,2,none⟩=some (.int .i64 a):=by
  refine ⟨?_,?_,?_,?_,?_,?_,?_,?_⟩<;>simp [go_sem]
 unfold unitOk;cases b0:shapesOk u.shapes
 · have B0:=hide b0;clear b0;go_enter Tryz.func25,Tryz.ntmps25
   go_wp2_with (first|(go_at_call 42;refine (no_of (shapes_any u.shapes _ e a _ (by exact H1.out.gr (by repeat (first|exact Gr.refl _|assumption|refine Gr.drew ?_|refine Gr.alloc ?_ _|refine Gr.trans ?_ (by assumption))))) B0.out).mono ?_;rintro e w1 ⟨rfl,hg1⟩))
   exact ⟨rfl,rfl,(by repeat (first|exact Gr.refl _|assumption|refine Gr.drew ?_|refine Gr.alloc ?_ _|refine Gr.trans ?_ (by assumption)))⟩
 · have B0:=hide b0;clear b0;cases b1:constsOk u.consts
   · have B1:=hide b1;clear b1;go_enter Tryz.func25,Tryz.ntmps25
     go_wp2_with (first|(go_at_call 42;refine (yes_of (shapes_any u.shapes _ e a _ (by exact H1.out.gr (by repeat (first|exact Gr.refl _|assumption|refine Gr.drew ?_|refine Gr.alloc ?_ _|refine Gr.trans ?_ (by assumption))))) B0.out).mono ?_;rintro e w1 ⟨rfl,hg1⟩;obtain ⟨k0_1,k1_1,k2_1,k3_1,k4_1,ke_1,kn_1,ka_1⟩:=carry7 hg1 ⟨k0,k1,k2,k3,k4,ke,kn,ka⟩)|(go_at_call 43;refine (no_of (consts_any _ u.consts e a _ ⟨a2,c2,rfl⟩ (by exact H2m.out)) B1.out).mono ?_;rintro e w2 ⟨rfl,hg2⟩))
     exact ⟨rfl,rfl,(by repeat (first|exact Gr.refl _|assumption|refine Gr.drew ?_|refine Gr.alloc ?_ _|refine Gr.trans ?_ (by assumption)))⟩
   · have B1:=hide b1;clear b1;cases b2:funcsOk u.funcs u.shapes.length
     · have B2:=hide b2;clear b2;go_enter Tryz.func25,Tryz.ntmps25
       go_wp2_with (first|(go_at_call 42;refine (yes_of (shapes_any u.shapes _ e a _ (by exact H1.out.gr (by repeat (first|exact Gr.refl _|assumption|refine Gr.drew ?_|refine Gr.alloc ?_ _|refine Gr.trans ?_ (by assumption))))) B0.out).mono ?_;rintro e w1 ⟨rfl,hg1⟩;obtain ⟨k0_1,k1_1,k2_1,k3_1,k4_1,ke_1,kn_1,ka_1⟩:=carry7 hg1 ⟨k0,k1,k2,k3,k4,ke,kn,ka⟩)|(go_at_call 43;refine (yes_of (consts_any _ u.consts e a _ ⟨a2,c2,rfl⟩ (by exact H2m.out)) B1.out).mono ?_;rintro e w2 ⟨rfl,hg2⟩;obtain ⟨k0_2,k1_2,k2_2,k3_2,k4_2,ke_2,kn_2,ka_2⟩:=carry7 hg2 ⟨k0_1,k1_1,k2_1,k3_1,k4_1,ke_1,kn_1,ka_1⟩)|(go_at_call 44;refine (no_of (funcs_any u.funcs _ u.shapes.length e a _ (by exact H3.out.gr (by repeat (first|exact Gr.refl _|assumption|refine Gr.drew ?_|refine Gr.alloc ?_ _|refine Gr.trans ?_ (by assumption))))) B2.out).mono ?_;rintro e w3 ⟨rfl,hg3⟩))
       exact ⟨rfl,rfl,(by repeat (first|exact Gr.refl _|assumption|refine Gr.drew ?_|refine Gr.alloc ?_ _|refine Gr.trans ?_ (by assumption)))⟩
     · have B2:=hide b2;clear b2;cases b3:importsOk u.imports u.shapes.length
       · have B3:=hide b3;clear b3;go_enter Tryz.func25,Tryz.ntmps25
         go_wp2_with (first|(go_at_call 42;refine (yes_of (shapes_any u.shapes _ e a _ (by exact H1.out.gr (by repeat (first|exact Gr.refl _|assumption|refine Gr.drew ?_|refine Gr.alloc ?_ _|refine Gr.trans ?_ (by assumption))))) B0.out).mono ?_;rintro e w1 ⟨rfl,hg1⟩;obtain ⟨k0_1,k1_1,k2_1,k3_1,k4_1,ke_1,kn_1,ka_1⟩:=carry7 hg1 ⟨k0,k1,k2,k3,k4,ke,kn,ka⟩)|(go_at_call 43;refine (yes_of (consts_any _ u.consts e a _ ⟨a2,c2,rfl⟩ (by exact H2m.out)) B1.out).mono ?_;rintro e w2 ⟨rfl,hg2⟩;obtain ⟨k0_2,k1_2,k2_2,k3_2,k4_2,ke_2,kn_2,ka_2⟩:=carry7 hg2 ⟨k0_1,k1_1,k2_1,k3_1,k4_1,ke_1,kn_1,ka_1⟩)|(go_at_call 44;refine (yes_of (funcs_any u.funcs _ u.shapes.length e a _ (by exact H3.out.gr (by repeat (first|exact Gr.refl _|assumption|refine Gr.drew ?_|refine Gr.alloc ?_ _|refine Gr.trans ?_ (by assumption))))) B2.out).mono ?_;rintro e w3 ⟨rfl,hg3⟩;obtain ⟨k0_3,k1_3,k2_3,k3_3,k4_3,ke_3,kn_3,ka_3⟩:=carry7 hg3 ⟨k0_2,k1_2,k2_2,k3_2,k4_2,ke_2,kn_2,ka_2⟩)|(go_at_call 45;refine (no_of (imports_any u.imports _ u.shapes.length e a _ (by exact H4.out.gr (by repeat (first|exact Gr.refl _|assumption|refine Gr.drew ?_|refine Gr.alloc ?_ _|refine Gr.trans ?_ (by assumption))))) B3.out).mono ?_;rintro e w4 ⟨rfl,hg4⟩))
         exact ⟨rfl,rfl,(by repeat (first|exact Gr.refl _|assumption|refine Gr.drew ?_|refine Gr.alloc ?_ _|refine Gr.trans ?_ (by assumption)))⟩
       · have B3:=hide b3;clear b3;cases b4:exportsOk u.exports u.funcs.length
         · have B4:=hide b4;clear b4;have HL:Hid ((u.funcs.length:Int)≤1000000):=hide (by have:=B2.out;simp [funcsOk,wB] at this;omega);go_enter Tryz.func25,Tryz.ntmps25
           go_wp2_with (first|(go_at_call 42;refine (yes_of (shapes_any u.shapes _ e a _ (by exact H1.out.gr (by repeat (first|exact Gr.refl _|assumption|refine Gr.drew ?_|refine Gr.alloc ?_ _|refine Gr.trans ?_ (by assumption))))) B0.out).mono ?_;rintro e w1 ⟨rfl,hg1⟩;obtain ⟨k0_1,k1_1,k2_1,k3_1,k4_1,ke_1,kn_1,ka_1⟩:=carry7 hg1 ⟨k0,k1,k2,k3,k4,ke,kn,ka⟩)|(go_at_call 43;refine (yes_of (consts_any _ u.consts e a _ ⟨a2,c2,rfl⟩ (by exact H2m.out)) B1.out).mono ?_;rintro e w2 ⟨rfl,hg2⟩;obtain ⟨k0_2,k1_2,k2_2,k3_2,k4_2,ke_2,kn_2,ka_2⟩:=carry7 hg2 ⟨k0_1,k1_1,k2_1,k3_1,k4_1,ke_1,kn_1,ka_1⟩)|(go_at_call 44;refine (yes_of (funcs_any u.funcs _ u.shapes.length e a _ (by exact H3.out.gr (by repeat (first|exact Gr.refl _|assumption|refine Gr.drew ?_|refine Gr.alloc ?_ _|refine Gr.trans ?_ (by assumption))))) B2.out).mono ?_;rintro e w3 ⟨rfl,hg3⟩;obtain ⟨k0_3,k1_3,k2_3,k3_3,k4_3,ke_3,kn_3,ka_3⟩:=carry7 hg3 ⟨k0_2,k1_2,k2_2,k3_2,k4_2,ke_2,kn_2,ka_2⟩)|(go_at_call 45;refine (yes_of (imports_any u.imports _ u.shapes.length e a _ (by exact H4.out.gr (by repeat (first|exact Gr.refl _|assumption|refine Gr.drew ?_|refine Gr.alloc ?_ _|refine Gr.trans ?_ (by assumption))))) B3.out).mono ?_;rintro e w4 ⟨rfl,hg4⟩;obtain ⟨k0_4,k1_4,k2_4,k3_4,k4_4,ke_4,kn_4,ka_4⟩:=carry7 hg4 ⟨k0_3,k1_3,k2_3,k3_3,k4_3,ke_3,kn_3,ka_3⟩)|(go_at_call 46;refine (no_of (exports_any u.exports _ u.funcs.length e a _ (by omega) (by exact HL.out) (by exact H5.out.gr (by repeat (first|exact Gr.refl _|assumption|refine Gr.drew ?_|refine Gr.alloc ?_ _|refine Gr.trans ?_ (by assumption))))) B4.out).mono ?_;rintro e w5 ⟨rfl,hg5⟩))
           exact ⟨rfl,rfl,(by repeat (first|exact Gr.refl _|assumption|refine Gr.drew ?_|refine Gr.alloc ?_ _|refine Gr.trans ?_ (by assumption)))⟩
         · have B4:=hide b4;clear b4;have HL:Hid ((u.funcs.length:Int)≤1000000):=hide (by have:=B2.out;simp [funcsOk,wB] at this;omega);go_enter Tryz.func25,Tryz.ntmps25
           go_wp2_with (first|(go_at_call 42;refine (yes_of (shapes_any u.shapes _ e a _ (by exact H1.out.gr (by repeat (first|exact Gr.refl _|assumption|refine Gr.drew ?_|refine Gr.alloc ?_ _|refine Gr.trans ?_ (by assumption))))) B0.out).mono ?_;rintro e w1 ⟨rfl,hg1⟩;obtain ⟨k0_1,k1_1,k2_1,k3_1,k4_1,ke_1,kn_1,ka_1⟩:=carry7 hg1 ⟨k0,k1,k2,k3,k4,ke,kn,ka⟩)|(go_at_call 43;refine (yes_of (consts_any _ u.consts e a _ ⟨a2,c2,rfl⟩ (by exact H2m.out)) B1.out).mono ?_;rintro e w2 ⟨rfl,hg2⟩;obtain ⟨k0_2,k1_2,k2_2,k3_2,k4_2,ke_2,kn_2,ka_2⟩:=carry7 hg2 ⟨k0_1,k1_1,k2_1,k3_1,k4_1,ke_1,kn_1,ka_1⟩)|(go_at_call 44;refine (yes_of (funcs_any u.funcs _ u.shapes.length e a _ (by exact H3.out.gr (by repeat (first|exact Gr.refl _|assumption|refine Gr.drew ?_|refine Gr.alloc ?_ _|refine Gr.trans ?_ (by assumption))))) B2.out).mono ?_;rintro e w3 ⟨rfl,hg3⟩;obtain ⟨k0_3,k1_3,k2_3,k3_3,k4_3,ke_3,kn_3,ka_3⟩:=carry7 hg3 ⟨k0_2,k1_2,k2_2,k3_2,k4_2,ke_2,kn_2,ka_2⟩)|(go_at_call 45;refine (yes_of (imports_any u.imports _ u.shapes.length e a _ (by exact H4.out.gr (by repeat (first|exact Gr.refl _|assumption|refine Gr.drew ?_|refine Gr.alloc ?_ _|refine Gr.trans ?_ (by assumption))))) B3.out).mono ?_;rintro e w4 ⟨rfl,hg4⟩;obtain ⟨k0_4,k1_4,k2_4,k3_4,k4_4,ke_4,kn_4,ka_4⟩:=carry7 hg4 ⟨k0_3,k1_3,k2_3,k3_3,k4_3,ke_3,kn_3,ka_3⟩)|(go_at_call 46;refine (yes_of (exports_any u.exports _ u.funcs.length e a _ (by omega) (by exact HL.out) (by exact H5.out.gr (by repeat (first|exact Gr.refl _|assumption|refine Gr.drew ?_|refine Gr.alloc ?_ _|refine Gr.trans ?_ (by assumption))))) B4.out).mono ?_;rintro e w5 ⟨rfl,hg5⟩;obtain ⟨k0_5,k1_5,k2_5,k3_5,k4_5,ke_5,kn_5,ka_5⟩:=carry7 hg5 ⟨k0_4,k1_4,k2_4,k3_4,k4_4,ke_4,kn_4,ka_4⟩))
           go_end0
           exact ⟨rfl,(by repeat (first|exact Gr.refl _|assumption|refine Gr.drew ?_|refine Gr.alloc ?_ _|refine Gr.trans ?_ (by assumption)))⟩
open Go.RowKit
theorem takeL{P:Program}{l:List Oper}{md:Region.Mode}{Q:Exit→Act→World→Prop}{S:World→Prop}{i:Nat}{oi:Oper}{v:Value}{fuel:Nat}{listed:Array Bool}{a:Act}{w:World}(hi:l[i]? =some oi)
 (hs:Region.noSelect l.toArray=true) (hf:Region.free md l.toArray listed i=true) (hr:(Region.ready md l.toArray listed).contains i=true)
 (hQ:∀c a w,Q (.panic c) (a.put oi.dst v) w→Q (.panic c) a w) (hw:Region.wanted oi (yielded l.toArray a.tmps)=true) (hy:∀w,S w→(execOp a.eval oi).run P w=.ok (.value v) w) (hS:S w)
 (h:wpAnyH P md l.toArray Q S fuel (listed.setIfInBounds i true) (a.put oi.dst v) w):wpAnyH P md l.toArray Q S (fuel+1) listed a w:=
 wpAnyH_take (by simpa using hi) hs hf hr hQ (.inl ⟨hw,hy⟩) hS h
theorem tL{P:Program}{l:List Oper}{md:Region.Mode}{Q:Exit→Act→World→Prop}{S:World→Prop}(i:Nat){oi:Oper}(v:Value){fuel:Nat}{listed:Array Bool}{a:Act}{w:World}(hi:l[i]? =some oi)(hy:∀w,S w→(execOp a.eval oi).run P w=.ok (.value v) w)(hS:S w)(h:wpAnyH P md l.toArray Q S fuel (listed.setIfInBounds i true) (a.put oi.dst v) w)(hs:Region.noSelect l.toArray=true:=by kernel_rfl)(hf:Region.free md l.toArray listed i=true:=by kernel_rfl)(hr:(Region.ready md l.toArray listed).contains i=true:=by kernel_rfl)(hQ:∀c a w,Q (.panic c) (a.put oi.dst v) w→Q (.panic c) a w:=by intro c a w h;exact h)(hw:Region.wanted oi (yielded l.toArray a.tmps)=true:=by rfl):wpAnyH P md l.toArray Q S (fuel+1) listed a w:=takeL hi hs hf hr hQ hw hy hS h
theorem skipL{P:Program}{l:List Oper}{md:Region.Mode}{Q:Exit→Act→World→Prop}{S:World→Prop}{i:Nat}{oi:Oper}{fuel:Nat}{listed:Array Bool}{a:Act}{w:World}(hi:l[i]? =some oi)
 (hs:Region.noSelect l.toArray=true) (hf:Region.free md l.toArray listed i=true) (hr:(Region.ready md l.toArray listed).contains i=true)
 (hQ:∀c a w,Q (.panic c) (a.put oi.dst undef) w→Q (.panic c) a w) (hw:Region.wanted oi (yielded l.toArray a.tmps)=false) (hS:S w)
 (h:wpAnyH P md l.toArray Q S fuel (listed.setIfInBounds i true) (a.put oi.dst undef) w):wpAnyH P md l.toArray Q S (fuel+1) listed a w:=
 wpAnyH_take (by simpa using hi) hs hf hr hQ (.inr ⟨hw,rfl⟩) hS h
theorem aloneL{P:Program}{l:List Oper}{md:Region.Mode}{Q:Exit→Act→World→Prop}{S:World→Prop}{i:Nat}{o:Oper}{fuel:Nat}{listed:Array Bool}{a:Act}{w:World}(ho:l[i]? =some o)(hr:Region.ready md l.toArray listed= [i])
 (h:∀K':Act→World→Prop,Shut (∀a w,S w→(S w→wpAnyH P md l.toArray Q S fuel (listed.setIfInBounds i true) a w)→K' a w)→if Region.wanted o (yielded l.toArray a.tmps)=true then Oper.wp P o a w K' Q else K' (a.put o.dst undef) w):wpAnyH P md l.toArray Q S (fuel+1) listed a w:=
 wpAnyH_ready hr (by simp) (AllReadyH.cons (by simpa using ho) h AllReadyH.nil)
theorem want_yes{c:Bool}{A B:Prop}(hc:c=true)(h:A):if c=true then A else B:=by rw [if_pos hc];exact h
theorem wp_calls{o:Oper}{a:Act}{K:Act→World→Prop}{Q:Exit→Act→World→Prop}{w:World}(f:FuncId)(args:Array Operand)(ats:Array TypeId)
 (ho:o.op=.call { callee:=.value (.func f),args:=args,argTypes:=ats }) (vals:Array Value) (hv:args.map a.eval=vals) (hcf:(callFunc f vals).run Tryz.prog w=.ok (.enter f vals) w) (h:Calls Tryz.prog f vals w (fun x w'=>(∃v,x=.returned v∧K (a.put o.dst v) w')∨(∃c,x=.panicked c∧Q (.panic c) a w'))):
 Oper.wp Tryz.prog o a w K Q:=by
 unfold Oper.wp;have he:(execOp a.eval o).run Tryz.prog w=.ok (.enter f vals) w:=by
  subst hv;simp [execOp,ho,resolve,invoke,Act.eval,go_sem]
  exact hcf
 rw [he,Oper.upon_enter];refine h.mono ?_;rintro x w' (⟨v,rfl,hk⟩|⟨v,rfl,hk⟩)
 · exact hk
 · exact hk
theorem step_calls_w{ops:Array Oper}{o:Oper}{a:Act}{K:Act→World→Prop}{Q:Exit→Act→World→Prop}{E:Prop}{w:World}(hw:Region.wanted o (yielded ops a.tmps)=true)(f:FuncId)(args:Array Operand)(ats:Array TypeId)
 (ho:o.op=.call { callee:=.value (.func f),args:=args,argTypes:=ats }) (vals:Array Value) (hv:args.map a.eval=vals) (hcf:(callFunc f vals).run Tryz.prog w=.ok (.enter f vals) w) (h:Calls Tryz.prog f vals w (fun x w'=>(∃v,x=.returned v∧K (a.put o.dst v) w')∨(∃c,x=.panicked c∧Q (.panic c) a w'))):
 if Region.wanted o (yielded ops a.tmps)=true then Oper.wp Tryz.prog o a w K Q else E:=by
 rw [if_pos hw];unfold Oper.wp;have he:(execOp a.eval o).run Tryz.prog w=.ok (.enter f vals) w:=by
  subst hv;simp [execOp,ho,resolve,invoke,Act.eval,go_sem]
  exact hcf
 rw [he,Oper.upon_enter];refine h.mono ?_;rintro x w' (⟨v,rfl,hk⟩|⟨v,rfl,hk⟩)
 · exact hk
 · exact hk
open Go.RowKit
theorem Act.put_defers_(a:Act)(d:Option Tmp)(v:Value):(a.put d v).defers=a.defers:=by cases d<;>rfl
theorem wp_moved{P:Program}{ops:Array Oper}{Q:Exit→Act→World→Prop}{o:Oper}{a:Act}{d:Option Tmp}{u:Value}{w:World}(hs:∀cs b,o.op≠.select cs b)(hd:∀t,d=some t→t ∉ o.looksAt ops)(hne:∀t,d=some t→o.dst≠some t)
 (hQ:∀c a v w,Q (.panic c) a w→Q (.panic c) (a.put d v) w) {R:Value→World→Prop} (h:∀K:Act→World→Prop,(∀v w2,R v w2→K (a.put o.dst v) w2)→o.wp P a w K Q):
 ∀K:Act→World→Prop,(∀v w2,R v w2→K ((a.put d u).put o.dst v) w2)→o.wp P (a.put d u) w K Q:=by
 intro K hK;have hc:∀v,(a.put d u).put o.dst v=(a.put o.dst v).put d u:=fun v=>Act.put_comm a u v hne
 have h2:=h (fun a2 w2=>(∃v,a2=a.put o.dst v∧R v w2)) (fun v w2 hr=>⟨v,rfl,hr⟩);have key:∀v w2,(∃v',a.put o.dst v=a.put o.dst v'∧R v' w2)→K ((a.put d u).put o.dst v) w2:=by
  rintro v w2 ⟨v',e,r⟩;rw [hc v,e,←hc v'];exact hK v' w2 r
 unfold Oper.wp at *;rw [execOp_put (ops:=ops) o hs a d u hd];generalize (execOp a.eval o).run P w=res at *;cases res with
 | ok n w'=>
  cases n<;>simp only [Oper.upon] at h2 ⊢
  case value v=>exact key v w' h2
  case skip=>exact key undef w' h2
  case defer dd=>
   obtain ⟨v',e,_⟩:=h2;exfalso
   have e2:=congrArg Act.defers e;rw [Act.put_defers_,Act.put_defers_] at e2;have:=congrArg List.length e2
   simp at this
  case enter f args=>
   refine Calls.mono h2 fun e w'' he=>?_
   cases e with
   | returned v=>exact key v w'' he
   | panicked c=>exact hQ _ _ _ _ he
   | outgrown=>exact he
  case row row args=>exact Rows.mono h2 fun v w'' he=>key v w'' he
 | halt x w'=>
  cases x<;>simp only [Oper.upon] at h2 ⊢
  case panic v=>exact hQ _ _ _ _ h2
section
variable {P:Program} {l:List Oper} {md:Region.Mode} {Q:Exit→Act→World→Prop} {S:World→Prop}
theorem one_of{i:Nat}{o:Oper}{fuel:Nat}{listed:Array Bool}{a:Act}{w:World}{R:Value→World→Prop}(ho:l[i]? =some o)(hw:Region.wanted o (yielded l.toArray a.tmps)=true)
 (h:∀K:Act→World→Prop,(∀v w2,R v w2→K (a.put o.dst v) w2)→o.wp P a w K Q) (rest:∀v w2,R v w2→S w2∧wpAnyH P md l.toArray Q S fuel (listed.setIfInBounds i true) (a.put o.dst v) w2):
 wpOp P l.toArray Q i (fun a' w'=>S w'∧wpAnyH P md l.toArray Q S fuel (listed.setIfInBounds i true) a' w') a w:=by
 refine wpOp_step (o:=o) (by simpa using ho) (fun K hK=>?_);rw [if_pos hw];exact h K (fun v w2 hr=>hK _ _ (rest v w2 hr))
theorem phase2{x y:Nat}{ox oy:Oper}{fuel:Nat}{listed:Array Bool}{a:Act}{w:World}(hx:l[x]? =some ox)(hy:l[y]? =some oy)(hs:Region.noSelect l.toArray=true)(hap:ox.apart l.toArray oy=true)(hne:x≠y)
 (hr:Region.ready md l.toArray listed= [x,y]) (hrx:Region.ready md l.toArray (listed.setIfInBounds x true)= [y]) (hry:Region.ready md l.toArray (listed.setIfInBounds y true)= [x])
 (hwx:Region.wanted ox (yielded l.toArray a.tmps)=true) (hwy:Region.wanted oy (yielded l.toArray a.tmps)=true)
 (hQ:∀c a d v w,Q (.panic c) a w→Q (.panic c) (a.put d v) w) (J:World→Prop) (Ax Ay:Value→World→Prop) (hJS:∀w,J w→S w) (hJ:J w)
 (stepX:∀w',J w'→∀K:Act→World→Prop,(∀v w2,(J w2∧Ax v w2∧∀u,Ay u w'→Ay u w2)→K (a.put ox.dst v) w2)→ox.wp P a w' K Q)
 (stepY:∀w',J w'→∀K:Act→World→Prop,(∀v w2,(J w2∧Ay v w2∧∀u,Ax u w'→Ax u w2)→K (a.put oy.dst v) w2)→oy.wp P a w' K Q)
 (rest:∀vx vy w',J w'→Ax vx w'→Ay vy w'→wpAnyH P md l.toArray Q S fuel ((listed.setIfInBounds x true).setIfInBounds y true) ((a.put ox.dst vx).put oy.dst vy) w'):
 wpAnyH P md l.toArray Q S (fuel+1+1) listed a w:=by
 obtain ⟨h1,h2,h3⟩:=Oper.apart_spec hap;have hsx:∀cs b,ox.op≠.select cs b:=fun cs b=>Region.noSelect_spec hs x ox cs b (by simpa using hx)
 have hsy:∀cs b,oy.op≠.select cs b:=fun cs b=>Region.noSelect_spec hs y oy cs b (by simpa using hy)
 have h2':∀d,oy.dst=some d→ox.dst≠some d:=fun d hd e=>h2 d e hd
 refine wpAnyH_all hr (by simp) fun i hi=>?_
 rcases List.mem_cons.1 hi with rfl|hi
 · refine one_of hx hwx (stepX w hJ) ?_;rintro vx w2 ⟨j2,ax,_⟩;refine ⟨hJS _ j2,wpAnyH_all hrx (by simp) fun i hi=>?_⟩;rcases List.mem_cons.1 hi with rfl|hi
   · refine one_of hy ((wanted_put oy a ox.dst vx h1).trans hwy) (wp_moved (ops:=l.toArray) hsy h1 h2 (fun c a v w=>hQ c a _ v w) (stepY w2 j2)) ?_;rintro vy w3 ⟨j3,ay,k⟩;exact ⟨hJS _ j3,rest vx vy w3 j3 (k _ ax) ay⟩
   · cases hi
 · rcases List.mem_cons.1 hi with rfl|hi
   · refine one_of hy hwy (stepY w hJ) ?_;rintro vy w2 ⟨j2,ay,_⟩;refine ⟨hJS _ j2,wpAnyH_all hry (by simp) fun i hi=>?_⟩;rcases List.mem_cons.1 hi with rfl|hi
     · refine one_of hx ((wanted_put ox a oy.dst vy h3).trans hwx) (wp_moved (ops:=l.toArray) hsx h3 h2' (fun c a v w=>hQ c a _ v w) (stepX w2 j2)) ?_;rintro vx w3 ⟨j3,ax,k⟩;refine ⟨hJS _ j3,?_⟩;have:=rest vx vy w3 j3 ax (k _ ay)
       rw [Array.setIfInBounds_comm _ _ hne,Act.put_comm a vx vy h2] at this;exact this
     · cases hi
   · cases hi
theorem phase3t{x y z t:Nat}{ox oy oz ot:Oper}{fuel:Nat}{listed:Array Bool}{a:Act}{w:World}(hx:l[x]? =some ox)(hy:l[y]? =some oy)(hz:l[z]? =some oz)(ht:l[t]? =some ot)(hs:Region.noSelect l.toArray=true)
 (hxy:ox.apart l.toArray oy=true) (hxz:ox.apart l.toArray oz=true) (hyz:oy.apart l.toArray oz=true) (htz:ot.apart l.toArray oz=true) (nxy:x≠y) (nxz:x≠z) (nyz:y≠z) (ntz:t≠z)
 (hr:Region.ready md l.toArray listed= [x,y,z])
 (hrx:Region.ready md l.toArray (listed.setIfInBounds x true)= [y,z]) (hry:Region.ready md l.toArray (listed.setIfInBounds y true)= [x,z]) (hrz:Region.ready md l.toArray (listed.setIfInBounds z true)= [x,y])
 (hrxz:Region.ready md l.toArray ((listed.setIfInBounds x true).setIfInBounds z true)= [y]) (hryz:Region.ready md l.toArray ((listed.setIfInBounds y true).setIfInBounds z true)= [x])
 (hrxy:(Region.ready md l.toArray ((listed.setIfInBounds x true).setIfInBounds y true)).contains t=true) (hfxy:Region.free md l.toArray ((listed.setIfInBounds x true).setIfInBounds y true) t=true)
 (hrxyt:Region.ready md l.toArray (((listed.setIfInBounds x true).setIfInBounds y true).setIfInBounds t true)= [z])
 (hrxyz:(Region.ready md l.toArray (((listed.setIfInBounds x true).setIfInBounds y true).setIfInBounds z true)).contains t=true) (hfxyz:Region.free md l.toArray (((listed.setIfInBounds x true).setIfInBounds y true).setIfInBounds z true) t=true)
 (hwx:Region.wanted ox (yielded l.toArray a.tmps)=true) (hwy:Region.wanted oy (yielded l.toArray a.tmps)=true) (hwz:Region.wanted oz (yielded l.toArray a.tmps)=true)
 (hQ:∀c a d v w,Q (.panic c) a w→Q (.panic c) (a.put d v) w) (hQ':∀c a d v w,Q (.panic c) (a.put d v) w→Q (.panic c) a w) (J:World→Prop) (Ax Ay Az:Value→World→Prop) (T:Value→Value→Value→Prop) (hJS:∀w,J w→S w) (hJ:J w)
 (stepX:∀w',J w'→∀K:Act→World→Prop,(∀v w2,(J w2∧Ax v w2∧(∀u,Ay u w'→Ay u w2)∧∀u,Az u w'→Az u w2)→K (a.put ox.dst v) w2)→ox.wp P a w' K Q)
 (stepY:∀w',J w'→∀K:Act→World→Prop,(∀v w2,(J w2∧Ay v w2∧(∀u,Ax u w'→Ax u w2)∧∀u,Az u w'→Az u w2)→K (a.put oy.dst v) w2)→oy.wp P a w' K Q)
 (stepZ:∀w',J w'→∀K:Act→World→Prop,(∀v w2,(J w2∧Az v w2∧(∀u,Ax u w'→Ax u w2)∧∀u,Ay u w'→Ay u w2)→K (a.put oz.dst v) w2)→oz.wp P a w' K Q)
 (stepT:∀vx vy w',J w'→Ax vx w'→Ay vy w'→∃vt,T vx vy vt∧Region.wanted ot (yielded l.toArray ((a.put ox.dst vx).put oy.dst vy).tmps)=true∧∀w,S w→(execOp ((a.put ox.dst vx).put oy.dst vy).eval ot).run P w=.ok (.value vt) w)
 (rest:∀vx vy vz vt w',J w'→Ax vx w'→Ay vy w'→Az vz w'→T vx vy vt→wpAnyH P md l.toArray Q S fuel ((((listed.setIfInBounds x true).setIfInBounds y true).setIfInBounds z true).setIfInBounds t true) ((((a.put ox.dst vx).put oy.dst vy).put oz.dst vz).put ot.dst vt) w'):
 wpAnyH P md l.toArray Q S (fuel+1+1+1+1) listed a w:=by
 obtain ⟨xy1,xy2,xy3⟩:=Oper.apart_spec hxy;obtain ⟨xz1,xz2,xz3⟩:=Oper.apart_spec hxz;obtain ⟨yz1,yz2,yz3⟩:=Oper.apart_spec hyz;obtain ⟨tz1,tz2,tz3⟩:=Oper.apart_spec htz;have hsx:∀cs b,ox.op≠.select cs b:=fun cs b=>Region.noSelect_spec hs x ox cs b (by simpa using hx)
 have hsy:∀cs b,oy.op≠.select cs b:=fun cs b=>Region.noSelect_spec hs y oy cs b (by simpa using hy)
 have hsz:∀cs b,oz.op≠.select cs b:=fun cs b=>Region.noSelect_spec hs z oz cs b (by simpa using hz)
 have hst:∀cs b,ot.op≠.select cs b:=fun cs b=>Region.noSelect_spec hs t ot cs b (by simpa using ht)
 have xy2':∀d,oy.dst=some d→ox.dst≠some d:=fun d hd e=>xy2 d e hd
 have xz2':∀d,oz.dst=some d→ox.dst≠some d:=fun d hd e=>xz2 d e hd
 have yz2':∀d,oz.dst=some d→oy.dst≠some d:=fun d hd e=>yz2 d e hd
 have fin:∀vx vy vz w',J w'→Ax vx w'→Ay vy w'→Az vz w'→wpAnyH P md l.toArray Q S (fuel+1) (((listed.setIfInBounds x true).setIfInBounds y true).setIfInBounds z true) (((a.put ox.dst vx).put oy.dst vy).put oz.dst vz) w':=by
  intro vx vy vz w' j ax ay az;obtain ⟨vt,hT,hwt,hyt⟩:=stepT vx vy w' j ax ay;exact takeL ht hs hfxyz hrxyz (fun c a w=>hQ' c a _ _ w) ((wanted_put ot _ oz.dst vz tz3).trans hwt) (fun w hw=>by rw [execOp_put (ops:=l.toArray) ot hst _ oz.dst vz tz3];exact hyt w hw) (hJS _ j) (rest vx vy vz vt w' j ax ay az hT)
 have mid:∀vx vy w',J w'→Ax vx w'→Ay vy w'→wpAnyH P md l.toArray Q S (fuel+1+1) ((listed.setIfInBounds x true).setIfInBounds y true) ((a.put ox.dst vx).put oy.dst vy) w':=by
  intro vx vy w' j ax ay;obtain ⟨vt,hT,hwt,hyt⟩:=stepT vx vy w' j ax ay;refine takeL ht hs hfxy hrxy (fun c a w=>hQ' c a _ _ w) hwt hyt (hJS _ j) ?_;refine wpAnyH_all hrxyt (by simp) fun i hi=>?_
  rcases List.mem_cons.1 hi with rfl|hi
  · have st:=wp_moved (ops:=l.toArray) (u:=vt) hsz tz1 tz2 (fun c a v w=>hQ c a _ v w) (wp_moved (ops:=l.toArray) (u:=vy) hsz yz1 yz2 (fun c a v w=>hQ c a _ v w) (wp_moved (ops:=l.toArray) (u:=vx) hsz xz1 xz2 (fun c a v w=>hQ c a _ v w) (stepZ w' j)));refine one_of hz (((wanted_put oz _ ot.dst vt tz1).trans ((wanted_put oz _ oy.dst vy yz1).trans (wanted_put oz a ox.dst vx xz1))).trans hwz) st ?_;rintro vz w2 ⟨j2,az,kx,ky⟩;refine ⟨hJS _ j2,?_⟩;have:=rest vx vy vz vt w2 j2 (kx _ ax) (ky _ ay) az hT
    rw [Array.setIfInBounds_comm _ _ (Ne.symm ntz),←Act.put_comm ((a.put ox.dst vx).put oy.dst vy) vt vz tz2] at this;exact this
  · cases hi
 refine wpAnyH_all hr (by simp) fun i hi=>?_
 have hi:i=x∨i=y∨i=z:=by simpa using hi
 rcases hi with rfl|rfl|rfl
 · refine one_of hx hwx (stepX w hJ) ?_;rintro vx w2 ⟨j2,ax,_,_⟩;refine ⟨hJS _ j2,wpAnyH_all hrx (by simp) fun i hi=>?_⟩;have hi:i=y∨i=z:=by simpa using hi
   rcases hi with rfl|rfl
   · refine one_of hy ((wanted_put oy a ox.dst vx xy1).trans hwy) (wp_moved (ops:=l.toArray) hsy xy1 xy2 (fun c a v w=>hQ c a _ v w) (stepY w2 j2)) ?_;rintro vy w3 ⟨j3,ay,kx,_⟩;exact ⟨hJS _ j3,mid vx vy w3 j3 (kx _ ax) ay⟩
   · refine one_of hz ((wanted_put oz a ox.dst vx xz1).trans hwz) (wp_moved (ops:=l.toArray) hsz xz1 xz2 (fun c a v w=>hQ c a _ v w) (stepZ w2 j2)) ?_;rintro vz w3 ⟨j3,az,kx,_⟩;refine ⟨hJS _ j3,wpAnyH_all hrxz (by simp) fun i hi=>?_⟩;rcases List.mem_cons.1 hi with rfl|hi
     · refine one_of hy (((wanted_put oy _ oz.dst vz yz3).trans (wanted_put oy a ox.dst vx xy1)).trans hwy) (wp_moved (ops:=l.toArray) hsy yz3 yz2' (fun c a v w=>hQ c a _ v w) (wp_moved (ops:=l.toArray) hsy xy1 xy2 (fun c a v w=>hQ c a _ v w) (stepY w3 j3))) ?_;rintro vy w4 ⟨j4,ay,kx4,kz4⟩;refine ⟨hJS _ j4,?_⟩;have:=fin vx vy vz w4 j4 (kx4 _ (kx _ ax)) ay (kz4 _ az)
       rw [Array.setIfInBounds_comm _ _ nyz,Act.put_comm (a.put ox.dst vx) vy vz yz2] at this;exact this
     · cases hi
 · refine one_of hy hwy (stepY w hJ) ?_;rintro vy w2 ⟨j2,ay,_,_⟩;refine ⟨hJS _ j2,wpAnyH_all hry (by simp) fun i hi=>?_⟩;have hi:i=x∨i=z:=by simpa using hi
   rcases hi with rfl|rfl
   · refine one_of hx ((wanted_put ox a oy.dst vy xy3).trans hwx) (wp_moved (ops:=l.toArray) hsx xy3 xy2' (fun c a v w=>hQ c a _ v w) (stepX w2 j2)) ?_;rintro vx w3 ⟨j3,ax,ky,_⟩;refine ⟨hJS _ j3,?_⟩;have:=mid vx vy w3 j3 ax (ky _ ay)
     rw [Array.setIfInBounds_comm _ _ nxy,Act.put_comm a vx vy xy2] at this;exact this
   · refine one_of hz ((wanted_put oz a oy.dst vy yz1).trans hwz) (wp_moved (ops:=l.toArray) hsz yz1 yz2 (fun c a v w=>hQ c a _ v w) (stepZ w2 j2)) ?_;rintro vz w3 ⟨j3,az,_,ky⟩;refine ⟨hJS _ j3,wpAnyH_all hryz (by simp) fun i hi=>?_⟩;rcases List.mem_cons.1 hi with rfl|hi
     · refine one_of hx (((wanted_put ox _ oz.dst vz xz3).trans (wanted_put ox a oy.dst vy xy3)).trans hwx) (wp_moved (ops:=l.toArray) hsx xz3 xz2' (fun c a v w=>hQ c a _ v w) (wp_moved (ops:=l.toArray) hsx xy3 xy2' (fun c a v w=>hQ c a _ v w) (stepX w3 j3))) ?_;rintro vx w4 ⟨j4,ax,ky4,kz4⟩;refine ⟨hJS _ j4,?_⟩;have:=fin vx vy vz w4 j4 ax (ky4 _ (ky _ ay)) (kz4 _ az)
       rw [Array.setIfInBounds_comm _ _ nxy,Array.setIfInBounds_comm _ _ nxz,Act.put_comm a vx vy xy2,Act.put_comm (a.put oy.dst vy) vx vz xz2] at this;exact this
     · cases hi
 · refine one_of hz hwz (stepZ w hJ) ?_;rintro vz w2 ⟨j2,az,_,_⟩;refine ⟨hJS _ j2,phase2 hx hy hs hxy nxy hrz (by rw [Array.setIfInBounds_comm _ _ (Ne.symm nxz)];exact hrxz) (by rw [Array.setIfInBounds_comm _ _ (Ne.symm nyz)];exact hryz) ((wanted_put ox a oz.dst vz xz3).trans hwx) ((wanted_put oy a oz.dst vz yz3).trans hwy) hQ (fun w=>J w∧Az vz w) Ax Ay (fun w h=>hJS w h.1) ⟨j2,az⟩ ?_ ?_ ?_⟩
   · intro w' j';exact wp_moved (ops:=l.toArray) hsx xz3 xz2' (fun c a v w=>hQ c a _ v w) (fun K hK=>stepX w' j'.1 K (fun v w2 h=>hK v w2 ⟨⟨h.1,h.2.2.2 _ j'.2⟩,h.2.1,h.2.2.1⟩))
   · intro w' j';exact wp_moved (ops:=l.toArray) hsy yz3 yz2' (fun c a v w=>hQ c a _ v w) (fun K hK=>stepY w' j'.1 K (fun v w2 h=>hK v w2 ⟨⟨h.1,h.2.2.2 _ j'.2⟩,h.2.1,h.2.2.1⟩))
   · intro vx vy w' j' ax ay;have:=fin vx vy vz w' j'.1 ax ay j'.2
     rw [Array.setIfInBounds_comm _ _ nyz,Array.setIfInBounds_comm _ _ nxz,Act.put_comm (a.put ox.dst vx) vy vz yz2,Act.put_comm a vx vz xz2] at this;exact this
end
end Go.Proofs.YtkgncijcnlfhiaaGreat
