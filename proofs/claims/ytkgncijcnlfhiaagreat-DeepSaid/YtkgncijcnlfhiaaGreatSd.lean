import Derived.Test.YtkgncijcnlfhiaaGreatZb
import Derived.Test.YtkgncijcnlfhiaaGreatPf
import Derived.Test.YtkgncijcnlfhiaaGreatRows
import Derived.WalkKit
import Derived.ProofKit
import Derived.OpenShut
import Derived.ChangeMaps5
namespace Go.Proofs.YtkgncijcnlfhiaaGreat
set_option maxRecDepth 100000
set_option maxHeartbeats 1000000
set_option linter.unusedVariables false
set_option linter.unusedSimpArgs false
open Go.RowKit
attribute [local go_sem ↓] Go.wp_at_zero Go.wp_at_succ
theorem deep_wrt{n:Nat}(hn:n < 300):Wrt (deepU n):=wrt_of (by kernel_rfl) (fun x hx=>by
 have:x=(n:Int):=by simpa [deepU] using hx
 omega) (by simp [deepU]) (fun f hf=>by
 have:f=⟨[],0,[],[o1 0 0,o1 13 1,o1 14 0]⟩∨f=⟨[0],0,[],deepCode⟩:=by simpa [deepU] using hf
 rcases this with rfl|rfl<;>decide) (by simp [deepU]) (fun i hi=>by simp [deepU] at hi) (by simp [deepU]) (fun e he=>by
 have:e=mainX:=by simpa [deepU] using he
 subst this;decide)
theorem Tryz.infInsD:(Tryz.prog.info? 26).map (fun i=>(i.zero,i.size,i.bytes))=some (some (.agg #[.int .i64 0,.int .i64 0,.int .i64 0]),3,24):=by kernel_rfl
theorem Tryz.uInsD:Tryz.prog.underlying 23=some (.slice 26):=by kernel_rfl
theorem gr_setD{W w:World}{b o:Nat}{v:Value}(g:Gr W w)(hb:W.heap.size≤b):Gr W (w.setCell ⟨b,o,none⟩ v):=⟨g.os,g.tape,g.output,by simpa using g.size,fun i hi hne=>(Below.heap_setCell _ _ _ _ (by show i≠b;omega)).trans (g.block i hi hne)⟩
def DnR(f:Int)(w:World)(x:Ending)(w':World):Prop:=∃cb,x=.returned (.slice (some ⟨cb,0,none⟩) 11 11)∧w'.heap[cb]? =some (.cells #[.int .i64 2,.int .i64 0,.int .i64 0,.int .i64 20,.int .i64 0,.int .i64 0,.int .i64 2,.int .i64 0,.int .i64 0,.int .i64 12,.int .i64 10,.int .i64 0,.int .i64 2,.int .i64 0,.int .i64 0,.int .i64 1,.int .i64 1,.int .i64 0,.int .i64 7,.int .i64 0,.int .i64 0,.int .i64 13,.int .i64 f,.int .i64 0,.int .i64 1,.int .i64 1,.int .i64 0,.int .i64 6,.int .i64 0,.int .i64 0,.int .i64 14,.int .i64 0,.int .i64 0] 26 (0,0))∧w.heap.size≤cb∧Gr w w'
theorem kdown_any(f:Int)(w:World):Calls Tryz.prog 14 #[.int .i64 f] w (DnR f w):=by
 go_enter Tryz.func14,Tryz.ntmps14
 go_wp2_with (go_at_call 9;refine (kop_any _ _ _).mono ?_;rintro x w' ⟨rfl,hg'⟩)
 have g1:Gr w w':=(by repeat (first|with_reducible exact Gr.refl _|with_reducible refine Gr.alloc ?_ _|with_reducible refine Gr.trans ?_ (by with_reducible assumption)));have HB:=hide (heap_alloc_new w' (.cells #[.int .i64 2,.int .i64 0,.int .i64 0,.int .i64 20,.int .i64 0,.int .i64 0,.int .i64 2,.int .i64 0,.int .i64 0,.int .i64 12,.int .i64 10,.int .i64 0,.int .i64 2,.int .i64 0,.int .i64 0,.int .i64 1,.int .i64 1,.int .i64 0,.int .i64 7,.int .i64 0,.int .i64 0,.int .i64 13,.int .i64 f,.int .i64 0,.int .i64 1,.int .i64 1,.int .i64 0,.int .i64 6,.int .i64 0,.int .i64 0,.int .i64 14,.int .i64 0,.int .i64 0] 26));have HG:=hide (g1.alloc (.cells #[.int .i64 2,.int .i64 0,.int .i64 0,.int .i64 20,.int .i64 0,.int .i64 0,.int .i64 2,.int .i64 0,.int .i64 0,.int .i64 12,.int .i64 10,.int .i64 0,.int .i64 2,.int .i64 0,.int .i64 0,.int .i64 1,.int .i64 1,.int .i64 0,.int .i64 7,.int .i64 0,.int .i64 0,.int .i64 13,.int .i64 f,.int .i64 0,.int .i64 1,.int .i64 1,.int .i64 0,.int .i64 6,.int .i64 0,.int .i64 0,.int .i64 14,.int .i64 0,.int .i64 0] 26));have HS:=hide g1.size;go_ret
 exact ⟨w'.heap.size,rfl,HB.out,HS.out,HG.out⟩
theorem kdeep_any(depth:Int)(W:World)(hd:-9223372036854775808≤depth∧depth≤9223372036854775807):
 Calls Tryz.prog 6 #[.int .i64 depth] W fun x w'=>x=.returned (.bool true)∧Gr W w':=by
 obtain ⟨n,hn,hpk⟩:=kpick_nat depth 300 hd (by omega) (by omega);have HPK:Hid (∀w,Calls Tryz.prog 8 #[.int .i64 depth,.int .i64 300] w fun x w'=>x=.returned (.int .i64 (n:Int))∧w'=w):=hide hpk;clear hpk;go_enter Tryz.func6,Tryz.ntmps6
 go_wp2_with fail
 refine (HPK.out _).mono ?_;rintro x w0 ⟨rfl,hw0⟩;obtain rfl:=hw0.symm;go_wp2_with fail
 refine (kdown_any 1 _).mono ?_;rintro x w2 ⟨cb,rfl,hcb,hcs,hg2⟩;have HG2:=hide hg2;have HC2:=hide hcb;have HCS:=hide hcs;clear hg2 hcb hcs;go_wp2_with fail
 refine (kop_any 12 11 _).mono ?_;rintro x w3 ⟨rfl,hg3⟩;have hc3:=(hg3.block cb (Array.getElem?_eq_some_iff.1 HC2.out).1 (by simp)).trans HC2.out;have HG3:=hide (HG2.out.trans hg3);have HC3:=hide hc3;have k0:w3.cell? ⟨cb,9,none⟩=some (.int .i64 12):=by rw [hcell_ hc3];rfl
 have k1:w3.cell? ⟨cb,10,none⟩=some (.int .i64 10):=by rw [hcell_ hc3];rfl
 have k2:w3.cell? ⟨cb,11,none⟩=some (.int .i64 0):=by rw [hcell_ hc3];rfl
 have z0:w3.frozen? ⟨cb,9,none⟩=false:=hfrozen_ hc3;have z1:w3.frozen? ⟨cb,10,none⟩=false:=hfrozen_ hc3;have z2:w3.frozen? ⟨cb,11,none⟩=false:=hfrozen_ hc3;have hc4:=(heap_setCell_same _ cb 11 _ _ (.int .i64 0) (heap_setCell_same _ cb 10 _ _ (.int .i64 11) (heap_setCell_same w3 cb 9 _ _ (.int .i64 12) hc3))).trans (by simp:_=some (.cells #[.int .i64 2,.int .i64 0,.int .i64 0,.int .i64 20,.int .i64 0,.int .i64 0,.int .i64 2,.int .i64 0,.int .i64 0,.int .i64 12,.int .i64 11,.int .i64 0,.int .i64 2,.int .i64 0,.int .i64 0,.int .i64 1,.int .i64 1,.int .i64 0,.int .i64 7,.int .i64 0,.int .i64 0,.int .i64 13,.int .i64 1,.int .i64 0,.int .i64 1,.int .i64 1,.int .i64 0,.int .i64 6,.int .i64 0,.int .i64 0,.int .i64 14,.int .i64 0,.int .i64 0] 26 (0,0)));have HC4:=hide hc4;have HG4:=hide (gr_setD (o:=11) (v:=.int .i64 0) (gr_setD (o:=10) (v:=.int .i64 11) (gr_setD (o:=9) (v:=.int .i64 12) HG3.out HCS.out) HCS.out) HCS.out);clear hc3 hg3 hc4 HC2 HG2 HC3 HG3;go_upto_region 4 with fail
 clear k0 k1 k2 z0 z1 z2;generalize ((w3.setCell ⟨cb,9,none⟩ (.int .i64 12)).setCell ⟨cb,10,none⟩ (.int .i64 11)).setCell ⟨cb,11,none⟩ (.int .i64 0)=W4 at HC4 HG4 ⊢;go_wp2_with fail
 refine (kop_any 1 0 _).mono ?_;rintro x w5 ⟨rfl,hg5⟩;have HG5:=hide hg5;clear hg5;go_wp2_with fail
 refine (kop_any 14 0 _).mono ?_;rintro x w6 ⟨rfl,hg6⟩;have hg46:=HG5.out.trans hg6;have hc6:=(hg46.block cb (Array.getElem?_eq_some_iff.1 HC4.out).1 (by simp)).trans HC4.out;have HG6:=hide (HG4.out.trans hg46);have ho6:w6.ownsRow W.heap.size 26 3 (.slice (some ⟨cb,0,none⟩) 11 11) 11 [.int .i64 2,.int .i64 0,.int .i64 0,.int .i64 20,.int .i64 0,.int .i64 0,.int .i64 2,.int .i64 0,.int .i64 0,.int .i64 12,.int .i64 11,.int .i64 0,.int .i64 2,.int .i64 0,.int .i64 0,.int .i64 1,.int .i64 1,.int .i64 0,.int .i64 7,.int .i64 0,.int .i64 0,.int .i64 13,.int .i64 1,.int .i64 0,.int .i64 1,.int .i64 1,.int .i64 0,.int .i64 6,.int .i64 0,.int .i64 0,.int .i64 14,.int .i64 0,.int .i64 0]:=⟨rfl,.inr ⟨cb,11,_,rfl,HCS.out,hc6,Nat.le_refl _,by unfold maxLen;omega,rfl,rfl⟩⟩;have gA:=(Gr.refl w6).alloc (.cells #[.int .i64 1,.int .i64 0,.int .i64 0,.int .i64 14,.int .i64 0,.int .i64 0] 26);obtain ⟨v7,w7,hr7,ho7,hg7,hl7⟩:=app_rows (ty:=23) 23 26 _ Tryz.infInsD Tryz.uInsD rfl (by decide) (by decide) (own_gr ho6 gA) (rrow_new w6 #[.int .i64 1,.int .i64 0,.int .i64 0,.int .i64 14,.int .i64 0,.int .i64 0] 26 2) rfl (by intro q hq;simp at hq;rcases hq with rfl|rfl|rfl|rfl|rfl|rfl<;>rfl) (by omega) (by have:=HG6.out.size;simp;omega)
 obtain ⟨ca,cc,rfl⟩:=own_shape_ ho7;have HR7:=hide hr7;have HO7:=hide ho7;have HG7:Hid (Gr W w7):=hide ⟨hg7.os.trans (gA.os.trans HG6.out.os),hg7.tape.trans (gA.tape.trans HG6.out.tape),hg7.output.trans (gA.output.trans HG6.out.output),Nat.le_trans HG6.out.size (Nat.le_trans gA.size hg7.size),fun i hi hne=>(hg7.block i (Nat.lt_of_lt_of_le hi (Nat.le_trans HG6.out.size gA.size)) (fun e=>by
  have e1:cb=i:=by simpa [Value.ownBlock] using e.symm
  have:=HCS.out;omega)).trans ((gA.block i (Nat.lt_of_lt_of_le hi HG6.out.size) (by simp)).trans (HG6.out.block i hi hne))⟩
 clear hg6 hg46 hc6 ho6 gA hr7 ho7 hg7 hl7 HC4 HG4 HG5 HG6;go_upto_region 5 with (at_builtin;refine Lib.wpList_append_run _ rfl _ _ _ _ rfl _ _ rfl rfl _ _ HR7.out ?_)
 clear HR7;have HNB:=hide (heap_alloc_new w7 (.cells #[.int .i64 (n:Int)] 3));go_upto_region 6 with (go_at_call 9;refine (kop_any _ _ _).mono ?_;rintro x w' ⟨rfl,hg'⟩)
 have gN:Gr (w7.alloc (.cells #[.int .i64 (n:Int)] 3)) w':=(by repeat (first|with_reducible exact Gr.refl _|with_reducible refine Gr.alloc ?_ _|with_reducible refine Gr.trans ?_ (by with_reducible assumption)));have hnb:=(gN.block w7.heap.size (by simp) (by simp)).trans HNB.out;have g7w:=((Gr.refl w7).alloc (.cells #[.int .i64 (n:Int)] 3)).trans gN;have HGX:=hide (HG7.out.trans g7w);have HO8:=hide (own_gr HO7.out g7w);have HN8:=hide hnb;clear gN hnb g7w HNB HO7 HG7;generalize hnb:w7.heap.size=nb at HN8 ⊢;clear hnb;have a1:=(Gr.refl w').alloc (.cells #[.int .i64 0,.int .i64 0,.int .i64 0,.int .i64 13,.int .i64 1,.int .i64 0,.int .i64 14,.int .i64 0,.int .i64 0] 26);have e1:=heap_alloc_new w' (.cells #[.int .i64 0,.int .i64 0,.int .i64 0,.int .i64 13,.int .i64 1,.int .i64 0,.int .i64 14,.int .i64 0,.int .i64 0] 26);generalize hcz:w'.heap.size=cz at a1 e1 ⊢;have s1:(w'.alloc (.cells #[.int .i64 0,.int .i64 0,.int .i64 0,.int .i64 13,.int .i64 1,.int .i64 0,.int .i64 14,.int .i64 0,.int .i64 0] 26)).heap.size=cz+1:=by simp [hcz]
 clear hcz;generalize w'.alloc (.cells #[.int .i64 0,.int .i64 0,.int .i64 0,.int .i64 13,.int .i64 1,.int .i64 0,.int .i64 14,.int .i64 0,.int .i64 0] 26)=V1 at a1 e1 s1 ⊢;have a2:=(Gr.refl V1).alloc (.cells #[.int .i64 0] 3);have e2:=heap_alloc_new V1 (.cells #[.int .i64 0] 3);have s2:(V1.alloc (.cells #[.int .i64 0] 3)).heap.size=cz+1+1:=by simp [s1]
 rw [s1] at e2;generalize V1.alloc (.cells #[.int .i64 0] 3)=V2 at a2 e2 s2 ⊢;have a3:=(Gr.refl V2).alloc (.cells #[.slice none 0 0,.int .i64 0,.slice none 0 0,.slice (some ⟨cz,0,none⟩) 3 3,.slice (some ⟨cz+1,0,none⟩) 1 1,.int .i64 0,.slice none 0 0,.slice ca 13 cc] 48);have e3:=heap_alloc_new V2 (.cells #[.slice none 0 0,.int .i64 0,.slice none 0 0,.slice (some ⟨cz,0,none⟩) 3 3,.slice (some ⟨cz+1,0,none⟩) 1 1,.int .i64 0,.slice none 0 0,.slice ca 13 cc] 48);have s3:(V2.alloc (.cells #[.slice none 0 0,.int .i64 0,.slice none 0 0,.slice (some ⟨cz,0,none⟩) 3 3,.slice (some ⟨cz+1,0,none⟩) 1 1,.int .i64 0,.slice none 0 0,.slice ca 13 cc] 48)).heap.size=cz+1+1+1:=by simp [s2]
 rw [s2] at e3;generalize V2.alloc (.cells #[.slice none 0 0,.int .i64 0,.slice none 0 0,.slice (some ⟨cz,0,none⟩) 3 3,.slice (some ⟨cz+1,0,none⟩) 1 1,.int .i64 0,.slice none 0 0,.slice ca 13 cc] 48)=V3 at a3 e3 s3 ⊢;have a4:=(Gr.refl V3).alloc (.cells #[mainV,.int .i64 0] 50);have e4:=heap_alloc_new V3 (.cells #[mainV,.int .i64 0] 50);have s4:(V3.alloc (.cells #[mainV,.int .i64 0] 50)).heap.size=cz+1+1+1+1:=by simp [s3]
 rw [s3] at e4;unfold mainV at a4 e4 s4;generalize V3.alloc (.cells #[.string ⟨#[109,97,105,110]⟩,.int .i64 0] 50)=V4 at a4 e4 s4 ⊢;have a5:=(Gr.refl V4).alloc (.cells #[.slice none 0 0,.slice (some ⟨nb,0,none⟩) 1 1,.slice (some ⟨cz+1+1,0,none⟩) 2 2,.slice none 0 0,.slice (some ⟨cz+1+1+1,0,none⟩) 1 1] 33);have e5:=heap_alloc_new V4 (.cells #[.slice none 0 0,.slice (some ⟨nb,0,none⟩) 1 1,.slice (some ⟨cz+1+1,0,none⟩) 2 2,.slice none 0 0,.slice (some ⟨cz+1+1+1,0,none⟩) 1 1] 33);have s5:(V4.alloc (.cells #[.slice none 0 0,.slice (some ⟨nb,0,none⟩) 1 1,.slice (some ⟨cz+1+1,0,none⟩) 2 2,.slice none 0 0,.slice (some ⟨cz+1+1+1,0,none⟩) 1 1] 33)).heap.size=cz+1+1+1+1+1:=by simp [s4]
 rw [s4] at e5;generalize V4.alloc (.cells #[.slice none 0 0,.slice (some ⟨nb,0,none⟩) 1 1,.slice (some ⟨cz+1+1,0,none⟩) 2 2,.slice none 0 0,.slice (some ⟨cz+1+1+1,0,none⟩) 1 1] 33)=V5 at a5 e5 s5 ⊢;have gB:=a1.trans (a2.trans (a3.trans (a4.trans a5)));have HGV:=hide (HGX.out.trans gB);have hoc:=own_gr HO8.out gB;have f1:=((a2.trans (a3.trans (a4.trans a5))).block cz (by omega) (by simp)).trans e1;have f2:=((a3.trans (a4.trans a5)).block (cz+1) (by omega) (by simp)).trans e2;have f3:=((a4.trans a5).block (cz+1+1) (by omega) (by simp)).trans e3;have f4:=(a5.block (cz+1+1+1) (by omega) (by simp)).trans e4;have f0:=(gB.block nb (Array.getElem?_eq_some_iff.1 HN8.out).1 (by simp)).trans HN8.out;have HRU:Hid (RUnit V5 (.agg #[.slice none 0 0,.slice (some ⟨nb,0,none⟩) 1 1,.slice (some ⟨cz+1+1,0,none⟩) 2 2,.slice none 0 0,.slice (some ⟨cz+1+1+1,0,none⟩) 1 1]) (deepU n)):=hide ⟨_,_,_,_,_,rfl,nilSh _,rints_at f0 rfl rfl (by show 1≤1000;omega),rfuncs_at (es:= [⟨.slice none 0 0,.slice none 0 0,.slice (some ⟨cz,0,none⟩) 3 3,⟨[],0,[],[o1 0 0,o1 13 1,o1 14 0]⟩⟩,⟨.slice (some ⟨cz+1,0,none⟩) 1 1,.slice none 0 0,.slice ca 13 cc,⟨[0],0,[],deepCode⟩⟩]) f3 rfl rfl (by show 2≤1000;omega) (fun e he=>by
  rcases List.mem_cons.1 he with rfl|he
  · exact ⟨nilR _,nilR _,rcode_at f1 rfl rfl (by show 3≤1000;omega)⟩
  · rw [List.mem_singleton.1 he];exact ⟨rints_at f2 rfl rfl (by show 1≤1000;omega),nilR _,rcode_of hoc⟩),nilIm _,exp_at f4⟩
 have HE5:=hide e5;clear a1 a2 a3 a4 a5 gB hoc f0 f1 f2 f3 f4 e1 e2 e3 e4 e5 s1 s2 s3 s4 s5 HO8 HN8 HGX;generalize hub:cz+1+1+1+1=ub at HE5 ⊢;clear hub;have u0:V5.cell? ⟨ub,0,none⟩=some (.slice none 0 0):=by rw [hcell_ HE5.out];rfl
 have u1:V5.cell? ⟨ub,1,none⟩=some (.slice (some ⟨nb,0,none⟩) 1 1):=by rw [hcell_ HE5.out];rfl
 have u2:V5.cell? ⟨ub,2,none⟩=some (.slice (some ⟨cz+1+1,0,none⟩) 2 2):=by rw [hcell_ HE5.out];rfl
 have u3:V5.cell? ⟨ub,3,none⟩=some (.slice none 0 0):=by rw [hcell_ HE5.out];rfl
 have u4:V5.cell? ⟨ub,4,none⟩=some (.slice (some ⟨cz+1+1+1,0,none⟩) 1 1):=by rw [hcell_ HE5.out];rfl
 have g6:=(Gr.refl V5).alloc (.cells #[.slice none 0 0,.slice (some ⟨nb,0,none⟩) 1 1,.slice (some ⟨cz+1+1,0,none⟩) 2 2,.slice none 0 0,.slice (some ⟨cz+1+1+1,0,none⟩) 1 1] 33);have hb6:=heap_alloc_new V5 (.cells #[.slice none 0 0,.slice (some ⟨nb,0,none⟩) 1 1,.slice (some ⟨cz+1+1,0,none⟩) 2 2,.slice none 0 0,.slice (some ⟨cz+1+1+1,0,none⟩) 1 1] 33);have HKR:Hid (Calls Tryz.prog 12 #[.slice (some ⟨V5.heap.size,0,none⟩) 1 1,.int .i64 200000,.int .i64 0] (V5.alloc (.cells #[.slice none 0 0,.slice (some ⟨nb,0,none⟩) 1 1,.slice (some ⟨cz+1+1,0,none⟩) 2 2,.slice none 0 0,.slice (some ⟨cz+1+1+1,0,none⟩) 1 1] 33)) (KrR (V5.alloc (.cells #[.slice none 0 0,.slice (some ⟨nb,0,none⟩) 1 1,.slice (some ⟨cz+1+1,0,none⟩) 2 2,.slice none 0 0,.slice (some ⟨cz+1+1+1,0,none⟩) 1 1] 33)) (machP 200000 0 (deepU n)))):=hide (krun_one (f:=200000) (h:=0) (units1 hb6 (HRU.out.gr g6)) (deep_wrt hn) (deep_link n) (deep_ver n) (by omega) (by omega));have HG6:=hide (HGV.out.trans g6);obtain ⟨why,res,T,hT,st,hFIN,hcase⟩:∃(why res:Int) (T:Nat),T≤100∧∃st,machP 200000 0 (deepU n)=⟨why,0,0,0,res,toldD n T,st⟩∧((n≤98∧why=6∧res=n∧T=n+1)∨(99≤n∧why=9∧res=0∧T=99)):=by
  by_cases h:n≤98
  · obtain ⟨st,hst⟩:=deep_run h;exact ⟨6,n,n+1,by omega,st,hst,.inl ⟨h,rfl,rfl,rfl⟩⟩
  · obtain ⟨st,hst⟩:=deep_over (n:=n) (by omega) (by omega);exact ⟨9,0,99,by omega,st,hst,.inr ⟨by omega,rfl,rfl,rfl⟩⟩
 rw [hFIN] at HKR;have HCS2:=hide hcase;clear hFIN hcase g6 hb6 HRU HE5 HGV;go_wp2_with fail
 clear u0 u1 u2 u3 u4;refine HKR.out.mono ?_;rintro x w8 ⟨vo,rfl,⟨vt,rfl,hto⟩,hg8⟩;replace hto:RIntsF _ w8 vt (toldD n T):=hto;have HGE:=hide (HG6.out.trans hg8);obtain ⟨ta,tc,rfl,_,hcl⟩:=hto;have hcl2:∀k,k < T→∃b off,ta=some ⟨b,off,none⟩∧w8.cell? ⟨b,off+k,none⟩=some (.int .i64 ((n:Int) - k)):=fun k hk=>by
  obtain ⟨b,off,h1,_,h3⟩:=hcl k _ (toldD_at n hk);exact ⟨b,off,h1,h3⟩
 have HCL:=hide hcl2;clear hcl hcl2 hg8 HKR HG6;rw [toldD_len];have g9:=(Gr.refl w8).alloc (.cells #[.int .i64 why,.int .i64 0,.int .i64 0,.int .i64 0,.int .i64 res,.slice ta T tc,.int .i64 st] 39);have hb9:=heap_alloc_new w8 (.cells #[.int .i64 why,.int .i64 0,.int .i64 0,.int .i64 0,.int .i64 res,.slice ta T tc,.int .i64 st] 39);have HG9:=hide g9;have HB9:=hide hb9;clear g9 hb9;go_wp2_with fail
 generalize w8.alloc (.cells #[.int .i64 why,.int .i64 0,.int .i64 0,.int .i64 0,.int .i64 res,.slice ta T tc,.int .i64 st] 39)=W9 at HG9 HB9 ⊢;generalize w8.heap.size=ob at HB9 ⊢;have c7:=cells7 HB9.out;have o0:W9.cell? ⟨ob,0,none⟩=some (.int .i64 why):=c7.1.1;have o4:W9.cell? ⟨ob,4,none⟩=some (.int .i64 res):=c7.1.2.2.2.2.1;have o5:W9.cell? ⟨ob,5,none⟩=some (.slice ta T tc):=c7.1.2.2.2.2.2.1;clear c7;go_loopw [8] (fun i wr=>∃k:Nat,i=.int .i64 (k:Int)∧k≤T∧W9=wr) (fun i _=>T - (intOf i).toNat)
 case atStart=>exact ⟨0,rfl,Nat.zero_le _,rfl⟩
 case round=>
  obtain ⟨k,rfl,hk,rfl⟩:=hrel;by_cases hlt:k < T
  · have hki:(k:Int) < (T:Int):=by omega
    have hw1:IntKind.i64.wrap ((k:Int)+1)=(k:Int)+1:=Go.IntWalk.i64_in _ (by omega);have hw2:IntKind.i64.wrap ((n:Int) - (k:Int))=(n:Int) - (k:Int):=Go.IntWalk.i64_in _ (by omega);obtain ⟨b,off,rfl,hce⟩:=HCL.out k hlt;have hce:=HG9.out.cell hce (by simp);go_wp2_with fail
    exact ⟨⟨k+1,by simp,hlt,trivial⟩,by simp [intOf];omega⟩
  · have hkk:k=T:=by omega
    subst hkk;clear hlt hk;rcases HCS2.out with ⟨h1,h2,h3,h4⟩|⟨h1,h2,h3,h4⟩
    · have h1i:(n:Int)≤98:=by omega
      have hw3:IntKind.i64.wrap ((n:Int)+1)=(n:Int)+1:=Go.IntWalk.i64_in _ (by omega);rw [h2] at o0;rw [h3] at o4;subst h4;have hlz:((n+1:Nat):Int)=(n:Int)+1:=by omega
      clear h1 h2 h3;go_wp2_with fail
      go_ret
      exact ⟨rfl,HGE.out.trans HG9.out⟩
    · have h1i:¬(n:Int)≤98:=by omega
      have h1d:decide ((n:Int)≤98)=false:=by simpa using h1i
      rw [h2] at o0;rw [h3] at o4;subst h4;clear h1 h2 h3;go_wp2_with fail
      go_ret
      exact ⟨rfl,HGE.out.trans HG9.out⟩
open Go.ChangeShapes Go.WideShapes Go.ChangeAt Go.RowKit Go.ChangeMaps
theorem ownK:ownKnob Tryz.prog.godebug=none:=by kernel_rfl
theorem i64_fitsK{n:Int}(h:(Lit.int .i64 n).wf=true):-9223372036854775808≤n∧n≤9223372036854775807:=by
 simp only [Lit.wf,Bool.and_eq_true,decide_eq_true_eq] at h;exact h
theorem gr_below{w w':World}(h:Gr w w'):Below w.heap.size w w':=(Below.refl w.heap.size w).grown h (Nat.le_refl _) (by simp)
theorem deep_lifted(os:Os)(started:os.Started)(H:Type)(enc:TypeId×Value→H):
 ReturnsInHanded {} Tryz.checked os 6 .any (Rows.deepSpec.pre6 enc Tryz.prog Tryz.f6 Rows.deepRow.domain false) (Rows.deepSpec.post enc Tryz.prog Tryz.f6 false true false false):=by
 refine returnsInHanded_of_change (C:=Tryz.checked) ownK started (by kernel_rfl) Tryz.func6
  (ChangeSpec.witness6 (enc:=enc) (C:=Tryz.checked) false ⟨#[],#[.int .i64 0],[]⟩ 8 (by kernel_rfl) (by kernel_rfl) (by kernel_rfl) (by kernel_rfl)) ?_
 intro W base args ds gs before hval0 hW hcnd _;have hval:∀(j:Nat) t v,Tryz.f6.params[j]? =some t→args[j]? =some v→Value.okWide Tryz.prog W .any base t v:=hval0;have hW':=hW;obtain ⟨p,q,hA0,hV,rfl,hfz,hnd⟩:=hW;have hA:DataW.TrodAll enc Tryz.prog W 0 (fun _=>true) true Tryz.f6.params.toList args.toList ds p:=hA0;rw [Tryz.params6] at hA hval;obtain ⟨v0,vs0,d0,ds0,p0,q0,hargs,rfl,rfl,h0,r0⟩:=trodAll_cons hA;obtain ⟨rfl,rfl,rfl⟩:=trodAll_nil r0;obtain rfl:args=#[v0]:=by cases args;simp_all
 obtain ⟨rfl,rfl⟩:=trodVars_none hV;obtain ⟨a0,rfl,rfl,rfl,w0⟩:=open_int Tryz.underlying3 (hval 0 3 v0 rfl rfl) h0;clear hA0 hval0;simp only [List.append_nil] at hW';refine (kdeep_any a0 W (i64_fitsK w0)).mono fun e W' ⟨he,hgr⟩=>?_
 have hg:=gr_below hgr;subst he;exact ⟨_,rfl,_,_,_,[],[],[],hW',trodAll_cons_mk (shut_bool Tryz.underlying4 _) trodAll_mk0,(trodAll_cons_mk (shut_int Tryz.underlying3 w0) trodAll_mk0),rfl,hg.frame _,fun h=>nomatch h⟩
theorem deep_holds:Rows.deepRow.holds Tryz.pinned (OpenSpec.ofChange Rows.deepSpec):=
 OpenClaim.holds_of_wide 6 Tryz.f6 rfl rfl rfl rfl rfl rfl rfl ⟨rfl,rfl,rfl,rfl,rfl⟩ rfl rfl rfl rfl rfl (by kernel_rfl) Tryz.func6 (by kernel_rfl)
  (of_decide_eq_true (by kernel_rfl)) (by unfold Func.isWrapper;first|(rw [if_pos (by decide+kernel)];kernel_rfl)|(rw [if_neg (by decide+kernel)];exact ⟨rfl,rfl⟩))
  (fun os started H enc _=>deep_lifted os started H enc)
theorem deep_said:Rows.DeepSaid:=deep_holds
end Go.Proofs.YtkgncijcnlfhiaaGreat
