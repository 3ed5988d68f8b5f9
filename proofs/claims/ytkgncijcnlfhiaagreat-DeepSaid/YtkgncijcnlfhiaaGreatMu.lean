import Derived.Test.YtkgncijcnlfhiaaGreatR2
import Derived.Test.YtkgncijcnlfhiaaGreatNq
import Derived.Test.YtkgncijcnlfhiaaGreatMt
import Derived.Test.YtkgncijcnlfhiaaGreatNp
namespace Go.Proofs.YtkgncijcnlfhiaaGreat
set_option maxRecDepth 100000
set_option maxHeartbeats 2000000
set_option linter.unusedVariables false
set_option linter.unusedSimpArgs false
open Go.RowKit
def put5(w:World)(b:Nat)(x0 x1 x2 x3 x4:Value):World:=((((w.setCell ⟨b,0,none⟩ x0).setCell ⟨b,1,none⟩ x1).setCell ⟨b,2,none⟩ x2).setCell ⟨b,3,none⟩ x3).setCell ⟨b,4,none⟩ x4
theorem put5_eq(w:World)(b:Nat)(x0 x1 x2 x3 x4:Value):((((w.setCell ⟨b,0,none⟩ x0).setCell ⟨b,1,none⟩ x1).setCell ⟨b,2,none⟩ x2).setCell ⟨b,3,none⟩ x3).setCell ⟨b,4,none⟩ x4=put5 w b x0 x1 x2 x3 x4:=rfl
theorem put5_box{w:World}{b:Nat}{x0 x1 x2 x3 x4:Value}(y0 y1 y2 y3 y4:Value)(h:Box5 w b x0 x1 x2 x3 x4):Box5 (put5 w b y0 y1 y2 y3 y4) b y0 y1 y2 y3 y4:=((((h.set0 y0).set1 y1).set2 y2).set3 y3).set4 y4
theorem put5_gr{w w1:World}{b:Nat}{y0 y1 y2 y3 y4:Value}(h:Gr w w1)(hb:w.heap.size≤b):Gr w (put5 w1 b y0 y1 y2 y3 y4):=gr_set (gr_set (gr_set (gr_set (gr_set h hb) hb) hb) hb) hb
theorem put5_unit{B b:Nat}{w:World}{v:Value}{u:PUnit}{y0 y1 y2 y3 y4:Value}(h:RUnitF B w v u)(hb:b < B):RUnitF B (put5 w b y0 y1 y2 y3 y4) v u:=((((h.kp (kp_set hb)).kp (kp_set hb)).kp (kp_set hb)).kp (kp_set hb)).kp (kp_set hb)
theorem put5_box3{w:World}{b g:Nat}{x0 x1 x2 y0 y1 y2 y3 y4:Value}(h:¬b=g)(hb:Box3 w g x0 x1 x2):Box3 (put5 w b y0 y1 y2 y3 y4) g x0 x1 x2:=((((hb.other h).other h).other h).other h).other h
theorem put5_box5{w:World}{b g:Nat}{x0 x1 x2 x3 x4 y0 y1 y2 y3 y4:Value}(h:¬b=g)(hb:Box5 w g x0 x1 x2 x3 x4):Box5 (put5 w b y0 y1 y2 y3 y4) g x0 x1 x2 x3 x4:=((((hb.other h).other h).other h).other h).other h
def WorkD(w:World)(ub:Nat):PUnit ⊕ (Int×Nat)→Ending→World→Prop
 | .inl u,x,w'=>∃v1 v2 v3 v4 v5 B w1,x=.returned (.tuple #[])∧w.heap.size≤B∧RUnitF B w1 (.agg #[v1,v2,v3,v4,v5]) u∧Gr w w1∧w'=put5 w1 ub v1 v2 v3 v4 v5
 | .inr (e,p),x,w'=>x=.panicked (thrown e p)∧Gr w w'
theorem work_dec(s:ByteArray)(tb ub:Nat)(x0 x1 x2 x3 x4:Value)(w:World)(ht:w.cell? ⟨tb,0,none⟩=some (.string s))(hs:s.size≤maxLen)(hub:Box5 w ub x0 x1 x2 x3 x4):
 Calls Tryz.prog 63 #[.pointer (some ⟨tb,0,none⟩),.pointer (some ⟨ub,0,none⟩)] w (WorkD w ub (dec s.data.toList)):=by
 have HB:=hide hub;clear hub;generalize hT:dec s.data.toList=D;go_enter Tryz.func63,Tryz.ntmps63
 go_wp2_with fail
 refine (read_any sections s _ hs).mono ?_;rw [hT];clear hT;intro x w1 h;cases D with
 | inl u=>
  obtain ⟨v,B,rfl,hB,hu,hg1⟩:=h;obtain ⟨v1,v2,v3,v4,v5,rfl,k1,k2,k3,k4,k5⟩:=hu;obtain ⟨a1,c1,rfl⟩:=k1.shape;obtain ⟨a2,c2,rfl⟩:=k2.shape;obtain ⟨a3,c3,rfl⟩:=k3.shape;obtain ⟨a4,c4,rfl⟩:=k4.shape;obtain ⟨a5,c5,rfl⟩:=k5.shape;have HU:Hid (RUnitF B w1 (.agg #[.slice a1 u.shapes.length c1,.slice a2 u.consts.length c2,.slice a3 u.funcs.length c3,.slice a4 u.imports.length c4,.slice a5 u.exports.length c5]) u):=hide ⟨_,_,_,_,_,rfl,k1,k2,k3,k4,k5⟩;have HG:=hide hg1;have HBB:=hide hB;obtain ⟨b0,b1,b2,b3,b4,d0,d1,d2,d3,d4⟩:=HB.out.gr hg1;clear k1 k2 k3 k4 k5 hg1 HB hB;go_wp2
  rw [put5_eq];go_end0
  exact ⟨_,_,_,_,_,B,w1,rfl,HBB.out,HU.out,HG.out,rfl⟩
 | inr q=>
  obtain ⟨e,p⟩:=q;obtain ⟨rfl,hg1⟩:=h;exact ⟨rfl,rfl,hg1⟩
open Go.RowKit
def DecR(w:World):PUnit ⊕ (Int×Nat)→Ending→World→Prop
 | .inl u,x,w'=>∃v B,x=.returned (.tuple #[v,.int .i64 0,.int .i64 0])∧w.heap.size≤B∧RUnitF B w' v u∧Gr w w'
 | .inr (e,p),x,w'=>x=.returned (.tuple #[.agg #[.slice none 0 0,.slice none 0 0,.slice none 0 0,.slice none 0 0,.slice none 0 0],.int .i64 e,.int .i64 p])∧Gr w w'
def decOk(w:World):PUnit ⊕ (Int×Nat)→World→Prop
 | .inl u,w1=>∃v1 v2 v3 v4 v5 B,w.heap.size+4≤B∧RUnitF B w1 (.agg #[v1,v2,v3,v4,v5]) u∧Gr w w1∧Box5 w1 (w.heap.size+2) v1 v2 v3 v4 v5∧Box5 w1 (w.heap.size+1) (.slice none 0 0) (.slice none 0 0) (.slice none 0 0) (.slice none 0 0) (.slice none 0 0)
 | .inr _,_=>False
def decBad(w:World):PUnit ⊕ (Int×Nat)→Int→Int→Int→World→Prop
 | .inl _,_,_,_,_=>False
 | .inr (e,p),e',_,p',w1=>e'=e∧p'=p∧Gr w w1∧Box5 w1 (w.heap.size+2) (.slice none 0 0) (.slice none 0 0) (.slice none 0 0) (.slice none 0 0) (.slice none 0 0)∧Box5 w1 (w.heap.size+1) (.slice none 0 0) (.slice none 0 0) (.slice none 0 0) (.slice none 0 0) (.slice none 0 0)
def decW(w:World)(s:ByteArray):World:=((((w.alloc (.cells #[.string s] 9)).alloc (.cells #[.slice none 0 0,.slice none 0 0,.slice none 0 0,.slice none 0 0,.slice none 0 0] 33)).alloc (.cells #[.slice none 0 0,.slice none 0 0,.slice none 0 0,.slice none 0 0,.slice none 0 0] 33)))
theorem decW_eq(w:World)(s:ByteArray):((((w.alloc (.cells #[.string s] 9)).alloc (.cells #[.slice none 0 0,.slice none 0 0,.slice none 0 0,.slice none 0 0,.slice none 0 0] 33)).alloc (.cells #[.slice none 0 0,.slice none 0 0,.slice none 0 0,.slice none 0 0,.slice none 0 0] 33)))=decW w s:=rfl
theorem decW_facts(w:World)(s:ByteArray):(decW w s).cell? ⟨w.heap.size,0,none⟩=some (.string s)∧Box5 (decW w s) (w.heap.size+1) (.slice none 0 0) (.slice none 0 0) (.slice none 0 0) (.slice none 0 0) (.slice none 0 0)∧Box5 (decW w s) (w.heap.size+2) (.slice none 0 0) (.slice none 0 0) (.slice none 0 0) (.slice none 0 0) (.slice none 0 0)∧Gr w (decW w s)∧(decW w s).heap.size=w.heap.size+3:=by
 unfold decW;refine ⟨by simp [go_sem],⟨?_,?_,?_,?_,?_,?_,?_,?_,?_,?_⟩,⟨?_,?_,?_,?_,?_,?_,?_,?_,?_,?_⟩,(((Gr.refl _).alloc _).alloc _).alloc _,by simp⟩<;>simp [go_sem]
theorem decode_any(s:ByteArray)(w:World)(hs:s.size≤maxLen):
 Calls Tryz.prog 30 #[.string s] w (DecR w (dec s.data.toList)):=by
 have hmf:∀(fn:Fn) (first cap:Array Value) (w:World),(Instr.makeFunc fn first cap).run Tryz.prog w=.ok (.func fn first cap) w:=fun _ _ _ _=>rfl
 have HF:=hide (decW_facts w s);generalize hD:dec s.data.toList=D;go_enter Tryz.func30,Tryz.ntmps30
 go_wp2_with fail
 rw [decW_eq];obtain ⟨ht,hrb,hub,hgV,hsz⟩:=HF.out;clear HF;generalize decW w s=V at ht hrb hub hgV hsz ⊢;have hwb:Box3 (V.alloc (.cells #[.int .i64 0,.int .i64 0,.int .i64 0] 58)) V.heap.size (.int .i64 0) (.int .i64 0) (.int .i64 0):=Box3.new V 58 (.int .i64 0) (.int .i64 0) (.int .i64 0);have hgr:=Gr.alloc (Gr.refl V) (.cells #[.int .i64 0,.int .i64 0,.int .i64 0] 58);have hgs:(V.alloc (.cells #[.int .i64 0,.int .i64 0,.int .i64 0] 58)).heap.size=V.heap.size+1:=by simp
 refine (refusal_any 63 #[.pointer (some ⟨w.heap.size,0,none⟩),.pointer (some ⟨w.heap.size+2,0,none⟩)] V (decOk w D) (decBad w D) (fun w=>rfl)
  ((work_dec s w.heap.size (w.heap.size+2) _ _ _ _ _ _ (hgr.cell ht (by simp)) hs (hub.gr hgr)).mono ?_)).mono ?_
 · rw [hD];clear hD;intro x w' h;cases D with
   | inl u=>
    obtain ⟨v1,v2,v3,v4,v5,B,w1,rfl,hB,hu,hg,rfl⟩:=h;refine ⟨?_,.inl ⟨rfl,v1,v2,v3,v4,v5,B,by omega,put5_unit hu (by omega),put5_gr ((hgV.trans hgr).trans hg) (by omega),put5_box _ _ _ _ _ ((hub.gr hgr).gr hg),put5_box5 (by omega) ((hrb.gr hgr).gr hg)⟩⟩;exact put5_box3 (by omega) (hwb.gr hg)
   | inr q=>
    obtain ⟨e,p⟩:=q;obtain ⟨rfl,hg⟩:=h;exact ⟨hwb.gr hg,.inr ⟨e,0,p,rfl,rfl,rfl,(hgV.trans hgr).trans hg,(hub.gr hgr).gr hg,(hrb.gr hgr).gr hg⟩⟩
 · clear hwb hgr hgs ht hgV hub hrb hD hs;rintro x w2 ⟨w1,hgc,hbS,h⟩;cases D with
   | inl u=>
    rcases h with ⟨rfl,h⟩|⟨e,n,a,rfl,h⟩
    · obtain ⟨v1,v2,v3,v4,v5,B,hB,hu,hg,hbx,hrb⟩:=h;have HU:=hide (hu.kp (hgc.kp (by omega)));have HG:=hide (gr_over hg hgc (by omega));have HBB:=hide hB;have hbx2:=hbx.gc hgc (by omega);have hrb2:=hrb.gc hgc (by omega);have hs2:w.heap.size+3 < w2.heap.size:=by have h1:=hbS;have h2:=hgc.size;omega
      clear hu hg hbx hrb hgc hmf hB hsz;obtain ⟨v1',v2',v3',v4',v5',he,k1,k2,k3,k4,k5⟩:=HU.out;simp only [Value.agg.injEq,Array.mk.injEq,List.cons.injEq,and_true] at he;obtain ⟨rfl,rfl,rfl,rfl,rfl⟩:=he;obtain ⟨a1,c1,rfl⟩:=k1.shape;obtain ⟨a2,c2,rfl⟩:=k2.shape;obtain ⟨a3,c3,rfl⟩:=k3.shape;obtain ⟨a4,c4,rfl⟩:=k4.shape;obtain ⟨a5,c5,rfl⟩:=k5.shape;clear k1 k2 k3 k4 k5;have hg2:=Gr.alloc (Gr.refl w2) (.cells #[.int .i64 0,.int .i64 0,.int .i64 0] 58);have hb2:=Box3.new w2 58 (.int .i64 0) (.int .i64 0) (.int .i64 0);have HG2:=hide (HG.out.trans hg2);have HU2:=hide (HU.out.kp hg2.kp);obtain ⟨b0,b1,b2,b3,b4,d0,d1,d2,d3,d4⟩:=hbx2.gr hg2;have HRX:=hide (hrb2.gr hg2);obtain ⟨r0,r1,r2,r3,r4,s0,s1,s2,s3,s4⟩:=HRX.out;have he0:=hb2.1;have he2:=hb2.2.2.1;have hn1:¬w2.heap.size=w.heap.size+1:=by omega
      have hn2:¬w.heap.size+1=w2.heap.size:=by omega
      clear hbx2 hrb2 hg2 hb2 HG d0 d1 d2 d3 d4 HU;go_wp2
      generalize w2.alloc (.cells #[.int .i64 0,.int .i64 0,.int .i64 0] 58)=W3 at b0 b1 b2 b3 b4 r0 r1 r2 r3 r4 s0 s1 s2 s3 s4 he0 he2 HG2 HRX HU2 ⊢;go_region_held3 (fun w'=>w'.cell? ⟨w2.heap.size,0,none⟩=some (.int .i64 0)∧w'.cell? ⟨w2.heap.size,2,none⟩=some (.int .i64 0)∧w'.cell? ⟨w.heap.size+2,0,none⟩=some (.slice a1 u.shapes.length c1)∧w'.cell? ⟨w.heap.size+2,1,none⟩=some (.slice a2 u.consts.length c2)∧w'.cell? ⟨w.heap.size+2,2,none⟩=some (.slice a3 u.funcs.length c3)∧w'.cell? ⟨w.heap.size+2,3,none⟩=some (.slice a4 u.imports.length c4)∧w'.cell? ⟨w.heap.size+2,4,none⟩=some (.slice a5 u.exports.length c5)) (go_keep) (fail)
      rw [put5_eq];have hry:=put5_box (.slice a1 u.shapes.length c1) (.slice a2 u.consts.length c2) (.slice a3 u.funcs.length c3) (.slice a4 u.imports.length c4) (.slice a5 u.exports.length c5) HRX.out;have HG3:=hide (put5_gr (b:=w.heap.size+1) (y0:=.slice a1 u.shapes.length c1) (y1:=.slice a2 u.consts.length c2) (y2:=.slice a3 u.funcs.length c3) (y3:=.slice a4 u.imports.length c4) (y4:=.slice a5 u.exports.length c5) HG2.out (by omega));have HU3:=hide (put5_unit (b:=w.heap.size+1) (y0:=.slice a1 u.shapes.length c1) (y1:=.slice a2 u.consts.length c2) (y2:=.slice a3 u.funcs.length c3) (y3:=.slice a4 u.imports.length c4) (y4:=.slice a5 u.exports.length c5) HU2.out (by have:=HBB.out;omega));clear b0 b1 b2 b3 b4 r0 r1 r2 r3 r4 s0 s1 s2 s3 s4 he0 he2 hn1 hn2 HG2 HU2 HRX;generalize put5 W3 (w.heap.size+1) (.slice a1 u.shapes.length c1) (.slice a2 u.consts.length c2) (.slice a3 u.funcs.length c3) (.slice a4 u.imports.length c4) (.slice a5 u.exports.length c5)=W4 at hry HG3 HU3 ⊢;obtain ⟨r0,r1,r2,r3,r4,s0,s1,s2,s3,s4⟩:=(show Box5 W4.drew _ _ _ _ _ _ from hry);go_wp2
      exact bodyPost_ret (v:=.tuple #[.agg #[.slice a1 u.shapes.length c1,.slice a2 u.consts.length c2,.slice a3 u.funcs.length c3,.slice a4 u.imports.length c4,.slice a5 u.exports.length c5],.int .i64 0,.int .i64 0]) (by simp [results,Tryz.results30,go_sem,r0,r1,r2,r3,r4]) rfl ⟨_,B,rfl,by have:=HBB.out;omega,HU3.out.kp (Gr.drew (Gr.refl _)).kp,HG3.out.drew⟩
    · exact h.elim
   | inr q=>
    obtain ⟨e,p⟩:=q;rcases h with ⟨rfl,h⟩|⟨e',n,a,rfl,h⟩
    · exact h.elim
    · obtain ⟨rfl,rfl,hg,hbx,hrb⟩:=h;have HG:=hide (gr_over hg hgc (by omega));have hbx2:=hbx.gc hgc (by omega);have hrb2:=hrb.gc hgc (by omega);have hs2:w.heap.size+3 < w2.heap.size:=by have h1:=hbS;have h2:=hgc.size;omega
      clear hg hbx hrb hgc hmf hsz;have hg2:=Gr.alloc (Gr.refl w2) (.cells #[.int .i64 e',.int .i64 n,.int .i64 (p:Int)] 58);have hb2:=Box3.new w2 58 (.int .i64 e') (.int .i64 n) (.int .i64 (p:Int));have HG2:=hide (HG.out.trans hg2);obtain ⟨b0,b1,b2,b3,b4,d0,d1,d2,d3,d4⟩:=hbx2.gr hg2;have HRX:=hide (hrb2.gr hg2);obtain ⟨r0,r1,r2,r3,r4,s0,s1,s2,s3,s4⟩:=HRX.out;have he0:=hb2.1;have he2:=hb2.2.2.1;have hn1:¬w2.heap.size=w.heap.size+1:=by omega
      have hn2:¬w.heap.size+1=w2.heap.size:=by omega
      clear hbx2 hrb2 hg2 hb2 HG d0 d1 d2 d3 d4;go_wp2
      generalize w2.alloc (.cells #[.int .i64 e',.int .i64 n,.int .i64 (p:Int)] 58)=W3 at b0 b1 b2 b3 b4 r0 r1 r2 r3 r4 s0 s1 s2 s3 s4 he0 he2 HG2 HRX ⊢;go_region_held3 (fun w'=>w'.cell? ⟨w2.heap.size,0,none⟩=some (.int .i64 e')∧w'.cell? ⟨w2.heap.size,2,none⟩=some (.int .i64 (p:Int))∧w'.cell? ⟨w.heap.size+2,0,none⟩=some (.slice none 0 0)∧w'.cell? ⟨w.heap.size+2,1,none⟩=some (.slice none 0 0)∧w'.cell? ⟨w.heap.size+2,2,none⟩=some (.slice none 0 0)∧w'.cell? ⟨w.heap.size+2,3,none⟩=some (.slice none 0 0)∧w'.cell? ⟨w.heap.size+2,4,none⟩=some (.slice none 0 0)) (go_keep) (fail)
      rw [put5_eq];have hry:=put5_box (.slice none 0 0) (.slice none 0 0) (.slice none 0 0) (.slice none 0 0) (.slice none 0 0) HRX.out;have HG3:=hide (put5_gr (b:=w.heap.size+1) (y0:=.slice none 0 0) (y1:=.slice none 0 0) (y2:=.slice none 0 0) (y3:=.slice none 0 0) (y4:=.slice none 0 0) HG2.out (by omega));clear b0 b1 b2 b3 b4 r0 r1 r2 r3 r4 s0 s1 s2 s3 s4 he0 he2 hn1 hn2 HG2 HRX;generalize put5 W3 (w.heap.size+1) (.slice none 0 0) (.slice none 0 0) (.slice none 0 0) (.slice none 0 0) (.slice none 0 0)=W4 at hry HG3 ⊢;obtain ⟨r0,r1,r2,r3,r4,s0,s1,s2,s3,s4⟩:=(show Box5 W4.drew _ _ _ _ _ _ from hry);go_wp2
      exact bodyPost_ret (v:=.tuple #[.agg #[.slice none 0 0,.slice none 0 0,.slice none 0 0,.slice none 0 0,.slice none 0 0],.int .i64 e',.int .i64 p]) (by simp [results,Tryz.results30,go_sem,r0,r1,r2,r3,r4]) rfl ⟨rfl,HG3.out.drew⟩
open Go.RowKit
def Kc(w w':World):Prop:=∀(a:Addr) (x:Value),w.cell? a=some x→w'.cell? a=some x
theorem RInts.kc{w w':World}{v:Value}{l:List Int}(h:RInts w v l)(g:Kc w w'):RInts w' v l:=by
 obtain ⟨ao,cap,hv,hm,hc⟩:=h;refine ⟨ao,cap,hv,hm,fun i hi=>?_⟩;obtain ⟨b,off,h1,h2⟩:=hc i hi;exact ⟨b,off,h1,g _ _ h2⟩
theorem RCode.kc{w w':World}{v:Value}{l:List PIns}(h:RCode w v l)(g:Kc w w'):RCode w' v l:=by
 obtain ⟨ao,cap,hv,hm,hc⟩:=h;refine ⟨ao,cap,hv,hm,fun i x hi=>?_⟩;obtain ⟨b,off,h1,h2,h3,h4⟩:=hc i x hi;exact ⟨b,off,h1,g _ _ h2,g _ _ h3,g _ _ h4⟩
theorem RShapes.kc{w w':World}{v:Value}{l:List (List Int)}(h:RShapes w v l)(g:Kc w w'):RShapes w' v l:=by
 obtain ⟨ao,cap,hv,hm,hc⟩:=h;refine ⟨ao,cap,hv,hm,fun i x hi=>?_⟩;obtain ⟨b,off,vx,h1,h2,h3⟩:=hc i x hi;exact ⟨b,off,vx,h1,g _ _ h2,h3.kc g⟩
theorem RFuncs.kc{w w':World}{v:Value}{l:List PFunc}(h:RFuncs w v l)(g:Kc w w'):RFuncs w' v l:=by
 obtain ⟨ao,cap,hv,hm,hc⟩:=h;refine ⟨ao,cap,hv,hm,fun i x hi=>?_⟩;obtain ⟨b,off,vp,vl,vc,h1,h2,h3,h4,h5,h6,h7,h8⟩:=hc i x hi;exact ⟨b,off,vp,vl,vc,h1,g _ _ h2,g _ _ h3,g _ _ h4,g _ _ h5,h6.kc g,h7.kc g,h8.kc g⟩
theorem RImports.kc{w w':World}{v:Value}{l:List PImp}(h:RImports w v l)(g:Kc w w'):RImports w' v l:=by
 obtain ⟨ao,cap,hv,hm,hc⟩:=h;refine ⟨ao,cap,hv,hm,fun i x hi=>?_⟩;obtain ⟨b,off,vs,vp,h1,h2,h3,h4,h5,h6⟩:=hc i x hi;exact ⟨b,off,vs,vp,h1,g _ _ h2,g _ _ h3,g _ _ h4,h5,h6.kc g⟩
theorem RExports.kc{w w':World}{v:Value}{l:List PExp}(h:RExports w v l)(g:Kc w w'):RExports w' v l:=by
 obtain ⟨ao,cap,hv,hm,hc⟩:=h;refine ⟨ao,cap,hv,hm,fun i x hi=>?_⟩;obtain ⟨b,off,vs,h1,h2,h3,h4⟩:=hc i x hi;exact ⟨b,off,vs,h1,g _ _ h2,g _ _ h3,h4⟩
theorem RUnit.kc{w w':World}{v:Value}{u:PUnit}(h:RUnit w v u)(g:Kc w w'):RUnit w' v u:=by
 obtain ⟨v1,v2,v3,v4,v5,e,h1,h2,h3,h4,h5⟩:=h;exact ⟨v1,v2,v3,v4,v5,e,h1.kc g,h2.kc g,h3.kc g,h4.kc g,h5.kc g⟩
def wout(w:World)(o:Option Nat):World:=match o with
 | some b=>w.setRow b #[]
 | none=>w
theorem wout_heap(w:World)(o:Option Nat)(k:Nat)(h:¬o=some k):(wout w o).heap[k]? =w.heap[k]? :=by
 cases o with
 | none=>rfl
 | some b=>exact setRow_other w b k _ (fun e=>h (by rw [e]))
theorem wout_size(w:World)(o:Option Nat):(wout w o).heap.size=w.heap.size:=by cases o<;>simp [wout]
theorem wout_kc{w w3:World}{o o':Option Nat}{base:Nat}{e:TypeId}{n len:Nat}{v:Value}{xs:List Value}(hv:w.ownsRow base e n v len xs)(ho:v.ownBlock=o)(g:w.grownBy w3 o)(hl:o'=o∨o'=some w.heap.size):Kc (wout w o) (wout w3 o'):=by
 intro a x h;have hlt:=World.block_lt_of_cell? _ _ h;rw [wout_size] at hlt;by_cases hb:o=some a.block
 · exfalso
   subst hb;rcases hv.2 with ⟨rfl,_⟩|⟨g',cap,cur,rfl,_,hh,_⟩
   · simp [Value.ownBlock] at ho
   · simp only [Value.ownBlock,Option.some.injEq] at ho;rw [ho] at hh;have h2:=setRow_heap w a.block cur #[] e (0,0) hh;have h3:(wout w (some a.block)).heap[a.block]? =some (.cells #[] e (0,0)):=h2;have h4:(wout w (some a.block)).cell? a=none:=by
      unfold World.cell?;rw [h3];simp
     rw [h4] at h;cases h
 · have hb':¬o'=some a.block:=by
    rcases hl with rfl|rfl
    · exact hb
    · intro e;have:=Option.some.inj e;omega
   have e1:(wout w3 o').heap[a.block]? =(wout w o).heap[a.block]? :=by
    rw [wout_heap _ _ _ hb',wout_heap _ _ _ hb];exact g.block a.block hlt (fun e=>hb e.symm)
   exact (World.cell?_of_block e1).trans h
theorem wout_gr{w w':World}{o:Option Nat}(g:Gr w w')(ho:∀b,o=some b→b < w.heap.size):Gr (wout w o) (wout w' o):=by
 refine ⟨?_,?_,?_,by rw [wout_size,wout_size];exact g.size,fun k hk hne=>?_⟩
 · cases o<;>exact g.os
 · cases o<;>exact g.tape
 · cases o<;>exact g.output
 · rw [wout_size] at hk;cases o with
   | none=>exact g.block k hk hne
   | some b=>
    by_cases hb:k=b
    · subst hb;have e:=g.block k hk (by simp);have hk':k < w'.heap.size:=Nat.lt_of_lt_of_le hk g.size;unfold wout World.setRow;simp only [Array.getElem?_modify,if_true,e]
    · show (w'.setRow b #[]).heap[k]? =(w.setRow b #[]).heap[k]?
      rw [setRow_other _ _ _ _ hb,setRow_other _ _ _ _ hb];exact g.block k hk hne
theorem wout_to{w:World}{o:Option Nat}{base:Nat}{e:TypeId}{n len:Nat}{v:Value}{xs:List Value}(hv:w.ownsRow base e n v len xs)(ho:v.ownBlock=o):Kc (wout w o) w:=by
 have:=wout_kc (o':=some w.heap.size) hv ho (World.grownBy.refl w o) (.inr rfl)
 intro a x h;have h2:=this a x h;have hlt:=World.block_lt_of_cell? _ _ h;rw [wout_size] at hlt;have e:=wout_heap w (some w.heap.size) a.block (by intro e;have:=Option.some.inj e;omega);exact (World.cell?_of_block e).symm.trans h2
def decAll:Nat→List (List UInt8)→List PUnit ⊕ (Int×Nat×Nat)
 | _,[]=>.inl []
 | k,s :: l=>match dec s with
  | .inr (e,p)=>.inr (e,k,p)
  | .inl u=>match decAll (k+1) l with
   | .inl us=>.inl (u :: us)
   | .inr r=>.inr r
def glueD(us:List PUnit):List PUnit ⊕ (Int×Nat×Nat)→List PUnit ⊕ (Int×Nat×Nat)
 | .inl vs=>.inl (us++vs)
 | .inr r=>.inr r
theorem glueD_step{us:List PUnit}{k:Nat}{s:List UInt8}{l:List (List UInt8)}{u:PUnit}(h:dec s=.inl u):glueD us (decAll k (s :: l))=glueD (us++ [u]) (decAll (k+1) l):=by
 rw [decAll,h];cases decAll (k+1) l with
 | inl vs=>simp [glueD]
 | inr r=>rfl
theorem glueD_stop{us:List PUnit}{k:Nat}{s:List UInt8}{l:List (List UInt8)}{e:Int}{p:Nat}(h:dec s=.inr (e,p)):glueD us (decAll k (s :: l))=.inr (e,k,p):=by
 rw [decAll,h];rfl
theorem link_take(us:List PUnit):linkP (us.take 7)=linkP us:=by
 by_cases h:us.length≤7
 · rw [List.take_of_length_le h]
 · cases us with
   | nil=>rfl
   | cons a t=>
    have e:(a :: t).take 7=a :: t.take 6:=rfl;rw [e,linkP,linkP,if_pos (by simp at h ⊢;omega),if_pos (by simp at h ⊢;omega)]
structure POut where
 why:Int
 unit:Int
 at_:Int
 e:Int
 result:Int
 told:List Int
 steps:Int
def runP(M:PUnit→POut)(ss:List (List UInt8))(fuel heap:Int):POut:=
 if fuel < 0∨200000 < fuel∨heap < 0∨5000 < heap then ⟨1,0,0,0,0,[],0⟩ else match decAll 0 ss with
 | .inr (e,k,p)=>⟨2,(k:Int),(p:Int),e,0,[],0⟩
 | .inl us=>match linkP us with
  | .inr (e,k)=>⟨3,(k:Int),0,e,0,[],0⟩
  | .inl u=>if (verifyP u).1≠0 then ⟨4,((verifyP u).2.1:Int),((verifyP u).2.2:Int),(verifyP u).1,0,[],0⟩ else M u
def RTexts(w:World)(v:Value)(l:List (List UInt8)):Prop:=∃ao cap,v=.slice ao l.length cap∧l.length≤maxLen∧∀(i:Nat) (x:List UInt8),l[i]? =some x→∃(b off:Nat) (s:ByteArray),ao=some ⟨b,off,none⟩∧w.cell? ⟨b,off+i,none⟩=some (.string s)∧s.data.toList=x∧s.size≤maxLen
open Go.RowKit
def pRun(u:PUnit)(heap:Nat):Nat→Nat→PM→POut
 | 0,s,m=>⟨7,0,0,0,0,m.told,(s:Int)⟩
 | n+1,s,m=>match pStep u heap m with
  | .go m'=>pRun u heap n (s+1) m'
  | .stop why res m'=>⟨why,0,0,0,res,m'.told,((s+1:Nat):Int)⟩
theorem pRun_zero(u:PUnit)(heap s:Nat)(m:PM):pRun u heap 0 s m=⟨7,0,0,0,0,m.told,(s:Int)⟩:=rfl
theorem pRun_go{u:PUnit}{heap n s:Nat}{m m':PM}(h:pStep u heap m=.go m'):pRun u heap (n+1) s m=pRun u heap n (s+1) m':=by
 rw [pRun,h]
theorem pRun_stop{u:PUnit}{heap n s:Nat}{m m':PM}{why res:Int}(h:pStep u heap m=.stop why res m'):pRun u heap (n+1) s m=⟨why,0,0,0,res,m'.told,((s+1:Nat):Int)⟩:=by
 rw [pRun,h]
section
variable {C:MC} {w w':World} {ρ:Nat→Role} {nm fbn:Nat→Nat} {cs:Nat→Int} {ct:Int} {L:List PFr} {bs:List (List PV)} {tk:Nat} {told:List Int}
variable {u:PUnit} {Ts:Nat→Nat→Option (List Int)} {σ:List Int} {x:PFr} {f:PFunc} {i:PIns} {base ts ps:List Int} {a b:List PV}
theorem Here.len(hh:Here u Ts σ x f i base ts ps a b):x.stack.length≤20:=by
 have h1:=hh.short;have h2:=hh.below.1;have h3:=hh.upon.1;rw [hh.stack,List.length_append,←h2,←h3,←List.length_append];exact h1
theorem set_nat{a:Int}(h:0≤a):a=(a.toNat:Int):=by omega
theorem do_all(heap:Nat)(hh:Here u Ts σ x f i base ts ps a b)(hk:(1≤i.op∧i.op≤10)∨i.op=18∨i.op=19)(h:MW C w ρ nm fbn cs ct (x :: L) bs tk told):∃sl st,(∀(low:List PFr) (blks:List (List PV)) (taken:Nat) (told:List Int),insP u heap ⟨x,low,blks,taken,told⟩ i=.go ⟨⟨x.fn,x.pos+1,sl,st⟩,low,blks,taken,told⟩)∧Calls Tryz.prog 108 #[.pointer (some ⟨fbn L.length,0,none⟩),.agg #[.int .i64 i.op,.int .i64 i.a,.int .i64 i.b]] w (DoR C w ρ nm fbn cs ct (⟨x.fn,x.pos,sl,st⟩ :: L) bs tk told):=by
 have hn:x.stack.length≤1000:=by have:=hh.len;omega
 have hS:=hh.stack;have hU:=hh.upon;have hL:=hh.slots;cases hh.ins with
 | small e=>
  refine ⟨x.slots,x.stack++ [⟨i.a,none⟩],fun low blks taken told=>?_,?_⟩
  · unfold insP;simp only [e];rfl
  · rw [e];exact do_small i.a i.b h hn
 | load k e h0 hk'=>
  obtain ⟨v,hv,_⟩:=hL.get hk';refine ⟨x.slots,x.stack++ [v],fun low blks taken told=>?_,?_⟩
  · unfold insP;simp only [e];have:x.slots.getD i.a.toNat pv0=v:=by rw [List.getD_eq_getElem?_getD,hv];rfl
    rw [this];rfl
  · rw [e,set_nat h0];exact do_load i.a.toNat hv i.b h hn
 | store k e h0 hk'=>
  obtain ⟨v,rfl,hv⟩:=hU.of_one;have hl:=(List.getElem?_eq_some_iff.1 hk').1;refine ⟨x.slots.set i.a.toNat v,a,fun low blks taken told=>?_,?_⟩
  · unfold insP;simp only [e,hS,getD_last,take_last];rfl
  · have:=do_store (C:=C) hS i.a.toNat (hL.1▸hl) i.b h hn
    rw [←set_nat h0] at this;rw [e];exact this
 | pop k e=>
  obtain ⟨v,rfl,hv⟩:=hU.of_one;refine ⟨x.slots,a,fun low blks taken told=>?_,?_⟩
  · unfold insP;simp only [e,hS,getD_last,take_last];rfl
  · rw [e];exact do_pop hS i.a i.b h hn
 | dup k e=>
  obtain ⟨v,rfl,hv⟩:=hU.of_one;refine ⟨x.slots,x.stack++ [v],fun low blks taken told=>?_,?_⟩
  · unfold insP;simp only [e];have:x.stack.getD (x.stack.length - 1) pv0=v:=by rw [hS,getD_last]
    rw [this];rfl
  · rw [e];exact do_dup hS i.a i.b h hn
 | reck e1 e2=>
  obtain ⟨v,v',rfl,hv,hv'⟩:=hU.of_two;have n0:¬i.op=0:=by omega
  have n1:¬i.op=1:=by omega
  have n2:¬i.op=2:=by omega
  have n3:¬i.op=3:=by omega
  have n4:¬i.op=4:=by omega
  have n5:¬i.op=5:=by omega
  have n6:¬i.op=11:=by omega
  have n7:¬i.op=12:=by omega
  have n8:¬i.op=13:=by omega
  have n9:¬i.op=14:=by omega
  have n10:¬i.op=15:=by omega
  have n11:¬i.op=16:=by omega
  have n12:¬i.op=17:=by omega
  have n13:¬i.op=18:=by omega
  have n14:¬i.op=19:=by omega
  have n15:¬i.op=20:=by omega
  refine ⟨x.slots,a++ [⟨reckI i.op v.num v'.num,none⟩],fun low blks taken told=>?_,?_⟩
  · unfold insP;simp only [n0,n1,n2,n3,n4,n5,n6,n7,n8,n9,n10,n11,n12,n13,n14,n15,if_false,hS,getD_last2,getD_last2',take_last2];rfl
  · exact do_reck hS i.op i.a i.b ⟨e1,e2⟩ h hn
 | nil e h1=>
  refine ⟨x.slots,x.stack++ [pv0],fun low blks taken told=>?_,?_⟩
  · unfold insP;simp only [e];rfl
  · rw [e];exact do_nil i.a i.b h hn
 | isnil e h1=>
  obtain ⟨v,rfl,hv⟩:=hU.of_one;refine ⟨x.slots,a++ [⟨truthI v.blk.isNone,none⟩],fun low blks taken told=>?_,?_⟩
  · unfold insP;simp only [e,hS,getD_last,take_last];rfl
  · rw [e];exact do_isnil hS i.a i.b h hn
 | const e=>omega
 | jump e=>omega
 | zero e=>omega
 | call g e=>omega
 | ret e=>omega
 | new e=>omega
 | get s k e=>omega
 | set s k e=>omega
 | out e=>omega
theorem into_all(heap:Nat)(hh:Here u Ts σ x f i base ts ps a b)(hk:i.op=16∨i.op=17)(h:MW C w ρ nm fbn cs ct (x :: L) bs tk told)(hl:σ.length=bs.length)(hB:∀(j:Nat) (k:Int) (fs:List PV),σ[j]? =some k→bs[j]? =some fs→∃s,1≤k∧u.shapes[(k - 1).toNat]? =some s∧LOk σ s fs):∃r st bs',(∀(low:List PFr) (taken:Nat) (told:List Int),insP u heap ⟨x,low,bs,taken,told⟩ i=if r=true then .go ⟨⟨x.fn,x.pos+1,x.slots,st⟩,low,bs',taken,told⟩ else .stop 10 0 ⟨x,low,bs,taken,told⟩)∧Calls Tryz.prog 106 #[.pointer (some ⟨fbn L.length,0,none⟩),.agg #[.int .i64 i.op,.int .i64 i.a,.int .i64 i.b]] w (InR C w ρ nm fbn cs ct (x.st st :: L) bs' tk told r):=by
 have hn:x.stack.length≤1000:=by have:=hh.len;omega
 have hS:=hh.stack;have hU:=hh.upon;cases hh.ins with
 | get s k e h1 h0 hs hk'=>
  obtain ⟨v,rfl,hv⟩:=hU.of_one;cases hb:v.blk with
  | none=>
   refine ⟨false,a,bs,fun low taken told=>?_,?_⟩
   · unfold insP;simp only [e,hS,getD_last,take_last];rw [hb];rfl
   · rw [e];exact into_get_nil i.b hS hb i.a h hn
  | some j=>
   obtain ⟨q1,q2⟩:=hv j hb;have hjl:j < bs.length:=by rw [←hl];exact (List.getElem?_eq_some_iff.1 q2).1
   have hj:=List.getElem?_eq_getElem hjl;obtain ⟨s2,p1,p2,p3⟩:=hB j _ _ q2 hj;rw [hs] at p2;cases p2;obtain ⟨fv,hfv,_⟩:=p3.get hk';refine ⟨true,a++ [fv],bs,fun low taken told=>?_,?_⟩
   · unfold insP;simp only [e,hS,getD_last,take_last];rw [hb];have e1:bs.getD j []=bs[j]:=by rw [List.getD_eq_getElem?_getD,hj];rfl
     have e2:(bs[j]).getD i.b.toNat pv0=fv:=by rw [List.getD_eq_getElem?_getD,hfv];rfl
     simp only [e1,e2];rfl
   · have:=into_get (C:=C) hS hb hj hfv i.a h hn
     rw [←set_nat h0] at this;rw [e];exact this
 | set s k e h1 h0 hs hk'=>
  obtain ⟨v,v',rfl,hv,hv'⟩:=hU.of_two;cases hb:v.blk with
  | none=>
   refine ⟨false,a,bs,fun low taken told=>?_,?_⟩
   · unfold insP;simp only [e,hS,getD_last2,getD_last2',take_last2];rw [hb];rfl
   · rw [e];exact into_set_nil i.b hS hb i.a h hn
  | some j=>
   obtain ⟨q1,q2⟩:=hv j hb;have hjl:j < bs.length:=by rw [←hl];exact (List.getElem?_eq_some_iff.1 q2).1
   have hj:=List.getElem?_eq_getElem hjl;obtain ⟨s2,p1,p2,p3⟩:=hB j _ _ q2 hj;rw [hs] at p2;cases p2;refine ⟨true,a,bs.set j ((bs[j]).set i.b.toNat v'),fun low taken told=>?_,?_⟩
   · unfold insP;simp only [e,hS,getD_last2,getD_last2',take_last2];rw [hb];have e1:bs.getD j []=bs[j]:=by rw [List.getD_eq_getElem?_getD,hj];rfl
     simp only [e1];rfl
   · have:=into_set (C:=C) (b:=i.b.toNat) hS hb hj (by have:=(List.getElem?_eq_some_iff.1 hk').1;rw [←p3.1];exact this) i.a h hn
     rw [←set_nat h0] at this;rw [e];exact this
 | reck e1 e2=>omega
 | _=>omega
end
def OutAt(w:World)(ob:Nat)(why res st:Int):Prop:=w.heap[ob]? =some (.cells #[.int .i64 why,.int .i64 0,.int .i64 0,.int .i64 0,.int .i64 res,.slice none 0 0,.int .i64 st] 39 (0,0))
structure UW(C:MC):Prop where
 ok:UOk C.u
 imp:C.u.imports= []
 sh:RShapes C.V C.v1 C.u.shapes
 co:RInts C.V C.v2 C.u.consts
 fu:RFuncs C.V C.v3 C.u.funcs
structure RunS(C:MC)(Ts:Nat→Nat→Option (List Int))(w0:World)(ρ0:Nat→Role)(ob rb fuel:Nat)(FIN:POut)(wr:World)(m:PM)(s:Nat)(ρ:Nat→Role)(nm fbn:Nat→Nat)(cs:Nat→Int)(ct:Int)(σ:List Int):Prop where
 out:OutAt wr ob 7 0 (s:Int)
 res:wr.heap[rb]? =w0.heap[rb]?
 rlt:rb < w0.heap.size
 rro:ρ0 rb=.no
 olt:w0.heap.size≤ob
 oro:ρ ob=.no
 le:s≤fuel
 run:pRun C.u C.heap (fuel - s) s m=FIN
 ok:MOk C.u Ts σ m
 ct0:0≤ct
 cts:ct≤(s:Int)
 bls:m.blks.length≤s
 tak:m.taken≤C.heap
 mw:MW C wr ρ nm fbn cs ct (m.top :: m.low) m.blks m.taken m.told
 kp:Kept w0 wr ρ0 ρ
def RunI(C:MC)(Ts:Nat→Nat→Option (List Int))(w0:World)(ρ0:Nat→Role)(ob rb fuel:Nat)(FIN:POut)(wr:World)(vf:Value):Prop:=∃m s ρ nm fbn cs ct σ,vf=.pointer (some ⟨fbn m.low.length,0,none⟩)∧RunS C Ts w0 ρ0 ob rb fuel FIN wr m s ρ nm fbn cs ct σ
theorem RunI.go{C:MC}{Ts:Nat→Nat→Option (List Int)}{w0:World}{ρ0:Nat→Role}{ob rb fuel:Nat}{FIN:POut}{wr w':World}{m m':PM}{s:Nat}{ρ ρ':Nat→Role}{nm fbn nm' fbn':Nat→Nat}{cs cs':Nat→Int}{ct ct':Int}{σ:List Int}
 (h:RunS C Ts w0 ρ0 ob rb fuel FIN wr m s ρ nm fbn cs ct σ) (hu:UW C) (hT:∀n f,C.u.funcs[n]? =some f→Tab C.u f (Ts n)) (hs:s < fuel) (hp:pStep C.u C.heap m=.go m') (hm:MW C w' ρ' nm' fbn' cs' ct' (m'.top :: m'.low) m'.blks m'.taken m'.told) (hk:Kept w0 w' ρ0 ρ') (ho:OutAt w' ob 7 0 ((s:Int)+1)) (hro:ρ' ob=.no) (h0:0≤ct') (h1:ct'≤ct+1) (ht:m'.taken≤C.heap):RunI C Ts w0 ρ0 ob rb fuel FIN w' (.pointer (some ⟨fbn' m'.low.length,0,none⟩)):=by
 have hok:=step_ok C.heap hu.ok hu.imp hT h.ok;rw [hp] at hok;obtain ⟨σ',hok,hbl⟩:=hok;refine ⟨m',s+1,ρ',nm',fbn',cs',ct',σ',rfl,⟨ho,hk.keep rb h.rlt h.rro,h.rlt,h.rro,h.olt,hro,hs,?_,hok,h0,by have:=h.cts;omega,by have:=h.bls;omega,ht,hm,hk⟩⟩;rw [←h.run,show fuel - s=(fuel - (s+1))+1 by omega,pRun_go hp]
def RunE(C:MC)(w0:World)(ρ0:Nat→Role)(FIN:POut)(w':World):Prop:=∃ρ' nm' fbn' cs' ct' L' bs' tk',MW C w' ρ' nm' fbn' cs' ct' L' bs' tk' FIN.told∧Kept w0 w' ρ0 ρ'
end Go.Proofs.YtkgncijcnlfhiaaGreat
