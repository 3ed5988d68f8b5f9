import Derived.Test.YtkgncijcnlfhiaaGreatR2
import Derived.Test.YtkgncijcnlfhiaaGreatQ3
import Derived.Test.YtkgncijcnlfhiaaGreatE1
import Derived.Test.YtkgncijcnlfhiaaGreatZ3
namespace Go.Proofs.YtkgncijcnlfhiaaGreat
set_option maxRecDepth 100000
set_option maxHeartbeats 2000000
set_option linter.unusedVariables false
set_option linter.unusedSimpArgs false
open Go.RowKit
def put5(w:World)(b:Nat)(x0 x1 x2 x3 x4:Value):World:=((((w.setCell ⟨b,0,none⟩ x0).setCell ⟨b,1,none⟩ x1).setCell ⟨b,2,none⟩ x2).setCell ⟨b,3,none⟩ x3).setCell ⟨b,4,none⟩ x4
theorem oJ(w:World)(b:Nat)(x0 x1 x2 x3 x4:Value):((((w.setCell ⟨b,0,none⟩ x0).setCell ⟨b,1,none⟩ x1).setCell ⟨b,2,none⟩ x2).setCell ⟨b,3,none⟩ x3).setCell ⟨b,4,none⟩ x4=put5 w b x0 x1 x2 x3 x4:=rfl
theorem mM{w:World}{b:Nat}{x0 x1 x2 x3 x4:Value}(y0 y1 y2 y3 y4:Value)(h:cQ w b x0 x1 x2 x3 x4):cQ (put5 w b y0 y1 y2 y3 y4) b y0 y1 y2 y3 y4:=((((h.set0 y0).set1 y1).set2 y2).set3 y3).set4 y4
theorem nv{w w1:World}{b:Nat}{y0 y1 y2 y3 y4:Value}(h:Gr w w1)(hb:w.heap.size≤b):Gr w (put5 w1 b y0 y1 y2 y3 y4):=bp (bp (bp (bp (bp h hb) hb) hb) hb) hb
theorem mm{B b:Nat}{w:World}{v:Value}{u:aK}{y0 y1 y2 y3 y4:Value}(h:eY B w v u)(hb:b < B):eY B (put5 w b y0 y1 y2 y3 y4) v u:=((((h.kp (aN hb)).kp (aN hb)).kp (aN hb)).kp (aN hb)).kp (aN hb)
theorem tC{w:World}{b g:Nat}{x0 x1 x2 y0 y1 y2 y3 y4:Value}(h:¬b=g)(hb:cO w g x0 x1 x2):cO (put5 w b y0 y1 y2 y3 y4) g x0 x1 x2:=((((hb.other h).other h).other h).other h).other h
theorem tJ{w:World}{b g:Nat}{x0 x1 x2 x3 x4 y0 y1 y2 y3 y4:Value}(h:¬b=g)(hb:cQ w g x0 x1 x2 x3 x4):cQ (put5 w b y0 y1 y2 y3 y4) g x0 x1 x2 x3 x4:=((((hb.other h).other h).other h).other h).other h
def zt(w:World)(ub:Nat):aK ⊕ (Int×Nat)→Ending→World→Prop
 | .inl u,x,w'=>∃v1 v2 v3 v4 v5 B w1,x=.returned (.tuple #[])∧w.heap.size≤B∧eY B w1 (.agg #[v1,v2,v3,v4,v5]) u∧Gr w w1∧w'=put5 w1 ub v1 v2 v3 v4 v5
 | .inr (e,p),x,w'=>x=.panicked (dF e p)∧Gr w w'
theorem vW(s:ByteArray)(tb ub:Nat)(x0 x1 x2 x3 x4:Value)(w:World)(ht:w.cell? ⟨tb,0,none⟩=some (.string s))(hs:s.size≤maxLen)(hub:cQ w ub x0 x1 x2 x3 x4):
 Calls Tryz.prog 63 #[.pointer (some ⟨tb,0,none⟩),.pointer (some ⟨ub,0,none⟩)] w (zt w ub (dec s.data.toList)):=by
 have HB:=aH hub;clear hub;generalize hT:dec s.data.toList=D;go_enter Tryz.func63,Tryz.ntmps63
 go_wp2_with fail
 refine (wg ua s _ hs).mono ?_;rw [hT];clear hT;intro x w1 h;cases D with
 | inl u=>
  obtain ⟨v,B,rfl,hB,hu,hg1⟩:=h;obtain ⟨v1,v2,v3,v4,v5,rfl,k1,k2,k3,k4,k5⟩:=hu;obtain ⟨a1,c1,rfl⟩:=k1.shape;obtain ⟨a2,c2,rfl⟩:=k2.shape;obtain ⟨a3,c3,rfl⟩:=k3.shape;obtain ⟨a4,c4,rfl⟩:=k4.shape;obtain ⟨a5,c5,rfl⟩:=k5.shape;have HU:Hid (eY B w1 (.agg #[.slice a1 u.aA.length c1,.slice a2 u.aD.length c2,.slice a3 u.aE.length c3,.slice a4 u.aB.length c4,.slice a5 u.aC.length c5]) u):=aH ⟨_,_,_,_,_,rfl,k1,k2,k3,k4,k5⟩;have HG:=aH hg1;have HBB:=aH hB;obtain ⟨b0,b1,b2,b3,b4,d0,d1,d2,d3,d4⟩:=HB.out.gr hg1;clear k1 k2 k3 k4 k5 hg1 HB hB;go_wp2
  rw [oJ];go_end0
  exact ⟨_,_,_,_,_,B,w1,rfl,HBB.out,HU.out,HG.out,rfl⟩
 | inr q=>
  obtain ⟨e,p⟩:=q;obtain ⟨rfl,hg1⟩:=h;exact ⟨rfl,rfl,hg1⟩
open Go.RowKit
def AV(w:World):aK ⊕ (Int×Nat)→Ending→World→Prop
 | .inl u,x,w'=>∃v B,x=.returned (.tuple #[v,.int .i64 0,.int .i64 0])∧w.heap.size≤B∧eY B w' v u∧Gr w w'
 | .inr (e,p),x,w'=>x=.returned (.tuple #[.agg #[.slice none 0 0,.slice none 0 0,.slice none 0 0,.slice none 0 0,.slice none 0 0],.int .i64 e,.int .i64 p])∧Gr w w'
def AA(w:World):aK ⊕ (Int×Nat)→World→Prop
 | .inl u,w1=>∃v1 v2 v3 v4 v5 B,w.heap.size+4≤B∧eY B w1 (.agg #[v1,v2,v3,v4,v5]) u∧Gr w w1∧cQ w1 (w.heap.size+2) v1 v2 v3 v4 v5∧cQ w1 (w.heap.size+1) (.slice none 0 0) (.slice none 0 0) (.slice none 0 0) (.slice none 0 0) (.slice none 0 0)
 | .inr _,_=>False
def yY(w:World):aK ⊕ (Int×Nat)→Int→Int→Int→World→Prop
 | .inl _,_,_,_,_=>False
 | .inr (e,p),e',_,p',w1=>e'=e∧p'=p∧Gr w w1∧cQ w1 (w.heap.size+2) (.slice none 0 0) (.slice none 0 0) (.slice none 0 0) (.slice none 0 0) (.slice none 0 0)∧cQ w1 (w.heap.size+1) (.slice none 0 0) (.slice none 0 0) (.slice none 0 0) (.slice none 0 0) (.slice none 0 0)
def p_(w:World)(s:ByteArray):World:=((((w.alloc (.cells #[.string s] 9)).alloc (.cells #[.slice none 0 0,.slice none 0 0,.slice none 0 0,.slice none 0 0,.slice none 0 0] 33)).alloc (.cells #[.slice none 0 0,.slice none 0 0,.slice none 0 0,.slice none 0 0,.slice none 0 0] 33)))
theorem xz(w:World)(s:ByteArray):((((w.alloc (.cells #[.string s] 9)).alloc (.cells #[.slice none 0 0,.slice none 0 0,.slice none 0 0,.slice none 0 0,.slice none 0 0] 33)).alloc (.cells #[.slice none 0 0,.slice none 0 0,.slice none 0 0,.slice none 0 0,.slice none 0 0] 33)))=p_ w s:=rfl
theorem rG(w:World)(s:ByteArray):(p_ w s).cell? ⟨w.heap.size,0,none⟩=some (.string s)∧cQ (p_ w s) (w.heap.size+1) (.slice none 0 0) (.slice none 0 0) (.slice none 0 0) (.slice none 0 0) (.slice none 0 0)∧cQ (p_ w s) (w.heap.size+2) (.slice none 0 0) (.slice none 0 0) (.slice none 0 0) (.slice none 0 0) (.slice none 0 0)∧Gr w (p_ w s)∧(p_ w s).heap.size=w.heap.size+3:=by
 unfold p_;refine ⟨by simp [go_sem],⟨?_,?_,?_,?_,?_,?_,?_,?_,?_,?_⟩,⟨?_,?_,?_,?_,?_,?_,?_,?_,?_,?_⟩,(((Gr.refl _).alloc _).alloc _).alloc _,by simp⟩<;>simp [go_sem]
theorem qZ(s:ByteArray)(w:World)(hs:s.size≤maxLen):
 Calls Tryz.prog 30 #[.string s] w (AV w (dec s.data.toList)):=by
 have hmf:∀(fn:Fn) (first cap:Array Value) (w:World),(Instr.makeFunc fn first cap).run Tryz.prog w=.ok (.func fn first cap) w:=fun _ _ _ _=>rfl
 have HF:=aH (rG w s);generalize hD:dec s.data.toList=D;go_enter Tryz.func30,Tryz.ntmps30
 go_wp2_with fail
 rw [xz];obtain ⟨ht,hrb,hub,hgV,hsz⟩:=HF.out;clear HF;generalize p_ w s=V at ht hrb hub hgV hsz ⊢;have hwb:cO (V.alloc (.cells #[.int .i64 0,.int .i64 0,.int .i64 0] 58)) V.heap.size (.int .i64 0) (.int .i64 0) (.int .i64 0):=cO.new V 58 (.int .i64 0) (.int .i64 0) (.int .i64 0);have hgr:=Gr.alloc (Gr.refl V) (.cells #[.int .i64 0,.int .i64 0,.int .i64 0] 58);have hgs:(V.alloc (.cells #[.int .i64 0,.int .i64 0,.int .i64 0] 58)).heap.size=V.heap.size+1:=by simp
 refine (gR 63 #[.pointer (some ⟨w.heap.size,0,none⟩),.pointer (some ⟨w.heap.size+2,0,none⟩)] V (AA w D) (yY w D) (fun w=>rfl)
  ((vW s w.heap.size (w.heap.size+2) _ _ _ _ _ _ (hgr.cell ht (by simp)) hs (hub.gr hgr)).mono ?_)).mono ?_
 · rw [hD];clear hD;intro x w' h;cases D with
   | inl u=>
    obtain ⟨v1,v2,v3,v4,v5,B,w1,rfl,hB,hu,hg,rfl⟩:=h;refine ⟨?_,.inl ⟨rfl,v1,v2,v3,v4,v5,B,by omega,mm hu (by omega),nv ((hgV.trans hgr).trans hg) (by omega),mM _ _ _ _ _ ((hub.gr hgr).gr hg),tJ (by omega) ((hrb.gr hgr).gr hg)⟩⟩;exact tC (by omega) (hwb.gr hg)
   | inr q=>
    obtain ⟨e,p⟩:=q;obtain ⟨rfl,hg⟩:=h;exact ⟨hwb.gr hg,.inr ⟨e,0,p,rfl,rfl,rfl,(hgV.trans hgr).trans hg,(hub.gr hgr).gr hg,(hrb.gr hgr).gr hg⟩⟩
 · clear hwb hgr hgs ht hgV hub hrb hD hs;rintro x w2 ⟨w1,hgc,hbS,h⟩;cases D with
   | inl u=>
    rcases h with ⟨rfl,h⟩|⟨e,n,a,rfl,h⟩
    · obtain ⟨v1,v2,v3,v4,v5,B,hB,hu,hg,hbx,hrb⟩:=h;have HU:=aH (hu.kp (hgc.kp (by omega)));have HG:=aH (eG hg hgc (by omega));have HBB:=aH hB;have hbx2:=hbx.gc hgc (by omega);have hrb2:=hrb.gc hgc (by omega);have hs2:w.heap.size+3 < w2.heap.size:=by have h1:=hbS;have h2:=hgc.size;omega
      clear hu hg hbx hrb hgc hmf hB hsz;obtain ⟨v1',v2',v3',v4',v5',he,k1,k2,k3,k4,k5⟩:=HU.out;simp only [Value.agg.injEq,Array.mk.injEq,List.cons.injEq,and_true] at he;obtain ⟨rfl,rfl,rfl,rfl,rfl⟩:=he;obtain ⟨a1,c1,rfl⟩:=k1.shape;obtain ⟨a2,c2,rfl⟩:=k2.shape;obtain ⟨a3,c3,rfl⟩:=k3.shape;obtain ⟨a4,c4,rfl⟩:=k4.shape;obtain ⟨a5,c5,rfl⟩:=k5.shape;clear k1 k2 k3 k4 k5;have hg2:=Gr.alloc (Gr.refl w2) (.cells #[.int .i64 0,.int .i64 0,.int .i64 0] 58);have hb2:=cO.new w2 58 (.int .i64 0) (.int .i64 0) (.int .i64 0);have HG2:=aH (HG.out.trans hg2);have HU2:=aH (HU.out.kp hg2.kp);obtain ⟨b0,b1,b2,b3,b4,d0,d1,d2,d3,d4⟩:=hbx2.gr hg2;have HRX:=aH (hrb2.gr hg2);obtain ⟨r0,r1,r2,r3,r4,s0,s1,s2,s3,s4⟩:=HRX.out;have he0:=hb2.1;have he2:=hb2.2.2.1;have hn1:¬w2.heap.size=w.heap.size+1:=by omega
      have hn2:¬w.heap.size+1=w2.heap.size:=by omega
      clear hbx2 hrb2 hg2 hb2 HG d0 d1 d2 d3 d4 HU;go_wp2
      generalize w2.alloc (.cells #[.int .i64 0,.int .i64 0,.int .i64 0] 58)=W3 at b0 b1 b2 b3 b4 r0 r1 r2 r3 r4 s0 s1 s2 s3 s4 he0 he2 HG2 HRX HU2 ⊢;go_region_held3 (fun w'=>w'.cell? ⟨w2.heap.size,0,none⟩=some (.int .i64 0)∧w'.cell? ⟨w2.heap.size,2,none⟩=some (.int .i64 0)∧w'.cell? ⟨w.heap.size+2,0,none⟩=some (.slice a1 u.aA.length c1)∧w'.cell? ⟨w.heap.size+2,1,none⟩=some (.slice a2 u.aD.length c2)∧w'.cell? ⟨w.heap.size+2,2,none⟩=some (.slice a3 u.aE.length c3)∧w'.cell? ⟨w.heap.size+2,3,none⟩=some (.slice a4 u.aB.length c4)∧w'.cell? ⟨w.heap.size+2,4,none⟩=some (.slice a5 u.aC.length c5)) (go_keep) (fail)
      rw [oJ];have hry:=mM (.slice a1 u.aA.length c1) (.slice a2 u.aD.length c2) (.slice a3 u.aE.length c3) (.slice a4 u.aB.length c4) (.slice a5 u.aC.length c5) HRX.out;have HG3:=aH (nv (b:=w.heap.size+1) (y0:=.slice a1 u.aA.length c1) (y1:=.slice a2 u.aD.length c2) (y2:=.slice a3 u.aE.length c3) (y3:=.slice a4 u.aB.length c4) (y4:=.slice a5 u.aC.length c5) HG2.out (by omega));have HU3:=aH (mm (b:=w.heap.size+1) (y0:=.slice a1 u.aA.length c1) (y1:=.slice a2 u.aD.length c2) (y2:=.slice a3 u.aE.length c3) (y3:=.slice a4 u.aB.length c4) (y4:=.slice a5 u.aC.length c5) HU2.out (by have:=HBB.out;omega));clear b0 b1 b2 b3 b4 r0 r1 r2 r3 r4 s0 s1 s2 s3 s4 he0 he2 hn1 hn2 HG2 HU2 HRX;generalize put5 W3 (w.heap.size+1) (.slice a1 u.aA.length c1) (.slice a2 u.aD.length c2) (.slice a3 u.aE.length c3) (.slice a4 u.aB.length c4) (.slice a5 u.aC.length c5)=W4 at hry HG3 HU3 ⊢;obtain ⟨r0,r1,r2,r3,r4,s0,s1,s2,s3,s4⟩:=(show cQ W4.drew _ _ _ _ _ _ from hry);go_wp2
      exact bodyPost_ret (v:=.tuple #[.agg #[.slice a1 u.aA.length c1,.slice a2 u.aD.length c2,.slice a3 u.aE.length c3,.slice a4 u.aB.length c4,.slice a5 u.aC.length c5],.int .i64 0,.int .i64 0]) (by simp [results,Tryz.results30,go_sem,r0,r1,r2,r3,r4]) rfl ⟨_,B,rfl,by have:=HBB.out;omega,HU3.out.kp (Gr.drew (Gr.refl _)).kp,HG3.out.drew⟩
    · exact h.elim
   | inr q=>
    obtain ⟨e,p⟩:=q;rcases h with ⟨rfl,h⟩|⟨e',n,a,rfl,h⟩
    · exact h.elim
    · obtain ⟨rfl,rfl,hg,hbx,hrb⟩:=h;have HG:=aH (eG hg hgc (by omega));have hbx2:=hbx.gc hgc (by omega);have hrb2:=hrb.gc hgc (by omega);have hs2:w.heap.size+3 < w2.heap.size:=by have h1:=hbS;have h2:=hgc.size;omega
      clear hg hbx hrb hgc hmf hsz;have hg2:=Gr.alloc (Gr.refl w2) (.cells #[.int .i64 e',.int .i64 n,.int .i64 (p:Int)] 58);have hb2:=cO.new w2 58 (.int .i64 e') (.int .i64 n) (.int .i64 (p:Int));have HG2:=aH (HG.out.trans hg2);obtain ⟨b0,b1,b2,b3,b4,d0,d1,d2,d3,d4⟩:=hbx2.gr hg2;have HRX:=aH (hrb2.gr hg2);obtain ⟨r0,r1,r2,r3,r4,s0,s1,s2,s3,s4⟩:=HRX.out;have he0:=hb2.1;have he2:=hb2.2.2.1;have hn1:¬w2.heap.size=w.heap.size+1:=by omega
      have hn2:¬w.heap.size+1=w2.heap.size:=by omega
      clear hbx2 hrb2 hg2 hb2 HG d0 d1 d2 d3 d4;go_wp2
      generalize w2.alloc (.cells #[.int .i64 e',.int .i64 n,.int .i64 (p:Int)] 58)=W3 at b0 b1 b2 b3 b4 r0 r1 r2 r3 r4 s0 s1 s2 s3 s4 he0 he2 HG2 HRX ⊢;go_region_held3 (fun w'=>w'.cell? ⟨w2.heap.size,0,none⟩=some (.int .i64 e')∧w'.cell? ⟨w2.heap.size,2,none⟩=some (.int .i64 (p:Int))∧w'.cell? ⟨w.heap.size+2,0,none⟩=some (.slice none 0 0)∧w'.cell? ⟨w.heap.size+2,1,none⟩=some (.slice none 0 0)∧w'.cell? ⟨w.heap.size+2,2,none⟩=some (.slice none 0 0)∧w'.cell? ⟨w.heap.size+2,3,none⟩=some (.slice none 0 0)∧w'.cell? ⟨w.heap.size+2,4,none⟩=some (.slice none 0 0)) (go_keep) (fail)
      rw [oJ];have hry:=mM (.slice none 0 0) (.slice none 0 0) (.slice none 0 0) (.slice none 0 0) (.slice none 0 0) HRX.out;have HG3:=aH (nv (b:=w.heap.size+1) (y0:=.slice none 0 0) (y1:=.slice none 0 0) (y2:=.slice none 0 0) (y3:=.slice none 0 0) (y4:=.slice none 0 0) HG2.out (by omega));clear b0 b1 b2 b3 b4 r0 r1 r2 r3 r4 s0 s1 s2 s3 s4 he0 he2 hn1 hn2 HG2 HRX;generalize put5 W3 (w.heap.size+1) (.slice none 0 0) (.slice none 0 0) (.slice none 0 0) (.slice none 0 0) (.slice none 0 0)=W4 at hry HG3 ⊢;obtain ⟨r0,r1,r2,r3,r4,s0,s1,s2,s3,s4⟩:=(show cQ W4.drew _ _ _ _ _ _ from hry);go_wp2
      exact bodyPost_ret (v:=.tuple #[.agg #[.slice none 0 0,.slice none 0 0,.slice none 0 0,.slice none 0 0,.slice none 0 0],.int .i64 e',.int .i64 p]) (by simp [results,Tryz.results30,go_sem,r0,r1,r2,r3,r4]) rfl ⟨rfl,HG3.out.drew⟩
open Go.RowKit
def Kc(w w':World):Prop:=∀(a:Addr) (x:Value),w.cell? a=some x→w'.cell? a=some x
theorem aX.kc{w w':World}{v:Value}{l:List Int}(h:aX w v l)(g:Kc w w'):aX w' v l:=by
 obtain ⟨ao,cap,hv,hm,hc⟩:=h;refine ⟨ao,cap,hv,hm,fun i hi=>?_⟩;obtain ⟨b,off,h1,h2⟩:=hc i hi;exact ⟨b,off,h1,g _ _ h2⟩
theorem dM.kc{w w':World}{v:Value}{l:List aw}(h:dM w v l)(g:Kc w w'):dM w' v l:=by
 obtain ⟨ao,cap,hv,hm,hc⟩:=h;refine ⟨ao,cap,hv,hm,fun i x hi=>?_⟩;obtain ⟨b,off,h1,h2,h3,h4⟩:=hc i x hi;exact ⟨b,off,h1,g _ _ h2,g _ _ h3,g _ _ h4⟩
theorem bG.kc{w w':World}{v:Value}{l:List (List Int)}(h:bG w v l)(g:Kc w w'):bG w' v l:=by
 obtain ⟨ao,cap,hv,hm,hc⟩:=h;refine ⟨ao,cap,hv,hm,fun i x hi=>?_⟩;obtain ⟨b,off,vx,h1,h2,h3⟩:=hc i x hi;exact ⟨b,off,vx,h1,g _ _ h2,h3.kc g⟩
theorem cG.kc{w w':World}{v:Value}{l:List aO}(h:cG w v l)(g:Kc w w'):cG w' v l:=by
 obtain ⟨ao,cap,hv,hm,hc⟩:=h;refine ⟨ao,cap,hv,hm,fun i x hi=>?_⟩;obtain ⟨b,off,vp,vl,vc,h1,h2,h3,h4,h5,h6,h7,h8⟩:=hc i x hi;exact ⟨b,off,vp,vl,vc,h1,g _ _ h2,g _ _ h3,g _ _ h4,g _ _ h5,h6.kc g,h7.kc g,h8.kc g⟩
theorem bK.kc{w w':World}{v:Value}{l:List fQ}(h:bK w v l)(g:Kc w w'):bK w' v l:=by
 obtain ⟨ao,cap,hv,hm,hc⟩:=h;refine ⟨ao,cap,hv,hm,fun i x hi=>?_⟩;obtain ⟨b,off,vs,vp,h1,h2,h3,h4,h5,h6⟩:=hc i x hi;exact ⟨b,off,vs,vp,h1,g _ _ h2,g _ _ h3,g _ _ h4,h5,h6.kc g⟩
theorem b8.kc{w w':World}{v:Value}{l:List du}(h:b8 w v l)(g:Kc w w'):b8 w' v l:=by
 obtain ⟨ao,cap,hv,hm,hc⟩:=h;refine ⟨ao,cap,hv,hm,fun i x hi=>?_⟩;obtain ⟨b,off,vs,h1,h2,h3,h4⟩:=hc i x hi;exact ⟨b,off,vs,h1,g _ _ h2,g _ _ h3,h4⟩
theorem cD.kc{w w':World}{v:Value}{u:aK}(h:cD w v u)(g:Kc w w'):cD w' v u:=by
 obtain ⟨v1,v2,v3,v4,v5,e,h1,h2,h3,h4,h5⟩:=h;exact ⟨v1,v2,v3,v4,v5,e,h1.kc g,h2.kc g,h3.kc g,h4.kc g,h5.kc g⟩
def jr(w:World)(o:Option Nat):World:=match o with
 | some b=>w.setRow b #[]
 | none=>w
theorem jJ(w:World)(o:Option Nat)(k:Nat)(h:¬o=some k):(jr w o).heap[k]? =w.heap[k]? :=by
 cases o with
 | none=>rfl
 | some b=>exact setRow_other w b k _ (fun e=>h (by rw [e]))
theorem h_(w:World)(o:Option Nat):(jr w o).heap.size=w.heap.size:=by cases o<;>simp [jr]
theorem sQ{w w3:World}{o o':Option Nat}{base:Nat}{e:TypeId}{n len:Nat}{v:Value}{xs:List Value}(hv:w.ownsRow base e n v len xs)(ho:v.ownBlock=o)(g:w.grownBy w3 o)(hl:o'=o∨o'=some w.heap.size):Kc (jr w o) (jr w3 o'):=by
 intro a x h;have hlt:=World.block_lt_of_cell? _ _ h;rw [h_] at hlt;by_cases hb:o=some a.block
 · exfalso
   subst hb;rcases hv.2 with ⟨rfl,_⟩|⟨g',cap,cur,rfl,_,hh,_⟩
   · simp [Value.ownBlock] at ho
   · simp only [Value.ownBlock,Option.some.injEq] at ho;rw [ho] at hh;have h2:=setRow_heap w a.block cur #[] e (0,0) hh;have h3:(jr w (some a.block)).heap[a.block]? =some (.cells #[] e (0,0)):=h2;have h4:(jr w (some a.block)).cell? a=none:=by
      unfold World.cell?;rw [h3];simp
     rw [h4] at h;cases h
 · have hb':¬o'=some a.block:=by
    rcases hl with rfl|rfl
    · exact hb
    · intro e;have:=Option.some.inj e;omega
   have e1:(jr w3 o').heap[a.block]? =(jr w o).heap[a.block]? :=by
    rw [jJ _ _ _ hb',jJ _ _ _ hb];exact g.block a.block hlt (fun e=>hb e.symm)
   exact (World.cell?_of_block e1).trans h
theorem sO{w w':World}{o:Option Nat}(g:Gr w w')(ho:∀b,o=some b→b < w.heap.size):Gr (jr w o) (jr w' o):=by
 refine ⟨?_,?_,?_,by rw [h_,h_];exact g.size,fun k hk hne=>?_⟩
 · cases o<;>exact g.os
 · cases o<;>exact g.tape
 · cases o<;>exact g.output
 · rw [h_] at hk;cases o with
   | none=>exact g.block k hk hne
   | some b=>
    by_cases hb:k=b
    · subst hb;have e:=g.block k hk (by simp);have hk':k < w'.heap.size:=Nat.lt_of_lt_of_le hk g.size;unfold jr World.setRow;simp only [Array.getElem?_modify,if_true,e]
    · show (w'.setRow b #[]).heap[k]? =(w.setRow b #[]).heap[k]?
      rw [setRow_other _ _ _ _ hb,setRow_other _ _ _ _ hb];exact g.block k hk hne
theorem xN{w:World}{o:Option Nat}{base:Nat}{e:TypeId}{n len:Nat}{v:Value}{xs:List Value}(hv:w.ownsRow base e n v len xs)(ho:v.ownBlock=o):Kc (jr w o) w:=by
 have:=sQ (o':=some w.heap.size) hv ho (World.grownBy.refl w o) (.inr rfl)
 intro a x h;have h2:=this a x h;have hlt:=World.block_lt_of_cell? _ _ h;rw [h_] at hlt;have e:=jJ w (some w.heap.size) a.block (by intro e;have:=Option.some.inj e;omega);exact (World.cell?_of_block e).symm.trans h2
def dS:Nat→List (List UInt8)→List aK ⊕ (Int×Nat×Nat)
 | _,[]=>.inl []
 | k,s :: l=>match dec s with
  | .inr (e,p)=>.inr (e,k,p)
  | .inl u=>match dS (k+1) l with
   | .inl us=>.inl (u :: us)
   | .inr r=>.inr r
def kl(us:List aK):List aK ⊕ (Int×Nat×Nat)→List aK ⊕ (Int×Nat×Nat)
 | .inl vs=>.inl (us++vs)
 | .inr r=>.inr r
theorem rN{us:List aK}{k:Nat}{s:List UInt8}{l:List (List UInt8)}{u:aK}(h:dec s=.inl u):kl us (dS k (s :: l))=kl (us++ [u]) (dS (k+1) l):=by
 rw [dS,h];cases dS (k+1) l with
 | inl vs=>simp [kl]
 | inr r=>rfl
theorem rX{us:List aK}{k:Nat}{s:List UInt8}{l:List (List UInt8)}{e:Int}{p:Nat}(h:dec s=.inr (e,p)):kl us (dS k (s :: l))=.inr (e,k,p):=by
 rw [dS,h];rfl
theorem mj(us:List aK):bw (us.take 7)=bw us:=by
 by_cases h:us.length≤7
 · rw [List.take_of_length_le h]
 · cases us with
   | nil=>rfl
   | cons a t=>
    have e:(a :: t).take 7=a :: t.take 6:=rfl;rw [e,bw,bw,if_pos (by simp at h ⊢;omega),if_pos (by simp at h ⊢;omega)]
structure i4 where
 why:Int
 unit:Int
 at_:Int
 e:Int
 result:Int
 told:List Int
 steps:Int
def js(M:aK→i4)(ss:List (List UInt8))(fuel heap:Int):i4:=
 if fuel < 0∨200000 < fuel∨heap < 0∨5000 < heap then ⟨1,0,0,0,0,[],0⟩ else match dS 0 ss with
 | .inr (e,k,p)=>⟨2,(k:Int),(p:Int),e,0,[],0⟩
 | .inl us=>match bw us with
  | .inr (e,k)=>⟨3,(k:Int),0,e,0,[],0⟩
  | .inl u=>if (aa u).1≠0 then ⟨4,((aa u).2.1:Int),((aa u).2.2:Int),(aa u).1,0,[],0⟩ else M u
def wo(w:World)(v:Value)(l:List (List UInt8)):Prop:=∃ao cap,v=.slice ao l.length cap∧l.length≤maxLen∧∀(i:Nat) (x:List UInt8),l[i]? =some x→∃(b off:Nat) (s:ByteArray),ao=some ⟨b,off,none⟩∧w.cell? ⟨b,off+i,none⟩=some (.string s)∧s.data.toList=x∧s.size≤maxLen
open Go.RowKit
def pB(u:aK)(w:World)(x:Ending)(w':World):Prop:=Below w.heap.size w w'∧((x=.returned (.tuple #[])∧aa u=(0,0,0))∨(x=.panicked (r8 (aa u).1 ((aa u).2.1:Int) ((aa u).2.2:Int))))
def AS(u:aK)(w:World)(x:Ending)(w':World):Prop:=x=.returned (.tuple #[.int .i64 (aa u).1,.int .i64 ((aa u).2.1:Int),.int .i64 ((aa u).2.2:Int)])∧Below w.heap.size w w'
def kF(u:aK):Prop:=∀(V:World) (vu:Value),cD V vu u→Calls Tryz.prog 18 #[vu] V (pB u V)
theorem wY(u:aK)(HT:kF u)(ub:Nat)(x0 x1 x2 x3 x4:Value)(W:World)(hb:cQ W ub x0 x1 x2 x3 x4)(hR:cD W (.agg #[x0,x1,x2,x3,x4]) u):
 Calls Tryz.prog 17 #[.pointer (some ⟨ub,0,none⟩)] W (pB u W):=by
 obtain ⟨v1,v2,v3,v4,v5,he,k1,k2,k3,k4,k5⟩:=hR;have HR:Hid (cD W (.agg #[x0,x1,x2,x3,x4]) u):=aH ⟨v1,v2,v3,v4,v5,he,k1,k2,k3,k4,k5⟩;simp only [Value.agg.injEq,Array.mk.injEq,List.cons.injEq,and_true] at he;obtain ⟨rfl,rfl,rfl,rfl,rfl⟩:=he;obtain ⟨a1,c1,rfl⟩:=k1.shape;obtain ⟨a2,c2,rfl⟩:=k2.shape;obtain ⟨a3,c3,rfl⟩:=k3.shape;obtain ⟨a4,c4,rfl⟩:=k4.shape;obtain ⟨a5,c5,rfl⟩:=k5.shape;obtain ⟨l0,l1,l2,l3,l4,n0,n1,n2,n3,n4⟩:=hb;have HTC:=aH HT;clear k1 k2 k3 k4 k5 n0 n1 n2 n3 n4 HT;go_enter Tryz.func17,Tryz.ntmps17
 go_wp2_with fail
 refine (HTC.out W _ HR.out).mono ?_;rintro x w1 ⟨hlow,⟨rfl,hv⟩|rfl⟩
 · have HLo:=aH hlow;have HV:=aH hv;clear hlow hv;go_wp2_with fail
   go_end0
   exact ⟨HLo.out,.inl ⟨rfl,HV.out⟩⟩
 · exact ⟨rfl,hlow,.inr rfl⟩
theorem uu(W:World)(v1 v2 v3 v4 v5:Value):cQ ((W.alloc (.cells #[v1,v2,v3,v4,v5] 33)).alloc (.cells #[.int .i64 0,.int .i64 0,.int .i64 0] 58)) W.heap.size v1 v2 v3 v4 v5:=(cQ.new W 33 v1 v2 v3 v4 v5).gr ((Gr.refl _).alloc _)
theorem ti(u:aK)(HT:kF u)(vu:Value)(W:World)(hR:cD W vu u):
 Calls Tryz.prog 11 #[vu] W (AS u W):=by
 have hmf:∀(fn:Fn) (first cap:Array Value) (w:World),(Instr.makeFunc fn first cap).run Tryz.prog w=.ok (.func fn first cap) w:=fun _ _ _ _=>rfl
 have HRU:=aH hR;obtain ⟨v1,v2,v3,v4,v5,rfl,h1,h2,h3,h4,h5⟩:=hR;obtain ⟨a1,c1,rfl⟩:=h1.shape;obtain ⟨a2,c2,rfl⟩:=h2.shape;obtain ⟨a3,c3,rfl⟩:=h3.shape;obtain ⟨a4,c4,rfl⟩:=h4.shape;obtain ⟨a5,c5,rfl⟩:=h5.shape;have HTC:=aH HT;clear h1 h2 h3 h4 h5 HT;have HBX:=aH (uu W (.slice a1 u.aA.length c1) (.slice a2 u.aD.length c2) (.slice a3 u.aE.length c3) (.slice a4 u.aB.length c4) (.slice a5 u.aC.length c5));have hga:=Gr.alloc (Gr.refl W) (.cells #[.slice a1 u.aA.length c1,.slice a2 u.aD.length c2,.slice a3 u.aE.length c3,.slice a4 u.aB.length c4,.slice a5 u.aC.length c5] 33);have HGA:=aH hga;have hszV:(W.alloc (.cells #[.slice a1 u.aA.length c1,.slice a2 u.aD.length c2,.slice a3 u.aE.length c3,.slice a4 u.aB.length c4,.slice a5 u.aC.length c5] 33)).heap.size=W.heap.size+1:=by simp
 have HSZ:=aH hszV;clear hga hszV;go_enter Tryz.func11,Tryz.ntmps11
 go_wp2_with fail
 generalize W.alloc (.cells #[.slice a1 u.aA.length c1,.slice a2 u.aD.length c2,.slice a3 u.aE.length c3,.slice a4 u.aB.length c4,.slice a5 u.aC.length c5] 33)=V at HBX HGA HSZ ⊢;have hwb:cO (V.alloc (.cells #[.int .i64 0,.int .i64 0,.int .i64 0] 58)) V.heap.size (.int .i64 0) (.int .i64 0) (.int .i64 0):=cO.new V 58 (.int .i64 0) (.int .i64 0) (.int .i64 0);have hgV:=HGA.out.alloc (.cells #[.int .i64 0,.int .i64 0,.int .i64 0] 58);refine (gR 17 #[.pointer (some ⟨W.heap.size,0,none⟩)] V
  (fun w1=>aa u=(0,0,0)∧Below W.heap.size W w1)
  (fun e n a w1=>e=(aa u).1∧n=((aa u).2.1:Int)∧a=((aa u).2.2:Int)∧Below W.heap.size W w1) (fun w=>rfl)
  ((wY u HTC.out W.heap.size _ _ _ _ _ _ HBX.out (HRU.out.gr hgV)).mono ?_)).mono ?_
 · rintro x w' ⟨hlow,⟨rfl,hv⟩|rfl⟩
   · exact ⟨hwb.below hlow,.inl ⟨rfl,hv,j5 hgV hlow⟩⟩
   · exact ⟨hwb.below hlow,.inr ⟨_,_,_,rfl,rfl,rfl,rfl,j5 hgV hlow⟩⟩
 · rintro x w2 ⟨w1,hgc,_,hx⟩;have hy:∃e n a:Int,x=.returned (.agg #[.int .i64 e,.int .i64 n,.int .i64 a])∧e=(aa u).1∧n=((aa u).2.1:Int)∧a=((aa u).2.2:Int)∧Below W.heap.size W w1:=by
    rcases hx with ⟨rfl,hv,hb⟩|⟨e,n,a,rfl,e1,e2,e3,hb⟩
    · exact ⟨0,0,0,rfl,by rw [hv],by rw [hv];rfl,by rw [hv];rfl,hb⟩
    · exact ⟨e,n,a,rfl,e1,e2,e3,hb⟩
   obtain ⟨e,n,a,rfl,e1,e2,e3,hlow⟩:=hy;have HE:=aH (And.intro e1 (And.intro e2 e3));have HB:=aH (hlow.grown hgc hlow.size (by intro k hk;simp only [Option.some.injEq] at hk;have:=HSZ.out;omega));clear hx e1 e2 e3 hlow hgc hmf hwb hgV HBX HRU HTC HGA HSZ;have hb2:=cO.new w2 58 (.int .i64 e) (.int .i64 n) (.int .i64 a);have hg2:=Gr.alloc (Gr.refl w2) (.cells #[.int .i64 e,.int .i64 n,.int .i64 a] 58);have HB2:=aH (HB.out.grown hg2 HB.out.size (by simp));obtain ⟨p0,p1,p2,_⟩:=hb2;clear hg2 HB;go_wp2
   generalize w2.alloc (.cells #[.int .i64 e,.int .i64 n,.int .i64 a] 58)=W3 at p0 p1 p2 HB2 ⊢;go_quiet (fail)
   go_wp2_with fail
   go_ret3
   obtain ⟨e1,e2,e3⟩:=HE.out;subst e1 e2 e3;exact ⟨rfl,by first|exact HB2.out|exact ⟨HB2.out.os,HB2.out.tape,HB2.out.output,HB2.out.size,HB2.out.block⟩⟩
end Go.Proofs.YtkgncijcnlfhiaaGreat
