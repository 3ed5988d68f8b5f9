import Derived.Test.YtkgncijcnlfhiaaGreatV4
import Derived.Test.YtkgncijcnlfhiaaGreatNj
namespace Go.Proofs.YtkgncijcnlfhiaaGreat
set_option maxRecDepth 100000
set_option maxHeartbeats 4000000
set_option linter.unusedVariables false
set_option linter.unusedSimpArgs false
open Go.RowKit
def gO(w:World)(b:Nat)(x0 x1 x2 x3:Value):Prop:=
 w.cell? ⟨b,0,none⟩=some x0∧w.cell? ⟨b,1,none⟩=some x1∧w.cell? ⟨b,2,none⟩=some x2∧w.cell? ⟨b,3,none⟩=some x3∧w.frozen? ⟨b,0,none⟩=false∧w.frozen? ⟨b,1,none⟩=false∧w.frozen? ⟨b,2,none⟩=false∧w.frozen? ⟨b,3,none⟩=false
theorem gO.gc{w w':World}{cb b:Nat}{x0 x1 x2 x3:Value}(h:gO w b x0 x1 x2 x3)(g:Gc cb w w')(hb:¬b=cb):gO w' b x0 x1 x2 x3:=by
 obtain ⟨h0,h1,h2,h3,z0,z1,z2,z3⟩:=h;exact ⟨g.box hb h0,g.box hb h1,g.box hb h2,g.box hb h3,g.boxz hb h0 z0,g.boxz hb h1 z1,g.boxz hb h2 z2,g.boxz hb h3 z3⟩
theorem gO.new(w:World)(t:TypeId)(x0 x1 x2 x3:Value):gO (w.alloc (.cells #[x0,x1,x2,x3] t)) w.heap.size x0 x1 x2 x3:=by
 refine ⟨?_,?_,?_,?_,?_,?_,?_,?_⟩<;>simp [go_sem]
theorem gO.other{w:World}{b g o:Nat}{x0 x1 x2 x3 v:Value}(h:gO w b x0 x1 x2 x3)(hb:¬g=b):gO (w.setCell ⟨g,o,none⟩ v) b x0 x1 x2 x3:=by
 obtain ⟨h0,h1,h2,h3,z0,z1,z2,z3⟩:=h;have hc:∀q,(w.setCell ⟨g,o,none⟩ v).cell? ⟨b,q,none⟩=w.cell? ⟨b,q,none⟩:=fun q=>World.cell?_setCell_other w _ _ _ (by intro e;simp only [Addr.mk.injEq] at e;exact hb e.1)
 exact ⟨(hc 0).trans h0,(hc 1).trans h1,(hc 2).trans h2,(hc 3).trans h3,by rw [World.frozen?_setCell];exact z0,by rw [World.frozen?_setCell];exact z1,by rw [World.frozen?_setCell];exact z2,by rw [World.frozen?_setCell];exact z3⟩
theorem gO.set0{w:World}{b:Nat}{x0 x1 x2 x3:Value}(v:Value)(h:gO w b x0 x1 x2 x3):gO (w.setCell ⟨b,0,none⟩ v) b v x1 x2 x3:=by
 obtain ⟨h0,h1,h2,h3,z0,z1,z2,z3⟩:=h;exact ⟨World.cell?_setCell_same _ _ _ h0,(aJ (by omega)).trans h1,(aJ (by omega)).trans h2,(aJ (by omega)).trans h3,by rw [World.frozen?_setCell];exact z0,by rw [World.frozen?_setCell];exact z1,by rw [World.frozen?_setCell];exact z2,by rw [World.frozen?_setCell];exact z3⟩
theorem gO.set1{w:World}{b:Nat}{x0 x1 x2 x3:Value}(v:Value)(h:gO w b x0 x1 x2 x3):gO (w.setCell ⟨b,1,none⟩ v) b x0 v x2 x3:=by
 obtain ⟨h0,h1,h2,h3,z0,z1,z2,z3⟩:=h;exact ⟨(aJ (by omega)).trans h0,World.cell?_setCell_same _ _ _ h1,(aJ (by omega)).trans h2,(aJ (by omega)).trans h3,by rw [World.frozen?_setCell];exact z0,by rw [World.frozen?_setCell];exact z1,by rw [World.frozen?_setCell];exact z2,by rw [World.frozen?_setCell];exact z3⟩
theorem gO.set2{w:World}{b:Nat}{x0 x1 x2 x3:Value}(v:Value)(h:gO w b x0 x1 x2 x3):gO (w.setCell ⟨b,2,none⟩ v) b x0 x1 v x3:=by
 obtain ⟨h0,h1,h2,h3,z0,z1,z2,z3⟩:=h;exact ⟨(aJ (by omega)).trans h0,(aJ (by omega)).trans h1,World.cell?_setCell_same _ _ _ h2,(aJ (by omega)).trans h3,by rw [World.frozen?_setCell];exact z0,by rw [World.frozen?_setCell];exact z1,by rw [World.frozen?_setCell];exact z2,by rw [World.frozen?_setCell];exact z3⟩
theorem gO.set3{w:World}{b:Nat}{x0 x1 x2 x3:Value}(v:Value)(h:gO w b x0 x1 x2 x3):gO (w.setCell ⟨b,3,none⟩ v) b x0 x1 x2 v:=by
 obtain ⟨h0,h1,h2,h3,z0,z1,z2,z3⟩:=h;exact ⟨(aJ (by omega)).trans h0,(aJ (by omega)).trans h1,(aJ (by omega)).trans h2,World.cell?_setCell_same _ _ _ h3,by rw [World.frozen?_setCell];exact z0,by rw [World.frozen?_setCell];exact z1,by rw [World.frozen?_setCell];exact z2,by rw [World.frozen?_setCell];exact z3⟩
theorem cO.set0{w:World}{b:Nat}{x0 x1 x2:Value}(v:Value)(h:cO w b x0 x1 x2):cO (w.setCell ⟨b,0,none⟩ v) b v x1 x2:=by
 obtain ⟨h0,h1,h2,z0,z1,z2⟩:=h;exact ⟨World.cell?_setCell_same _ _ _ h0,(aJ (by omega)).trans h1,(aJ (by omega)).trans h2,by rw [World.frozen?_setCell];exact z0,by rw [World.frozen?_setCell];exact z1,by rw [World.frozen?_setCell];exact z2⟩
theorem cO.set1{w:World}{b:Nat}{x0 x1 x2:Value}(v:Value)(h:cO w b x0 x1 x2):cO (w.setCell ⟨b,1,none⟩ v) b x0 v x2:=by
 obtain ⟨h0,h1,h2,z0,z1,z2⟩:=h;exact ⟨(aJ (by omega)).trans h0,World.cell?_setCell_same _ _ _ h1,(aJ (by omega)).trans h2,by rw [World.frozen?_setCell];exact z0,by rw [World.frozen?_setCell];exact z1,by rw [World.frozen?_setCell];exact z2⟩
theorem cO.set2{w:World}{b:Nat}{x0 x1 x2:Value}(v:Value)(h:cO w b x0 x1 x2):cO (w.setCell ⟨b,2,none⟩ v) b x0 x1 v:=by
 obtain ⟨h0,h1,h2,z0,z1,z2⟩:=h;exact ⟨(aJ (by omega)).trans h0,(aJ (by omega)).trans h1,World.cell?_setCell_same _ _ _ h2,by rw [World.frozen?_setCell];exact z0,by rw [World.frozen?_setCell];exact z1,by rw [World.frozen?_setCell];exact z2⟩
def iM(w:World)(b:Nat)(x0 x1:Value):Prop:=
 w.cell? ⟨b,0,none⟩=some x0∧w.cell? ⟨b,1,none⟩=some x1∧w.frozen? ⟨b,0,none⟩=false∧w.frozen? ⟨b,1,none⟩=false
theorem iM.gc{w w':World}{cb b:Nat}{x0 x1:Value}(h:iM w b x0 x1)(g:Gc cb w w')(hb:¬b=cb):iM w' b x0 x1:=by
 obtain ⟨h0,h1,z0,z1⟩:=h;exact ⟨g.box hb h0,g.box hb h1,g.boxz hb h0 z0,g.boxz hb h1 z1⟩
theorem iM.new(w:World)(t:TypeId)(x0 x1:Value):iM (w.alloc (.cells #[x0,x1] t)) w.heap.size x0 x1:=by
 refine ⟨?_,?_,?_,?_⟩<;>simp [go_sem]
theorem iM.other{w:World}{b g o:Nat}{x0 x1 v:Value}(h:iM w b x0 x1)(hb:¬g=b):iM (w.setCell ⟨g,o,none⟩ v) b x0 x1:=by
 obtain ⟨h0,h1,z0,z1⟩:=h;have hc:∀q,(w.setCell ⟨g,o,none⟩ v).cell? ⟨b,q,none⟩=w.cell? ⟨b,q,none⟩:=fun q=>World.cell?_setCell_other w _ _ _ (by intro e;simp only [Addr.mk.injEq] at e;exact hb e.1)
 exact ⟨(hc 0).trans h0,(hc 1).trans h1,by rw [World.frozen?_setCell];exact z0,by rw [World.frozen?_setCell];exact z1⟩
theorem iM.set0{w:World}{b:Nat}{x0 x1:Value}(v:Value)(h:iM w b x0 x1):iM (w.setCell ⟨b,0,none⟩ v) b v x1:=by
 obtain ⟨h0,h1,z0,z1⟩:=h;exact ⟨World.cell?_setCell_same _ _ _ h0,(aJ (by omega)).trans h1,by rw [World.frozen?_setCell];exact z0,by rw [World.frozen?_setCell];exact z1⟩
theorem iM.set1{w:World}{b:Nat}{x0 x1:Value}(v:Value)(h:iM w b x0 x1):iM (w.setCell ⟨b,1,none⟩ v) b x0 v:=by
 obtain ⟨h0,h1,z0,z1⟩:=h;exact ⟨(aJ (by omega)).trans h0,World.cell?_setCell_same _ _ _ h1,by rw [World.frozen?_setCell];exact z0,by rw [World.frozen?_setCell];exact z1⟩
def bN(r:List UInt8):Option (aO×List UInt8):=match ar r with
 | none=>none
 | some (p,r1)=>match ar r1 with
  | none=>none
  | some (l,r2)=>match aq r2 with
   | none=>none
   | some (res,r3)=>match aM cM r3 with
    | none=>none
    | some (c,r4)=>some (⟨p,res,l,c⟩,r4)
def cJ(r:List UInt8):Option (fQ×List UInt8):=match dt r with
 | none=>none
 | some (s,r1)=>match ar r1 with
  | none=>none
  | some (p,r2)=>match aq r2 with
   | none=>none
   | some (res,r3)=>some (⟨s,p,res⟩,r3)
def cP(r:List UInt8):Option (du×List UInt8):=match dt r with
 | none=>none
 | some (s,r1)=>match aq r1 with
  | none=>none
  | some (f,r2)=>some (⟨s,f⟩,r2)
theorem aN{B:Nat}{w:World}{g o:Nat}{v:Value}(h:g < B):Kp B w (w.setCell ⟨g,o,none⟩ v):=Kp.set v h
theorem tr(cb B:Nat)(r:List UInt8)(e a:Int)(w:World)(hc:iA w cb r e a)(hb:cb < B)(hB:B≤w.heap.size):
 Calls Tryz.prog 94 #[.pointer (some ⟨cb,0,none⟩)] w (mT cb e a w (fun w' v (y:aO)=>∃vp vl vc,v=.agg #[vp,.int .i64 y.result,vl,vc]∧bY B w' vp y.aF∧bY B w' vl y.aG∧eK B w' vc y.code) (bN r)):=by
 have hcl:cb < w.heap.size:=by omega
 have hlr:=hc.2.1;have HC0:=aH ((hc.gr ((Gr.refl w).alloc (.cells #[.slice none 0 0,.int .i64 0,.slice none 0 0,.slice none 0 0] 48))).gr ((Gr.refl _).alloc (.cells #[.slice none 0 0,.int .i64 0,.slice none 0 0,.slice none 0 0] 48)));have HRB0:=aH (((gO.new w 48 (.slice none 0 0) (.int .i64 0) (.slice none 0 0) (.slice none 0 0)).gc ((Gr.alloc (Gr.refl _) (.cells #[.slice none 0 0,.int .i64 0,.slice none 0 0,.slice none 0 0] 48)).toGc (cb:=cb)) (by omega)));have hfb:=gO.new (w.alloc (.cells #[.slice none 0 0,.int .i64 0,.slice none 0 0,.slice none 0 0] 48)) 48 (.slice none 0 0) (.int .i64 0) (.slice none 0 0) (.slice none 0 0);rw [show (w.alloc (.cells #[.slice none 0 0,.int .i64 0,.slice none 0 0,.slice none 0 0] 48)).heap.size=w.heap.size+1 by simp] at hfb;have HFB0:=aH hfb;have HG0:=aH ((((Gr.refl w).alloc (.cells #[.slice none 0 0,.int .i64 0,.slice none 0 0,.slice none 0 0] 48)).alloc (.cells #[.slice none 0 0,.int .i64 0,.slice none 0 0,.slice none 0 0] 48)).toGc (cb:=cb));have hS0:w.heap.size+2≤((w.alloc (.cells #[.slice none 0 0,.int .i64 0,.slice none 0 0,.slice none 0 0] 48)).alloc (.cells #[.slice none 0 0,.int .i64 0,.slice none 0 0,.slice none 0 0] 48)).heap.size:=by simp
 have HS0:=aH hS0;obtain ⟨f0,f1,f2,f3,g0,g1,g2,g3⟩:=hfb;clear hc hS0;go_enter Tryz.func94,Tryz.ntmps94
 go_wp2_with fail
 refine (iF cb (w.heap.size+2) r e a _ HC0.out (by omega) HS0.out).mono ?_;intro x w1 h1;cases hn1:ar r with
 | none=>
  obtain ⟨rfl,hg⟩:=h1.none_ hn1;exact ⟨rfl,by unfold bN;simp only [hn1];exact ⟨rfl,HG0.out.trans hg⟩⟩
 | some q1=>
  obtain ⟨y1,r1⟩:=q1;obtain ⟨v1,rfl,hy1,hcur,hg⟩:=h1.some_ hn1;obtain ⟨p1,c1,hv⟩:=hy1.shape;subst hv;have H1:=aH hn1;have HFB1:=aH ((HFB0.out.gc hg (by omega)).set0 (.slice p1 y1.length c1));have HRB1:=aH ((HRB0.out.gc hg (by omega)).other (g:=w.heap.size+1) (o:=0) (v:=.slice p1 y1.length c1) (by omega));have HC1:=aH (af (g:=w.heap.size+1) (o:=0) (v:=.slice p1 y1.length c1) hcur (by omega));have HG1:=aH (am (g:=w.heap.size+1) (o:=0) (v:=.slice p1 y1.length c1) (HG0.out.trans hg) (by omega));have HS1:Hid (w.heap.size+2≤(w1.setCell ⟨w.heap.size+1,0,none⟩ (.slice p1 y1.length c1)).heap.size):=aH (by have h1:=HS0.out;have h2:=hg.size;simp at h1 h2 ⊢;omega);have Y1_1:=aH (hy1.kp (aN (g:=w.heap.size+1) (o:=0) (v:=.slice p1 y1.length c1) (by omega)));obtain ⟨a0,a1,a2,a3,b0,b1,b2,b3⟩:=HFB0.out.gc hg (by omega);clear f0 f1 f2 f3 g0 g1 g2 g3;clear h1 hn1 hcur hg hy1;go_wp2_with fail
  clear a0 a1 a2 a3 b0 b1 b2 b3;refine (iF cb (w.heap.size+2) r1 e a _ HC1.out (by omega) HS1.out).mono ?_;intro x w2 h2;cases hn2:ar r1 with
  | none=>
   obtain ⟨rfl,hg⟩:=h2.none_ hn2;exact ⟨rfl,by unfold bN;simp only [H1.out,hn2];exact ⟨rfl,HG1.out.trans hg⟩⟩
  | some q2=>
   obtain ⟨y2,r2⟩:=q2;obtain ⟨v2,rfl,hy2,hcur,hg⟩:=h2.some_ hn2;obtain ⟨p2,c2,hv⟩:=hy2.shape;subst hv;have H2:=aH hn2;have HFB2:=aH ((HFB1.out.gc hg (by omega)).set2 (.slice p2 y2.length c2));have HRB2:=aH ((HRB1.out.gc hg (by omega)).other (g:=w.heap.size+1) (o:=2) (v:=.slice p2 y2.length c2) (by omega));have HC2:=aH (af (g:=w.heap.size+1) (o:=2) (v:=.slice p2 y2.length c2) hcur (by omega));have HG2:=aH (am (g:=w.heap.size+1) (o:=2) (v:=.slice p2 y2.length c2) (HG1.out.trans hg) (by omega));have HS2:Hid (w.heap.size+2≤(w2.setCell ⟨w.heap.size+1,2,none⟩ (.slice p2 y2.length c2)).heap.size):=aH (by have h1:=HS1.out;have h2:=hg.size;simp at h1 h2 ⊢;omega);have Y1_2:=aH ((Y1_1.out.kp (hg.kp (by omega))).kp (aN (g:=w.heap.size+1) (o:=2) (v:=.slice p2 y2.length c2) (by omega)));have Y2_2:=aH (hy2.kp (aN (g:=w.heap.size+1) (o:=2) (v:=.slice p2 y2.length c2) (by omega)));obtain ⟨a0,a1,a2,a3,b0,b1,b2,b3⟩:=HFB1.out.gc hg (by omega);clear h2 hn2 hcur hg hy2;go_wp2_with fail
   clear a0 a1 a2 a3 b0 b1 b2 b3;refine (eM cb r2 e a _ HC2.out).mono ?_;intro x w3 h3;cases hn3:aq r2 with
   | none=>
    obtain ⟨rfl,hg⟩:=h3.none_ hn3;exact ⟨rfl,by unfold bN;simp only [H1.out,H2.out,hn3];exact ⟨rfl,HG2.out.trans hg⟩⟩
   | some q3=>
    obtain ⟨y3,r3⟩:=q3;obtain ⟨v3,rfl,hy3,hcur,hg⟩:=h3.some_ hn3;subst hy3;have H3:=aH hn3;have HFB3:=aH ((HFB2.out.gc hg (by omega)).set1 (.int .i64 y3));have HRB3:=aH ((HRB2.out.gc hg (by omega)).other (g:=w.heap.size+1) (o:=1) (v:=.int .i64 y3) (by omega));have HC3:=aH (af (g:=w.heap.size+1) (o:=1) (v:=.int .i64 y3) hcur (by omega));have HG3:=aH (am (g:=w.heap.size+1) (o:=1) (v:=.int .i64 y3) (HG2.out.trans hg) (by omega));have HS3:Hid (w.heap.size+2≤(w3.setCell ⟨w.heap.size+1,1,none⟩ (.int .i64 y3)).heap.size):=aH (by have h1:=HS2.out;have h2:=hg.size;simp at h1 h2 ⊢;omega);have Y1_3:=aH ((Y1_2.out.kp (hg.kp (by omega))).kp (aN (g:=w.heap.size+1) (o:=1) (v:=.int .i64 y3) (by omega)));have Y2_3:=aH ((Y2_2.out.kp (hg.kp (by omega))).kp (aN (g:=w.heap.size+1) (o:=1) (v:=.int .i64 y3) (by omega)));obtain ⟨a0,a1,a2,a3,b0,b1,b2,b3⟩:=HFB2.out.gc hg (by omega);clear h3 hn3 hcur hg;go_wp2_with fail
    clear a0 a1 a2 a3 b0 b1 b2 b3;refine (uF cb (w.heap.size+2) r3 e a _ HC3.out (by omega) HS3.out).mono ?_;intro x w4 h4;cases hn4:aM cM r3 with
    | none=>
     obtain ⟨rfl,hg⟩:=h4.none_ hn4;exact ⟨rfl,by unfold bN;simp only [H1.out,H2.out,H3.out,hn4];exact ⟨rfl,HG3.out.trans hg⟩⟩
    | some q4=>
     obtain ⟨y4,r4⟩:=q4;obtain ⟨v4,rfl,hy4,hcur,hg⟩:=h4.some_ hn4;obtain ⟨p4,c4,hv⟩:=hy4.shape;subst hv;have H4:=aH hn4;have HFB4:=aH ((HFB3.out.gc hg (by omega)).set3 (.slice p4 y4.length c4));have HRB4:=aH ((HRB3.out.gc hg (by omega)).other (g:=w.heap.size+1) (o:=3) (v:=.slice p4 y4.length c4) (by omega));have HC4:=aH (af (g:=w.heap.size+1) (o:=3) (v:=.slice p4 y4.length c4) hcur (by omega));have HG4:=aH (am (g:=w.heap.size+1) (o:=3) (v:=.slice p4 y4.length c4) (HG3.out.trans hg) (by omega));have HS4:Hid (w.heap.size+2≤(w4.setCell ⟨w.heap.size+1,3,none⟩ (.slice p4 y4.length c4)).heap.size):=aH (by have h1:=HS3.out;have h2:=hg.size;simp at h1 h2 ⊢;omega);have Y1_4:=aH ((Y1_3.out.kp (hg.kp (by omega))).kp (aN (g:=w.heap.size+1) (o:=3) (v:=.slice p4 y4.length c4) (by omega)));have Y2_4:=aH ((Y2_3.out.kp (hg.kp (by omega))).kp (aN (g:=w.heap.size+1) (o:=3) (v:=.slice p4 y4.length c4) (by omega)));have Y4_4:=aH (hy4.kp (aN (g:=w.heap.size+1) (o:=3) (v:=.slice p4 y4.length c4) (by omega)));obtain ⟨a0,a1,a2,a3,b0,b1,b2,b3⟩:=HFB3.out.gc hg (by omega);clear h4 hn4 hcur hg hy4;obtain ⟨m0,m1,m2,m3,n0,n1,n2,n3⟩:=HRB4.out;have hne:¬w.heap.size=w.heap.size+1:=by omega
     have hne2:¬w.heap.size+1=w.heap.size:=by omega
     go_wp2
     exact bodyPost_ret (v:=.agg #[.slice p1 y1.length c1,.int .i64 y3,.slice p2 y2.length c2,.slice p4 y4.length c4]) (by simp [results,Tryz.results94,go_sem,m0,m1,m2,m3]) rfl (by
      have hE:bN r=some (⟨y1,y3,y2,y4⟩,r4):=by unfold bN;simp only [H1.out,H2.out,H3.out,H4.out]
      rw [hE];exact ⟨_,rfl,⟨_,_,_,rfl,(((((Y1_4.out).kp (aN (by omega))).kp (aN (by omega))).kp (aN (by omega))).kp (aN (by omega))).mono (by omega),(((((Y2_4.out).kp (aN (by omega))).kp (aN (by omega))).kp (aN (by omega))).kp (aN (by omega))).mono (by omega),(((((Y4_4.out).kp (aN (by omega))).kp (aN (by omega))).kp (aN (by omega))).kp (aN (by omega))).mono (by omega)⟩,af (af (af (af (HC4.out) (by omega)) (by omega)) (by omega)) (by omega),am (am (am (am (HG4.out) (by omega)) (by omega)) (by omega)) (by omega)⟩)
theorem lW:∀(r:List UInt8) (k v:Nat) (n:Nat) (r':List UInt8),bA k v r=some (n,r')→r'.length < r.length
 | [],_,_,_,_,h=>by simp [bA] at h
 | b :: r,k,v,n,r',h=>by
  unfold bA at h;split at h
  · split at h
    · split at h
      · simp only [Option.some.injEq,Prod.mk.injEq] at h;rw [←h.2];simp
      · cases h
    · have:=lW r _ _ n r' h;simp;omega
  · cases h
theorem oX{r y r1:List UInt8}(h:dt r=some (y,r1))(hr:r.length≤1000000):(⟨y.toArray⟩:ByteArray).size≤maxLen:=by
 unfold dt at h;cases hn:bA 0 0 r with
 | none=>rw [hn] at h;cases h
 | some p=>
  obtain ⟨n,r2⟩:=p;have hl:=lW r 0 0 n r2 hn;rw [hn] at h;simp only [cm] at h;split at h
  · simp only [Option.some.injEq,Prod.mk.injEq] at h;rw [←h.1];show (List.toArray _).size≤_
    unfold maxLen;simp;omega
  · cases h
theorem uv(cb B:Nat)(r:List UInt8)(e a:Int)(w:World)(hc:iA w cb r e a)(hb:cb < B)(hB:B≤w.heap.size):
 Calls Tryz.prog 96 #[.pointer (some ⟨cb,0,none⟩)] w (mT cb e a w (fun w' v (y:fQ)=>∃vs vp,v=.agg #[vs,vp,.int .i64 y.result]∧ii vs y.name∧bY B w' vp y.aF) (cJ r)):=by
 have hcl:cb < w.heap.size:=by omega
 have hlr:=hc.2.1;have HC0:=aH ((hc.gr ((Gr.refl w).alloc (.cells #[.string ⟨#[]⟩,.slice none 0 0,.int .i64 0] 53))).gr ((Gr.refl _).alloc (.cells #[.string ⟨#[]⟩,.slice none 0 0,.int .i64 0] 53)));have HRB0:=aH (((cO.new w 53 (.string ⟨#[]⟩) (.slice none 0 0) (.int .i64 0)).gc ((Gr.alloc (Gr.refl _) (.cells #[.string ⟨#[]⟩,.slice none 0 0,.int .i64 0] 53)).toGc (cb:=cb)) (by omega)));have hfb:=cO.new (w.alloc (.cells #[.string ⟨#[]⟩,.slice none 0 0,.int .i64 0] 53)) 53 (.string ⟨#[]⟩) (.slice none 0 0) (.int .i64 0);rw [show (w.alloc (.cells #[.string ⟨#[]⟩,.slice none 0 0,.int .i64 0] 53)).heap.size=w.heap.size+1 by simp] at hfb;have HFB0:=aH hfb;have HG0:=aH ((((Gr.refl w).alloc (.cells #[.string ⟨#[]⟩,.slice none 0 0,.int .i64 0] 53)).alloc (.cells #[.string ⟨#[]⟩,.slice none 0 0,.int .i64 0] 53)).toGc (cb:=cb));have hS0:w.heap.size+2≤((w.alloc (.cells #[.string ⟨#[]⟩,.slice none 0 0,.int .i64 0] 53)).alloc (.cells #[.string ⟨#[]⟩,.slice none 0 0,.int .i64 0] 53)).heap.size:=by simp
 have HS0:=aH hS0;obtain ⟨f0,f1,f2,g0,g1,g2⟩:=hfb;clear hc hS0;go_enter Tryz.func96,Tryz.ntmps96
 go_wp2_with fail
 refine (mi cb r e a _ HC0.out).mono ?_;intro x w1 h1;cases hn1:dt r with
 | none=>
  obtain ⟨rfl,hg⟩:=h1.none_ hn1;exact ⟨rfl,by unfold cJ;simp only [hn1];exact ⟨rfl,HG0.out.trans hg⟩⟩
 | some q1=>
  obtain ⟨y1,r1⟩:=q1;obtain ⟨v1,rfl,hy1,hcur,hg⟩:=h1.some_ hn1;subst hy1;have H1:=aH hn1;have HFB1:=aH ((HFB0.out.gc hg (by omega)).set0 (.string ⟨y1.toArray⟩));have HRB1:=aH ((HRB0.out.gc hg (by omega)).other (g:=w.heap.size+1) (o:=0) (v:=.string ⟨y1.toArray⟩) (by omega));have HC1:=aH (af (g:=w.heap.size+1) (o:=0) (v:=.string ⟨y1.toArray⟩) hcur (by omega));have HG1:=aH (am (g:=w.heap.size+1) (o:=0) (v:=.string ⟨y1.toArray⟩) (HG0.out.trans hg) (by omega));have HS1:Hid (w.heap.size+2≤(w1.setCell ⟨w.heap.size+1,0,none⟩ (.string ⟨y1.toArray⟩)).heap.size):=aH (by have h1:=HS0.out;have h2:=hg.size;simp at h1 h2 ⊢;omega);obtain ⟨a0,a1,a2,b0,b1,b2⟩:=HFB0.out.gc hg (by omega);clear f0 f1 f2 g0 g1 g2;clear h1 hn1 hcur hg;go_wp2_with fail
  clear a0 a1 a2 b0 b1 b2;refine (iF cb (w.heap.size+2) r1 e a _ HC1.out (by omega) HS1.out).mono ?_;intro x w2 h2;cases hn2:ar r1 with
  | none=>
   obtain ⟨rfl,hg⟩:=h2.none_ hn2;exact ⟨rfl,by unfold cJ;simp only [H1.out,hn2];exact ⟨rfl,HG1.out.trans hg⟩⟩
  | some q2=>
   obtain ⟨y2,r2⟩:=q2;obtain ⟨v2,rfl,hy2,hcur,hg⟩:=h2.some_ hn2;obtain ⟨p2,c2,hv⟩:=hy2.shape;subst hv;have H2:=aH hn2;have HFB2:=aH ((HFB1.out.gc hg (by omega)).set1 (.slice p2 y2.length c2));have HRB2:=aH ((HRB1.out.gc hg (by omega)).other (g:=w.heap.size+1) (o:=1) (v:=.slice p2 y2.length c2) (by omega));have HC2:=aH (af (g:=w.heap.size+1) (o:=1) (v:=.slice p2 y2.length c2) hcur (by omega));have HG2:=aH (am (g:=w.heap.size+1) (o:=1) (v:=.slice p2 y2.length c2) (HG1.out.trans hg) (by omega));have HS2:Hid (w.heap.size+2≤(w2.setCell ⟨w.heap.size+1,1,none⟩ (.slice p2 y2.length c2)).heap.size):=aH (by have h1:=HS1.out;have h2:=hg.size;simp at h1 h2 ⊢;omega);have Y2_2:=aH (hy2.kp (aN (g:=w.heap.size+1) (o:=1) (v:=.slice p2 y2.length c2) (by omega)));obtain ⟨a0,a1,a2,b0,b1,b2⟩:=HFB1.out.gc hg (by omega);clear h2 hn2 hcur hg hy2;go_wp2_with fail
   clear a0 a1 a2 b0 b1 b2;refine (eM cb r2 e a _ HC2.out).mono ?_;intro x w3 h3;cases hn3:aq r2 with
   | none=>
    obtain ⟨rfl,hg⟩:=h3.none_ hn3;exact ⟨rfl,by unfold cJ;simp only [H1.out,H2.out,hn3];exact ⟨rfl,HG2.out.trans hg⟩⟩
   | some q3=>
    obtain ⟨y3,r3⟩:=q3;obtain ⟨v3,rfl,hy3,hcur,hg⟩:=h3.some_ hn3;subst hy3;have H3:=aH hn3;have HFB3:=aH ((HFB2.out.gc hg (by omega)).set2 (.int .i64 y3));have HRB3:=aH ((HRB2.out.gc hg (by omega)).other (g:=w.heap.size+1) (o:=2) (v:=.int .i64 y3) (by omega));have HC3:=aH (af (g:=w.heap.size+1) (o:=2) (v:=.int .i64 y3) hcur (by omega));have HG3:=aH (am (g:=w.heap.size+1) (o:=2) (v:=.int .i64 y3) (HG2.out.trans hg) (by omega));have HS3:Hid (w.heap.size+2≤(w3.setCell ⟨w.heap.size+1,2,none⟩ (.int .i64 y3)).heap.size):=aH (by have h1:=HS2.out;have h2:=hg.size;simp at h1 h2 ⊢;omega);have Y2_3:=aH ((Y2_2.out.kp (hg.kp (by omega))).kp (aN (g:=w.heap.size+1) (o:=2) (v:=.int .i64 y3) (by omega)));obtain ⟨a0,a1,a2,b0,b1,b2⟩:=HFB2.out.gc hg (by omega);clear h3 hn3 hcur hg;obtain ⟨m0,m1,m2,n0,n1,n2⟩:=HRB3.out;have hne:¬w.heap.size=w.heap.size+1:=by omega
    have hne2:¬w.heap.size+1=w.heap.size:=by omega
    go_wp2
    exact bodyPost_ret (v:=.agg #[.string ⟨y1.toArray⟩,.slice p2 y2.length c2,.int .i64 y3]) (by simp [results,Tryz.results96,go_sem,m0,m1,m2]) rfl (by
     have hE:cJ r=some (⟨y1,y2,y3⟩,r3):=by unfold cJ;simp only [H1.out,H2.out,H3.out]
     rw [hE];exact ⟨_,rfl,⟨_,_,rfl,⟨_,rfl,rfl,oX H1.out hlr⟩,((((Y2_3.out).kp (aN (by omega))).kp (aN (by omega))).kp (aN (by omega))).mono (by omega)⟩,af (af (af (HC3.out) (by omega)) (by omega)) (by omega),am (am (am (HG3.out) (by omega)) (by omega)) (by omega)⟩)
theorem uh(cb B:Nat)(r:List UInt8)(e a:Int)(w:World)(hc:iA w cb r e a)(hb:cb < B)(hB:B≤w.heap.size):
 Calls Tryz.prog 98 #[.pointer (some ⟨cb,0,none⟩)] w (mT cb e a w (fun w' v (y:du)=>∃vs,v=.agg #[vs,.int .i64 y.func]∧ii vs y.name) (cP r)):=by
 have hcl:cb < w.heap.size:=by omega
 have hlr:=hc.2.1;have HC0:=aH ((hc.gr ((Gr.refl w).alloc (.cells #[.string ⟨#[]⟩,.int .i64 0] 50))).gr ((Gr.refl _).alloc (.cells #[.string ⟨#[]⟩,.int .i64 0] 50)));have HRB0:=aH (((iM.new w 50 (.string ⟨#[]⟩) (.int .i64 0)).gc ((Gr.alloc (Gr.refl _) (.cells #[.string ⟨#[]⟩,.int .i64 0] 50)).toGc (cb:=cb)) (by omega)));have hfb:=iM.new (w.alloc (.cells #[.string ⟨#[]⟩,.int .i64 0] 50)) 50 (.string ⟨#[]⟩) (.int .i64 0);rw [show (w.alloc (.cells #[.string ⟨#[]⟩,.int .i64 0] 50)).heap.size=w.heap.size+1 by simp] at hfb;have HFB0:=aH hfb;have HG0:=aH ((((Gr.refl w).alloc (.cells #[.string ⟨#[]⟩,.int .i64 0] 50)).alloc (.cells #[.string ⟨#[]⟩,.int .i64 0] 50)).toGc (cb:=cb));have hS0:w.heap.size+2≤((w.alloc (.cells #[.string ⟨#[]⟩,.int .i64 0] 50)).alloc (.cells #[.string ⟨#[]⟩,.int .i64 0] 50)).heap.size:=by simp
 have HS0:=aH hS0;obtain ⟨f0,f1,g0,g1⟩:=hfb;clear hc hS0;go_enter Tryz.func98,Tryz.ntmps98
 go_wp2_with fail
 refine (mi cb r e a _ HC0.out).mono ?_;intro x w1 h1;cases hn1:dt r with
 | none=>
  obtain ⟨rfl,hg⟩:=h1.none_ hn1;exact ⟨rfl,by unfold cP;simp only [hn1];exact ⟨rfl,HG0.out.trans hg⟩⟩
 | some q1=>
  obtain ⟨y1,r1⟩:=q1;obtain ⟨v1,rfl,hy1,hcur,hg⟩:=h1.some_ hn1;subst hy1;have H1:=aH hn1;have HFB1:=aH ((HFB0.out.gc hg (by omega)).set0 (.string ⟨y1.toArray⟩));have HRB1:=aH ((HRB0.out.gc hg (by omega)).other (g:=w.heap.size+1) (o:=0) (v:=.string ⟨y1.toArray⟩) (by omega));have HC1:=aH (af (g:=w.heap.size+1) (o:=0) (v:=.string ⟨y1.toArray⟩) hcur (by omega));have HG1:=aH (am (g:=w.heap.size+1) (o:=0) (v:=.string ⟨y1.toArray⟩) (HG0.out.trans hg) (by omega));have HS1:Hid (w.heap.size+2≤(w1.setCell ⟨w.heap.size+1,0,none⟩ (.string ⟨y1.toArray⟩)).heap.size):=aH (by have h1:=HS0.out;have h2:=hg.size;simp at h1 h2 ⊢;omega);obtain ⟨a0,a1,b0,b1⟩:=HFB0.out.gc hg (by omega);clear f0 f1 g0 g1;clear h1 hn1 hcur hg;go_wp2_with fail
  clear a0 a1 b0 b1;refine (eM cb r1 e a _ HC1.out).mono ?_;intro x w2 h2;cases hn2:aq r1 with
  | none=>
   obtain ⟨rfl,hg⟩:=h2.none_ hn2;exact ⟨rfl,by unfold cP;simp only [H1.out,hn2];exact ⟨rfl,HG1.out.trans hg⟩⟩
  | some q2=>
   obtain ⟨y2,r2⟩:=q2;obtain ⟨v2,rfl,hy2,hcur,hg⟩:=h2.some_ hn2;subst hy2;have H2:=aH hn2;have HFB2:=aH ((HFB1.out.gc hg (by omega)).set1 (.int .i64 y2));have HRB2:=aH ((HRB1.out.gc hg (by omega)).other (g:=w.heap.size+1) (o:=1) (v:=.int .i64 y2) (by omega));have HC2:=aH (af (g:=w.heap.size+1) (o:=1) (v:=.int .i64 y2) hcur (by omega));have HG2:=aH (am (g:=w.heap.size+1) (o:=1) (v:=.int .i64 y2) (HG1.out.trans hg) (by omega));have HS2:Hid (w.heap.size+2≤(w2.setCell ⟨w.heap.size+1,1,none⟩ (.int .i64 y2)).heap.size):=aH (by have h1:=HS1.out;have h2:=hg.size;simp at h1 h2 ⊢;omega);obtain ⟨a0,a1,b0,b1⟩:=HFB1.out.gc hg (by omega);clear h2 hn2 hcur hg;obtain ⟨m0,m1,n0,n1⟩:=HRB2.out;have hne:¬w.heap.size=w.heap.size+1:=by omega
   have hne2:¬w.heap.size+1=w.heap.size:=by omega
   go_wp2
   exact bodyPost_ret (v:=.agg #[.string ⟨y1.toArray⟩,.int .i64 y2]) (by simp [results,Tryz.results98,go_sem,m0,m1]) rfl (by
    have hE:cP r=some (⟨y1,y2⟩,r2):=by unfold cP;simp only [H1.out,H2.out]
    rw [hE];exact ⟨_,rfl,⟨_,rfl,⟨_,rfl,rfl,oX H1.out hlr⟩⟩,af (af (HC2.out) (by omega)) (by omega),am (am (HG2.out) (by omega)) (by omega)⟩)
open Go.RowKit
attribute [local go_sem ↓] Go.wp_at_zero Go.wp_at_succ
theorem j6(cb:Nat)(b:UInt8)(r:List UInt8)(e a:Int)(w:World)(hc:iA w cb (b :: r) e a):
 Calls Tryz.prog 142 #[.pointer (some ⟨cb,0,none⟩)] w fun x w'=>x=.returned (.int .u8 (b.toNat:Int))∧iA w' cb r e a∧Gc cb w w':=by
 refine (iX cb (b :: r) e a w hc).mono ?_;intro x w' h;obtain ⟨v,rfl,rfl,h1,h2⟩:=h.some_ (y:=b) (r':=r) rfl;exact ⟨rfl,h1,h2⟩
theorem rz(cb:Nat)(e a:Int)(w:World)(hc:iA w cb [] e a):
 Calls Tryz.prog 142 #[.pointer (some ⟨cb,0,none⟩)] w fun x w'=>x=.panicked (dF e a)∧Gc cb w w':=by
 refine (iX cb [] e a w hc).mono ?_;intro x w' h;exact h.none_ rfl
def kr(w:World)(sb:Nat)(t:List UInt8)(p:Nat):Prop:=
 (∃s:ByteArray,w.cell? ⟨sb,0,none⟩=some (.string s)∧s.data.toList=t)∧t.length≤1000000∧p≤t.length∧w.cell? ⟨sb,1,none⟩=some (.int .i64 (p:Int))∧w.frozen? ⟨sb,1,none⟩=false
theorem Gc.over{sb cb:Nat}{w w1 w2:World}(h:Gc sb w w1)(k:Gc cb w1 w2)(hc:w.heap.size≤cb):Gc sb w w2:=
 ⟨k.os.trans h.os,k.tape.trans h.tape,k.output.trans h.output,Nat.le_trans h.size k.size,fun i hi hne=>(k.block i (Nat.lt_of_lt_of_le hi h.size) (by intro e;simp only [Option.some.injEq] at e;omega)).trans (h.block i hi hne)⟩
theorem Gc.trans_{cb:Nat}{a b c:World}(h:Gc cb a b)(k:Gc cb b c):Gc cb a c:=World.grownBy.trans h k
theorem kr.gc{w w':World}{sb cb:Nat}{t:List UInt8}{p:Nat}(h:kr w sb t p)(g:Gc cb w w')(hne:¬sb=cb):kr w' sb t p:=by
 obtain ⟨⟨s,h0,hs⟩,hl,hp,h1,z1⟩:=h;exact ⟨⟨s,g.box hne h0,hs⟩,hl,hp,g.box hne h1,g.boxz hne h1 z1⟩
def dm:Nat→Nat→List UInt8→Option (List UInt8)
 | 0,_,r=>some r
 | j+1,c,r=>match cZ r with
  | none=>none
  | some (b,r1)=>if b.toNat=c % 256 then dm j (c / 256) r1 else none
def cI(n:Nat)(r:List UInt8):Option (List UInt8×List UInt8):=match cZ r with
 | none=>none
 | some (b,r1)=>if b.toNat=n then (match bA 0 0 r1 with
  | none=>none
  | some (k,r2)=>match cm k r2 with
   | none=>none
   | some (body,r3)=>match dm 4 (lJ body) r3 with
    | none=>none
    | some r4=>some (body,r4))
  else none
theorem oe:∀(j c:Nat) (r r':List UInt8),dm j c r=some r'→r'.length≤r.length
 | 0,_,r,r',h=>by simp only [dm,Option.some.injEq] at h;rw [h];exact Nat.le_refl _
 | j+1,c,[],r',h=>by simp [dm,cZ] at h
 | j+1,c,b :: r,r',h=>by
  simp only [dm,cZ] at h;split at h
  · have:=oe j _ r r' h;simp;omega
  · cases h
theorem sm{n:Nat}{r y r':List UInt8}(h:cm n r=some (y,r')):r'.length≤r.length:=by
 unfold cm at h;split at h
 · simp only [Option.some.injEq,Prod.mk.injEq] at h;rw [←h.2,List.length_drop];omega
 · cases h
theorem tO{n:Nat}{r b r':List UInt8}(h:cI n r=some (b,r')):r'.length≤r.length:=by
 cases r with
 | nil=>simp [cI,cZ] at h
 | cons x r1=>
  simp only [cI,cZ] at h;split at h
  · cases hn:bA 0 0 r1 with
    | none=>rw [hn] at h;cases h
    | some p=>
     obtain ⟨k,r2⟩:=p;have l1:=lW r1 0 0 k r2 hn;rw [hn] at h;simp only at h;cases ht:cm k r2 with
     | none=>rw [ht] at h;cases h
     | some q=>
      obtain ⟨y,r3⟩:=q;have l2:=sm ht;rw [ht] at h;simp only at h;cases hs:dm 4 (lJ y) r3 with
      | none=>rw [hs] at h;cases h
      | some r4=>
       have l3:=oe 4 _ r3 r4 hs;rw [hs] at h;simp only [Option.some.injEq,Prod.mk.injEq] at h;rw [←h.2];simp;omega
  · cases h
def yq(sb:Nat)(t:List UInt8)(p:Nat)(w:World):Option (List UInt8×List UInt8)→Ending→World→Prop
 | some (body,r),x,w'=>∃nb,x=.returned (.pointer (some ⟨nb,0,none⟩))∧w.heap.size≤nb∧nb < w'.heap.size∧iA w' nb body 2 p∧kr w' sb t (t.length - r.length)∧Gc sb w w'
 | none,x,w'=>x=.panicked (dF 2 p)∧Gc sb w w'
theorem sN(w:World)(s:ByteArray)(r:List UInt8)(e a:Int)(hs:s.data.toList=r)(hl:r.length≤1000000):iA (w.alloc (.cells #[.string s,.int .i64 e,.int .i64 0,.int .i64 a] 211)) w.heap.size r e a:=by
 refine ⟨⟨s,by simp [go_sem],hs⟩,hl,by simp [go_sem],by simp [go_sem],by simp [go_sem],by simp [go_sem]⟩
theorem ir(sb:Nat)(t:List UInt8)(p n:Nat)(hn:n < 256)(w:World)(hS:kr w sb t p):
 Calls Tryz.prog 123 #[.pointer (some ⟨sb,0,none⟩),.int .u8 (n:Int)] w (yq sb t p w (cI n (t.drop p))):=by
 have HS0:=aH hS;obtain ⟨⟨s,h0,hs⟩,hl,hp,h1,z1⟩:=hS;have hsz:s.size=t.length:=by rw [←hs,Array.length_toList];rfl
 have hsl:sb < w.heap.size:=World.block_lt_of_cell? w _ h1;have hp0:(0:Int)≤(p:Int):=by omega
 have hp1:(p:Int)≤(s.size:Int):=by omega
 have hss:s.size≤1000000:=by omega
 go_enter Tryz.func123,Tryz.ntmps123
 go_wp2
 clear z1;go_region_held3 (fun w'=>w'.cell? ⟨sb,0,none⟩=some (.string s)∧w'.cell? ⟨sb,1,none⟩=some (.int .i64 (p:Int))) (go_keep) (fail)
 have hcur:iA (w.alloc (.cells #[.string (s.extract p t.length),.int .i64 2,.int .i64 0,.int .i64 (p:Int)] 211)).drew w.heap.size (t.drop p) 2 p:=by
  have h:=sN w (s.extract p t.length) (t.drop p) 2 p (by have h:=lg s p;rw [hsz,hs] at h;exact h) (by rw [List.length_drop];omega);exact h
 have hsec:kr (w.alloc (.cells #[.string (s.extract p t.length),.int .i64 2,.int .i64 0,.int .i64 (p:Int)] 211)).drew sb t p:=by
  exact HS0.out.gc (cb:=w.heap.size) ((Gr.drew (Gr.alloc (Gr.refl w) _)).toGc) (by omega)
 have hgc:Gc sb w (w.alloc (.cells #[.string (s.extract p t.length),.int .i64 2,.int .i64 0,.int .i64 (p:Int)] 211)).drew:=(Gr.drew (Gr.alloc (Gr.refl w) _)).toGc;have hsz2:w.heap.size < (w.alloc (.cells #[.string (s.extract p t.length),.int .i64 2,.int .i64 0,.int .i64 (p:Int)] 211)).drew.heap.size:=by simp
 generalize (w.alloc (.cells #[.string (s.extract p t.length),.int .i64 2,.int .i64 0,.int .i64 (p:Int)] 211)).drew=W2 at hcur hsec hgc hsz2 ⊢;generalize hR:t.drop p=R at hcur ⊢;have HR:=aH hR;have HC:=aH hcur;have HS:=aH hsec;have HG:=aH hgc;have h11:=hcur.2.2.1;have h12:=hcur.2.2.2.1;have h13:=hcur.2.2.2.2.2;clear hR hcur hsec hgc h0 h1 HS0 hp0 hp1 hss hs hsz;cases R with
 | nil=>
  go_wp2
  go_region_with (first|(go_at_call 142;refine (rz w.heap.size 2 p _ (by exact HC.out)).mono ?_;rintro x w3 ⟨rfl,hg3⟩;refine aQ ?_))
  all_goals exact ⟨rfl,by rw [HR.out];exact ⟨rfl,HG.out.over (Gc.trans_ (Gr.drew (Gr.refl _)).toGc hg3) (by omega)⟩⟩
 | cons b r1=>
  by_cases hbn:b.toNat=n
  · subst hbn;have hbeq:((b.toNat:Int) == (b.toNat:Int))=true:=by simp
    go_wp2
    go_region_held3 (fun w'=>w'.cell? ⟨w.heap.size,1,none⟩=some (.int .i64 2)∧w'.cell? ⟨w.heap.size,3,none⟩=some (.int .i64 (p:Int))∧w'.cell? ⟨w.heap.size,2,none⟩=some (.int .i64 0)) (first|go_keep|exact ⟨hcur3.2.2.1,hcur3.2.2.2.1,hcur3.2.2.2.2.2⟩|(refine ⟨?_,?_,?_⟩<;>exact hg'.cell (by assumption) (by simp))) (first|(go_at_call 142;refine (j6 w.heap.size b r1 2 p _ (by exact HC.out)).mono ?_;rintro x w3 ⟨rfl,hcur3,hg3⟩;have q1:=hcur3.2.2.1;have q2:=hcur3.2.2.2.1;have q3:=hcur3.2.2.2.2.2)|(go_at_call 32;refine (aP _ _ _).mono ?_;rintro e w' ⟨rfl,hg'⟩))
    have HC4:=aH (hcur3.gr hg');have HG4:=aH (HG.out.over (Gc.trans_ (Gc.trans_ (Gr.drew (Gr.refl _)).toGc hg3) hg'.toGc) (by omega));have HS4:=aH (HS.out.gc (Gc.trans_ (Gc.trans_ (Gr.drew (Gr.refl _)).toGc hg3) hg'.toGc) (by omega));have hsz4:w.heap.size < w'.heap.size:=by have h1:=hg3.size;have h2:=hg'.size;simp at h1;omega
    clear hcur3 hg3 hg' q1 q2 q3 h11 h12 h13 HC HG HS hbeq;go_wp2_with fail
    refine (cg w.heap.size r1 2 p _ HC4.out).mono ?_;intro x w5 h;cases hn5:bA 0 0 r1 with
    | none=>
     obtain ⟨rfl,hg⟩:=h.none_ hn5;exact ⟨rfl,by rw [HR.out];simp only [cI,cZ,if_true,hn5];exact ⟨rfl,HG4.out.over hg (by omega)⟩⟩
    | some q5=>
     obtain ⟨k5,r2⟩:=q5;obtain ⟨_,rfl,rfl,hcur,hg⟩:=h.some_ hn5;have hlt5:=ie r1 0 0 (by simp) (by decide) k5 r2 hn5;have HC5:=aH hcur;have HG5:=aH (HG4.out.over hg (by omega));have HS5:=aH (HS4.out.gc hg (by omega));have hsz5:w.heap.size < w5.heap.size:=Nat.lt_of_lt_of_le hsz4 hg.size;have HN5:=aH hn5;clear h hcur hg hn5 HC4 HG4 HS4 hsz4;go_wp2_with fail
     refine (kJ w.heap.size r2 2 p k5 hlt5 _ HC5.out).mono ?_;intro x w6 h;cases ht6:cm k5 r2 with
     | none=>
      obtain ⟨rfl,hg⟩:=h.none_ ht6;exact ⟨rfl,by rw [HR.out];simp only [cI,cZ,if_true,HN5.out,ht6];exact ⟨rfl,HG5.out.over hg (by omega)⟩⟩
     | some q6=>
      obtain ⟨body,r3⟩:=q6;obtain ⟨_,rfl,rfl,hcur,hg⟩:=h.some_ ht6;have hbl:body.length≤1000000:=by
       have h6:=HC5.out.2.1;unfold cm at ht6;split at ht6
       · simp only [Option.some.injEq,Prod.mk.injEq] at ht6;rw [←ht6.1,List.length_take];omega
       · cases ht6
      have HE:Hid (cI b.toNat (b :: r1)=match dm 4 (lJ body) r3 with
       | none=>none
       | some r4=>some (body,r4)):=aH (by simp only [cI,cZ,if_true,HN5.out,ht6])
      have HC6:=aH hcur;have HG6:=aH (HG5.out.over hg (by omega));have HS6:=aH (HS5.out.gc hg (by omega));have hsz6:w.heap.size < w6.heap.size:=Nat.lt_of_lt_of_le hsz5 hg.size;clear h hcur hg ht6 HC5 HG5 HS5 hsz5 HN5;go_wp2_with (go_at_call 83;refine (nF _ _ (by unfold maxLen;show (List.toArray body).size≤_;simp;omega)).mono ?_;rintro e w7 ⟨rfl,e7⟩;subst e7)
      go_loopw [7,39] (fun c i wr=>∃(k q:Nat) (rk:List UInt8),k≤4∧i=.int .i64 k∧c=.int .u32 (q:Int)∧q < 4294967296∧dm (4 - k) q rk=dm 4 (lJ body) r3∧iA wr w.heap.size rk 2 p∧kr wr sb t p∧Gc sb w wr∧w.heap.size < wr.heap.size) (fun _ i _=>4 - (intOf i).toNat)
      case atStart=>exact ⟨0,lJ body,r3,Nat.zero_le _,rfl,rfl,uk _,rfl,HC6.out,HS6.out,HG6.out,hsz6⟩
      case round=>
       obtain ⟨k,q,rk,hk,rfl,rfl,hq,hrd,hcur,hsec,hgc,hszr⟩:=hrel;have HRd:=aH hrd;have HC:=aH hcur;have HS:=aH hsec;have HG:=aH hgc;have h11:=hcur.2.2.1;have h12:=hcur.2.2.2.1;have h13:=hcur.2.2.2.2.2;clear hrd hcur hsec hgc HC6 HS6 HG6;by_cases hk4:k < 4
       · obtain ⟨m,hm⟩:∃m,4 - k=m+1:=⟨3 - k,by omega⟩;have HM:=aH hm;clear hm;cases rk with
         | nil=>
          have HN:Hid (cI b.toNat (b :: r1)=none):=aH (by rw [HE.out,←HRd.out,HM.out];rfl);go_wp2
          go_region_with (first|(go_at_call 142;refine (rz w.heap.size 2 p _ (by exact HC.out)).mono ?_;rintro x w3 ⟨rfl,hg3⟩;refine aQ ?_))
          all_goals exact ⟨rfl,by rw [HR.out,HN.out];exact ⟨rfl,HG.out.over (Gc.trans_ (Gr.drew (Gr.refl _)).toGc hg3) (by omega)⟩⟩
         | cons b2 r5=>
          have hw8:IntKind.u8.wrap (q:Int)=(q:Int) % 256:=IntKind.wrap_u8 _;by_cases hb2:b2.toNat=q % 256
          · have hbeq:((b2.toNat:Int) == (q:Int) % 256)=true:=by rw [beq_iff_eq];omega
            have HN:Hid (dm (4 - (k+1)) (q / 256) r5=dm 4 (lJ body) r3):=aH (by rw [←HRd.out,HM.out,show 4 - (k+1)=m by have:=HM.out;omega];simp only [dm,cZ,if_pos hb2]);clear hb2;go_wp2
            go_region_held3 (fun w'=>w'.cell? ⟨w.heap.size,1,none⟩=some (.int .i64 2)∧w'.cell? ⟨w.heap.size,3,none⟩=some (.int .i64 (p:Int))∧w'.cell? ⟨w.heap.size,2,none⟩=some (.int .i64 0)) (first|go_keep|exact ⟨hcur3.2.2.1,hcur3.2.2.2.1,hcur3.2.2.2.2.2⟩|(refine ⟨?_,?_,?_⟩<;>exact hg'.cell (by assumption) (by simp))) (first|(go_at_call 142;refine (j6 w.heap.size b2 r5 2 p _ (by exact HC.out)).mono ?_;rintro x w3 ⟨rfl,hcur3,hg3⟩;have q1:=hcur3.2.2.1;have q2:=hcur3.2.2.2.1;have q3:=hcur3.2.2.2.2.2)|(go_at_call 32;refine (aP _ _ _).mono ?_;rintro e w' ⟨rfl,hg'⟩))
            have HC4:=aH (hcur3.gr hg');have HG4:=aH (HG.out.over (Gc.trans_ (Gc.trans_ (Gr.drew (Gr.refl _)).toGc hg3) hg'.toGc) (by omega));have HS4:=aH (HS.out.gc (Gc.trans_ (Gc.trans_ (Gr.drew (Gr.refl _)).toGc hg3) hg'.toGc) (by omega));have hszn:w.heap.size < w'.heap.size:=by have h1:=hg3.size;have h2:=hg'.size;simp at h1;omega
            clear hcur3 hg3 hg' q1 q2 q3 h11 h12 h13 hbeq;go_wp2
            go_roundw
            case rel=>exact ⟨k+1,q / 256,r5,by omega,by go_num,by go_num,by omega,HN.out,HC4.out,HS4.out,HG4.out,hszn⟩
            case measure=>simp [intOf];omega
          · have hbeq:((b2.toNat:Int) == (q:Int) % 256)=false:=by rw [beq_eq_false_iff_ne];omega
            have HN:Hid (cI b.toNat (b :: r1)=none):=aH (by rw [HE.out,←HRd.out,HM.out];simp only [dm,cZ,if_neg hb2]);clear hb2;go_wp2
            go_region_with (first|(go_at_call 142;refine (j6 w.heap.size b2 r5 2 p _ (by exact HC.out)).mono ?_;rintro x w3 ⟨rfl,hcur3,hg3⟩;have q1:=hcur3.2.2.1;have q2:=hcur3.2.2.2.1;have q3:=hcur3.2.2.2.2.2)|(go_at_call 32;refine (aV _ _ _).mono ?_;rintro e w' ⟨rfl,hg'⟩;refine aQ ?_))
            all_goals exact ⟨rfl,by rw [HR.out,HN.out];exact ⟨rfl,HG.out.over (Gc.trans_ (Gc.trans_ (Gr.drew (Gr.refl _)).toGc hg3) hg'.toGc) (by omega)⟩⟩
       · have hk44:k=4:=by omega
         subst hk44;have HN:Hid (cI b.toNat (b :: r1)=some (body,rk)):=aH (by rw [HE.out,←HRd.out];rfl);obtain ⟨⟨s5,e0',e1'⟩,e2',_⟩:=HC.out;obtain ⟨⟨s6,f0,f1⟩,f2,f3,f4,g1⟩:=HS.out;have hrk:s5.size=rk.length:=by rw [←e1',Array.length_toList];rfl
         have ht6:s6.size=t.length:=by rw [←f1,Array.length_toList];rfl
         have hle:rk.length≤t.length:=by
          have h1:=tO HN.out;rw [←HR.out,List.length_drop] at h1;omega
         have hwr:IntKind.i64.wrap ((s6.size:Int) - (s5.size:Int))=(s6.size:Int) - (s5.size:Int):=Go.IntWalk.i64_in _ (by omega);have HT:=aH hrk;have HF1:=aH f1;have HT2:=aH ht6;have hss5:s5.size≤s6.size:=by omega
         have hss6:s6.size≤1000000:=by omega
         have hso:∀q,(wr.setCell ⟨sb,1,none⟩ (.int .i64 ((s6.size:Int) - (s5.size:Int)))).cell? ⟨w.heap.size,q,none⟩=wr.cell? ⟨w.heap.size,q,none⟩:=fun q=>World.cell?_setCell_other wr ⟨sb,1,none⟩ ⟨w.heap.size,q,none⟩ _ (by intro h;simp only [Addr.mk.injEq] at h;omega)
         have hs0:(wr.setCell ⟨sb,1,none⟩ (.int .i64 ((s6.size:Int) - (s5.size:Int)))).cell? ⟨sb,0,none⟩=some (.string s6):=(aJ (by omega)).trans f0;have SX:Hid ((wr.setCell ⟨sb,1,none⟩ (.int .i64 ((s6.size:Int) - (s5.size:Int)))).drew.cell? ⟨sb,0,none⟩=some (.string s6)∧(wr.setCell ⟨sb,1,none⟩ (.int .i64 ((s6.size:Int) - (s5.size:Int)))).drew.cell? ⟨w.heap.size,0,none⟩=some (.string s5)):=aH ⟨hs0,(hso 0).trans e0'⟩;have SY:Hid ((wr.setCell ⟨sb,1,none⟩ (.int .i64 ((s6.size:Int) - (s5.size:Int)))).drew.cell? ⟨w.heap.size,1,none⟩=some (.int .i64 2)∧(wr.setCell ⟨sb,1,none⟩ (.int .i64 ((s6.size:Int) - (s5.size:Int)))).drew.cell? ⟨w.heap.size,3,none⟩=some (.int .i64 p)∧(wr.setCell ⟨sb,1,none⟩ (.int .i64 ((s6.size:Int) - (s5.size:Int)))).drew.cell? ⟨w.heap.size,2,none⟩=some (.int .i64 0)):=aH ⟨(hso 1).trans h11,(hso 3).trans h12,(hso 2).trans h13⟩;clear hs0 hso;clear hrk ht6 e1' f1 h11 h12 h13;go_wp2
         go_region_held3 (fun w'=>w'.cell? ⟨sb,0,none⟩=some (.string s6)∧w'.cell? ⟨w.heap.size,0,none⟩=some (.string s5)) (first|exact SX.out|go_keep) (fail)
         have HF:Hid (kr (wr.setCell ⟨sb,1,none⟩ (.int .i64 ((s6.size:Int) - (s5.size:Int)))).drew sb t (t.length - rk.length)):=aH (by
          refine ⟨⟨s6,SX.out.1,HF1.out⟩,f2,by omega,?_,(World.frozen?_setCell wr ⟨sb,1,none⟩ ⟨sb,1,none⟩ _).trans g1⟩;have e:((t.length - rk.length:Nat):Int)=(s6.size:Int) - (s5.size:Int):=by have h1:=HT.out;have h2:=HT2.out;omega
          rw [e];exact World.cell?_setCell_same wr ⟨sb,1,none⟩ _ f4)
         have HGF:=aH ((HG.out.set 1 (.int .i64 ((s6.size:Int) - (s5.size:Int)))).drew);have hszF:w.heap.size < (wr.setCell ⟨sb,1,none⟩ (.int .i64 ((s6.size:Int) - (s5.size:Int)))).drew.heap.size:=by simp;exact hszr
         obtain ⟨y1,y2,y3⟩:=SY.out;clear SX f0 f4 g1 e0' HC HS HG SY;generalize (wr.setCell ⟨sb,1,none⟩ (.int .i64 ((s6.size:Int) - (s5.size:Int)))).drew=WF at HF HGF hszF y1 y2 y3 ⊢;go_wp2
         go_ret
         rw [HR.out,HN.out];have hgn:=Gr.alloc (Gr.refl WF) (.cells #[.string ⟨body.toArray⟩,.int .i64 2,.int .i64 0,.int .i64 (p:Int)] 211);exact ⟨WF.heap.size,rfl,by omega,by simp,sN WF ⟨body.toArray⟩ body 2 p rfl hbl,HF.out.gc (cb:=WF.heap.size) hgn.toGc (by omega),HGF.out.trans hgn.toGc⟩
  · have hbeq:((b.toNat:Int) == (n:Int))=false:=by rw [beq_eq_false_iff_ne];omega
    have HE:Hid (cI n (b :: r1)=none):=aH (by simp only [cI,cZ];rw [if_neg hbn]);clear hbn;go_wp2
    go_region_with (first|(go_at_call 142;refine (j6 w.heap.size b r1 2 p _ (by exact HC.out)).mono ?_;rintro x w3 ⟨rfl,hcur3,hg3⟩;have q1:=hcur3.2.2.1;have q2:=hcur3.2.2.2.1;have q3:=hcur3.2.2.2.2.2)|(go_at_call 32;refine (aV _ _ _).mono ?_;rintro e w' ⟨rfl,hg'⟩;refine aQ ?_))
    all_goals exact ⟨rfl,by rw [HR.out,HE.out];exact ⟨rfl,HG.out.over (Gc.trans_ (Gc.trans_ (Gr.drew (Gr.refl _)).toGc hg3) hg'.toGc) (by omega)⟩⟩
end Go.Proofs.YtkgncijcnlfhiaaGreat
