import Derived.Test.YtkgncijcnlfhiabGreatV4
import Derived.Test.YtkgncijcnlfhiabGreatNj
namespace Go.Proofs.YtkgncijcnlfhiabGreat
set_option maxRecDepth 100000
set_option maxHeartbeats 4000000
set_option linter.unusedVariables false
set_option linter.unusedSimpArgs false
open Go.RowKit
def eo(w:World)(b:Nat)(x0 x1 x2 x3:Value):Prop:=
 w.cell? ⟨b,0,none⟩=some x0/\w.cell? ⟨b,1,none⟩=some x1/\w.cell? ⟨b,2,none⟩=some x2/\w.cell? ⟨b,3,none⟩=some x3/\w.frozen? ⟨b,0,none⟩=false/\w.frozen? ⟨b,1,none⟩=false/\w.frozen? ⟨b,2,none⟩=false/\w.frozen? ⟨b,3,none⟩=false
theorem eo.gc{w w':World}{cb b:Nat}{x0 x1 x2 x3:Value}(h:eo w b x0 x1 x2 x3)(g:Gc cb w w')(hb:¬b=cb):eo w' b x0 x1 x2 x3:=by
 obtain ⟨h0,h1,h2,h3,z0,z1,z2,z3⟩:=h;exact ⟨g.box hb h0,g.box hb h1,g.box hb h2,g.box hb h3,g.boxz hb h0 z0,g.boxz hb h1 z1,g.boxz hb h2 z2,g.boxz hb h3 z3⟩
theorem eo.new(w:World)(t:TypeId)(x0 x1 x2 x3:Value):eo (w.alloc (.cells #[x0,x1,x2,x3] t)) w.heap.size x0 x1 x2 x3:=by
 refine ⟨?_,?_,?_,?_,?_,?_,?_,?_⟩<;>simp [go_sem]
theorem eo.other{w:World}{b g o:Nat}{x0 x1 x2 x3 v:Value}(h:eo w b x0 x1 x2 x3)(hb:¬g=b):eo (w.setCell ⟨g,o,none⟩ v) b x0 x1 x2 x3:=by
 obtain ⟨h0,h1,h2,h3,z0,z1,z2,z3⟩:=h;have hc:∀q,(w.setCell ⟨g,o,none⟩ v).cell? ⟨b,q,none⟩=w.cell? ⟨b,q,none⟩:=fun q=>World.cell?_setCell_other w _ _ _ (by intro e;simp only [Addr.mk.injEq] at e;exact hb e.1)
 exact ⟨(hc 0).trans h0,(hc 1).trans h1,(hc 2).trans h2,(hc 3).trans h3,by rw [World.frozen?_setCell];exact z0,by rw [World.frozen?_setCell];exact z1,by rw [World.frozen?_setCell];exact z2,by rw [World.frozen?_setCell];exact z3⟩
theorem eo.set0{w:World}{b:Nat}{x0 x1 x2 x3:Value}(v:Value)(h:eo w b x0 x1 x2 x3):eo (w.setCell ⟨b,0,none⟩ v) b v x1 x2 x3:=by
 obtain ⟨h0,h1,h2,h3,z0,z1,z2,z3⟩:=h;exact ⟨World.cell?_setCell_same _ _ _ h0,(aI Q5).trans h1,(aI Q5).trans h2,(aI Q5).trans h3,by rw [World.frozen?_setCell];exact z0,by rw [World.frozen?_setCell];exact z1,by rw [World.frozen?_setCell];exact z2,by rw [World.frozen?_setCell];exact z3⟩
theorem eo.set1{w:World}{b:Nat}{x0 x1 x2 x3:Value}(v:Value)(h:eo w b x0 x1 x2 x3):eo (w.setCell ⟨b,1,none⟩ v) b x0 v x2 x3:=by
 obtain ⟨h0,h1,h2,h3,z0,z1,z2,z3⟩:=h;exact ⟨(aI Q5).trans h0,World.cell?_setCell_same _ _ _ h1,(aI Q5).trans h2,(aI Q5).trans h3,by rw [World.frozen?_setCell];exact z0,by rw [World.frozen?_setCell];exact z1,by rw [World.frozen?_setCell];exact z2,by rw [World.frozen?_setCell];exact z3⟩
theorem eo.set2{w:World}{b:Nat}{x0 x1 x2 x3:Value}(v:Value)(h:eo w b x0 x1 x2 x3):eo (w.setCell ⟨b,2,none⟩ v) b x0 x1 v x3:=by
 obtain ⟨h0,h1,h2,h3,z0,z1,z2,z3⟩:=h;exact ⟨(aI Q5).trans h0,(aI Q5).trans h1,World.cell?_setCell_same _ _ _ h2,(aI Q5).trans h3,by rw [World.frozen?_setCell];exact z0,by rw [World.frozen?_setCell];exact z1,by rw [World.frozen?_setCell];exact z2,by rw [World.frozen?_setCell];exact z3⟩
theorem eo.set3{w:World}{b:Nat}{x0 x1 x2 x3:Value}(v:Value)(h:eo w b x0 x1 x2 x3):eo (w.setCell ⟨b,3,none⟩ v) b x0 x1 x2 v:=by
 obtain ⟨h0,h1,h2,h3,z0,z1,z2,z3⟩:=h;exact ⟨(aI Q5).trans h0,(aI Q5).trans h1,(aI Q5).trans h2,World.cell?_setCell_same _ _ _ h3,by rw [World.frozen?_setCell];exact z0,by rw [World.frozen?_setCell];exact z1,by rw [World.frozen?_setCell];exact z2,by rw [World.frozen?_setCell];exact z3⟩
theorem bV.set0{w:World}{b:Nat}{x0 x1 x2:Value}(v:Value)(h:bV w b x0 x1 x2):bV (w.setCell ⟨b,0,none⟩ v) b v x1 x2:=by
 obtain ⟨h0,h1,h2,z0,z1,z2⟩:=h;exact ⟨World.cell?_setCell_same _ _ _ h0,(aI Q5).trans h1,(aI Q5).trans h2,by rw [World.frozen?_setCell];exact z0,by rw [World.frozen?_setCell];exact z1,by rw [World.frozen?_setCell];exact z2⟩
theorem bV.set1{w:World}{b:Nat}{x0 x1 x2:Value}(v:Value)(h:bV w b x0 x1 x2):bV (w.setCell ⟨b,1,none⟩ v) b x0 v x2:=by
 obtain ⟨h0,h1,h2,z0,z1,z2⟩:=h;exact ⟨(aI Q5).trans h0,World.cell?_setCell_same _ _ _ h1,(aI Q5).trans h2,by rw [World.frozen?_setCell];exact z0,by rw [World.frozen?_setCell];exact z1,by rw [World.frozen?_setCell];exact z2⟩
theorem bV.set2{w:World}{b:Nat}{x0 x1 x2:Value}(v:Value)(h:bV w b x0 x1 x2):bV (w.setCell ⟨b,2,none⟩ v) b x0 x1 v:=by
 obtain ⟨h0,h1,h2,z0,z1,z2⟩:=h;exact ⟨(aI Q5).trans h0,(aI Q5).trans h1,World.cell?_setCell_same _ _ _ h2,by rw [World.frozen?_setCell];exact z0,by rw [World.frozen?_setCell];exact z1,by rw [World.frozen?_setCell];exact z2⟩
def i'(w:World)(b:Nat)(x0 x1:Value):Prop:=
 w.cell? ⟨b,0,none⟩=some x0/\w.cell? ⟨b,1,none⟩=some x1/\w.frozen? ⟨b,0,none⟩=false/\w.frozen? ⟨b,1,none⟩=false
theorem i'.gc{w w':World}{cb b:Nat}{x0 x1:Value}(h:i' w b x0 x1)(g:Gc cb w w')(hb:¬b=cb):i' w' b x0 x1:=by
 obtain ⟨h0,h1,z0,z1⟩:=h;exact ⟨g.box hb h0,g.box hb h1,g.boxz hb h0 z0,g.boxz hb h1 z1⟩
theorem i'.new(w:World)(t:TypeId)(x0 x1:Value):i' (w.alloc (.cells #[x0,x1] t)) w.heap.size x0 x1:=by
 refine ⟨?_,?_,?_,?_⟩<;>simp [go_sem]
theorem i'.other{w:World}{b g o:Nat}{x0 x1 v:Value}(h:i' w b x0 x1)(hb:¬g=b):i' (w.setCell ⟨g,o,none⟩ v) b x0 x1:=by
 obtain ⟨h0,h1,z0,z1⟩:=h;have hc:∀q,(w.setCell ⟨g,o,none⟩ v).cell? ⟨b,q,none⟩=w.cell? ⟨b,q,none⟩:=fun q=>World.cell?_setCell_other w _ _ _ (by intro e;simp only [Addr.mk.injEq] at e;exact hb e.1)
 exact ⟨(hc 0).trans h0,(hc 1).trans h1,by rw [World.frozen?_setCell];exact z0,by rw [World.frozen?_setCell];exact z1⟩
theorem i'.set0{w:World}{b:Nat}{x0 x1:Value}(v:Value)(h:i' w b x0 x1):i' (w.setCell ⟨b,0,none⟩ v) b v x1:=by
 obtain ⟨h0,h1,z0,z1⟩:=h;exact ⟨World.cell?_setCell_same _ _ _ h0,(aI Q5).trans h1,by rw [World.frozen?_setCell];exact z0,by rw [World.frozen?_setCell];exact z1⟩
theorem i'.set1{w:World}{b:Nat}{x0 x1:Value}(v:Value)(h:i' w b x0 x1):i' (w.setCell ⟨b,1,none⟩ v) b x0 v:=by
 obtain ⟨h0,h1,z0,z1⟩:=h;exact ⟨(aI Q5).trans h0,World.cell?_setCell_same _ _ _ h1,by rw [World.frozen?_setCell];exact z0,by rw [World.frozen?_setCell];exact z1⟩
def bI(r:List UInt8):Option (aO×List UInt8):=match au r with
 | none=>none
 | some (p,r1)=>match au r1 with
  | none=>none
  | some (l,r2)=>match ar r2 with
   | none=>none
   | some (res,r3)=>match aM cP r3 with
    | none=>none
    | some (c,r4)=>some (⟨p,res,l,c⟩,r4)
def cN(r:List UInt8):Option (fK×List UInt8):=match dw r with
 | none=>none
 | some (s,r1)=>match au r1 with
  | none=>none
  | some (p,r2)=>match ar r2 with
   | none=>none
   | some (res,r3)=>some (⟨s,p,res⟩,r3)
def cT(r:List UInt8):Option (dq×List UInt8):=match dw r with
 | none=>none
 | some (s,r1)=>match ar r1 with
  | none=>none
  | some (f,r2)=>some (⟨s,f⟩,r2)
theorem aN{B:Nat}{w:World}{g o:Nat}{v:Value}(h:g < B):Kp B w (w.setCell ⟨g,o,none⟩ v):=Kp.set v h
theorem vQ(cb B:Nat)(r:List UInt8)(e a:Int)(w:World)(hc:io w cb r e a)(hb:cb < B)(hB:B<=w.heap.size):
 Calls Tryz.prog 75 #[.pointer (some ⟨cb,0,none⟩)] w (nV cb e a w (fun w' v (y:aO)=>∃vp vl vc,v=.agg #[vp,.int .i64 y.result,vl,vc]/\be B w' vp y.aF/\be B w' vl y.aG/\ea B w' vc y.code) (bI r)):=by
 have I5:cb < w.heap.size:=Q5
 have KQ:=hc.2.1;have Yk:=aH ((hc.gr ((Gr.refl w).alloc (.cells #[.slice none 0 0,.int .i64 0,.slice none 0 0,.slice none 0 0] 47))).gr ((Gr.refl _).alloc (.cells #[.slice none 0 0,.int .i64 0,.slice none 0 0,.slice none 0 0] 47)));have Xo:=aH (((eo.new w 47 (.slice none 0 0) (.int .i64 0) (.slice none 0 0) (.slice none 0 0)).gc ((Gr.alloc (Gr.refl _) (.cells #[.slice none 0 0,.int .i64 0,.slice none 0 0,.slice none 0 0] 47)).toGc (cb:=cb)) Q5));have I_:=eo.new (w.alloc (.cells #[.slice none 0 0,.int .i64 0,.slice none 0 0,.slice none 0 0] 47)) 47 (.slice none 0 0) (.int .i64 0) (.slice none 0 0) (.slice none 0 0);rw [show (w.alloc (.cells #[.slice none 0 0,.int .i64 0,.slice none 0 0,.slice none 0 0] 47)).heap.size=w.heap.size+1 by simp] at I_;have Og:=aH I_;have D7:=aH ((((Gr.refl w).alloc (.cells #[.slice none 0 0,.int .i64 0,.slice none 0 0,.slice none 0 0] 47)).alloc (.cells #[.slice none 0 0,.int .i64 0,.slice none 0 0,.slice none 0 0] 47)).toGc (cb:=cb));have Jm:w.heap.size+2<=((w.alloc (.cells #[.slice none 0 0,.int .i64 0,.slice none 0 0,.slice none 0 0] 47)).alloc (.cells #[.slice none 0 0,.int .i64 0,.slice none 0 0,.slice none 0 0] 47)).heap.size:=Q6
 have Zh:=aH Jm;obtain ⟨f0,f1,f2,f3,g0,g1,g2,g3⟩:=I_;clear hc Jm;go_enter Tryz.func75,Tryz.ntmps75
 go_wp2_with fail
 refine (iu cb (w.heap.size+2) r e a _ Yk.out Q5 Zh.out).mono ?_;intro x w1 h1;cases C4:au r with
 | none=>
  obtain ⟨rfl,hg⟩:=h1.none_ C4;exact ⟨rfl,by unfold bI;simp only [C4];exact ⟨rfl,D7.out.trans hg⟩⟩
 | some q1=>
  obtain ⟨y1,r1⟩:=q1;obtain ⟨v1,rfl,Wn,G0,hg⟩:=h1.some_ C4;obtain ⟨p1,c1,hv⟩:=Wn.shape;subst hv;have H1:=aH C4;have Pg:=aH ((Og.out.gc hg Q5).set0 (.slice p1 y1.length c1));have Y6:=aH ((Xo.out.gc hg Q5).other (g:=w.heap.size+1) (o:=0) (v:=.slice p1 y1.length c1) Q5);have E6:=aH (ad (g:=w.heap.size+1) (o:=0) (v:=.slice p1 y1.length c1) G0 Q5);have I1:=aH (aT (g:=w.heap.size+1) (o:=0) (v:=.slice p1 y1.length c1) (D7.out.trans hg) Q5);have W_:Hid (w.heap.size+2<=(w1.setCell ⟨w.heap.size+1,0,none⟩ (.slice p1 y1.length c1)).heap.size):=aH (by have h1:=Zh.out;have h2:=hg.size;simp at h1 h2 |-;omega);have GX:=aH (Wn.kp (aN (g:=w.heap.size+1) (o:=0) (v:=.slice p1 y1.length c1) Q5));obtain ⟨a0,a1,a2,a3,b0,b1,b2,b3⟩:=Og.out.gc hg Q5;clear f0 f1 f2 f3 g0 g1 g2 g3;clear h1 C4 G0 hg Wn;go_wp2_with fail
  clear a0 a1 a2 a3 b0 b1 b2 b3;refine (iu cb (w.heap.size+2) r1 e a _ E6.out Q5 W_.out).mono ?_;intro x w2 h2;cases T6:au r1 with
  | none=>
   obtain ⟨rfl,hg⟩:=h2.none_ T6;exact ⟨rfl,by unfold bI;simp only [H1.out,T6];exact ⟨rfl,I1.out.trans hg⟩⟩
  | some q2=>
   obtain ⟨y2,r2⟩:=q2;obtain ⟨v2,rfl,Lk,G0,hg⟩:=h2.some_ T6;obtain ⟨p2,c2,hv⟩:=Lk.shape;subst hv;have H2:=aH T6;have Zk:=aH ((Pg.out.gc hg Q5).set2 (.slice p2 y2.length c2));have R6:=aH ((Y6.out.gc hg Q5).other (g:=w.heap.size+1) (o:=2) (v:=.slice p2 y2.length c2) Q5);have O3:=aH (ad (g:=w.heap.size+1) (o:=2) (v:=.slice p2 y2.length c2) G0 Q5);have O0:=aH (aT (g:=w.heap.size+1) (o:=2) (v:=.slice p2 y2.length c2) (I1.out.trans hg) Q5);have F':Hid (w.heap.size+2<=(w2.setCell ⟨w.heap.size+1,2,none⟩ (.slice p2 y2.length c2)).heap.size):=aH (by have h1:=W_.out;have h2:=hg.size;simp at h1 h2 |-;omega);have IX:=aH ((GX.out.kp (hg.kp Q5)).kp (aN (g:=w.heap.size+1) (o:=2) (v:=.slice p2 y2.length c2) Q5));have Py:=aH (Lk.kp (aN (g:=w.heap.size+1) (o:=2) (v:=.slice p2 y2.length c2) Q5));obtain ⟨a0,a1,a2,a3,b0,b1,b2,b3⟩:=Pg.out.gc hg Q5;clear h2 T6 G0 hg Lk;go_wp2_with fail
   clear a0 a1 a2 a3 b0 b1 b2 b3;refine (eX cb r2 e a _ O3.out).mono ?_;intro x w3 h3;cases Zj:ar r2 with
   | none=>
    obtain ⟨rfl,hg⟩:=h3.none_ Zj;exact ⟨rfl,by unfold bI;simp only [H1.out,H2.out,Zj];exact ⟨rfl,O0.out.trans hg⟩⟩
   | some q3=>
    obtain ⟨y3,r3⟩:=q3;obtain ⟨v3,rfl,JX,G0,hg⟩:=h3.some_ Zj;subst JX;have H3:=aH Zj;have Qy:=aH ((Zk.out.gc hg Q5).set1 (.int .i64 y3));have F_:=aH ((R6.out.gc hg Q5).other (g:=w.heap.size+1) (o:=1) (v:=.int .i64 y3) Q5);have P6:=aH (ad (g:=w.heap.size+1) (o:=1) (v:=.int .i64 y3) G0 Q5);have HG3:=aH (aT (g:=w.heap.size+1) (o:=1) (v:=.int .i64 y3) (O0.out.trans hg) Q5);have Hd:Hid (w.heap.size+2<=(w3.setCell ⟨w.heap.size+1,1,none⟩ (.int .i64 y3)).heap.size):=aH (by have h1:=F'.out;have h2:=hg.size;simp at h1 h2 |-;omega);have KX:=aH ((IX.out.kp (hg.kp Q5)).kp (aN (g:=w.heap.size+1) (o:=1) (v:=.int .i64 y3) Q5));have Ry:=aH ((Py.out.kp (hg.kp Q5)).kp (aN (g:=w.heap.size+1) (o:=1) (v:=.int .i64 y3) Q5));obtain ⟨a0,a1,a2,a3,b0,b1,b2,b3⟩:=Zk.out.gc hg Q5;clear h3 Zj G0 hg;go_wp2_with fail
    clear a0 a1 a2 a3 b0 b1 b2 b3;refine (vC cb (w.heap.size+2) r3 e a _ P6.out Q5 Hd.out).mono ?_;intro x w4 h4;cases JH:aM cP r3 with
    | none=>
     obtain ⟨rfl,hg⟩:=h4.none_ JH;exact ⟨rfl,by unfold bI;simp only [H1.out,H2.out,H3.out,JH];exact ⟨rfl,HG3.out.trans hg⟩⟩
    | some q4=>
     obtain ⟨y4,r4⟩:=q4;obtain ⟨v4,rfl,MX,G0,hg⟩:=h4.some_ JH;obtain ⟨p4,c4,hv⟩:=MX.shape;subst hv;have H4:=aH JH;have HFB4:=aH ((Qy.out.gc hg Q5).set3 (.slice p4 y4.length c4));have Qi:=aH ((F_.out.gc hg Q5).other (g:=w.heap.size+1) (o:=3) (v:=.slice p4 y4.length c4) Q5);have V7:=aH (ad (g:=w.heap.size+1) (o:=3) (v:=.slice p4 y4.length c4) G0 Q5);have O1:=aH (aT (g:=w.heap.size+1) (o:=3) (v:=.slice p4 y4.length c4) (HG3.out.trans hg) Q5);have LH:Hid (w.heap.size+2<=(w4.setCell ⟨w.heap.size+1,3,none⟩ (.slice p4 y4.length c4)).heap.size):=aH (by have h1:=Hd.out;have h2:=hg.size;simp at h1 h2 |-;omega);have OX:=aH ((KX.out.kp (hg.kp Q5)).kp (aN (g:=w.heap.size+1) (o:=3) (v:=.slice p4 y4.length c4) Q5));have PX:=aH ((Ry.out.kp (hg.kp Q5)).kp (aN (g:=w.heap.size+1) (o:=3) (v:=.slice p4 y4.length c4) Q5));have QX:=aH (MX.kp (aN (g:=w.heap.size+1) (o:=3) (v:=.slice p4 y4.length c4) Q5));obtain ⟨a0,a1,a2,a3,b0,b1,b2,b3⟩:=Qy.out.gc hg Q5;clear h4 JH G0 hg MX;obtain ⟨m0,m1,m2,m3,n0,n1,n2,n3⟩:=Qi.out;have hne:¬w.heap.size=w.heap.size+1:=Q5
     have Qg:¬w.heap.size+1=w.heap.size:=Q5
     go_wp2
     exact bodyPost_ret (v:=.agg #[.slice p1 y1.length c1,.int .i64 y3,.slice p2 y2.length c2,.slice p4 y4.length c4]) (by simp [results,Tryz.results75,go_sem,m0,m1,m2,m3]) rfl (by
      have hE:bI r=some (⟨y1,y3,y2,y4⟩,r4):=by unfold bI;simp only [H1.out,H2.out,H3.out,H4.out]
      rw [hE];exact ⟨_,rfl,⟨_,_,_,rfl,(((((OX.out).kp (aN Q5)).kp (aN Q5)).kp (aN Q5)).kp (aN Q5)).mono Q5,(((((PX.out).kp (aN Q5)).kp (aN Q5)).kp (aN Q5)).kp (aN Q5)).mono Q5,(((((QX.out).kp (aN Q5)).kp (aN Q5)).kp (aN Q5)).kp (aN Q5)).mono Q5⟩,ad (ad (ad (ad (V7.out) Q5) Q5) Q5) Q5,aT (aT (aT (aT (O1.out) Q5) Q5) Q5) Q5⟩)
theorem mh:∀(r:List UInt8) (k v:Nat) (n:Nat) (r':List UInt8),bC k v r=some (n,r')->r'.length < r.length
 | [],_,_,_,_,h=>by simp [bC] at h
 | b :: r,k,v,n,r',h=>by
  unfold bC at h;split at h
  · split at h
    · split at h
      · simp only [Option.some.injEq,Prod.mk.injEq] at h;rw [<-h.2];simp
      · cases h
    · have:=mh r _ _ n r' h;simp;omega
  · cases h
theorem qW{r y r1:List UInt8}(h:dw r=some (y,r1))(hr:r.length<=1000000):(⟨y.toArray⟩:ByteArray).size<=maxLen:=by
 unfold dw at h;cases hn:bC 0 0 r with
 | none=>rw [hn] at h;cases h
 | some p=>
  obtain ⟨n,r2⟩:=p;have hl:=mh r 0 0 n r2 hn;rw [hn] at h;simp only [dC] at h;split at h
  · simp only [Option.some.injEq,Prod.mk.injEq] at h;rw [<-h.1];show (List.toArray _).size<=_
    unfold maxLen;simp;omega
  · cases h
theorem xr(cb B:Nat)(r:List UInt8)(e a:Int)(w:World)(hc:io w cb r e a)(hb:cb < B)(hB:B<=w.heap.size):
 Calls Tryz.prog 77 #[.pointer (some ⟨cb,0,none⟩)] w (nV cb e a w (fun w' v (y:fK)=>∃vs vp,v=.agg #[vs,vp,.int .i64 y.result]/\ei vs y.name/\be B w' vp y.aF) (cN r)):=by
 have I5:cb < w.heap.size:=Q5
 have KQ:=hc.2.1;have Yk:=aH ((hc.gr ((Gr.refl w).alloc (.cells #[.string ⟨#[]⟩,.slice none 0 0,.int .i64 0] 71))).gr ((Gr.refl _).alloc (.cells #[.string ⟨#[]⟩,.slice none 0 0,.int .i64 0] 71)));have Xo:=aH (((bV.new w 71 (.string ⟨#[]⟩) (.slice none 0 0) (.int .i64 0)).gc ((Gr.alloc (Gr.refl _) (.cells #[.string ⟨#[]⟩,.slice none 0 0,.int .i64 0] 71)).toGc (cb:=cb)) Q5));have I_:=bV.new (w.alloc (.cells #[.string ⟨#[]⟩,.slice none 0 0,.int .i64 0] 71)) 71 (.string ⟨#[]⟩) (.slice none 0 0) (.int .i64 0);rw [show (w.alloc (.cells #[.string ⟨#[]⟩,.slice none 0 0,.int .i64 0] 71)).heap.size=w.heap.size+1 by simp] at I_;have Og:=aH I_;have D7:=aH ((((Gr.refl w).alloc (.cells #[.string ⟨#[]⟩,.slice none 0 0,.int .i64 0] 71)).alloc (.cells #[.string ⟨#[]⟩,.slice none 0 0,.int .i64 0] 71)).toGc (cb:=cb));have Jm:w.heap.size+2<=((w.alloc (.cells #[.string ⟨#[]⟩,.slice none 0 0,.int .i64 0] 71)).alloc (.cells #[.string ⟨#[]⟩,.slice none 0 0,.int .i64 0] 71)).heap.size:=Q6
 have Zh:=aH Jm;obtain ⟨f0,f1,f2,g0,g1,g2⟩:=I_;clear hc Jm;go_enter Tryz.func77,Tryz.ntmps77
 go_wp2_with fail
 refine (oK cb r e a _ Yk.out).mono ?_;intro x w1 h1;cases C4:dw r with
 | none=>
  obtain ⟨rfl,hg⟩:=h1.none_ C4;exact ⟨rfl,by unfold cN;simp only [C4];exact ⟨rfl,D7.out.trans hg⟩⟩
 | some q1=>
  obtain ⟨y1,r1⟩:=q1;obtain ⟨v1,rfl,Wn,G0,hg⟩:=h1.some_ C4;subst Wn;have H1:=aH C4;have Pg:=aH ((Og.out.gc hg Q5).set0 (.string ⟨y1.toArray⟩));have Y6:=aH ((Xo.out.gc hg Q5).other (g:=w.heap.size+1) (o:=0) (v:=.string ⟨y1.toArray⟩) Q5);have E6:=aH (ad (g:=w.heap.size+1) (o:=0) (v:=.string ⟨y1.toArray⟩) G0 Q5);have I1:=aH (aT (g:=w.heap.size+1) (o:=0) (v:=.string ⟨y1.toArray⟩) (D7.out.trans hg) Q5);have W_:Hid (w.heap.size+2<=(w1.setCell ⟨w.heap.size+1,0,none⟩ (.string ⟨y1.toArray⟩)).heap.size):=aH (by have h1:=Zh.out;have h2:=hg.size;simp at h1 h2 |-;omega);obtain ⟨a0,a1,a2,b0,b1,b2⟩:=Og.out.gc hg Q5;clear f0 f1 f2 g0 g1 g2;clear h1 C4 G0 hg;go_wp2_with fail
  clear a0 a1 a2 b0 b1 b2;refine (iu cb (w.heap.size+2) r1 e a _ E6.out Q5 W_.out).mono ?_;intro x w2 h2;cases T6:au r1 with
  | none=>
   obtain ⟨rfl,hg⟩:=h2.none_ T6;exact ⟨rfl,by unfold cN;simp only [H1.out,T6];exact ⟨rfl,I1.out.trans hg⟩⟩
  | some q2=>
   obtain ⟨y2,r2⟩:=q2;obtain ⟨v2,rfl,Lk,G0,hg⟩:=h2.some_ T6;obtain ⟨p2,c2,hv⟩:=Lk.shape;subst hv;have H2:=aH T6;have Zk:=aH ((Pg.out.gc hg Q5).set1 (.slice p2 y2.length c2));have R6:=aH ((Y6.out.gc hg Q5).other (g:=w.heap.size+1) (o:=1) (v:=.slice p2 y2.length c2) Q5);have O3:=aH (ad (g:=w.heap.size+1) (o:=1) (v:=.slice p2 y2.length c2) G0 Q5);have O0:=aH (aT (g:=w.heap.size+1) (o:=1) (v:=.slice p2 y2.length c2) (I1.out.trans hg) Q5);have F':Hid (w.heap.size+2<=(w2.setCell ⟨w.heap.size+1,1,none⟩ (.slice p2 y2.length c2)).heap.size):=aH (by have h1:=W_.out;have h2:=hg.size;simp at h1 h2 |-;omega);have Py:=aH (Lk.kp (aN (g:=w.heap.size+1) (o:=1) (v:=.slice p2 y2.length c2) Q5));obtain ⟨a0,a1,a2,b0,b1,b2⟩:=Pg.out.gc hg Q5;clear h2 T6 G0 hg Lk;go_wp2_with fail
   clear a0 a1 a2 b0 b1 b2;refine (eX cb r2 e a _ O3.out).mono ?_;intro x w3 h3;cases Zj:ar r2 with
   | none=>
    obtain ⟨rfl,hg⟩:=h3.none_ Zj;exact ⟨rfl,by unfold cN;simp only [H1.out,H2.out,Zj];exact ⟨rfl,O0.out.trans hg⟩⟩
   | some q3=>
    obtain ⟨y3,r3⟩:=q3;obtain ⟨v3,rfl,JX,G0,hg⟩:=h3.some_ Zj;subst JX;have H3:=aH Zj;have Qy:=aH ((Zk.out.gc hg Q5).set2 (.int .i64 y3));have F_:=aH ((R6.out.gc hg Q5).other (g:=w.heap.size+1) (o:=2) (v:=.int .i64 y3) Q5);have P6:=aH (ad (g:=w.heap.size+1) (o:=2) (v:=.int .i64 y3) G0 Q5);have HG3:=aH (aT (g:=w.heap.size+1) (o:=2) (v:=.int .i64 y3) (O0.out.trans hg) Q5);have Hd:Hid (w.heap.size+2<=(w3.setCell ⟨w.heap.size+1,2,none⟩ (.int .i64 y3)).heap.size):=aH (by have h1:=F'.out;have h2:=hg.size;simp at h1 h2 |-;omega);have Ry:=aH ((Py.out.kp (hg.kp Q5)).kp (aN (g:=w.heap.size+1) (o:=2) (v:=.int .i64 y3) Q5));obtain ⟨a0,a1,a2,b0,b1,b2⟩:=Zk.out.gc hg Q5;clear h3 Zj G0 hg;obtain ⟨m0,m1,m2,n0,n1,n2⟩:=F_.out;have hne:¬w.heap.size=w.heap.size+1:=Q5
    have Qg:¬w.heap.size+1=w.heap.size:=Q5
    go_wp2
    exact bodyPost_ret (v:=.agg #[.string ⟨y1.toArray⟩,.slice p2 y2.length c2,.int .i64 y3]) (by simp [results,Tryz.results77,go_sem,m0,m1,m2]) rfl (by
     have hE:cN r=some (⟨y1,y2,y3⟩,r3):=by unfold cN;simp only [H1.out,H2.out,H3.out]
     rw [hE];exact ⟨_,rfl,⟨_,_,rfl,⟨_,rfl,rfl,qW H1.out KQ⟩,((((Ry.out).kp (aN Q5)).kp (aN Q5)).kp (aN Q5)).mono Q5⟩,ad (ad (ad (P6.out) Q5) Q5) Q5,aT (aT (aT (HG3.out) Q5) Q5) Q5⟩)
theorem xY(cb B:Nat)(r:List UInt8)(e a:Int)(w:World)(hc:io w cb r e a)(hb:cb < B)(hB:B<=w.heap.size):
 Calls Tryz.prog 79 #[.pointer (some ⟨cb,0,none⟩)] w (nV cb e a w (fun w' v (y:dq)=>∃vs,v=.agg #[vs,.int .i64 y.func]/\ei vs y.name) (cT r)):=by
 have I5:cb < w.heap.size:=Q5
 have KQ:=hc.2.1;have Yk:=aH ((hc.gr ((Gr.refl w).alloc (.cells #[.string ⟨#[]⟩,.int .i64 0] 60))).gr ((Gr.refl _).alloc (.cells #[.string ⟨#[]⟩,.int .i64 0] 60)));have Xo:=aH (((i'.new w 60 (.string ⟨#[]⟩) (.int .i64 0)).gc ((Gr.alloc (Gr.refl _) (.cells #[.string ⟨#[]⟩,.int .i64 0] 60)).toGc (cb:=cb)) Q5));have I_:=i'.new (w.alloc (.cells #[.string ⟨#[]⟩,.int .i64 0] 60)) 60 (.string ⟨#[]⟩) (.int .i64 0);rw [show (w.alloc (.cells #[.string ⟨#[]⟩,.int .i64 0] 60)).heap.size=w.heap.size+1 by simp] at I_;have Og:=aH I_;have D7:=aH ((((Gr.refl w).alloc (.cells #[.string ⟨#[]⟩,.int .i64 0] 60)).alloc (.cells #[.string ⟨#[]⟩,.int .i64 0] 60)).toGc (cb:=cb));have Jm:w.heap.size+2<=((w.alloc (.cells #[.string ⟨#[]⟩,.int .i64 0] 60)).alloc (.cells #[.string ⟨#[]⟩,.int .i64 0] 60)).heap.size:=Q6
 have Zh:=aH Jm;obtain ⟨f0,f1,g0,g1⟩:=I_;clear hc Jm;go_enter Tryz.func79,Tryz.ntmps79
 go_wp2_with fail
 refine (oK cb r e a _ Yk.out).mono ?_;intro x w1 h1;cases C4:dw r with
 | none=>
  obtain ⟨rfl,hg⟩:=h1.none_ C4;exact ⟨rfl,by unfold cT;simp only [C4];exact ⟨rfl,D7.out.trans hg⟩⟩
 | some q1=>
  obtain ⟨y1,r1⟩:=q1;obtain ⟨v1,rfl,Wn,G0,hg⟩:=h1.some_ C4;subst Wn;have H1:=aH C4;have Pg:=aH ((Og.out.gc hg Q5).set0 (.string ⟨y1.toArray⟩));have Y6:=aH ((Xo.out.gc hg Q5).other (g:=w.heap.size+1) (o:=0) (v:=.string ⟨y1.toArray⟩) Q5);have E6:=aH (ad (g:=w.heap.size+1) (o:=0) (v:=.string ⟨y1.toArray⟩) G0 Q5);have I1:=aH (aT (g:=w.heap.size+1) (o:=0) (v:=.string ⟨y1.toArray⟩) (D7.out.trans hg) Q5);have W_:Hid (w.heap.size+2<=(w1.setCell ⟨w.heap.size+1,0,none⟩ (.string ⟨y1.toArray⟩)).heap.size):=aH (by have h1:=Zh.out;have h2:=hg.size;simp at h1 h2 |-;omega);obtain ⟨a0,a1,b0,b1⟩:=Og.out.gc hg Q5;clear f0 f1 g0 g1;clear h1 C4 G0 hg;go_wp2_with fail
  clear a0 a1 b0 b1;refine (eX cb r1 e a _ E6.out).mono ?_;intro x w2 h2;cases T6:ar r1 with
  | none=>
   obtain ⟨rfl,hg⟩:=h2.none_ T6;exact ⟨rfl,by unfold cT;simp only [H1.out,T6];exact ⟨rfl,I1.out.trans hg⟩⟩
  | some q2=>
   obtain ⟨y2,r2⟩:=q2;obtain ⟨v2,rfl,Lk,G0,hg⟩:=h2.some_ T6;subst Lk;have H2:=aH T6;have Zk:=aH ((Pg.out.gc hg Q5).set1 (.int .i64 y2));have R6:=aH ((Y6.out.gc hg Q5).other (g:=w.heap.size+1) (o:=1) (v:=.int .i64 y2) Q5);have O3:=aH (ad (g:=w.heap.size+1) (o:=1) (v:=.int .i64 y2) G0 Q5);have O0:=aH (aT (g:=w.heap.size+1) (o:=1) (v:=.int .i64 y2) (I1.out.trans hg) Q5);have F':Hid (w.heap.size+2<=(w2.setCell ⟨w.heap.size+1,1,none⟩ (.int .i64 y2)).heap.size):=aH (by have h1:=W_.out;have h2:=hg.size;simp at h1 h2 |-;omega);obtain ⟨a0,a1,b0,b1⟩:=Pg.out.gc hg Q5;clear h2 T6 G0 hg;obtain ⟨m0,m1,n0,n1⟩:=R6.out;have hne:¬w.heap.size=w.heap.size+1:=Q5
   have Qg:¬w.heap.size+1=w.heap.size:=Q5
   go_wp2
   exact bodyPost_ret (v:=.agg #[.string ⟨y1.toArray⟩,.int .i64 y2]) (by simp [results,Tryz.results79,go_sem,m0,m1]) rfl (by
    have hE:cT r=some (⟨y1,y2⟩,r2):=by unfold cT;simp only [H1.out,H2.out]
    rw [hE];exact ⟨_,rfl,⟨_,rfl,⟨_,rfl,rfl,qW H1.out KQ⟩⟩,ad (ad (O3.out) Q5) Q5,aT (aT (O0.out) Q5) Q5⟩)
open Go.RowKit
attribute [local go_sem ↓] Go.wp_at_zero Go.wp_at_succ
theorem kt(cb:Nat)(b:UInt8)(r:List UInt8)(e a:Int)(w:World)(hc:io w cb (b :: r) e a):
 Calls Tryz.prog 140 #[.pointer (some ⟨cb,0,none⟩)] w fun x w'=>x=.returned (.int .u8 (b.toNat:Int))/\io w' cb r e a/\Gc cb w w':=by
 refine (jG cb (b :: r) e a w hc).mono ?_;intro x w' h;obtain ⟨v,rfl,rfl,h1,h2⟩:=h.some_ (y:=b) (r':=r) rfl;exact ⟨rfl,h1,h2⟩
theorem th(cb:Nat)(e a:Int)(w:World)(hc:io w cb [] e a):
 Calls Tryz.prog 140 #[.pointer (some ⟨cb,0,none⟩)] w fun x w'=>x=.panicked (dM e a)/\Gc cb w w':=by
 refine (jG cb [] e a w hc).mono ?_;intro x w' h;exact h.none_ rfl
def ly(w:World)(sb:Nat)(t:List UInt8)(p:Nat):Prop:=
 (∃s:ByteArray,w.cell? ⟨sb,0,none⟩=some (.string s)/\s.data.toList=t)/\t.length<=1000000/\p<=t.length/\w.cell? ⟨sb,1,none⟩=some (.int .i64 (p:Int))/\w.frozen? ⟨sb,1,none⟩=false
theorem Gc.over{sb cb:Nat}{w w1 w2:World}(h:Gc sb w w1)(k:Gc cb w1 w2)(hc:w.heap.size<=cb):Gc sb w w2:=
 ⟨k.os.trans h.os,k.tape.trans h.tape,k.output.trans h.output,Nat.le_trans h.size k.size,fun i hi hne=>(k.block i (Nat.lt_of_lt_of_le hi h.size) (by intro e;simp only [Option.some.injEq] at e;omega)).trans (h.block i hi hne)⟩
theorem Gc.trans_{cb:Nat}{a b c:World}(h:Gc cb a b)(k:Gc cb b c):Gc cb a c:=World.grownBy.trans h k
theorem ly.gc{w w':World}{sb cb:Nat}{t:List UInt8}{p:Nat}(h:ly w sb t p)(g:Gc cb w w')(hne:¬sb=cb):ly w' sb t p:=by
 obtain ⟨⟨s,h0,hs⟩,hl,hp,h1,z1⟩:=h;exact ⟨⟨s,g.box hne h0,hs⟩,hl,hp,g.box hne h1,g.boxz hne h1 z1⟩
def d_:Nat->Nat->List UInt8->Option (List UInt8)
 | 0,_,r=>some r
 | j+1,c,r=>match cm r with
  | none=>none
  | some (b,r1)=>if b.toNat=c % 256 then d_ j (c / 256) r1 else none
def cM(n:Nat)(r:List UInt8):Option (List UInt8×List UInt8):=match cm r with
 | none=>none
 | some (b,r1)=>if b.toNat=n then (match bC 0 0 r1 with
  | none=>none
  | some (k,r2)=>match dC k r2 with
   | none=>none
   | some (body,r3)=>match d_ 4 (mL body) r3 with
    | none=>none
    | some r4=>some (body,r4))
  else none
theorem qf:∀(j c:Nat) (r r':List UInt8),d_ j c r=some r'->r'.length<=r.length
 | 0,_,r,r',h=>by simp only [d_,Option.some.injEq] at h;rw [h];exact Nat.le_refl _
 | j+1,c,[],r',h=>by simp [d_,cm] at h
 | j+1,c,b :: r,r',h=>by
  simp only [d_,cm] at h;split at h
  · have:=qf j _ r r' h;simp;omega
  · cases h
theorem ur{n:Nat}{r y r':List UInt8}(h:dC n r=some (y,r')):r'.length<=r.length:=by
 unfold dC at h;split at h
 · simp only [Option.some.injEq,Prod.mk.injEq] at h;rw [<-h.2,List.length_drop];omega
 · cases h
theorem vB{n:Nat}{r b r':List UInt8}(h:cM n r=some (b,r')):r'.length<=r.length:=by
 cases r with
 | nil=>simp [cM,cm] at h
 | cons x r1=>
  simp only [cM,cm] at h;split at h
  · cases hn:bC 0 0 r1 with
    | none=>rw [hn] at h;cases h
    | some p=>
     obtain ⟨k,r2⟩:=p;have l1:=mh r1 0 0 k r2 hn;rw [hn] at h;simp only at h;cases ht:dC k r2 with
     | none=>rw [ht] at h;cases h
     | some q=>
      obtain ⟨y,r3⟩:=q;have l2:=ur ht;rw [ht] at h;simp only at h;cases hs:d_ 4 (mL y) r3 with
      | none=>rw [hs] at h;cases h
      | some r4=>
       have l3:=qf 4 _ r3 r4 hs;rw [hs] at h;simp only [Option.some.injEq,Prod.mk.injEq] at h;rw [<-h.2];simp;omega
  · cases h
def AA(sb:Nat)(t:List UInt8)(p:Nat)(w:World):Option (List UInt8×List UInt8)->Ending->World->Prop
 | some (body,r),x,w'=>∃nb,x=.returned (.pointer (some ⟨nb,0,none⟩))/\w.heap.size<=nb/\nb < w'.heap.size/\io w' nb body 2 p/\ly w' sb t (t.length - r.length)/\Gc sb w w'
 | none,x,w'=>x=.panicked (dM 2 p)/\Gc sb w w'
theorem tw(w:World)(s:ByteArray)(r:List UInt8)(e a:Int)(hs:s.data.toList=r)(hl:r.length<=1000000):io (w.alloc (.cells #[.string s,.int .i64 e,.int .i64 0,.int .i64 a] 195)) w.heap.size r e a:=by
 refine ⟨⟨s,by simp [go_sem],hs⟩,hl,by simp [go_sem],by simp [go_sem],by simp [go_sem],by simp [go_sem]⟩
theorem jH(sb:Nat)(t:List UInt8)(p n:Nat)(hn:n < 256)(w:World)(hS:ly w sb t p):
 Calls Tryz.prog 111 #[.pointer (some ⟨sb,0,none⟩),.int .u8 (n:Int)] w (AA sb t p w (cM n (t.drop p))):=by
 have Zh:=aH hS;obtain ⟨⟨s,h0,hs⟩,hl,hp,h1,z1⟩:=hS;have R0:s.size=t.length:=by rw [<-hs,Array.length_toList];rfl
 have hsl:sb < w.heap.size:=World.block_lt_of_cell? w _ h1;have Sy:(0:Int)<=(p:Int):=Q5
 have Mg:(p:Int)<=(s.size:Int):=Q5
 have Mf:s.size<=1000000:=Q5
 go_enter Tryz.func111,Tryz.ntmps111
 go_wp2
 clear z1;go_region_held3 (fun w'=>w'.cell? ⟨sb,0,none⟩=some (.string s)/\w'.cell? ⟨sb,1,none⟩=some (.int .i64 (p:Int))) (go_keep) (fail)
 have G0:io (w.alloc (.cells #[.string (s.extract p t.length),.int .i64 2,.int .i64 0,.int .i64 (p:Int)] 195)).drew w.heap.size (t.drop p) 2 p:=by
  have h:=tw w (s.extract p t.length) (t.drop p) 2 p (by have h:=nG s p;rw [R0,hs] at h;exact h) (by rw [List.length_drop];omega);exact h
 have G2:ly (w.alloc (.cells #[.string (s.extract p t.length),.int .i64 2,.int .i64 0,.int .i64 (p:Int)] 195)).drew sb t p:=by
  exact Zh.out.gc (cb:=w.heap.size) ((Gr.drew (Gr.alloc (Gr.refl w) _)).toGc) Q5
 have hgc:Gc sb w (w.alloc (.cells #[.string (s.extract p t.length),.int .i64 2,.int .i64 0,.int .i64 (p:Int)] 195)).drew:=(Gr.drew (Gr.alloc (Gr.refl w) _)).toGc;have MH:w.heap.size < (w.alloc (.cells #[.string (s.extract p t.length),.int .i64 2,.int .i64 0,.int .i64 (p:Int)] 195)).drew.heap.size:=Q6
 generalize (w.alloc (.cells #[.string (s.extract p t.length),.int .i64 2,.int .i64 0,.int .i64 (p:Int)] 195)).drew=W2 at G0 G2 hgc MH |-;generalize hR:t.drop p=R at G0 |-;have HR:=aH hR;have HC:=aH G0;have HS:=aH G2;have HG:=aH hgc;have V8:=G0.2.2.1;have O_:=G0.2.2.2.1;have Jg:=G0.2.2.2.2.2;clear hR G0 G2 hgc h0 h1 Zh Sy Mg Mf hs R0;cases R with
 | nil=>
  go_wp2
  go_region_with (first|(go_at_call 140;refine (th w.heap.size 2 p _ (by exact HC.out)).mono ?_;rintro x w3 ⟨rfl,P0⟩;refine aR ?_))
  all_goals exact ⟨rfl,by rw [HR.out];exact ⟨rfl,HG.out.over (Gc.trans_ (Gr.drew (Gr.refl _)).toGc P0) Q5⟩⟩
 | cons b r1=>
  by_cases RX:b.toNat=n
  · subst RX;have Yo:((b.toNat:Int) == (b.toNat:Int))=true:=by simp
    go_wp2
    go_region_held3 (fun w'=>w'.cell? ⟨w.heap.size,1,none⟩=some (.int .i64 2)/\w'.cell? ⟨w.heap.size,3,none⟩=some (.int .i64 (p:Int))/\w'.cell? ⟨w.heap.size,2,none⟩=some (.int .i64 0)) (first|go_keep|exact ⟨I3.2.2.1,I3.2.2.2.1,I3.2.2.2.2.2⟩|(refine ⟨?_,?_,?_⟩<;>exact D0.cell Q8 Q6)) (first|(go_at_call 140;refine (kt w.heap.size b r1 2 p _ (by exact HC.out)).mono ?_;rintro x w3 ⟨rfl,I3,P0⟩;have q1:=I3.2.2.1;have q2:=I3.2.2.2.1;have q3:=I3.2.2.2.2.2)|(go_at_call 64;refine (aP _ _ _).mono ?_;rintro e w' ⟨rfl,D0⟩))
    have V7:=aH (I3.gr D0);have O1:=aH (HG.out.over (Gc.trans_ (Gc.trans_ (Gr.drew (Gr.refl _)).toGc P0) D0.toGc) Q5);have LH:=aH (HS.out.gc (Gc.trans_ (Gc.trans_ (Gr.drew (Gr.refl _)).toGc P0) D0.toGc) Q5);have Y8:w.heap.size < w'.heap.size:=by have h1:=P0.size;have h2:=D0.size;simp at h1;omega
    clear I3 P0 D0 q1 q2 q3 V8 O_ Jg HC HG HS Yo;go_wp2_with fail
    refine (dB w.heap.size r1 2 p _ V7.out).mono ?_;intro x w5 h;cases TC:bC 0 0 r1 with
    | none=>
     obtain ⟨rfl,hg⟩:=h.none_ TC;exact ⟨rfl,by rw [HR.out];simp only [cM,cm,if_true,TC];exact ⟨rfl,O1.out.over hg Q5⟩⟩
    | some q5=>
     obtain ⟨k5,r2⟩:=q5;obtain ⟨_,rfl,rfl,G0,hg⟩:=h.some_ TC;have TX:=jC r1 0 0 Q6 Q9 k5 r2 TC;have Dr:=aH G0;have T5:=aH (O1.out.over hg Q5);have VC:=aH (LH.out.gc hg Q5);have Zo:w.heap.size < w5.heap.size:=Nat.lt_of_lt_of_le Y8 hg.size;have Ty:=aH TC;clear h G0 hg TC V7 O1 LH Y8;go_wp2_with fail
     refine (kz w.heap.size r2 2 p k5 TX _ Dr.out).mono ?_;intro x w6 h;cases Cl:dC k5 r2 with
     | none=>
      obtain ⟨rfl,hg⟩:=h.none_ Cl;exact ⟨rfl,by rw [HR.out];simp only [cM,cm,if_true,Ty.out,Cl];exact ⟨rfl,T5.out.over hg Q5⟩⟩
     | some q6=>
      obtain ⟨body,r3⟩:=q6;obtain ⟨_,rfl,rfl,G0,hg⟩:=h.some_ Cl;have Y9:body.length<=1000000:=by
       have h6:=Dr.out.2.1;unfold dC at Cl;split at Cl
       · simp only [Option.some.injEq,Prod.mk.injEq] at Cl;rw [<-Cl.1,List.length_take];omega
       · cases Cl
      have HE:Hid (cM b.toNat (b :: r1)=match d_ 4 (mL body) r3 with
       | none=>none
       | some r4=>some (body,r4)):=aH (by simp only [cM,cm,if_true,Ty.out,Cl])
      have Cp:=aH G0;have Wa:=aH (T5.out.over hg Q5);have Dl:=aH (VC.out.gc hg Q5);have VX:w.heap.size < w6.heap.size:=Nat.lt_of_lt_of_le Zo hg.size;clear h G0 hg Cl Dr T5 VC Zo Ty;go_wp2_with (go_at_call 63;refine (ny _ _ (by unfold maxLen;show (List.toArray body).size<=_;simp;omega)).mono ?_;rintro e w7 ⟨rfl,e7⟩;subst e7)
      go_loopw [7,39] (fun c i wr=>∃(k q:Nat) (rk:List UInt8),k<=4/\i=.int .i64 k/\c=.int .u32 (q:Int)/\q < 4294967296/\d_ (4 - k) q rk=d_ 4 (mL body) r3/\io wr w.heap.size rk 2 p/\ly wr sb t p/\Gc sb w wr/\w.heap.size < wr.heap.size) (fun _ i _=>4 - (intOf i).toNat)
      case atStart=>exact ⟨0,mL body,r3,Nat.zero_le _,rfl,rfl,xy _,rfl,Cp.out,Dl.out,Wa.out,VX⟩
      case round=>
       obtain ⟨k,q,rk,hk,rfl,rfl,hq,Ga,G0,G2,hgc,WX⟩:=hrel;have LQ:=aH Ga;have HC:=aH G0;have HS:=aH G2;have HG:=aH hgc;have V8:=G0.2.2.1;have O_:=G0.2.2.2.1;have Jg:=G0.2.2.2.2.2;clear Ga G0 G2 hgc Cp Dl Wa;by_cases MQ:k < 4
       · obtain ⟨m,hm⟩:∃m,4 - k=m+1:=⟨3 - k,Q5⟩;have HM:=aH hm;clear hm;cases rk with
         | nil=>
          have HN:Hid (cM b.toNat (b :: r1)=none):=aH (by rw [HE.out,<-LQ.out,HM.out];rfl);go_wp2
          go_region_with (first|(go_at_call 140;refine (th w.heap.size 2 p _ (by exact HC.out)).mono ?_;rintro x w3 ⟨rfl,P0⟩;refine aR ?_))
          all_goals exact ⟨rfl,by rw [HR.out,HN.out];exact ⟨rfl,HG.out.over (Gc.trans_ (Gr.drew (Gr.refl _)).toGc P0) Q5⟩⟩
         | cons b2 r5=>
          have hw8:IntKind.u8.wrap (q:Int)=(q:Int) % 256:=IntKind.wrap_u8 _;by_cases E5:b2.toNat=q % 256
          · have Yo:((b2.toNat:Int) == (q:Int) % 256)=true:=by rw [beq_iff_eq];omega
            have HN:Hid (d_ (4 - (k+1)) (q / 256) r5=d_ 4 (mL body) r3):=aH (by rw [<-LQ.out,HM.out,show 4 - (k+1)=m by have:=HM.out;omega];simp only [d_,cm,if_pos E5]);clear E5;go_wp2
            go_region_held3 (fun w'=>w'.cell? ⟨w.heap.size,1,none⟩=some (.int .i64 2)/\w'.cell? ⟨w.heap.size,3,none⟩=some (.int .i64 (p:Int))/\w'.cell? ⟨w.heap.size,2,none⟩=some (.int .i64 0)) (first|go_keep|exact ⟨I3.2.2.1,I3.2.2.2.1,I3.2.2.2.2.2⟩|(refine ⟨?_,?_,?_⟩<;>exact D0.cell Q8 Q6)) (first|(go_at_call 140;refine (kt w.heap.size b2 r5 2 p _ (by exact HC.out)).mono ?_;rintro x w3 ⟨rfl,I3,P0⟩;have q1:=I3.2.2.1;have q2:=I3.2.2.2.1;have q3:=I3.2.2.2.2.2)|(go_at_call 64;refine (aP _ _ _).mono ?_;rintro e w' ⟨rfl,D0⟩))
            have V7:=aH (I3.gr D0);have O1:=aH (HG.out.over (Gc.trans_ (Gc.trans_ (Gr.drew (Gr.refl _)).toGc P0) D0.toGc) Q5);have LH:=aH (HS.out.gc (Gc.trans_ (Gc.trans_ (Gr.drew (Gr.refl _)).toGc P0) D0.toGc) Q5);have Vy:w.heap.size < w'.heap.size:=by have h1:=P0.size;have h2:=D0.size;simp at h1;omega
            clear I3 P0 D0 q1 q2 q3 V8 O_ Jg Yo;go_wp2
            go_roundw
            case rel=>exact ⟨k+1,q / 256,r5,Q5,by go_num,by go_num,Q5,HN.out,V7.out,LH.out,O1.out,Vy⟩
            case measure=>simp [intOf];omega
          · have Yo:((b2.toNat:Int) == (q:Int) % 256)=false:=by rw [beq_eq_false_iff_ne];omega
            have HN:Hid (cM b.toNat (b :: r1)=none):=aH (by rw [HE.out,<-LQ.out,HM.out];simp only [d_,cm,if_neg E5]);clear E5;go_wp2
            go_region_with (first|(go_at_call 140;refine (kt w.heap.size b2 r5 2 p _ (by exact HC.out)).mono ?_;rintro x w3 ⟨rfl,I3,P0⟩;have q1:=I3.2.2.1;have q2:=I3.2.2.2.1;have q3:=I3.2.2.2.2.2)|(go_at_call 64;refine (aV _ _ _).mono ?_;rintro e w' ⟨rfl,D0⟩;refine aR ?_))
            all_goals exact ⟨rfl,by rw [HR.out,HN.out];exact ⟨rfl,HG.out.over (Gc.trans_ (Gc.trans_ (Gr.drew (Gr.refl _)).toGc P0) D0.toGc) Q5⟩⟩
       · have XX:k=4:=by omega
         subst XX;have HN:Hid (cM b.toNat (b :: r1)=some (body,rk)):=aH (by rw [HE.out,<-LQ.out];rfl);obtain ⟨⟨s5,e0',Ni⟩,Pv,_⟩:=HC.out;obtain ⟨⟨s6,f0,f1⟩,f2,f3,f4,g1⟩:=HS.out;have hrk:s5.size=rk.length:=by rw [<-Ni,Array.length_toList];rfl
         have Cl:s6.size=t.length:=by rw [<-f1,Array.length_toList];rfl
         have hle:rk.length<=t.length:=by
          have h1:=vB HN.out;rw [<-HR.out,List.length_drop] at h1;omega
         have S3:IntKind.i64.wrap ((s6.size:Int) - (s5.size:Int))=(s6.size:Int) - (s5.size:Int):=Q_;have HT:=aH hrk;have Oh:=aH f1;have HT2:=aH Cl;have hss5:s5.size<=s6.size:=Q5
         have hss6:s6.size<=1000000:=Q5
         have Wy:∀q,(wr.setCell ⟨sb,1,none⟩ (.int .i64 ((s6.size:Int) - (s5.size:Int)))).cell? ⟨w.heap.size,q,none⟩=wr.cell? ⟨w.heap.size,q,none⟩:=fun q=>World.cell?_setCell_other wr ⟨sb,1,none⟩ ⟨w.heap.size,q,none⟩ _ (by intro h;simp only [Addr.mk.injEq] at h;omega)
         have Ka:(wr.setCell ⟨sb,1,none⟩ (.int .i64 ((s6.size:Int) - (s5.size:Int)))).cell? ⟨sb,0,none⟩=some (.string s6):=(aI Q5).trans f0;have SX:Hid ((wr.setCell ⟨sb,1,none⟩ (.int .i64 ((s6.size:Int) - (s5.size:Int)))).drew.cell? ⟨sb,0,none⟩=some (.string s6)/\(wr.setCell ⟨sb,1,none⟩ (.int .i64 ((s6.size:Int) - (s5.size:Int)))).drew.cell? ⟨w.heap.size,0,none⟩=some (.string s5)):=aH ⟨Ka,(Wy 0).trans e0'⟩;have SY:Hid ((wr.setCell ⟨sb,1,none⟩ (.int .i64 ((s6.size:Int) - (s5.size:Int)))).drew.cell? ⟨w.heap.size,1,none⟩=some (.int .i64 2)/\(wr.setCell ⟨sb,1,none⟩ (.int .i64 ((s6.size:Int) - (s5.size:Int)))).drew.cell? ⟨w.heap.size,3,none⟩=some (.int .i64 p)/\(wr.setCell ⟨sb,1,none⟩ (.int .i64 ((s6.size:Int) - (s5.size:Int)))).drew.cell? ⟨w.heap.size,2,none⟩=some (.int .i64 0)):=aH ⟨(Wy 1).trans V8,(Wy 3).trans O_,(Wy 2).trans Jg⟩;clear Ka Wy;clear hrk Cl Ni f1 V8 O_ Jg;go_wp2
         go_region_held3 (fun w'=>w'.cell? ⟨sb,0,none⟩=some (.string s6)/\w'.cell? ⟨w.heap.size,0,none⟩=some (.string s5)) (first|exact SX.out|go_keep) (fail)
         have HF:Hid (ly (wr.setCell ⟨sb,1,none⟩ (.int .i64 ((s6.size:Int) - (s5.size:Int)))).drew sb t (t.length - rk.length)):=aH (by
          refine ⟨⟨s6,SX.out.1,Oh.out⟩,f2,Q5,?_,(World.frozen?_setCell wr ⟨sb,1,none⟩ ⟨sb,1,none⟩ _).trans g1⟩;have e:((t.length - rk.length:Nat):Int)=(s6.size:Int) - (s5.size:Int):=by have h1:=HT.out;have h2:=HT2.out;omega
          rw [e];exact World.cell?_setCell_same wr ⟨sb,1,none⟩ _ f4)
         have X8:=aH ((HG.out.set 1 (.int .i64 ((s6.size:Int) - (s5.size:Int)))).drew);have YX:w.heap.size < (wr.setCell ⟨sb,1,none⟩ (.int .i64 ((s6.size:Int) - (s5.size:Int)))).drew.heap.size:=by simp;exact WX
         obtain ⟨y1,y2,y3⟩:=SY.out;clear SX f0 f4 g1 e0' HC HS HG SY;generalize (wr.setCell ⟨sb,1,none⟩ (.int .i64 ((s6.size:Int) - (s5.size:Int)))).drew=WF at HF X8 YX y1 y2 y3 |-;go_wp2
         go_ret
         rw [HR.out,HN.out];have Sv:=Gr.alloc (Gr.refl WF) (.cells #[.string ⟨body.toArray⟩,.int .i64 2,.int .i64 0,.int .i64 (p:Int)] 195);exact ⟨WF.heap.size,rfl,Q5,Q6,tw WF ⟨body.toArray⟩ body 2 p rfl Y9,HF.out.gc (cb:=WF.heap.size) Sv.toGc Q5,X8.out.trans Sv.toGc⟩
  · have Yo:((b.toNat:Int) == (n:Int))=false:=by rw [beq_eq_false_iff_ne];omega
    have HE:Hid (cM n (b :: r1)=none):=aH (by simp only [cM,cm];rw [if_neg RX]);clear RX;go_wp2
    go_region_with (first|(go_at_call 140;refine (kt w.heap.size b r1 2 p _ (by exact HC.out)).mono ?_;rintro x w3 ⟨rfl,I3,P0⟩;have q1:=I3.2.2.1;have q2:=I3.2.2.2.1;have q3:=I3.2.2.2.2.2)|(go_at_call 64;refine (aV _ _ _).mono ?_;rintro e w' ⟨rfl,D0⟩;refine aR ?_))
    all_goals exact ⟨rfl,by rw [HR.out,HE.out];exact ⟨rfl,HG.out.over (Gc.trans_ (Gc.trans_ (Gr.drew (Gr.refl _)).toGc P0) D0.toGc) Q5⟩⟩
end Go.Proofs.YtkgncijcnlfhiabGreat
