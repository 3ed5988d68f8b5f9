import Derived.Lib.SlBytesConst
import Derived.Test.YtkgncijcnlfhiabGreatD1
import Derived.Test.YtkgncijcnlfhiabGreatRg2
import Derived.Test.YtkgncijcnlfhiabGreatS1
import Derived.Defers
import Derived.Recover
namespace Go.Proofs.YtkgncijcnlfhiabGreat
set_option maxRecDepth 100000
set_option maxHeartbeats 4000000
set_option linter.unusedVariables false
set_option linter.unusedSimpArgs false
open Go.RowKit
theorem dt.body{W w w':World}{vb:Value}{b:List UInt8}(k:dt W.heap.size w (.slice none 0 0) w' vb b)(hb:1<=b.length):
 ∃g cap,vb=.slice (some ⟨g,0,none⟩) b.length cap/\w.heap.size<=g/\w'.ownsRow W.heap.size 5 1 (.slice (some ⟨g,0,none⟩) b.length cap) b.length (bc b)/\Gr w w':=by
 have ho:=k.own;rcases k.own.2 with ⟨h1,h2⟩|⟨g,cap,cur,rfl,_⟩
 · omega
 · refine ⟨g,cap,rfl,?_,ho,k.frm⟩;rcases k.lies g rfl with e|e
   · simp [Value.ownBlock] at e
   · exact e
theorem Wr.nil{W w:World}(h:Below W.heap.size W w):Wr W w (.slice none 0 0) []:=⟨h,⟨by simp [bc],.inl ⟨rfl,rfl⟩⟩⟩
theorem Wr.apart{W w:World}{v:Value}{l:List UInt8}(h:Wr W w v l){g:Nat}(hg:w.heap.size<=g):v.ownBlock≠some g:=fun e=>by have:=(h.own.lt g e).2;omega
theorem ui(W w:World)(h:W.heap.size<=w.heap.size):wZ W.heap.size (w.alloc (.cells #[.int .u8 75,.int .u8 73,.int .u8 76,.int .u8 78,.int .u8 1] 5 (5,6))) (.slice (some ⟨w.heap.size,0,none⟩) 5 5) dg:=by
 refine .inr ⟨w.heap.size,h,Q6,rfl,fun j u hu=>?_⟩;have hj:j < 5:=by have:=List.getElem?_eq_some_iff.1 hu;exact this.1
 have DY:(⟨w.heap.size,0,none⟩:Addr).add j=⟨w.heap.size,j,none⟩:=by unfold Addr.add;split<;>simp_all
 rw [DY,cell_of_row _ w.heap.size j #[.int .u8 75,.int .u8 73,.int .u8 76,.int .u8 78,.int .u8 1] 5 (5,6) (heap_alloc_new w _),<-hu];have h5:j=0\/j=1\/j=2\/j=3\/j=4:=Q5
 rcases h5 with rfl|rfl|rfl|rfl|rfl<;>rfl
theorem sH(w:World)(v0 v1 v2 v3 v4:Value):(w.alloc (.cells #[v0,v1,v2,v3,v4] 29)).cell? ⟨w.heap.size,0,none⟩=some v0/\(w.alloc (.cells #[v0,v1,v2,v3,v4] 29)).cell? ⟨w.heap.size,1,none⟩=some v1/\(w.alloc (.cells #[v0,v1,v2,v3,v4] 29)).cell? ⟨w.heap.size,2,none⟩=some v2/\(w.alloc (.cells #[v0,v1,v2,v3,v4] 29)).cell? ⟨w.heap.size,3,none⟩=some v3/\(w.alloc (.cells #[v0,v1,v2,v3,v4] 29)).cell? ⟨w.heap.size,4,none⟩=some v4:=by
 refine ⟨?_,?_,?_,?_,?_⟩<;>simp [go_sem]
theorem ud{W w:World}{o:Obj}(h:Below (W.alloc o).heap.size (W.alloc o) w):Below W.heap.size W w:=
 ((Below.refl _ _).alloc (Nat.le_refl _) o).trans (h.mono Q6)
theorem gn(W:World)(v:Value)(l:List UInt8)(z:Int)(n:Nat)(hz:z=n)(g cap F8:Nat)(m:List UInt8)(w:World)(hn:n<=5)(hw:vE W w v l)
 (hm:w.ownsRow F8 5 1 (.slice (some ⟨g,0,none⟩) m.length cap) m.length (bc m)) (hne:v.ownBlock≠some g) (hlen:l.length+m.length<=5000000):
 Calls Tryz.prog 34 #[v,.int .u8 z,.slice (some ⟨g,0,none⟩) m.length cap] w fun x w'=>
  ((l++cZ n m).length<=20000/\∃v',x=.returned v'/\dt W.heap.size w v w' v' (l++cZ n m))\/
  (¬(l++cZ n m).length<=20000/\x=.panicked (dM 3 0)/\Below W.heap.size W w'):=by
 subst hz;exact nh W v l n g cap F8 m w hn hw hm hne hlen
def Au(u:aK)(W:World)(x:Ending)(w':World):Prop:=
 Below W.heap.size W w'/\((ai u=false/\x=.panicked (dM 1 0))\/(ai u=true/\¬(enc u).length<=20000/\x=.panicked (dM 3 0))\/(ai u=true/\(enc u).length<=20000/\x=.returned (.string ⟨(enc u).toArray⟩)))
theorem zk(u:aK):(na u).length<=(enc u).length:=by unfold enc jL mG mf;simp only [List.length_append];omega
theorem zi(u:aK):(mf u).length<=(enc u).length:=by unfold enc jL mG;simp only [List.length_append];omega
theorem yo(u:aK):(mG u).length<=(enc u).length:=by unfold enc jL;simp only [List.length_append];omega
theorem yz(u:aK):(jL u).length<=(enc u).length:=by unfold enc;simp only [List.length_append];omega
theorem vR(u:aK)(vu:Value)(W:World)(hR:cO W vu u)(hF:mn u):
 Calls Tryz.prog 25 #[vu] W (Au u W):=by
 have HRU:=aH hR;obtain ⟨v1,v2,v3,v4,v5,rfl,h1,h2,h3,h4,h5⟩:=hR;obtain ⟨a1,c1,rfl⟩:=h1.shape;obtain ⟨a2,c2,rfl⟩:=h2.shape;obtain ⟨a3,c3,rfl⟩:=h3.shape;obtain ⟨a4,c4,rfl⟩:=h4.shape;obtain ⟨a5,c5,rfl⟩:=h5.shape;obtain ⟨k0,k1,k2,k3,k4⟩:=sH W (.slice a1 u.aA.length c1) (.slice a2 u.aD.length c2) (.slice a3 u.aE.length c3) (.slice a4 u.aB.length c4) (.slice a5 u.aC.length c5);have Ec:=World.grownBy_alloc W (.cells #[.slice a1 u.aA.length c1,.slice a2 u.aD.length c2,.slice a3 u.aE.length c3,.slice a4 u.aB.length c4,.slice a5 u.aC.length c5] 29) none;obtain ⟨W1,Lm⟩:∃W1,W1=W.alloc (.cells #[.slice a1 u.aA.length c1,.slice a2 u.aD.length c2,.slice a3 u.aE.length c3,.slice a4 u.aB.length c4,.slice a5 u.aC.length c5] 29):=⟨_,rfl⟩;have Kd:Hid (∀w,Below W1.heap.size W1 w->Below W.heap.size W w):=aH (by rw [Lm];exact fun w h=>ud h);have HW1:=aH Lm;have K0:=aH k0;have K1:=aH k1;have K2:=aH k2;have K3:=aH k3;have K4:=aH k4;have r1:=h1.gr Ec;have r2:=h2.gr Ec;have r3:=h3.gr Ec;have r4:=h4.gr Ec;have r5:=h5.gr Ec;rw [<-Lm] at r1 r2 r3 r4 r5 K0 K1 K2 K3 K4;have R1:=aH r1;have R2:=aH r2;have R3:=aH r3;have R4:=aH r4;have R5:=aH r5;clear r1 r2 r3 r4 r5 Lm;have HF:=aH hF;have hcv:=fun (w:World) (C:Array Value) (n c:Nat)=>Go.Lib.run_convert_bytes_const (P:=Tryz.prog) w 88 5 C n c Tryz.underlying88 Tryz.underlying5
 clear h1 h2 h3 h4 h5 hF k1 k2 k3 k4;cases N2:ai u
 · have M8:=aH N2;clear N2;go_enter Tryz.func25,Tryz.ntmps25
   go_wp2_with (go_at_call 31;refine (eG (km u _ 1 0 _ (by exact HRU.out.gr Ec)) M8.out).mono ?_;rintro e w1 ⟨rfl,hg1⟩)
   exact ⟨rfl,((Below.refl _ _).grown Ec (Nat.le_refl _) Q6).grown hg1 Q6 Q6,.inl ⟨M8.out,rfl⟩⟩
 · have M8:=aH N2;have E7:=aH (rY N2);clear N2;go_enter Tryz.func25,Tryz.ntmps25
   go_wp2_with (go_at_call 31;refine (bO (km u _ 1 0 _ (by exact HRU.out.gr Ec)) M8.out).mono ?_;rintro e w1 ⟨rfl,hg1⟩;rw [<-HW1.out] at hg1;have Wd:Below W1.heap.size W1 w1:=(Below.refl _ _).grown hg1 (Nat.le_refl _) Q6;have q0:=ak (Wd.alloc Wd.size (.cells #[.int .u8 75,.int .u8 73,.int .u8 76,.int .u8 78,.int .u8 1] 5 (5,6))) K0.out)
   have J_:vE W1 _ (.slice (some ⟨w1.heap.size,0,none⟩) 5 5) dg:=⟨Wd.alloc Wd.size (.cells #[.int .u8 75,.int .u8 73,.int .u8 76,.int .u8 78,.int .u8 1] 5 (5,6)),ui W1 w1 Wd.size⟩;clear Wd hg1 q0 k0 Ec hcv;refine (sC W1 (.slice none 0 0) [] u.aA _ _ R1.out E7.out.f1 (Wr.nil J_.low) (by have h:=E7.out.b1;rw [List.nil_append];show (f9 u).length<=_;omega)).mono ?_;rintro e wb1 ⟨vb1,rfl,Y0⟩;rw [List.nil_append] at Y0;obtain ⟨g1,Yb,rfl,OH,PH,Gl⟩:=dt.body Y0 dh;have hx1:=J_.gr Gl;clear Y0;go_wp2_with fail
   refine (gn W1 _ (dg) 1 1 rfl g1 Yb _ (f9 u) _ Q9 hx1 PH (J_.apart OH) (by have h:=E7.out.b1;simp [dg];omega)).mono ?_;rintro e ws1 (⟨h20,v1,rfl,I6⟩|⟨h20,rfl,D1⟩);rotate_left
   · exact ⟨rfl,Kd.out _ D1,.inr (.inl ⟨M8.out,fun h=>h20 (Nat.le_trans (zk u) h),rfl⟩)⟩
   have D2:Wr W1 ws1 v1 (na u):=hx1.app I6;have L1:Hid ((na u).length<=20000):=aH h20;clear hx1 PH I6 Gl OH h20 J_;have q1:=ak D2.low K1.out;go_wp2_with fail
   clear q1;refine (po W1 (.slice none 0 0) [] u.aD _ _ R2.out HF.out (Wr.nil D2.low) (by have h:=E7.out.b2;rw [List.nil_append];show (f8 u).length<=_;omega)).mono ?_;rintro e wb2 ⟨vb2,rfl,E5⟩;rw [List.nil_append] at E5;obtain ⟨g2,Pf,rfl,QH,RH,Xh⟩:=dt.body E5 dh;have Gf:=D2.gr Xh;clear E5;go_wp2_with fail
   refine (gn W1 _ (na u) 2 2 rfl g2 Pf _ (f8 u) _ Q9 Gf.to0 RH (D2.apart QH) (by have h:=E7.out.b2;have h2:=L1.out;omega)).mono ?_;rintro e ws2 (⟨h20,v2,rfl,E8⟩|⟨h20,rfl,D1⟩);rotate_left
   · exact ⟨rfl,Kd.out _ D1,.inr (.inl ⟨M8.out,fun h=>h20 (Nat.le_trans (zi u) h),rfl⟩)⟩
   have D3:Wr W1 ws2 v2 (mf u):=Gf.app E8;have L2:Hid ((mf u).length<=20000):=aH h20;clear Gf RH E8 Xh QH h20 D2;have q2:=ak D3.low K2.out;go_wp2_with fail
   clear q2;refine (up W1 (.slice none 0 0) [] u.aE _ _ R3.out E7.out.f3 (Wr.nil D3.low) (by have h:=E7.out.b3;rw [List.nil_append];show (f_ u).length<=_;omega)).mono ?_;rintro e wb3 ⟨vb3,rfl,O'⟩;rw [List.nil_append] at O';obtain ⟨g3,R_,rfl,SH,TH,VH⟩:=dt.body O' dh;have Wv:=D3.gr VH;clear O';go_wp2_with fail
   refine (gn W1 _ (mf u) 3 3 rfl g3 R_ _ (f_ u) _ Q9 Wv.to0 TH (D3.apart SH) (by have h:=E7.out.b3;have h2:=L2.out;omega)).mono ?_;rintro e ws3 (⟨h20,v3,rfl,Kh⟩|⟨h20,rfl,D1⟩);rotate_left
   · exact ⟨rfl,Kd.out _ D1,.inr (.inl ⟨M8.out,fun h=>h20 (Nat.le_trans (yo u) h),rfl⟩)⟩
   have V5:Wr W1 ws3 v3 (mG u):=Wv.app Kh;have L3:Hid ((mG u).length<=20000):=aH h20;clear Wv TH Kh VH SH h20 D3;have q3:=ak V5.low K3.out;go_wp2_with fail
   clear q3;refine (xH W1 (.slice none 0 0) [] u.aB _ _ R4.out E7.out.f4 (Wr.nil V5.low) (by have h:=E7.out.b4;rw [List.nil_append];show (fx u).length<=_;omega)).mono ?_;rintro e wb4 ⟨vb4,rfl,Mm⟩;rw [List.nil_append] at Mm;obtain ⟨g4,cp4,rfl,WH,XH,YH⟩:=dt.body Mm dh;have Hr:=V5.gr YH;clear Mm;go_wp2_with fail
   refine (gn W1 _ (mG u) 4 4 rfl g4 cp4 _ (fx u) _ Q9 Hr.to0 XH (V5.apart WH) (by have h:=E7.out.b4;have h2:=L3.out;omega)).mono ?_;rintro e ws4 (⟨h20,v4,rfl,Nm⟩|⟨h20,rfl,D1⟩);rotate_left
   · exact ⟨rfl,Kd.out _ D1,.inr (.inl ⟨M8.out,fun h=>h20 (Nat.le_trans (yz u) h),rfl⟩)⟩
   have WC:Wr W1 ws4 v4 (jL u):=Hr.app Nm;have L4:Hid ((jL u).length<=20000):=aH h20;clear Hr XH Nm YH WH h20 V5;have q4:=ak WC.low K4.out;go_wp2_with fail
   clear q4;refine (xW W1 (.slice none 0 0) [] u.aC _ _ R5.out E7.out.f5 (Wr.nil WC.low) (by have h:=E7.out.b5;rw [List.nil_append];show (gK u).length<=_;omega)).mono ?_;rintro e wb5 ⟨vb5,rfl,Gv⟩;rw [List.nil_append] at Gv;obtain ⟨g5,D_,rfl,ZH,DI,EI⟩:=dt.body Gv dh;have EY:=WC.gr EI;clear Gv;go_wp2_with fail
   refine (gn W1 _ (jL u) 5 5 rfl g5 D_ _ (gK u) _ Q9 EY.to0 DI (WC.apart ZH) (by have h:=E7.out.b5;have h2:=L4.out;omega)).mono ?_;rintro e FY (⟨h20,v5,rfl,GY⟩|⟨h20,rfl,D1⟩);rotate_left
   · exact ⟨rfl,Kd.out _ D1,.inr (.inl ⟨M8.out,h20,rfl⟩)⟩
   have XC:Wr W1 FY v5 (enc u):=EY.app GY;have L5:Hid ((enc u).length<=20000):=aH h20;clear EY DI GY EI ZH h20 WC;obtain ⟨gz,cz,rfl,YC⟩:∃gz cz,v5=.slice (some ⟨gz,0,none⟩) (enc u).length cz/\FY.ownsRow W1.heap.size 5 1 (.slice (some ⟨gz,0,none⟩) (enc u).length cz) (enc u).length (bc (enc u)):=by
    have ho:=XC.own;rcases XC.own.2 with ⟨h1,h2⟩|⟨g,cap,cur,rfl,_⟩
    · exact absurd h2 (by unfold enc cZ;simp only [List.length_append,List.length_cons];omega)
    · exact ⟨g,cap,rfl,ho⟩
   have Tv:=q_ FY W1.heap.size gz cz (enc u) YC;have Dd:=aH (Kd.out _ XC.low);clear XC YC;go_wp2
   go_ret
   exact ⟨Dd.out,.inr (.inr ⟨M8.out,L5.out,rfl⟩)⟩
open Go.RowKit
def cI(w:World)(b:Nat)(x0 x1 x2 x3 x4:Value):Prop:=
 w.cell? ⟨b,0,none⟩=some x0/\w.cell? ⟨b,1,none⟩=some x1/\w.cell? ⟨b,2,none⟩=some x2/\w.cell? ⟨b,3,none⟩=some x3/\w.cell? ⟨b,4,none⟩=some x4/\w.frozen? ⟨b,0,none⟩=false/\w.frozen? ⟨b,1,none⟩=false/\w.frozen? ⟨b,2,none⟩=false/\w.frozen? ⟨b,3,none⟩=false/\w.frozen? ⟨b,4,none⟩=false
theorem cI.gc{w w':World}{cb b:Nat}{x0 x1 x2 x3 x4:Value}(h:cI w b x0 x1 x2 x3 x4)(g:Gc cb w w')(hb:¬b=cb):cI w' b x0 x1 x2 x3 x4:=by
 obtain ⟨h0,h1,h2,h3,h4,z0,z1,z2,z3,z4⟩:=h;exact ⟨g.box hb h0,g.box hb h1,g.box hb h2,g.box hb h3,g.box hb h4,g.boxz hb h0 z0,g.boxz hb h1 z1,g.boxz hb h2 z2,g.boxz hb h3 z3,g.boxz hb h4 z4⟩
theorem cI.gr{w w':World}{b:Nat}{x0 x1 x2 x3 x4:Value}(h:cI w b x0 x1 x2 x3 x4)(g:Gr w w'):cI w' b x0 x1 x2 x3 x4:=
 h.gc (cb:=b+1) g.toGc Q5
theorem cI.new(w:World)(t:TypeId)(x0 x1 x2 x3 x4:Value):cI (w.alloc (.cells #[x0,x1,x2,x3,x4] t)) w.heap.size x0 x1 x2 x3 x4:=by
 refine ⟨?_,?_,?_,?_,?_,?_,?_,?_,?_,?_⟩<;>simp [go_sem]
theorem cI.other{w:World}{b g o:Nat}{x0 x1 x2 x3 x4 v:Value}(h:cI w b x0 x1 x2 x3 x4)(hb:¬g=b):cI (w.setCell ⟨g,o,none⟩ v) b x0 x1 x2 x3 x4:=by
 obtain ⟨h0,h1,h2,h3,h4,z0,z1,z2,z3,z4⟩:=h;have hc:∀q,(w.setCell ⟨g,o,none⟩ v).cell? ⟨b,q,none⟩=w.cell? ⟨b,q,none⟩:=fun q=>World.cell?_setCell_other w _ _ _ (by intro e;simp only [Addr.mk.injEq] at e;exact hb e.1)
 exact ⟨(hc 0).trans h0,(hc 1).trans h1,(hc 2).trans h2,(hc 3).trans h3,(hc 4).trans h4,by rw [World.frozen?_setCell];exact z0,by rw [World.frozen?_setCell];exact z1,by rw [World.frozen?_setCell];exact z2,by rw [World.frozen?_setCell];exact z3,by rw [World.frozen?_setCell];exact z4⟩
theorem cI.set0{w:World}{b:Nat}{x0 x1 x2 x3 x4:Value}(v:Value)(h:cI w b x0 x1 x2 x3 x4):cI (w.setCell ⟨b,0,none⟩ v) b v x1 x2 x3 x4:=by
 obtain ⟨h0,h1,h2,h3,h4,z0,z1,z2,z3,z4⟩:=h;exact ⟨World.cell?_setCell_same _ _ _ h0,(aI Q5).trans h1,(aI Q5).trans h2,(aI Q5).trans h3,(aI Q5).trans h4,by rw [World.frozen?_setCell];exact z0,by rw [World.frozen?_setCell];exact z1,by rw [World.frozen?_setCell];exact z2,by rw [World.frozen?_setCell];exact z3,by rw [World.frozen?_setCell];exact z4⟩
theorem cI.set1{w:World}{b:Nat}{x0 x1 x2 x3 x4:Value}(v:Value)(h:cI w b x0 x1 x2 x3 x4):cI (w.setCell ⟨b,1,none⟩ v) b x0 v x2 x3 x4:=by
 obtain ⟨h0,h1,h2,h3,h4,z0,z1,z2,z3,z4⟩:=h;exact ⟨(aI Q5).trans h0,World.cell?_setCell_same _ _ _ h1,(aI Q5).trans h2,(aI Q5).trans h3,(aI Q5).trans h4,by rw [World.frozen?_setCell];exact z0,by rw [World.frozen?_setCell];exact z1,by rw [World.frozen?_setCell];exact z2,by rw [World.frozen?_setCell];exact z3,by rw [World.frozen?_setCell];exact z4⟩
theorem cI.set2{w:World}{b:Nat}{x0 x1 x2 x3 x4:Value}(v:Value)(h:cI w b x0 x1 x2 x3 x4):cI (w.setCell ⟨b,2,none⟩ v) b x0 x1 v x3 x4:=by
 obtain ⟨h0,h1,h2,h3,h4,z0,z1,z2,z3,z4⟩:=h;exact ⟨(aI Q5).trans h0,(aI Q5).trans h1,World.cell?_setCell_same _ _ _ h2,(aI Q5).trans h3,(aI Q5).trans h4,by rw [World.frozen?_setCell];exact z0,by rw [World.frozen?_setCell];exact z1,by rw [World.frozen?_setCell];exact z2,by rw [World.frozen?_setCell];exact z3,by rw [World.frozen?_setCell];exact z4⟩
theorem cI.set3{w:World}{b:Nat}{x0 x1 x2 x3 x4:Value}(v:Value)(h:cI w b x0 x1 x2 x3 x4):cI (w.setCell ⟨b,3,none⟩ v) b x0 x1 x2 v x4:=by
 obtain ⟨h0,h1,h2,h3,h4,z0,z1,z2,z3,z4⟩:=h;exact ⟨(aI Q5).trans h0,(aI Q5).trans h1,(aI Q5).trans h2,World.cell?_setCell_same _ _ _ h3,(aI Q5).trans h4,by rw [World.frozen?_setCell];exact z0,by rw [World.frozen?_setCell];exact z1,by rw [World.frozen?_setCell];exact z2,by rw [World.frozen?_setCell];exact z3,by rw [World.frozen?_setCell];exact z4⟩
theorem cI.set4{w:World}{b:Nat}{x0 x1 x2 x3 x4:Value}(v:Value)(h:cI w b x0 x1 x2 x3 x4):cI (w.setCell ⟨b,4,none⟩ v) b x0 x1 x2 x3 v:=by
 obtain ⟨h0,h1,h2,h3,h4,z0,z1,z2,z3,z4⟩:=h;exact ⟨(aI Q5).trans h0,(aI Q5).trans h1,(aI Q5).trans h2,(aI Q5).trans h3,World.cell?_setCell_same _ _ _ h4,by rw [World.frozen?_setCell];exact z0,by rw [World.frozen?_setCell];exact z1,by rw [World.frozen?_setCell];exact z2,by rw [World.frozen?_setCell];exact z3,by rw [World.frozen?_setCell];exact z4⟩
theorem eR{w w1 w2:World}{cb:Nat}(h:Gr w w1)(k:Gc cb w1 w2)(hc:w.heap.size<=cb):Gr w w2:=
 ⟨k.os.trans h.os,k.tape.trans h.tape,k.output.trans h.output,Nat.le_trans h.size k.size,fun i hi _=>(k.block i (Nat.lt_of_lt_of_le hi h.size) (by intro e;simp only [Option.some.injEq] at e;omega)).trans (h.block i hi Q6)⟩
theorem br{w w1:World}{g o:Nat}{v:Value}(h:Gr w w1)(hg:w.heap.size<=g):Gr w (w1.setCell ⟨g,o,none⟩ v):=
 ⟨h.os,h.tape,h.output,by simpa using h.size,fun i hi hne=>by rw [Below.heap_setCell _ _ _ _ (by show i≠g;omega)];exact h.block i hi hne⟩
theorem bw{w w':World}(g:Gr w w'){p:Addr}{x:Value}(hx:w.cell? p=some x)(h:w.frozen? p=false):w'.frozen? p=false:=
 (World.frozen?_of_block (g.block p.block (World.block_lt_of_cell? w p hx) Q6)).trans h
theorem gP{W w:World}(h:Below W.heap.size W w){p:Addr}{x:Value}(hx:W.cell? p=some x)(hz:W.frozen? p=false):w.frozen? p=false:=
 (h.frozen (World.block_lt_of_cell? W p hx)).trans hz
theorem lI{W W1 w:World}(g:Gr W W1)(h:Below W1.heap.size W1 w):Below W.heap.size W w:=
 ((Below.refl _ _).grown g (Nat.le_refl _) Q6).trans (h.mono g.size)
open Go.RowKit
theorem A0(v:Value)(w:World):(Instr.typeAssert (.iface 62 v) 20 62 true).run Tryz.prog w=.ok (.tuple #[v,.bool true]) w:=Q7
def t_(e n a:Int):List PanicEntry:= [{ v:=.iface 62 (.agg #[.int .i64 e,.int .i64 n,.int .i64 a]),recovered:=false }]
theorem bV.below{w w':World}{b:Nat}{x0 x1 x2:Value}(h:bV w b x0 x1 x2)(g:Below w.heap.size w w'):bV w' b x0 x1 x2:=by
 obtain ⟨h0,h1,h2,z0,z1,z2⟩:=h;exact ⟨ak g h0,ak g h1,ak g h2,gP g h0 z0,gP g h1 z1,gP g h2 z2⟩
def put3(w:World)(b:Nat)(x0 x1 x2:Value):World:=((w.setCell ⟨b,0,none⟩ x0).setCell ⟨b,1,none⟩ x1).setCell ⟨b,2,none⟩ x2
theorem zO(w:World)(b:Nat)(x0 x1 x2:Value):((w.setCell ⟨b,0,none⟩ x0).setCell ⟨b,1,none⟩ x1).setCell ⟨b,2,none⟩ x2=put3 w b x0 x1 x2:=rfl
theorem qG{w:World}{b:Nat}{x0 x1 x2:Value}(y0 y1 y2:Value)(h:bV w b x0 x1 x2):bV (put3 w b y0 y1 y2) b y0 y1 y2:=((h.set0 y0).set1 y1).set2 y2
theorem tg(w:World)(b:Nat)(y0 y1 y2:Value):Gc b w (put3 w b y0 y1 y2):=(((Gc.refl b w).set 0 y0).set 1 y1).set 2 y2
theorem AP(e n a:Int)(w:World):
 Calls Tryz.prog 30 #[.iface 62 (.agg #[.int .i64 e,.int .i64 n,.int .i64 a])] w fun x w'=>
  x=.returned (.agg #[.int .i64 e,.int .i64 n,.int .i64 a])/\Gr w w':=by
 have I8:∀(x:Bool) (w:World),(Op.unary .not (.bool x)).run Tryz.prog w=.ok (.bool (!x)) w:=fun _ _=>rfl
 have has:=fun (v:Value) (w:World)=>A0 v w
 go_enter Tryz.func30,Tryz.ntmps30
 go_wp2
 exact bodyPost_ret (v:=.agg #[.int .i64 e,.int .i64 n,.int .i64 a]) (by simp [results,Tryz.results30,go_sem]) rfl ⟨rfl,((Gr.refl _).alloc _).alloc _⟩
theorem uv(wb:Nat)(e n a:Int)(x0 x1 x2:Value)(Xv:List PanicEntry)(w:World)(hb:bV w wb x0 x1 x2):
 CallsD Tryz.prog 29 #[.pointer (some ⟨wb,0,none⟩)] (.panicking ({ v:=.iface 62 (.agg #[.int .i64 e,.int .i64 n,.int .i64 a]),recovered:=false } :: Xv)) w fun x u' w'=>
  x=.returned (.tuple #[])/\u'=.panicking ({ v:=.iface 62 (.agg #[.int .i64 e,.int .i64 n,.int .i64 a]),recovered:=true } :: Xv)/\∃w1,Gr w w1/\w'=put3 w1 wb (.int .i64 e) (.int .i64 n) (.int .i64 a):=by
 refine callsD_of_wpS Tryz.func29 rfl fun c₀ cs Yv=>?_
 apply wpS_seq
 apply wpS_region
 simp [wpOpsS,go_sem,recoverD,Yv,Tryz.ntmps29,Exit.thenS]
 refine wpS_of_wp ?_;have FI:(#[Value.pointer (some ⟨wb,0,none⟩)]++((Array.replicate 6 undef).setIfInBounds 1 (Value.iface 62 (Value.agg #[Value.int IntKind.i64 e,Value.int IntKind.i64 n,Value.int IntKind.i64 a]))).setIfInBounds 0 (Value.iface 62 (Value.agg #[Value.int IntKind.i64 e,Value.int IntKind.i64 n,Value.int IntKind.i64 a])):Array Value)=#[Value.pointer (some ⟨wb,0,none⟩),Value.iface 62 (Value.agg #[Value.int IntKind.i64 e,Value.int IntKind.i64 n,Value.int IntKind.i64 a]),Value.iface 62 (Value.agg #[Value.int IntKind.i64 e,Value.int IntKind.i64 n,Value.int IntKind.i64 a]),undef,undef,undef,undef]:=rfl;rw [FI];clear FI;clear Yv;go_wp2_with (go_at_call 30;refine (AP e n a _).mono ?_;rintro x w1 ⟨rfl,hg1⟩;obtain ⟨h0,h1,h2,z0,z1,z2⟩:=hb.gr hg1)
 simp [bodyPostS,results,Tryz.results29]
 exact ⟨w1,hg1,rfl⟩
theorem wJ(p:Addr)(w:World):
 CallsD Tryz.prog 29 #[.pointer (some p)] .returning w fun x u' w'=>x=.returned (.tuple #[])/\u'=.returning/\w'=w:=by
 refine callsD_of_wpS Tryz.func29 rfl fun c₀ cs hu=>?_
 apply wpS_seq
 apply wpS_region
 simp [wpOpsS,go_sem,recoverD,hu,Tryz.ntmps29,Exit.thenS]
 refine wpS_of_wp ?_;have FI:(#[Value.pointer (some p)]++((Array.replicate 6 undef).setIfInBounds 1 Value.nilIface).setIfInBounds 0 Value.nilIface:Array Value)=#[Value.pointer (some p),Value.nilIface,Value.nilIface,undef,undef,undef,undef]:=rfl;rw [FI];clear FI;go_wp2
 cases c₀
 simp_all [bodyPostS,results,Tryz.results29]
theorem iN(f:Nat)(Rb:Array Value)(W:World)(ok:World->Prop)(bad:Int->Int->Int->World->Prop)
 (NQ:∀w,(callFunc f Rb).run Tryz.prog w=.ok (.enter f Rb) w)
 (hw:Calls Tryz.prog f Rb (W.alloc (.cells #[.int .i64 0,.int .i64 0,.int .i64 0] 62)) fun x w1=>bV w1 W.heap.size (.int .i64 0) (.int .i64 0) (.int .i64 0)/\((x=.returned (.tuple #[])/\ok w1)\/∃e n a,x=.panicked (t_ e n a)/\bad e n a w1)):
 Calls Tryz.prog 16 #[.func (.func f) #[] Rb] W fun x w'=>∃w1,Gc W.heap.size w1 w'/\W.heap.size < w1.heap.size/\((x=.returned (.agg #[.int .i64 0,.int .i64 0,.int .i64 0])/\ok w1)\/∃e n a,x=.returned (.agg #[.int .i64 e,.int .i64 n,.int .i64 a])/\bad e n a w1):=by
 have Kf:∀(fn:Fn) (first cap:Array Value) (w:World),(Instr.makeFunc fn first cap).run Tryz.prog w=.ok (.func fn first cap) w:=fun _ _ _ _=>rfl
 have HW:=aH hw;clear hw;go_enter_defers Tryz.func16,Tryz.ntmps16
 go_wp2_with fail
 refine HW.out.mono ?_;clear HW NQ;rintro x w1 ⟨hb,h⟩;have Y':W.heap.size < w1.heap.size:=World.block_lt_of_cell? w1 _ hb.1;rcases h with ⟨rfl,N2⟩|⟨e,n,a,rfl,hbad⟩
 · have HO:=aH N2;have E5:=qG (.int .i64 0) (.int .i64 0) (.int .i64 0) hb;obtain ⟨h0,h1,h2,z0,z1,z2⟩:=hb;clear N2 Kf;go_wp2
   refine leaves_cons (f:=29) (args:=#[.pointer (some ⟨W.heap.size,0,none⟩)]) Q6 (by simp [go_sem]) ?_;refine (wJ _ _).mono ?_;rintro e u' Fm ⟨rfl,rfl,rfl⟩;rw [zO];obtain ⟨h0,h1,h2,z0,z1,z2⟩:=E5;simp [Leaves,settle,results,Tryz.results16,go_sem,h0,h1,h2]
   exact ⟨w1,tg _ _ _ _ _,Y',.inl HO.out⟩
 · have HO:=aH hbad;clear hbad Kf;refine leaves_cons (f:=29) (args:=#[.pointer (some ⟨W.heap.size,0,none⟩)]) Q6 (by simp [go_sem]) ?_;refine (uv W.heap.size e n a _ _ _ [] w1 hb).mono ?_;rintro x u' Fm ⟨rfl,rfl,w2,E0,rfl⟩;obtain ⟨h0,h1,h2,z0,z1,z2⟩:=qG (.int .i64 e) (.int .i64 n) (.int .i64 a) (hb.gr E0);have HG:=aH (E0.toGc.trans (tg w2 W.heap.size (.int .i64 e) (.int .i64 n) (.int .i64 a)));clear E0 hb;generalize put3 w2 W.heap.size (.int .i64 e) (.int .i64 n) (.int .i64 a)=WF at h0 h1 h2 z0 z1 z2 HG |-;simp [Leaves,settle,results,Tryz.results16,go_sem,h0,h1,h2]
   exact ⟨w1,HG.out,Y',.inr ⟨e,n,a,⟨rfl,rfl,rfl⟩,HO.out⟩⟩
def fi(u:aK):Int:=if ai u then (if (enc u).length<=20000 then 0 else 3) else 1
def ey(u:aK):List UInt8:=if ai u then (if (enc u).length<=20000 then enc u else []) else []
theorem wT(u:aK)(ub bb:Nat)(x0 x1 x2 x3 x4 v0:Value)(W:World)(hb:cI W ub x0 x1 x2 x3 x4)(hR:cO W (.agg #[x0,x1,x2,x3,x4]) u)(hF:mn u)(hv:W.cell? ⟨bb,0,none⟩=some v0)(hz:W.frozen? ⟨bb,0,none⟩=false):
 Calls Tryz.prog 24 #[.pointer (some ⟨ub,0,none⟩),.pointer (some ⟨bb,0,none⟩)] W fun x w'=>
  (x=.returned (.tuple #[])/\fi u=0/\ey u=enc u/\∃w1,Below W.heap.size W w1/\w'=w1.setCell ⟨bb,0,none⟩ (.string ⟨(enc u).toArray⟩))\/
  (∃e:Int,x=.panicked (dM e 0)/\fi u=e/\ey u= []/\Below W.heap.size W w'):=by
 obtain ⟨v1,v2,v3,v4,v5,he,k1,k2,k3,k4,k5⟩:=hR;have HR:Hid (cO W (.agg #[x0,x1,x2,x3,x4]) u):=aH ⟨v1,v2,v3,v4,v5,he,k1,k2,k3,k4,k5⟩;simp only [Value.agg.injEq,Array.mk.injEq,List.cons.injEq,and_true] at he;obtain ⟨rfl,rfl,rfl,rfl,rfl⟩:=he;obtain ⟨a1,c1,rfl⟩:=k1.shape;obtain ⟨a2,c2,rfl⟩:=k2.shape;obtain ⟨a3,c3,rfl⟩:=k3.shape;obtain ⟨a4,c4,rfl⟩:=k4.shape;obtain ⟨a5,c5,rfl⟩:=k5.shape;obtain ⟨l0,l1,l2,l3,l4,n0,n1,n2,n3,n4⟩:=hb;have HV:=aH hv;have HZ:=aH hz;clear k1 k2 k3 k4 k5 n0 n1 n2 n3 n4 hv hz;go_enter Tryz.func24,Tryz.ntmps24
 go_wp2_with fail
 refine (vR u _ _ HR.out hF).mono ?_;intro x w1 h;obtain ⟨D1,hx⟩:=h;rcases hx with ⟨N2,rfl⟩|⟨N2,hl,rfl⟩|⟨N2,hl,rfl⟩
 · exact ⟨rfl,.inr ⟨1,rfl,by unfold fi;rw [N2];rfl,by unfold ey;rw [N2];rfl,D1⟩⟩
 · exact ⟨rfl,.inr ⟨3,rfl,by unfold fi;rw [N2];simp [hl],by unfold ey;rw [N2];simp [hl],D1⟩⟩
 · have E1:Hid (fi u=0):=aH (by unfold fi;rw [N2];simp [hl]);have E2:Hid (ey u=enc u):=aH (by unfold ey;rw [N2];simp [hl]);have R7:=ak D1 HV.out;have N5:=gP D1 HV.out HZ.out;have HB:=aH D1;clear HR hF D1 hl N2 HV HZ;go_wp2
   go_end0
   exact .inl ⟨rfl,E1.out,E2.out,w1,HB.out,rfl⟩
def rB(W:World)(v1 v2 v3 v4 v5:Value):World:=(W.alloc (.cells #[v1,v2,v3,v4,v5] 29)).alloc (.cells #[.string ⟨#[]⟩] 9)
theorem ru(W:World)(v1 v2 v3 v4 v5:Value):
 cI ((rB W v1 v2 v3 v4 v5).alloc (.cells #[.int .i64 0,.int .i64 0,.int .i64 0] 62)) W.heap.size v1 v2 v3 v4 v5/\((rB W v1 v2 v3 v4 v5).alloc (.cells #[.int .i64 0,.int .i64 0,.int .i64 0] 62)).cell? ⟨W.heap.size+1,0,none⟩=some (.string ⟨#[]⟩)/\
 ((rB W v1 v2 v3 v4 v5).alloc (.cells #[.int .i64 0,.int .i64 0,.int .i64 0] 62)).frozen? ⟨W.heap.size+1,0,none⟩=false/\(rB W v1 v2 v3 v4 v5).heap.size=W.heap.size+2/\Gr W ((rB W v1 v2 v3 v4 v5).alloc (.cells #[.int .i64 0,.int .i64 0,.int .i64 0] 62)):=by
 have h1:=cI.new W 29 v1 v2 v3 v4 v5;unfold rB;refine ⟨(h1.gr ((Gr.refl _).alloc _)).gr ((Gr.refl _).alloc _),?_,?_,Q6,(((Gr.refl _).alloc _).alloc _).alloc _⟩<;>simp [go_sem]
theorem yf(W:World)(v1 v2 v3 v4 v5:Value):(W.alloc (.cells #[v1,v2,v3,v4,v5] 29)).alloc (.cells #[.string ⟨#[]⟩] 9)=rB W v1 v2 v3 v4 v5:=rfl
theorem su(u:aK)(vu:Value)(W:World)(hR:cO W vu u)(hF:mn u):
 Calls Tryz.prog 14 #[vu] W fun x w'=>x=.returned (.tuple #[.string ⟨(ey u).toArray⟩,.int .i64 (fi u)])/\Below W.heap.size W w':=by
 have Kf:∀(fn:Fn) (first cap:Array Value) (w:World),(Instr.makeFunc fn first cap).run Tryz.prog w=.ok (.func fn first cap) w:=fun _ _ _ _=>rfl
 have HRU:=aH hR;obtain ⟨v1,v2,v3,v4,v5,rfl,h1,h2,h3,h4,h5⟩:=hR;obtain ⟨a1,c1,rfl⟩:=h1.shape;obtain ⟨a2,c2,rfl⟩:=h2.shape;obtain ⟨a3,c3,rfl⟩:=h3.shape;obtain ⟨a4,c4,rfl⟩:=h4.shape;obtain ⟨a5,c5,rfl⟩:=h5.shape;have HF:=aH hF;clear h1 h2 h3 h4 h5 hF;have HE:=aH (ru W (.slice a1 u.aA.length c1) (.slice a2 u.aD.length c2) (.slice a3 u.aE.length c3) (.slice a4 u.aB.length c4) (.slice a5 u.aC.length c5));go_enter Tryz.func14,Tryz.ntmps14
 go_wp2_with fail
 rw [yf];obtain ⟨P4,hv,hz,R0,M3⟩:=HE.out;generalize rB W (.slice a1 u.aA.length c1) (.slice a2 u.aD.length c2) (.slice a3 u.aE.length c3) (.slice a4 u.aB.length c4) (.slice a5 u.aC.length c5)=V at P4 hv hz R0 M3 |-;have M1:bV (V.alloc (.cells #[.int .i64 0,.int .i64 0,.int .i64 0] 62)) V.heap.size (.int .i64 0) (.int .i64 0) (.int .i64 0):=bV.new V 62 (.int .i64 0) (.int .i64 0) (.int .i64 0);have N7:V.heap.size < (V.alloc (.cells #[.int .i64 0,.int .i64 0,.int .i64 0] 62)).heap.size:=Q6
 refine (iN 24 #[.pointer (some ⟨W.heap.size,0,none⟩),.pointer (some ⟨W.heap.size+1,0,none⟩)] V
  (fun w1=>fi u=0/\w1.cell? ⟨W.heap.size+1,0,none⟩=some (.string ⟨(ey u).toArray⟩)/\Below W.heap.size W w1)
  (fun e n a w1=>fi u=e/\w1.cell? ⟨W.heap.size+1,0,none⟩=some (.string ⟨(ey u).toArray⟩)/\Below W.heap.size W w1) (fun w=>rfl)
  ((wT u W.heap.size (W.heap.size+1) _ _ _ _ _ _ _ P4 (HRU.out.gr M3) HF.out hv hz).mono ?_)).mono ?_
 · rintro x w' (⟨rfl,e1,e2,w1,D1,rfl⟩|⟨e,rfl,e1,e2,D1⟩)
   · refine ⟨(M1.below D1).other Q5,.inl ⟨rfl,e1,?_,(lI M3 D1).setCell (p:=⟨W.heap.size+1,0,none⟩) (by show W.heap.size<=W.heap.size+1;omega) _⟩⟩;rw [e2];exact World.cell?_setCell_same _ _ _ (ak D1 hv)
   · exact ⟨M1.below D1,.inr ⟨e,0,0,rfl,e1,by rw [e2];exact ak D1 hv,lI M3 D1⟩⟩
 · clear HE P4 hv hz M3 M1 N7 HRU HF;rintro x w2 ⟨w1,hgc,_,h⟩;have hx:∃e n a:Int,x=.returned (.agg #[.int .i64 e,.int .i64 n,.int .i64 a])/\fi u=e/\w1.cell? ⟨W.heap.size+1,0,none⟩=some (.string ⟨(ey u).toArray⟩)/\Below W.heap.size W w1:=by
    rcases h with ⟨rfl,e1,e2,e3⟩|⟨e,n,a,rfl,e1,e2,e3⟩
    · exact ⟨0,0,0,rfl,e1,e2,e3⟩
    · exact ⟨e,n,a,rfl,e1,e2,e3⟩
   obtain ⟨e,n,a,rfl,he,hc,D1⟩:=hx;have S5:=hgc.box (show ¬W.heap.size+1=V.heap.size by omega) hc;have HB:=aH (D1.grown hgc D1.size (by intro k hk;simp only [Option.some.injEq] at hk;omega));have HEE:=aH he;clear hgc h D1 hc Kf he R0;have E0:=Gr.alloc (Gr.refl w2) (.cells #[.int .i64 e,.int .i64 n,.int .i64 a] 62);have E5:=bV.new w2 62 (.int .i64 e) (.int .i64 n) (.int .i64 a);have Pd:=E0.cell S5 Q6;have H9:=aH (HB.out.grown E0 HB.out.size Q6);have Yy:=E5.1;clear S5 E0 E5 HB;go_wp2
   generalize w2.alloc (.cells #[.int .i64 e,.int .i64 n,.int .i64 a] 62)=W3 at Pd Yy H9 |-;go_region_held3 (fun w'=>w'.cell? ⟨W.heap.size+1,0,none⟩=some (.string ⟨(ey u).toArray⟩)/\w'.cell? ⟨w2.heap.size,0,none⟩=some (.int .i64 e)) (go_keep) (fail)
   go_wp2
   exact bodyPost_ret (v:=.tuple #[.string ⟨(ey u).toArray⟩,.int .i64 (fi u)]) (by simp [results,Tryz.results14,go_sem,HEE.out]) rfl ⟨rfl,H9.out.drew⟩
end Go.Proofs.YtkgncijcnlfhiabGreat
