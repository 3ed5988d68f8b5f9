import Derived.Lib.SlBytesConst
import Derived.Test.YtkgncijcnlfhiaaGreatD1
import Derived.Test.YtkgncijcnlfhiaaGreatRg2
import Derived.Test.YtkgncijcnlfhiaaGreatS1
import Derived.Defers
import Derived.Recover
namespace Go.Proofs.YtkgncijcnlfhiaaGreat
set_option maxRecDepth 100000
set_option maxHeartbeats 4000000
set_option linter.unusedVariables false
set_option linter.unusedSimpArgs false
open Go.RowKit
theorem db.body{W w w':World}{vb:Value}{b:List UInt8}(k:db W.heap.size w (.slice none 0 0) w' vb b)(hb:1≤b.length):
 ∃g cap,vb=.slice (some ⟨g,0,none⟩) b.length cap∧w.heap.size≤g∧w'.ownsRow W.heap.size 5 1 (.slice (some ⟨g,0,none⟩) b.length cap) b.length (bc b)∧Gr w w':=by
 have ho:=k.own;rcases k.own.2 with ⟨h1,h2⟩|⟨g,cap,cur,rfl,_⟩
 · omega
 · refine ⟨g,cap,rfl,?_,ho,k.frm⟩;rcases k.lies g rfl with e|e
   · simp [Value.ownBlock] at e
   · exact e
theorem Wr.nil{W w:World}(h:Below W.heap.size W w):Wr W w (.slice none 0 0) []:=⟨h,⟨by simp [bc],.inl ⟨rfl,rfl⟩⟩⟩
theorem Wr.apart{W w:World}{v:Value}{l:List UInt8}(h:Wr W w v l){g:Nat}(hg:w.heap.size≤g):v.ownBlock≠some g:=fun e=>by have:=(h.own.lt g e).2;omega
theorem tB(W w:World)(h:W.heap.size≤w.heap.size):vj W.heap.size (w.alloc (.cells #[.int .u8 75,.int .u8 73,.int .u8 76,.int .u8 78,.int .u8 1] 5 (5,6))) (.slice (some ⟨w.heap.size,0,none⟩) 5 5) dW:=by
 refine .inr ⟨w.heap.size,h,by simp,rfl,fun j u hu=>?_⟩;have hj:j < 5:=by have:=List.getElem?_eq_some_iff.1 hu;exact this.1
 have hadd:(⟨w.heap.size,0,none⟩:Addr).add j=⟨w.heap.size,j,none⟩:=by unfold Addr.add;split<;>simp_all
 rw [hadd,cell_of_row _ w.heap.size j #[.int .u8 75,.int .u8 73,.int .u8 76,.int .u8 78,.int .u8 1] 5 (5,6) (heap_alloc_new w _),←hu];have h5:j=0∨j=1∨j=2∨j=3∨j=4:=by omega
 rcases h5 with rfl|rfl|rfl|rfl|rfl<;>rfl
theorem qx(w:World)(v0 v1 v2 v3 v4:Value):(w.alloc (.cells #[v0,v1,v2,v3,v4] 33)).cell? ⟨w.heap.size,0,none⟩=some v0∧(w.alloc (.cells #[v0,v1,v2,v3,v4] 33)).cell? ⟨w.heap.size,1,none⟩=some v1∧(w.alloc (.cells #[v0,v1,v2,v3,v4] 33)).cell? ⟨w.heap.size,2,none⟩=some v2∧(w.alloc (.cells #[v0,v1,v2,v3,v4] 33)).cell? ⟨w.heap.size,3,none⟩=some v3∧(w.alloc (.cells #[v0,v1,v2,v3,v4] 33)).cell? ⟨w.heap.size,4,none⟩=some v4:=by
 refine ⟨?_,?_,?_,?_,?_⟩<;>simp [go_sem]
theorem sp{W w:World}{o:Obj}(h:Below (W.alloc o).heap.size (W.alloc o) w):Below W.heap.size W w:=
 ((Below.refl _ _).alloc (Nat.le_refl _) o).trans (h.mono (by simp))
theorem gM(W:World)(v:Value)(l:List UInt8)(z:Int)(n:Nat)(hz:z=n)(g cap base2:Nat)(m:List UInt8)(w:World)(hn:n≤5)(hw:tT W w v l)
 (hm:w.ownsRow base2 5 1 (.slice (some ⟨g,0,none⟩) m.length cap) m.length (bc m)) (hne:v.ownBlock≠some g) (hlen:l.length+m.length≤5000000):
 Calls Tryz.prog 52 #[v,.int .u8 z,.slice (some ⟨g,0,none⟩) m.length cap] w fun x w'=>
  ((l++cS n m).length≤20000∧∃v',x=.returned v'∧db W.heap.size w v w' v' (l++cS n m))∨
  (¬(l++cS n m).length≤20000∧x=.panicked (dF 3 0)∧Below W.heap.size W w'):=by
 subst hz;exact ma W v l n g cap base2 m w hn hw hm hne hlen
def AK(u:aK)(W:World)(x:Ending)(w':World):Prop:=
 Below W.heap.size W w'∧((ak u=false∧x=.panicked (dF 1 0))∨(ak u=true∧¬(enc u).length≤20000∧x=.panicked (dF 3 0))∨(ak u=true∧(enc u).length≤20000∧x=.returned (.string ⟨(enc u).toArray⟩)))
theorem xg(u:aK):(mY u).length≤(enc u).length:=by unfold enc iV lG lV;simp only [List.length_append];omega
theorem wz(u:aK):(lV u).length≤(enc u).length:=by unfold enc iV lG;simp only [List.length_append];omega
theorem xT(u:aK):(lG u).length≤(enc u).length:=by unfold enc iV;simp only [List.length_append];omega
theorem xd(u:aK):(iV u).length≤(enc u).length:=by unfold enc;simp only [List.length_append];omega
theorem tW(u:aK)(vu:Value)(W:World)(hR:cD W vu u)(hF:mf u):
 Calls Tryz.prog 29 #[vu] W (AK u W):=by
 have HRU:=aH hR;obtain ⟨v1,v2,v3,v4,v5,rfl,h1,h2,h3,h4,h5⟩:=hR;obtain ⟨a1,c1,rfl⟩:=h1.shape;obtain ⟨a2,c2,rfl⟩:=h2.shape;obtain ⟨a3,c3,rfl⟩:=h3.shape;obtain ⟨a4,c4,rfl⟩:=h4.shape;obtain ⟨a5,c5,rfl⟩:=h5.shape;obtain ⟨k0,k1,k2,k3,k4⟩:=qx W (.slice a1 u.aA.length c1) (.slice a2 u.aD.length c2) (.slice a3 u.aE.length c3) (.slice a4 u.aB.length c4) (.slice a5 u.aC.length c5);have hgB:=World.grownBy_alloc W (.cells #[.slice a1 u.aA.length c1,.slice a2 u.aD.length c2,.slice a3 u.aE.length c3,.slice a4 u.aB.length c4,.slice a5 u.aC.length c5] 33) none;obtain ⟨W1,hW1⟩:∃W1,W1=W.alloc (.cells #[.slice a1 u.aA.length c1,.slice a2 u.aD.length c2,.slice a3 u.aE.length c3,.slice a4 u.aB.length c4,.slice a5 u.aC.length c5] 33):=⟨_,rfl⟩;have HBB:Hid (∀w,Below W1.heap.size W1 w→Below W.heap.size W w):=aH (by rw [hW1];exact fun w h=>sp h);have HW1:=aH hW1;have K0:=aH k0;have K1:=aH k1;have K2:=aH k2;have K3:=aH k3;have K4:=aH k4;have r1:=h1.gr hgB;have r2:=h2.gr hgB;have r3:=h3.gr hgB;have r4:=h4.gr hgB;have r5:=h5.gr hgB;rw [←hW1] at r1 r2 r3 r4 r5 K0 K1 K2 K3 K4;have R1:=aH r1;have R2:=aH r2;have R3:=aH r3;have R4:=aH r4;have R5:=aH r5;clear r1 r2 r3 r4 r5 hW1;have HF:=aH hF;have hcv:=fun (w:World) (C:Array Value) (n c:Nat)=>Go.Lib.run_convert_bytes_const (P:=Tryz.prog) w 102 5 C n c Tryz.underlying102 Tryz.underlying5
 clear h1 h2 h3 h4 h5 hF k1 k2 k3 k4;cases hok:ak u
 · have HOK:=aH hok;clear hok;go_enter Tryz.func29,Tryz.ntmps29
   go_wp2_with (go_at_call 25;refine (dy (jw u _ 1 0 _ (by exact HRU.out.gr hgB)) HOK.out).mono ?_;rintro e w1 ⟨rfl,hg1⟩)
   exact ⟨rfl,((Below.refl _ _).grown hgB (Nat.le_refl _) (by simp)).grown hg1 (by simp) (by simp),.inl ⟨HOK.out,rfl⟩⟩
 · have HOK:=aH hok;have HRoom:=aH (pZ hok);clear hok;go_enter Tryz.func29,Tryz.ntmps29
   go_wp2_with (go_at_call 25;refine (bT (jw u _ 1 0 _ (by exact HRU.out.gr hgB)) HOK.out).mono ?_;rintro e w1 ⟨rfl,hg1⟩;rw [←HW1.out] at hg1;have hlow1:Below W1.heap.size W1 w1:=(Below.refl _ _).grown hg1 (Nat.le_refl _) (by simp);have q0:=aT (hlow1.alloc hlow1.size (.cells #[.int .u8 75,.int .u8 73,.int .u8 76,.int .u8 78,.int .u8 1] 5 (5,6))) K0.out)
   have hw0:tT W1 _ (.slice (some ⟨w1.heap.size,0,none⟩) 5 5) dW:=⟨hlow1.alloc hlow1.size (.cells #[.int .u8 75,.int .u8 73,.int .u8 76,.int .u8 78,.int .u8 1] 5 (5,6)),tB W1 w1 hlow1.size⟩;clear hlow1 hg1 q0 k0 hgB hcv;refine (rA W1 (.slice none 0 0) [] u.aA _ _ R1.out HRoom.out.f1 (Wr.nil hw0.low) (by have h:=HRoom.out.b1;rw [List.nil_append];show (fH u).length≤_;omega)).mono ?_;rintro e wb1 ⟨vb1,rfl,hb1⟩;rw [List.nil_append] at hb1;obtain ⟨g1,cp1,rfl,hge1,hob1,hgr1⟩:=db.body hb1 dX;have hx1:=hw0.gr hgr1;clear hb1;go_wp2_with fail
   refine (gM W1 _ (dW) 1 1 rfl g1 cp1 _ (fH u) _ (by decide) hx1 hob1 (hw0.apart hge1) (by have h:=HRoom.out.b1;simp [dW];omega)).mono ?_;rintro e ws1 (⟨h20,v1,rfl,hs1⟩|⟨h20,rfl,hlow⟩);rotate_left
   · exact ⟨rfl,HBB.out _ hlow,.inr (.inl ⟨HOK.out,fun h=>h20 (Nat.le_trans (xg u) h),rfl⟩)⟩
   have hw1:Wr W1 ws1 v1 (mY u):=hx1.app hs1;have L1:Hid ((mY u).length≤20000):=aH h20;clear hx1 hob1 hs1 hgr1 hge1 h20 hw0;have q1:=aT hw1.low K1.out;go_wp2_with fail
   clear q1;refine (oQ W1 (.slice none 0 0) [] u.aD _ _ R2.out HF.out (Wr.nil hw1.low) (by have h:=HRoom.out.b2;rw [List.nil_append];show (fL u).length≤_;omega)).mono ?_;rintro e wb2 ⟨vb2,rfl,hb2⟩;rw [List.nil_append] at hb2;obtain ⟨g2,cp2,rfl,hge2,hob2,hgr2⟩:=db.body hb2 dX;have hx2:=hw1.gr hgr2;clear hb2;go_wp2_with fail
   refine (gM W1 _ (mY u) 2 2 rfl g2 cp2 _ (fL u) _ (by decide) hx2.to0 hob2 (hw1.apart hge2) (by have h:=HRoom.out.b2;have h2:=L1.out;omega)).mono ?_;rintro e ws2 (⟨h20,v2,rfl,hs2⟩|⟨h20,rfl,hlow⟩);rotate_left
   · exact ⟨rfl,HBB.out _ hlow,.inr (.inl ⟨HOK.out,fun h=>h20 (Nat.le_trans (wz u) h),rfl⟩)⟩
   have hw2:Wr W1 ws2 v2 (lV u):=hx2.app hs2;have L2:Hid ((lV u).length≤20000):=aH h20;clear hx2 hob2 hs2 hgr2 hge2 h20 hw1;have q2:=aT hw2.low K2.out;go_wp2_with fail
   clear q2;refine (sU W1 (.slice none 0 0) [] u.aE _ _ R3.out HRoom.out.f3 (Wr.nil hw2.low) (by have h:=HRoom.out.b3;rw [List.nil_append];show (fN u).length≤_;omega)).mono ?_;rintro e wb3 ⟨vb3,rfl,hb3⟩;rw [List.nil_append] at hb3;obtain ⟨g3,cp3,rfl,hge3,hob3,hgr3⟩:=db.body hb3 dX;have hx3:=hw2.gr hgr3;clear hb3;go_wp2_with fail
   refine (gM W1 _ (lV u) 3 3 rfl g3 cp3 _ (fN u) _ (by decide) hx3.to0 hob3 (hw2.apart hge3) (by have h:=HRoom.out.b3;have h2:=L2.out;omega)).mono ?_;rintro e ws3 (⟨h20,v3,rfl,hs3⟩|⟨h20,rfl,hlow⟩);rotate_left
   · exact ⟨rfl,HBB.out _ hlow,.inr (.inl ⟨HOK.out,fun h=>h20 (Nat.le_trans (xT u) h),rfl⟩)⟩
   have hw3:Wr W1 ws3 v3 (lG u):=hx3.app hs3;have L3:Hid ((lG u).length≤20000):=aH h20;clear hx3 hob3 hs3 hgr3 hge3 h20 hw2;have q3:=aT hw3.low K3.out;go_wp2_with fail
   clear q3;refine (ut W1 (.slice none 0 0) [] u.aB _ _ R4.out HRoom.out.f4 (Wr.nil hw3.low) (by have h:=HRoom.out.b4;rw [List.nil_append];show (fO u).length≤_;omega)).mono ?_;rintro e wb4 ⟨vb4,rfl,hb4⟩;rw [List.nil_append] at hb4;obtain ⟨g4,cp4,rfl,hge4,hob4,hgr4⟩:=db.body hb4 dX;have hx4:=hw3.gr hgr4;clear hb4;go_wp2_with fail
   refine (gM W1 _ (lG u) 4 4 rfl g4 cp4 _ (fO u) _ (by decide) hx4.to0 hob4 (hw3.apart hge4) (by have h:=HRoom.out.b4;have h2:=L3.out;omega)).mono ?_;rintro e ws4 (⟨h20,v4,rfl,hs4⟩|⟨h20,rfl,hlow⟩);rotate_left
   · exact ⟨rfl,HBB.out _ hlow,.inr (.inl ⟨HOK.out,fun h=>h20 (Nat.le_trans (xd u) h),rfl⟩)⟩
   have hw4:Wr W1 ws4 v4 (iV u):=hx4.app hs4;have L4:Hid ((iV u).length≤20000):=aH h20;clear hx4 hob4 hs4 hgr4 hge4 h20 hw3;have q4:=aT hw4.low K4.out;go_wp2_with fail
   clear q4;refine (wJ W1 (.slice none 0 0) [] u.aC _ _ R5.out HRoom.out.f5 (Wr.nil hw4.low) (by have h:=HRoom.out.b5;rw [List.nil_append];show (fZ u).length≤_;omega)).mono ?_;rintro e wb5 ⟨vb5,rfl,hb5⟩;rw [List.nil_append] at hb5;obtain ⟨g5,cp5,rfl,hge5,hob5,hgr5⟩:=db.body hb5 dX;have hx5:=hw4.gr hgr5;clear hb5;go_wp2_with fail
   refine (gM W1 _ (iV u) 5 5 rfl g5 cp5 _ (fZ u) _ (by decide) hx5.to0 hob5 (hw4.apart hge5) (by have h:=HRoom.out.b5;have h2:=L4.out;omega)).mono ?_;rintro e ws5 (⟨h20,v5,rfl,hs5⟩|⟨h20,rfl,hlow⟩);rotate_left
   · exact ⟨rfl,HBB.out _ hlow,.inr (.inl ⟨HOK.out,h20,rfl⟩)⟩
   have hw5:Wr W1 ws5 v5 (enc u):=hx5.app hs5;have L5:Hid ((enc u).length≤20000):=aH h20;clear hx5 hob5 hs5 hgr5 hge5 h20 hw4;obtain ⟨gz,cz,rfl,hzz⟩:∃gz cz,v5=.slice (some ⟨gz,0,none⟩) (enc u).length cz∧ws5.ownsRow W1.heap.size 5 1 (.slice (some ⟨gz,0,none⟩) (enc u).length cz) (enc u).length (bc (enc u)):=by
    have ho:=hw5.own;rcases hw5.own.2 with ⟨h1,h2⟩|⟨g,cap,cur,rfl,_⟩
    · exact absurd h2 (by unfold enc cS;simp only [List.length_append,List.length_cons];omega)
    · exact ⟨g,cap,rfl,ho⟩
   have hconv:=oV ws5 W1.heap.size gz cz (enc u) hzz;have HLow:=aH (HBB.out _ hw5.low);clear hw5 hzz;go_wp2
   go_ret
   exact ⟨HLow.out,.inr (.inr ⟨HOK.out,L5.out,rfl⟩)⟩
open Go.RowKit
def cQ(w:World)(b:Nat)(x0 x1 x2 x3 x4:Value):Prop:=
 w.cell? ⟨b,0,none⟩=some x0∧w.cell? ⟨b,1,none⟩=some x1∧w.cell? ⟨b,2,none⟩=some x2∧w.cell? ⟨b,3,none⟩=some x3∧w.cell? ⟨b,4,none⟩=some x4∧w.frozen? ⟨b,0,none⟩=false∧w.frozen? ⟨b,1,none⟩=false∧w.frozen? ⟨b,2,none⟩=false∧w.frozen? ⟨b,3,none⟩=false∧w.frozen? ⟨b,4,none⟩=false
theorem cQ.gc{w w':World}{cb b:Nat}{x0 x1 x2 x3 x4:Value}(h:cQ w b x0 x1 x2 x3 x4)(g:Gc cb w w')(hb:¬b=cb):cQ w' b x0 x1 x2 x3 x4:=by
 obtain ⟨h0,h1,h2,h3,h4,z0,z1,z2,z3,z4⟩:=h;exact ⟨g.box hb h0,g.box hb h1,g.box hb h2,g.box hb h3,g.box hb h4,g.boxz hb h0 z0,g.boxz hb h1 z1,g.boxz hb h2 z2,g.boxz hb h3 z3,g.boxz hb h4 z4⟩
theorem cQ.gr{w w':World}{b:Nat}{x0 x1 x2 x3 x4:Value}(h:cQ w b x0 x1 x2 x3 x4)(g:Gr w w'):cQ w' b x0 x1 x2 x3 x4:=
 h.gc (cb:=b+1) g.toGc (by omega)
theorem cQ.new(w:World)(t:TypeId)(x0 x1 x2 x3 x4:Value):cQ (w.alloc (.cells #[x0,x1,x2,x3,x4] t)) w.heap.size x0 x1 x2 x3 x4:=by
 refine ⟨?_,?_,?_,?_,?_,?_,?_,?_,?_,?_⟩<;>simp [go_sem]
theorem cQ.other{w:World}{b g o:Nat}{x0 x1 x2 x3 x4 v:Value}(h:cQ w b x0 x1 x2 x3 x4)(hb:¬g=b):cQ (w.setCell ⟨g,o,none⟩ v) b x0 x1 x2 x3 x4:=by
 obtain ⟨h0,h1,h2,h3,h4,z0,z1,z2,z3,z4⟩:=h;have hc:∀q,(w.setCell ⟨g,o,none⟩ v).cell? ⟨b,q,none⟩=w.cell? ⟨b,q,none⟩:=fun q=>World.cell?_setCell_other w _ _ _ (by intro e;simp only [Addr.mk.injEq] at e;exact hb e.1)
 exact ⟨(hc 0).trans h0,(hc 1).trans h1,(hc 2).trans h2,(hc 3).trans h3,(hc 4).trans h4,by rw [World.frozen?_setCell];exact z0,by rw [World.frozen?_setCell];exact z1,by rw [World.frozen?_setCell];exact z2,by rw [World.frozen?_setCell];exact z3,by rw [World.frozen?_setCell];exact z4⟩
theorem cQ.set0{w:World}{b:Nat}{x0 x1 x2 x3 x4:Value}(v:Value)(h:cQ w b x0 x1 x2 x3 x4):cQ (w.setCell ⟨b,0,none⟩ v) b v x1 x2 x3 x4:=by
 obtain ⟨h0,h1,h2,h3,h4,z0,z1,z2,z3,z4⟩:=h;exact ⟨World.cell?_setCell_same _ _ _ h0,(aJ (by omega)).trans h1,(aJ (by omega)).trans h2,(aJ (by omega)).trans h3,(aJ (by omega)).trans h4,by rw [World.frozen?_setCell];exact z0,by rw [World.frozen?_setCell];exact z1,by rw [World.frozen?_setCell];exact z2,by rw [World.frozen?_setCell];exact z3,by rw [World.frozen?_setCell];exact z4⟩
theorem cQ.set1{w:World}{b:Nat}{x0 x1 x2 x3 x4:Value}(v:Value)(h:cQ w b x0 x1 x2 x3 x4):cQ (w.setCell ⟨b,1,none⟩ v) b x0 v x2 x3 x4:=by
 obtain ⟨h0,h1,h2,h3,h4,z0,z1,z2,z3,z4⟩:=h;exact ⟨(aJ (by omega)).trans h0,World.cell?_setCell_same _ _ _ h1,(aJ (by omega)).trans h2,(aJ (by omega)).trans h3,(aJ (by omega)).trans h4,by rw [World.frozen?_setCell];exact z0,by rw [World.frozen?_setCell];exact z1,by rw [World.frozen?_setCell];exact z2,by rw [World.frozen?_setCell];exact z3,by rw [World.frozen?_setCell];exact z4⟩
theorem cQ.set2{w:World}{b:Nat}{x0 x1 x2 x3 x4:Value}(v:Value)(h:cQ w b x0 x1 x2 x3 x4):cQ (w.setCell ⟨b,2,none⟩ v) b x0 x1 v x3 x4:=by
 obtain ⟨h0,h1,h2,h3,h4,z0,z1,z2,z3,z4⟩:=h;exact ⟨(aJ (by omega)).trans h0,(aJ (by omega)).trans h1,World.cell?_setCell_same _ _ _ h2,(aJ (by omega)).trans h3,(aJ (by omega)).trans h4,by rw [World.frozen?_setCell];exact z0,by rw [World.frozen?_setCell];exact z1,by rw [World.frozen?_setCell];exact z2,by rw [World.frozen?_setCell];exact z3,by rw [World.frozen?_setCell];exact z4⟩
theorem cQ.set3{w:World}{b:Nat}{x0 x1 x2 x3 x4:Value}(v:Value)(h:cQ w b x0 x1 x2 x3 x4):cQ (w.setCell ⟨b,3,none⟩ v) b x0 x1 x2 v x4:=by
 obtain ⟨h0,h1,h2,h3,h4,z0,z1,z2,z3,z4⟩:=h;exact ⟨(aJ (by omega)).trans h0,(aJ (by omega)).trans h1,(aJ (by omega)).trans h2,World.cell?_setCell_same _ _ _ h3,(aJ (by omega)).trans h4,by rw [World.frozen?_setCell];exact z0,by rw [World.frozen?_setCell];exact z1,by rw [World.frozen?_setCell];exact z2,by rw [World.frozen?_setCell];exact z3,by rw [World.frozen?_setCell];exact z4⟩
theorem cQ.set4{w:World}{b:Nat}{x0 x1 x2 x3 x4:Value}(v:Value)(h:cQ w b x0 x1 x2 x3 x4):cQ (w.setCell ⟨b,4,none⟩ v) b x0 x1 x2 x3 v:=by
 obtain ⟨h0,h1,h2,h3,h4,z0,z1,z2,z3,z4⟩:=h;exact ⟨(aJ (by omega)).trans h0,(aJ (by omega)).trans h1,(aJ (by omega)).trans h2,(aJ (by omega)).trans h3,World.cell?_setCell_same _ _ _ h4,by rw [World.frozen?_setCell];exact z0,by rw [World.frozen?_setCell];exact z1,by rw [World.frozen?_setCell];exact z2,by rw [World.frozen?_setCell];exact z3,by rw [World.frozen?_setCell];exact z4⟩
theorem eG{w w1 w2:World}{cb:Nat}(h:Gr w w1)(k:Gc cb w1 w2)(hc:w.heap.size≤cb):Gr w w2:=
 ⟨k.os.trans h.os,k.tape.trans h.tape,k.output.trans h.output,Nat.le_trans h.size k.size,fun i hi _=>(k.block i (Nat.lt_of_lt_of_le hi h.size) (by intro e;simp only [Option.some.injEq] at e;omega)).trans (h.block i hi (by simp))⟩
theorem bp{w w1:World}{g o:Nat}{v:Value}(h:Gr w w1)(hg:w.heap.size≤g):Gr w (w1.setCell ⟨g,o,none⟩ v):=
 ⟨h.os,h.tape,h.output,by simpa using h.size,fun i hi hne=>by rw [Below.heap_setCell _ _ _ _ (by show i≠g;omega)];exact h.block i hi hne⟩
theorem cB{w w':World}(g:Gr w w'){p:Addr}{x:Value}(hx:w.cell? p=some x)(h:w.frozen? p=false):w'.frozen? p=false:=
 (World.frozen?_of_block (g.block p.block (World.block_lt_of_cell? w p hx) (by simp))).trans h
theorem cW{W w:World}(h:Below W.heap.size W w){p:Addr}{x:Value}(hx:W.cell? p=some x)(hz:W.frozen? p=false):w.frozen? p=false:=
 (h.frozen (World.block_lt_of_cell? W p hx)).trans hz
theorem j5{W W1 w:World}(g:Gr W W1)(h:Below W1.heap.size W1 w):Below W.heap.size W w:=
 ((Below.refl _ _).grown g (Nat.le_refl _) (by simp)).trans (h.mono g.size)
theorem cQ.below{w w':World}{b:Nat}{x0 x1 x2 x3 x4:Value}(h:cQ w b x0 x1 x2 x3 x4)(g:Below w.heap.size w w'):cQ w' b x0 x1 x2 x3 x4:=by
 obtain ⟨h0,h1,h2,h3,h4,z0,z1,z2,z3,z4⟩:=h;exact ⟨aT g h0,aT g h1,aT g h2,aT g h3,aT g h4,cW g h0 z0,cW g h1 z1,cW g h2 z2,cW g h3 z3,cW g h4 z4⟩
open Go.RowKit
theorem DU(v:Value)(w:World):(Instr.typeAssert (.iface 58 v) 20 58 true).run Tryz.prog w=.ok (.tuple #[v,.bool true]) w:=by kernel_rfl
def r8(e n a:Int):List PanicEntry:= [{ v:=.iface 58 (.agg #[.int .i64 e,.int .i64 n,.int .i64 a]),recovered:=false }]
theorem cO.below{w w':World}{b:Nat}{x0 x1 x2:Value}(h:cO w b x0 x1 x2)(g:Below w.heap.size w w'):cO w' b x0 x1 x2:=by
 obtain ⟨h0,h1,h2,z0,z1,z2⟩:=h;exact ⟨aT g h0,aT g h1,aT g h2,cW g h0 z0,cW g h1 z1,cW g h2 z2⟩
def put3(w:World)(b:Nat)(x0 x1 x2:Value):World:=((w.setCell ⟨b,0,none⟩ x0).setCell ⟨b,1,none⟩ x1).setCell ⟨b,2,none⟩ x2
theorem xX(w:World)(b:Nat)(x0 x1 x2:Value):((w.setCell ⟨b,0,none⟩ x0).setCell ⟨b,1,none⟩ x1).setCell ⟨b,2,none⟩ x2=put3 w b x0 x1 x2:=rfl
theorem CC{w:World}{b:Nat}{x0 x1 x2:Value}(y0 y1 y2:Value)(h:cO w b x0 x1 x2):cO (put3 w b y0 y1 y2) b y0 y1 y2:=((h.set0 y0).set1 y1).set2 y2
theorem sP(w:World)(b:Nat)(y0 y1 y2:Value):Gc b w (put3 w b y0 y1 y2):=(((Gc.refl b w).set 0 y0).set 1 y1).set 2 y2
theorem yZ(e n a:Int)(w:World):
 Calls Tryz.prog 24 #[.iface 58 (.agg #[.int .i64 e,.int .i64 n,.int .i64 a])] w fun x w'=>
  x=.returned (.agg #[.int .i64 e,.int .i64 n,.int .i64 a])∧Gr w w':=by
 have hnot:∀(x:Bool) (w:World),(Op.unary .not (.bool x)).run Tryz.prog w=.ok (.bool (!x)) w:=fun _ _=>rfl
 have has:=fun (v:Value) (w:World)=>DU v w
 go_enter Tryz.func24,Tryz.ntmps24
 go_wp2
 exact bodyPost_ret (v:=.agg #[.int .i64 e,.int .i64 n,.int .i64 a]) (by simp [results,Tryz.results24,go_sem]) rfl ⟨rfl,((Gr.refl _).alloc _).alloc _⟩
theorem te(wb:Nat)(e n a:Int)(x0 x1 x2:Value)(older:List PanicEntry)(w:World)(hb:cO w wb x0 x1 x2):
 CallsD Tryz.prog 23 #[.pointer (some ⟨wb,0,none⟩)] (.panicking ({ v:=.iface 58 (.agg #[.int .i64 e,.int .i64 n,.int .i64 a]),recovered:=false } :: older)) w fun x u' w'=>
  x=.returned (.tuple #[])∧u'=.panicking ({ v:=.iface 58 (.agg #[.int .i64 e,.int .i64 n,.int .i64 a]),recovered:=true } :: older)∧∃w1,Gr w w1∧w'=put3 w1 wb (.int .i64 e) (.int .i64 n) (.int .i64 a):=by
 refine callsD_of_wpS Tryz.func23 rfl fun c₀ cs hmode=>?_
 apply wpS_seq
 apply wpS_region
 simp [wpOpsS,go_sem,recoverD,hmode,Tryz.ntmps23,Exit.thenS]
 refine wpS_of_wp ?_;have har:(#[Value.pointer (some ⟨wb,0,none⟩)]++((Array.replicate 6 undef).setIfInBounds 1 (Value.iface 58 (Value.agg #[Value.int IntKind.i64 e,Value.int IntKind.i64 n,Value.int IntKind.i64 a]))).setIfInBounds 0 (Value.iface 58 (Value.agg #[Value.int IntKind.i64 e,Value.int IntKind.i64 n,Value.int IntKind.i64 a])):Array Value)=#[Value.pointer (some ⟨wb,0,none⟩),Value.iface 58 (Value.agg #[Value.int IntKind.i64 e,Value.int IntKind.i64 n,Value.int IntKind.i64 a]),Value.iface 58 (Value.agg #[Value.int IntKind.i64 e,Value.int IntKind.i64 n,Value.int IntKind.i64 a]),undef,undef,undef,undef]:=rfl;rw [har];clear har;clear hmode;go_wp2_with (go_at_call 24;refine (yZ e n a _).mono ?_;rintro x w1 ⟨rfl,hg1⟩;obtain ⟨h0,h1,h2,z0,z1,z2⟩:=hb.gr hg1)
 simp [bodyPostS,results,Tryz.results23]
 exact ⟨w1,hg1,rfl⟩
theorem wn(p:Addr)(w:World):
 CallsD Tryz.prog 23 #[.pointer (some p)] .returning w fun x u' w'=>x=.returned (.tuple #[])∧u'=.returning∧w'=w:=by
 refine callsD_of_wpS Tryz.func23 rfl fun c₀ cs hu=>?_
 apply wpS_seq
 apply wpS_region
 simp [wpOpsS,go_sem,recoverD,hu,Tryz.ntmps23,Exit.thenS]
 refine wpS_of_wp ?_;have har:(#[Value.pointer (some p)]++((Array.replicate 6 undef).setIfInBounds 1 Value.nilIface).setIfInBounds 0 Value.nilIface:Array Value)=#[Value.pointer (some p),Value.nilIface,Value.nilIface,undef,undef,undef,undef]:=rfl;rw [har];clear har;go_wp2
 cases c₀
 simp_all [bodyPostS,results,Tryz.results23]
theorem gR(f:Nat)(caps:Array Value)(W:World)(ok:World→Prop)(bad:Int→Int→Int→World→Prop)
 (hen:∀w,(callFunc f caps).run Tryz.prog w=.ok (.enter f caps) w)
 (hw:Calls Tryz.prog f caps (W.alloc (.cells #[.int .i64 0,.int .i64 0,.int .i64 0] 58)) fun x w1=>cO w1 W.heap.size (.int .i64 0) (.int .i64 0) (.int .i64 0)∧((x=.returned (.tuple #[])∧ok w1)∨∃e n a,x=.panicked (r8 e n a)∧bad e n a w1)):
 Calls Tryz.prog 16 #[.func (.func f) #[] caps] W fun x w'=>∃w1,Gc W.heap.size w1 w'∧W.heap.size < w1.heap.size∧((x=.returned (.agg #[.int .i64 0,.int .i64 0,.int .i64 0])∧ok w1)∨∃e n a,x=.returned (.agg #[.int .i64 e,.int .i64 n,.int .i64 a])∧bad e n a w1):=by
 have hmf:∀(fn:Fn) (first cap:Array Value) (w:World),(Instr.makeFunc fn first cap).run Tryz.prog w=.ok (.func fn first cap) w:=fun _ _ _ _=>rfl
 have HW:=aH hw;clear hw;go_enter_defers Tryz.func16,Tryz.ntmps16
 go_wp2_with fail
 refine HW.out.mono ?_;clear HW hen;rintro x w1 ⟨hb,h⟩;have hws:W.heap.size < w1.heap.size:=World.block_lt_of_cell? w1 _ hb.1;rcases h with ⟨rfl,hok⟩|⟨e,n,a,rfl,hbad⟩
 · have HO:=aH hok;have hb2:=CC (.int .i64 0) (.int .i64 0) (.int .i64 0) hb;obtain ⟨h0,h1,h2,z0,z1,z2⟩:=hb;clear hok hmf;go_wp2
   refine leaves_cons (f:=23) (args:=#[.pointer (some ⟨W.heap.size,0,none⟩)]) (by simp) (by simp [go_sem]) ?_;refine (wn _ _).mono ?_;rintro e u' w'' ⟨rfl,rfl,rfl⟩;rw [xX];obtain ⟨h0,h1,h2,z0,z1,z2⟩:=hb2;simp [Leaves,settle,results,Tryz.results16,go_sem,h0,h1,h2]
   exact ⟨w1,sP _ _ _ _ _,hws,.inl HO.out⟩
 · have HO:=aH hbad;clear hbad hmf;refine leaves_cons (f:=23) (args:=#[.pointer (some ⟨W.heap.size,0,none⟩)]) (by simp) (by simp [go_sem]) ?_;refine (te W.heap.size e n a _ _ _ [] w1 hb).mono ?_;rintro x u' w'' ⟨rfl,rfl,w2,hg2,rfl⟩;obtain ⟨h0,h1,h2,z0,z1,z2⟩:=CC (.int .i64 e) (.int .i64 n) (.int .i64 a) (hb.gr hg2);have HG:=aH (hg2.toGc.trans (sP w2 W.heap.size (.int .i64 e) (.int .i64 n) (.int .i64 a)));clear hg2 hb;generalize put3 w2 W.heap.size (.int .i64 e) (.int .i64 n) (.int .i64 a)=WF at h0 h1 h2 z0 z1 z2 HG ⊢;simp [Leaves,settle,results,Tryz.results16,go_sem,h0,h1,h2]
   exact ⟨w1,HG.out,hws,.inr ⟨e,n,a,⟨rfl,rfl,rfl⟩,HO.out⟩⟩
def en(u:aK):Int:=if ak u then (if (enc u).length≤20000 then 0 else 3) else 1
def eW(u:aK):List UInt8:=if ak u then (if (enc u).length≤20000 then enc u else []) else []
theorem vB(u:aK)(ub bb:Nat)(x0 x1 x2 x3 x4 v0:Value)(W:World)(hb:cQ W ub x0 x1 x2 x3 x4)(hR:cD W (.agg #[x0,x1,x2,x3,x4]) u)(hF:mf u)(hv:W.cell? ⟨bb,0,none⟩=some v0)(hz:W.frozen? ⟨bb,0,none⟩=false):
 Calls Tryz.prog 28 #[.pointer (some ⟨ub,0,none⟩),.pointer (some ⟨bb,0,none⟩)] W fun x w'=>
  (x=.returned (.tuple #[])∧en u=0∧eW u=enc u∧∃w1,Below W.heap.size W w1∧w'=w1.setCell ⟨bb,0,none⟩ (.string ⟨(enc u).toArray⟩))∨
  (∃e:Int,x=.panicked (dF e 0)∧en u=e∧eW u= []∧Below W.heap.size W w'):=by
 obtain ⟨v1,v2,v3,v4,v5,he,k1,k2,k3,k4,k5⟩:=hR;have HR:Hid (cD W (.agg #[x0,x1,x2,x3,x4]) u):=aH ⟨v1,v2,v3,v4,v5,he,k1,k2,k3,k4,k5⟩;simp only [Value.agg.injEq,Array.mk.injEq,List.cons.injEq,and_true] at he;obtain ⟨rfl,rfl,rfl,rfl,rfl⟩:=he;obtain ⟨a1,c1,rfl⟩:=k1.shape;obtain ⟨a2,c2,rfl⟩:=k2.shape;obtain ⟨a3,c3,rfl⟩:=k3.shape;obtain ⟨a4,c4,rfl⟩:=k4.shape;obtain ⟨a5,c5,rfl⟩:=k5.shape;obtain ⟨l0,l1,l2,l3,l4,n0,n1,n2,n3,n4⟩:=hb;have HV:=aH hv;have HZ:=aH hz;clear k1 k2 k3 k4 k5 n0 n1 n2 n3 n4 hv hz;go_enter Tryz.func28,Tryz.ntmps28
 go_wp2_with fail
 refine (tW u _ _ HR.out hF).mono ?_;intro x w1 h;obtain ⟨hlow,hx⟩:=h;rcases hx with ⟨hok,rfl⟩|⟨hok,hl,rfl⟩|⟨hok,hl,rfl⟩
 · exact ⟨rfl,.inr ⟨1,rfl,by unfold en;rw [hok];rfl,by unfold eW;rw [hok];rfl,hlow⟩⟩
 · exact ⟨rfl,.inr ⟨3,rfl,by unfold en;rw [hok];simp [hl],by unfold eW;rw [hok];simp [hl],hlow⟩⟩
 · have E1:Hid (en u=0):=aH (by unfold en;rw [hok];simp [hl]);have E2:Hid (eW u=enc u):=aH (by unfold eW;rw [hok];simp [hl]);have hv1:=aT hlow HV.out;have hz1:=cW hlow HV.out HZ.out;have HB:=aH hlow;clear HR hF hlow hl hok HV HZ;go_wp2
   go_end0
   exact .inl ⟨rfl,E1.out,E2.out,w1,HB.out,rfl⟩
def pN(W:World)(v1 v2 v3 v4 v5:Value):World:=(W.alloc (.cells #[v1,v2,v3,v4,v5] 33)).alloc (.cells #[.string ⟨#[]⟩] 9)
theorem qq(W:World)(v1 v2 v3 v4 v5:Value):
 cQ ((pN W v1 v2 v3 v4 v5).alloc (.cells #[.int .i64 0,.int .i64 0,.int .i64 0] 58)) W.heap.size v1 v2 v3 v4 v5∧((pN W v1 v2 v3 v4 v5).alloc (.cells #[.int .i64 0,.int .i64 0,.int .i64 0] 58)).cell? ⟨W.heap.size+1,0,none⟩=some (.string ⟨#[]⟩)∧
 ((pN W v1 v2 v3 v4 v5).alloc (.cells #[.int .i64 0,.int .i64 0,.int .i64 0] 58)).frozen? ⟨W.heap.size+1,0,none⟩=false∧(pN W v1 v2 v3 v4 v5).heap.size=W.heap.size+2∧Gr W ((pN W v1 v2 v3 v4 v5).alloc (.cells #[.int .i64 0,.int .i64 0,.int .i64 0] 58)):=by
 have h1:=cQ.new W 33 v1 v2 v3 v4 v5;unfold pN;refine ⟨(h1.gr ((Gr.refl _).alloc _)).gr ((Gr.refl _).alloc _),?_,?_,by simp,(((Gr.refl _).alloc _).alloc _).alloc _⟩<;>simp [go_sem]
theorem xv(W:World)(v1 v2 v3 v4 v5:Value):(W.alloc (.cells #[v1,v2,v3,v4,v5] 33)).alloc (.cells #[.string ⟨#[]⟩] 9)=pN W v1 v2 v3 v4 v5:=rfl
theorem qo(u:aK)(vu:Value)(W:World)(hR:cD W vu u)(hF:mf u):
 Calls Tryz.prog 19 #[vu] W fun x w'=>x=.returned (.tuple #[.string ⟨(eW u).toArray⟩,.int .i64 (en u)])∧Below W.heap.size W w':=by
 have hmf:∀(fn:Fn) (first cap:Array Value) (w:World),(Instr.makeFunc fn first cap).run Tryz.prog w=.ok (.func fn first cap) w:=fun _ _ _ _=>rfl
 have HRU:=aH hR;obtain ⟨v1,v2,v3,v4,v5,rfl,h1,h2,h3,h4,h5⟩:=hR;obtain ⟨a1,c1,rfl⟩:=h1.shape;obtain ⟨a2,c2,rfl⟩:=h2.shape;obtain ⟨a3,c3,rfl⟩:=h3.shape;obtain ⟨a4,c4,rfl⟩:=h4.shape;obtain ⟨a5,c5,rfl⟩:=h5.shape;have HF:=aH hF;clear h1 h2 h3 h4 h5 hF;have HE:=aH (qq W (.slice a1 u.aA.length c1) (.slice a2 u.aD.length c2) (.slice a3 u.aE.length c3) (.slice a4 u.aB.length c4) (.slice a5 u.aC.length c5));go_enter Tryz.func19,Tryz.ntmps19
 go_wp2_with fail
 rw [xv];obtain ⟨hbx,hv,hz,hsz,hgr⟩:=HE.out;generalize pN W (.slice a1 u.aA.length c1) (.slice a2 u.aD.length c2) (.slice a3 u.aE.length c3) (.slice a4 u.aB.length c4) (.slice a5 u.aC.length c5)=V at hbx hv hz hsz hgr ⊢;have hwb:cO (V.alloc (.cells #[.int .i64 0,.int .i64 0,.int .i64 0] 58)) V.heap.size (.int .i64 0) (.int .i64 0) (.int .i64 0):=cO.new V 58 (.int .i64 0) (.int .i64 0) (.int .i64 0);have hv3:V.heap.size < (V.alloc (.cells #[.int .i64 0,.int .i64 0,.int .i64 0] 58)).heap.size:=by simp
 refine (gR 28 #[.pointer (some ⟨W.heap.size,0,none⟩),.pointer (some ⟨W.heap.size+1,0,none⟩)] V
  (fun w1=>en u=0∧w1.cell? ⟨W.heap.size+1,0,none⟩=some (.string ⟨(eW u).toArray⟩)∧Below W.heap.size W w1)
  (fun e n a w1=>en u=e∧w1.cell? ⟨W.heap.size+1,0,none⟩=some (.string ⟨(eW u).toArray⟩)∧Below W.heap.size W w1) (fun w=>rfl)
  ((vB u W.heap.size (W.heap.size+1) _ _ _ _ _ _ _ hbx (HRU.out.gr hgr) HF.out hv hz).mono ?_)).mono ?_
 · rintro x w' (⟨rfl,e1,e2,w1,hlow,rfl⟩|⟨e,rfl,e1,e2,hlow⟩)
   · refine ⟨(hwb.below hlow).other (by omega),.inl ⟨rfl,e1,?_,(j5 hgr hlow).setCell (p:=⟨W.heap.size+1,0,none⟩) (by show W.heap.size≤W.heap.size+1;omega) _⟩⟩;rw [e2];exact World.cell?_setCell_same _ _ _ (aT hlow hv)
   · exact ⟨hwb.below hlow,.inr ⟨e,0,0,rfl,e1,by rw [e2];exact aT hlow hv,j5 hgr hlow⟩⟩
 · clear HE hbx hv hz hgr hwb hv3 HRU HF;rintro x w2 ⟨w1,hgc,_,h⟩;have hx:∃e n a:Int,x=.returned (.agg #[.int .i64 e,.int .i64 n,.int .i64 a])∧en u=e∧w1.cell? ⟨W.heap.size+1,0,none⟩=some (.string ⟨(eW u).toArray⟩)∧Below W.heap.size W w1:=by
    rcases h with ⟨rfl,e1,e2,e3⟩|⟨e,n,a,rfl,e1,e2,e3⟩
    · exact ⟨0,0,0,rfl,e1,e2,e3⟩
    · exact ⟨e,n,a,rfl,e1,e2,e3⟩
   obtain ⟨e,n,a,rfl,he,hc,hlow⟩:=hx;have hc2:=hgc.box (show ¬W.heap.size+1=V.heap.size by omega) hc;have HB:=aH (hlow.grown hgc hlow.size (by intro k hk;simp only [Option.some.injEq] at hk;omega));have HEE:=aH he;clear hgc h hlow hc hmf he hsz;have hg2:=Gr.alloc (Gr.refl w2) (.cells #[.int .i64 e,.int .i64 n,.int .i64 a] 58);have hb2:=cO.new w2 58 (.int .i64 e) (.int .i64 n) (.int .i64 a);have hc3:=hg2.cell hc2 (by simp);have HB2:=aH (HB.out.grown hg2 HB.out.size (by simp));have he0:=hb2.1;clear hc2 hg2 hb2 HB;go_wp2
   generalize w2.alloc (.cells #[.int .i64 e,.int .i64 n,.int .i64 a] 58)=W3 at hc3 he0 HB2 ⊢;go_region_held3 (fun w'=>w'.cell? ⟨W.heap.size+1,0,none⟩=some (.string ⟨(eW u).toArray⟩)∧w'.cell? ⟨w2.heap.size,0,none⟩=some (.int .i64 e)) (go_keep) (fail)
   go_wp2
   exact bodyPost_ret (v:=.tuple #[.string ⟨(eW u).toArray⟩,.int .i64 (en u)]) (by simp [results,Tryz.results19,go_sem,HEE.out]) rfl ⟨rfl,HB2.out.drew⟩
end Go.Proofs.YtkgncijcnlfhiaaGreat
