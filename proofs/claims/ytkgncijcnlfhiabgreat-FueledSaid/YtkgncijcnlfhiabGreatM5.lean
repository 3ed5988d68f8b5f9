import Derived.Test.YtkgncijcnlfhiabGreatM3
namespace Go.Proofs.YtkgncijcnlfhiabGreat
set_option maxRecDepth 100000
set_option maxHeartbeats 4000000
set_option linter.unusedVariables false
set_option linter.unusedSimpArgs false
open Go.RowKit
theorem dL.set{w:World}{mb g o:Nat}{v:Value}{r:List Int}(h:dL w mb r)(hg:mb < g):dL (w.setCell ⟨g,o,none⟩ v) mb r:=h.low fun k hk=>Below.heap_setCell _ _ _ _ (by show k≠g;omega)
def jm(mb:Nat)(w:World)(x:Ending)(w':World):Prop:=
 ∃i:aw,x=.returned (.agg #[.int .i64 i.op,.int .i64 i.a,.int .i64 i.b])/\a_ i=true/\(∃r',dL w' mb r')/\Gc mb w w'
theorem yq(mb:Nat)(r:List Int)(w:World)(h:dL w mb r)(k kk:Int)(L7:kk=k)(hk:k=0\/k=2\/k=3\/k=11\/k=12\/k=13\/k=15\/k=18\/k=19)(hq:an r 21=k):
 Calls Tryz.prog 22 #[.pointer (some ⟨mb,0,none⟩)] w (jm mb w):=by
 have HM:=aH h;have Pq:=h.lt;have HK:=aH L7;clear h L7;have H6:=aH (bV.new w 42 (.int .i64 0) (.int .i64 0) (.int .i64 0));have Vd:=aH ((Gr.alloc (Gr.refl w) (.cells #[.int .i64 0,.int .i64 0,.int .i64 0] 42)).toGc (cb:=mb));have Oa:∀V:World,Hid (dL V mb r->Calls Tryz.prog 19 #[.pointer (some ⟨mb,0,none⟩),.int .i64 21] V fun x w'=>x=.returned (.int .i64 k)/\dL w' mb r.tail/\Gc mb V w'):=fun V=>aH (by
  intro hV;have hh:=cB mb r 21 Q9 Q9 V hV;rw [hq] at hh;exact hh)
 have Ht:=aH hk;clear hq hk;go_enter Tryz.func22,Tryz.ntmps22
 go_wp2_with fail
 refine ((Oa _).out (HM.out.gr ((Gr.refl w).alloc _))).mono ?_;rintro x w1 ⟨rfl,P5,hg1⟩;have I6:w.heap.size < w1.heap.size:=by have:=hg1.size;simp at this;omega
 have hga:=Gr.alloc (Gr.refl w1) (.cells #[.int .i64 k,.int .i64 0,.int .i64 0] 42);have Y6:=aH ((H6.out.gc hg1 Q5).gc (hga.toGc (cb:=mb)) Q5);have C8:=aH (bV.new w1 42 (.int .i64 k) (.int .i64 0) (.int .i64 0));have I1:=aH ((Vd.out.trans hg1).trans (hga.toGc (cb:=mb)));have V9:=aH (P5.gr hga);have hne:¬w.heap.size=w1.heap.size:=Q5
 have Qg:¬w1.heap.size=w.heap.size:=Q5
 clear P5 hg1 hga H6 Vd Oa HM;obtain ⟨i0,i1,i2,y0,y1,y2⟩:=C8.out;obtain ⟨m0,m1,m2,n0,n1,n2⟩:=Y6.out;rcases Ht.out with rfl|rfl|rfl|rfl|rfl|rfl|rfl|rfl|rfl
 all_goals (
  have Pp:=ce (r:=r.tail) (n:=6) Q9;have G':∀V:World,Hid (dL V mb r.tail->Calls Tryz.prog 19 #[.pointer (some ⟨mb,0,none⟩),.int .i64 6] V fun x w'=>x=.returned (.int .i64 (an r.tail 6))/\dL w' mb r.tail.tail/\Gc mb V w'):=fun V=>aH (cB mb r.tail 6 Q9 Q9 V)
  generalize an r.tail 6=q1 at Pp G';go_wp2_with fail
  refine ((G' _).out V9.out).mono ?_;rintro x w2 ⟨rfl,O4,E0⟩;have Mb:=C8.out.gc E0 Q5;have T3:=Y6.out.gc E0 Q5;have X0:=I1.out.trans E0;have E8:w1.heap.size < w2.heap.size:=Nat.lt_of_lt_of_le (World.block_lt_of_cell? _ _ C8.out.1) E0.size;obtain ⟨i0,i1,i2,y0,y1,y2⟩:=Mb;obtain ⟨m0,m1,m2,n0,n1,n2⟩:=T3;have H':=aH (bV.set1 (.int .i64 q1) (C8.out.gc E0 Q5));have R6:=aH ((Y6.out.gc E0 Q5).other (g:=w1.heap.size) (o:=1) (v:=(.int .i64 q1)) Q5);have O0:=aH (aT (g:=w1.heap.size) (o:=1) (v:=(.int .i64 q1)) X0 Q5);have HM2:=aH (O4.set (g:=w1.heap.size) (o:=1) (v:=(.int .i64 q1)) Q5);clear O4 E0 X0 C8 Y6 I1 V9 G';have Xj:=ce (r:=r.tail.tail) (n:=9) Q9;have JB:∀V:World,Hid (dL V mb r.tail.tail->Calls Tryz.prog 19 #[.pointer (some ⟨mb,0,none⟩),.int .i64 9] V fun x w'=>x=.returned (.int .i64 (an r.tail.tail 9))/\dL w' mb r.tail.tail.tail/\Gc mb V w'):=fun V=>aH (cB mb r.tail.tail 9 Q9 Q9 V)
  generalize an r.tail.tail 9=q2 at Xj JB;go_wp2_with fail
  refine ((JB _).out HM2.out).mono ?_;rintro x w3 ⟨rfl,Hb,P0⟩;have Mb:=H'.out.gc P0 Q5;have T3:=R6.out.gc P0 Q5;have X0:=O0.out.trans P0;have Kh:w1.heap.size < w3.heap.size:=Nat.lt_of_lt_of_le (World.block_lt_of_cell? _ _ H'.out.1) P0.size;obtain ⟨i0,i1,i2,y0,y1,y2⟩:=Mb;obtain ⟨m0,m1,m2,n0,n1,n2⟩:=T3;have Z_:=aH (H'.out.gc P0 Q5);have F_:=aH (R6.out.gc P0 Q5);have HG3:=aH X0;have Qa:=aH Hb;clear Hb P0 X0 H' R6 O0 HM2 JB;by_cases hz:q2=0
  · have EM:=ce (r:=r.tail.tail.tail) (n:=65536) Q9;have Ij:∀V:World,Hid (dL V mb r.tail.tail.tail->Calls Tryz.prog 19 #[.pointer (some ⟨mb,0,none⟩),.int .i64 65536] V fun x w'=>x=.returned (.int .i64 (an r.tail.tail.tail 65536))/\dL w' mb r.tail.tail.tail.tail/\Gc mb V w'):=fun V=>aH (cB mb r.tail.tail.tail 65536 Q9 Q9 V)
    generalize an r.tail.tail.tail 65536=q3 at EM Ij;subst hz;go_wp2_with fail
    refine ((Ij _).out Qa.out).mono ?_;rintro x w4 ⟨rfl,Gb,T4⟩;have Mb:=Z_.out.gc T4 Q5;have T3:=F_.out.gc T4 Q5;have X0:=HG3.out.trans T4;have Nm:w1.heap.size < w4.heap.size:=Nat.lt_of_lt_of_le (World.block_lt_of_cell? _ _ Z_.out.1) T4.size;obtain ⟨i0,i1,i2,y0,y1,y2⟩:=Mb;obtain ⟨m0,m1,m2,n0,n1,n2⟩:=T3;have Wl:=aH (bV.set1 (.int .i64 q3) (Z_.out.gc T4 Q5));have Qi:=aH ((F_.out.gc T4 Q5).other (g:=w1.heap.size) (o:=1) (v:=(.int .i64 q3)) Q5);have O1:=aH (aT (g:=w1.heap.size) (o:=1) (v:=(.int .i64 q3)) X0 Q5);have Gq:=aH (Gb.set (g:=w1.heap.size) (o:=1) (v:=(.int .i64 q3)) Q5);clear Gb T4 X0 Z_ F_ HG3 Qa Ij;go_wp2
    exact bodyPost_ret (v:=.agg #[.int .i64 kk,.int .i64 q3,.int .i64 0]) (by rw [HK.out];simp [results,Tryz.results22,go_sem,m0,m1,m2]) rfl ⟨⟨kk,q3,0⟩,rfl,by rw [HK.out];simp [a_,wB,ah,aa];omega,⟨_,((Gq.out.set (g:=w.heap.size) Q5).set (g:=w.heap.size) Q5).set (g:=w.heap.size) Q5⟩,aT (aT (aT O1.out (Nat.le_refl _)) (Nat.le_refl _)) (Nat.le_refl _)⟩
  · have hzb:(q2 == 0)=false:=by simpa using hz
    go_wp2
    exact bodyPost_ret (v:=.agg #[.int .i64 kk,.int .i64 q1,.int .i64 0]) (by rw [HK.out];simp [results,Tryz.results22,go_sem,m0,m1,m2]) rfl ⟨⟨kk,q1,0⟩,rfl,by rw [HK.out];simp [a_,wB,ah,aa];omega,⟨_,((Qa.out.set (g:=w.heap.size) Q5).set (g:=w.heap.size) Q5).set (g:=w.heap.size) Q5⟩,aT (aT (aT HG3.out (Nat.le_refl _)) (Nat.le_refl _)) (Nat.le_refl _)⟩
  )
theorem yp(mb:Nat)(r:List Int)(w:World)(h:dL w mb r)(k kk:Int)(L7:kk=k)(hk:k=16\/k=17)(hq:an r 21=k):
 Calls Tryz.prog 22 #[.pointer (some ⟨mb,0,none⟩)] w (jm mb w):=by
 have HM:=aH h;have Pq:=h.lt;have HK:=aH L7;clear h L7;have H6:=aH (bV.new w 42 (.int .i64 0) (.int .i64 0) (.int .i64 0));have Vd:=aH ((Gr.alloc (Gr.refl w) (.cells #[.int .i64 0,.int .i64 0,.int .i64 0] 42)).toGc (cb:=mb));have Oa:∀V:World,Hid (dL V mb r->Calls Tryz.prog 19 #[.pointer (some ⟨mb,0,none⟩),.int .i64 21] V fun x w'=>x=.returned (.int .i64 k)/\dL w' mb r.tail/\Gc mb V w'):=fun V=>aH (by
  intro hV;have hh:=cB mb r 21 Q9 Q9 V hV;rw [hq] at hh;exact hh)
 have Ht:=aH hk;clear hq hk;go_enter Tryz.func22,Tryz.ntmps22
 go_wp2_with fail
 refine ((Oa _).out (HM.out.gr ((Gr.refl w).alloc _))).mono ?_;rintro x w1 ⟨rfl,P5,hg1⟩;have I6:w.heap.size < w1.heap.size:=by have:=hg1.size;simp at this;omega
 have hga:=Gr.alloc (Gr.refl w1) (.cells #[.int .i64 k,.int .i64 0,.int .i64 0] 42);have Y6:=aH ((H6.out.gc hg1 Q5).gc (hga.toGc (cb:=mb)) Q5);have C8:=aH (bV.new w1 42 (.int .i64 k) (.int .i64 0) (.int .i64 0));have I1:=aH ((Vd.out.trans hg1).trans (hga.toGc (cb:=mb)));have V9:=aH (P5.gr hga);have hne:¬w.heap.size=w1.heap.size:=Q5
 have Qg:¬w1.heap.size=w.heap.size:=Q5
 clear P5 hg1 hga H6 Vd Oa HM;obtain ⟨i0,i1,i2,y0,y1,y2⟩:=C8.out;obtain ⟨m0,m1,m2,n0,n1,n2⟩:=Y6.out;rcases Ht.out with rfl|rfl
 all_goals (
  have Pp:=ce (r:=r.tail) (n:=6) Q9;have G':∀V:World,Hid (dL V mb r.tail->Calls Tryz.prog 19 #[.pointer (some ⟨mb,0,none⟩),.int .i64 6] V fun x w'=>x=.returned (.int .i64 (an r.tail 6))/\dL w' mb r.tail.tail/\Gc mb V w'):=fun V=>aH (cB mb r.tail 6 Q9 Q9 V)
  generalize an r.tail 6=q1 at Pp G';go_wp2_with fail
  refine ((G' _).out V9.out).mono ?_;rintro x w2 ⟨rfl,O4,E0⟩;have Mb:=C8.out.gc E0 Q5;have T3:=Y6.out.gc E0 Q5;have X0:=I1.out.trans E0;have E8:w1.heap.size < w2.heap.size:=Nat.lt_of_lt_of_le (World.block_lt_of_cell? _ _ C8.out.1) E0.size;obtain ⟨i0,i1,i2,y0,y1,y2⟩:=Mb;obtain ⟨m0,m1,m2,n0,n1,n2⟩:=T3;have H':=aH (bV.set1 (.int .i64 q1) (C8.out.gc E0 Q5));have R6:=aH ((Y6.out.gc E0 Q5).other (g:=w1.heap.size) (o:=1) (v:=(.int .i64 q1)) Q5);have O0:=aH (aT (g:=w1.heap.size) (o:=1) (v:=(.int .i64 q1)) X0 Q5);have HM2:=aH (O4.set (g:=w1.heap.size) (o:=1) (v:=(.int .i64 q1)) Q5);clear O4 E0 X0 C8 Y6 I1 V9 G';have Xj:=ce (r:=r.tail.tail) (n:=9) Q9;have JB:∀V:World,Hid (dL V mb r.tail.tail->Calls Tryz.prog 19 #[.pointer (some ⟨mb,0,none⟩),.int .i64 9] V fun x w'=>x=.returned (.int .i64 (an r.tail.tail 9))/\dL w' mb r.tail.tail.tail/\Gc mb V w'):=fun V=>aH (cB mb r.tail.tail 9 Q9 Q9 V)
  generalize an r.tail.tail 9=q2 at Xj JB;go_wp2_with fail
  refine ((JB _).out HM2.out).mono ?_;rintro x w3 ⟨rfl,Hb,P0⟩;have Mb:=H'.out.gc P0 Q5;have T3:=R6.out.gc P0 Q5;have X0:=O0.out.trans P0;have Kh:w1.heap.size < w3.heap.size:=Nat.lt_of_lt_of_le (World.block_lt_of_cell? _ _ H'.out.1) P0.size;obtain ⟨i0,i1,i2,y0,y1,y2⟩:=Mb;obtain ⟨m0,m1,m2,n0,n1,n2⟩:=T3;have Z_:=aH (H'.out.gc P0 Q5);have F_:=aH (R6.out.gc P0 Q5);have HG3:=aH X0;have Qa:=aH Hb;clear Hb P0 X0 H' R6 O0 HM2 JB;by_cases hz:q2=0
  · have EM:=ce (r:=r.tail.tail.tail) (n:=65536) Q9;have Ij:∀V:World,Hid (dL V mb r.tail.tail.tail->Calls Tryz.prog 19 #[.pointer (some ⟨mb,0,none⟩),.int .i64 65536] V fun x w'=>x=.returned (.int .i64 (an r.tail.tail.tail 65536))/\dL w' mb r.tail.tail.tail.tail/\Gc mb V w'):=fun V=>aH (cB mb r.tail.tail.tail 65536 Q9 Q9 V)
    generalize an r.tail.tail.tail 65536=q3 at EM Ij;subst hz;go_wp2_with fail
    refine ((Ij _).out Qa.out).mono ?_;rintro x w4 ⟨rfl,Gb,T4⟩;have Mb:=Z_.out.gc T4 Q5;have T3:=F_.out.gc T4 Q5;have X0:=HG3.out.trans T4;have Nm:w1.heap.size < w4.heap.size:=Nat.lt_of_lt_of_le (World.block_lt_of_cell? _ _ Z_.out.1) T4.size;obtain ⟨i0,i1,i2,y0,y1,y2⟩:=Mb;obtain ⟨m0,m1,m2,n0,n1,n2⟩:=T3;have Wl:=aH (bV.set1 (.int .i64 q3) (Z_.out.gc T4 Q5));have Qi:=aH ((F_.out.gc T4 Q5).other (g:=w1.heap.size) (o:=1) (v:=(.int .i64 q3)) Q5);have O1:=aH (aT (g:=w1.heap.size) (o:=1) (v:=(.int .i64 q3)) X0 Q5);have Gq:=aH (Gb.set (g:=w1.heap.size) (o:=1) (v:=(.int .i64 q3)) Q5);clear Gb T4 X0 Z_ F_ HG3 Qa Ij;have hq4:=ce (r:=r.tail.tail.tail.tail) (n:=5) Q9;have Ty:∀V:World,Hid (dL V mb r.tail.tail.tail.tail->Calls Tryz.prog 19 #[.pointer (some ⟨mb,0,none⟩),.int .i64 5] V fun x w'=>x=.returned (.int .i64 (an r.tail.tail.tail.tail 5))/\dL w' mb r.tail.tail.tail.tail.tail/\Gc mb V w'):=fun V=>aH (cB mb r.tail.tail.tail.tail 5 Q9 Q9 V)
    generalize an r.tail.tail.tail.tail 5=q4 at hq4 Ty;go_wp2_with fail
    refine ((Ty _).out Gq.out).mono ?_;rintro x w5 ⟨rfl,Mj,P1⟩;have Mb:=Wl.out.gc P1 Q5;have T3:=Qi.out.gc P1 Q5;have X0:=O1.out.trans P1;have GY:w1.heap.size < w5.heap.size:=Nat.lt_of_lt_of_le (World.block_lt_of_cell? _ _ Wl.out.1) P1.size;obtain ⟨i0,i1,i2,y0,y1,y2⟩:=Mb;obtain ⟨m0,m1,m2,n0,n1,n2⟩:=T3;have HIB5:=aH (bV.set2 (.int .i64 q4) (Wl.out.gc P1 Q5));have H7:=aH ((Qi.out.gc P1 Q5).other (g:=w1.heap.size) (o:=2) (v:=(.int .i64 q4)) Q5);have T5:=aH (aT (g:=w1.heap.size) (o:=2) (v:=(.int .i64 q4)) X0 Q5);have GG:=aH (Mj.set (g:=w1.heap.size) (o:=2) (v:=(.int .i64 q4)) Q5);clear Mj P1 X0 Wl Qi O1 Gq Ty;go_wp2
    exact bodyPost_ret (v:=.agg #[.int .i64 kk,.int .i64 q3,.int .i64 q4]) (by rw [HK.out];simp [results,Tryz.results22,go_sem,m0,m1,m2]) rfl ⟨⟨kk,q3,q4⟩,rfl,by rw [HK.out];simp [a_,wB,ah,aa];omega,⟨_,((GG.out.set (g:=w.heap.size) Q5).set (g:=w.heap.size) Q5).set (g:=w.heap.size) Q5⟩,aT (aT (aT T5.out (Nat.le_refl _)) (Nat.le_refl _)) (Nat.le_refl _)⟩
  · have EM:=ce (r:=r.tail.tail.tail) (n:=5) Q9;have Ij:∀V:World,Hid (dL V mb r.tail.tail.tail->Calls Tryz.prog 19 #[.pointer (some ⟨mb,0,none⟩),.int .i64 5] V fun x w'=>x=.returned (.int .i64 (an r.tail.tail.tail 5))/\dL w' mb r.tail.tail.tail.tail/\Gc mb V w'):=fun V=>aH (cB mb r.tail.tail.tail 5 Q9 Q9 V)
    generalize an r.tail.tail.tail 5=q3 at EM Ij;have hzb:(q2 == 0)=false:=by simpa using hz
    go_wp2_with fail
    refine ((Ij _).out Qa.out).mono ?_;rintro x w4 ⟨rfl,Gb,T4⟩;have Mb:=Z_.out.gc T4 Q5;have T3:=F_.out.gc T4 Q5;have X0:=HG3.out.trans T4;have Nm:w1.heap.size < w4.heap.size:=Nat.lt_of_lt_of_le (World.block_lt_of_cell? _ _ Z_.out.1) T4.size;obtain ⟨i0,i1,i2,y0,y1,y2⟩:=Mb;obtain ⟨m0,m1,m2,n0,n1,n2⟩:=T3;have Wl:=aH (bV.set2 (.int .i64 q3) (Z_.out.gc T4 Q5));have Qi:=aH ((F_.out.gc T4 Q5).other (g:=w1.heap.size) (o:=2) (v:=(.int .i64 q3)) Q5);have O1:=aH (aT (g:=w1.heap.size) (o:=2) (v:=(.int .i64 q3)) X0 Q5);have Gq:=aH (Gb.set (g:=w1.heap.size) (o:=2) (v:=(.int .i64 q3)) Q5);clear Gb T4 X0 Z_ F_ HG3 Qa Ij;go_wp2
    exact bodyPost_ret (v:=.agg #[.int .i64 kk,.int .i64 q1,.int .i64 q3]) (by rw [HK.out];simp [results,Tryz.results22,go_sem,m0,m1,m2]) rfl ⟨⟨kk,q1,q3⟩,rfl,by rw [HK.out];simp [a_,wB,ah,aa];omega,⟨_,((Gq.out.set (g:=w.heap.size) Q5).set (g:=w.heap.size) Q5).set (g:=w.heap.size) Q5⟩,aT (aT (aT O1.out (Nat.le_refl _)) (Nat.le_refl _)) (Nat.le_refl _)⟩
  )
theorem uM(mb:Nat)(r:List Int)(w:World)(h:dL w mb r)(k kk:Int)(L7:kk=k)(hk:k=1)(hq:an r 21=k):
 Calls Tryz.prog 22 #[.pointer (some ⟨mb,0,none⟩)] w (jm mb w):=by
 have HM:=aH h;have Pq:=h.lt;have HK:=aH L7;clear h L7;have H6:=aH (bV.new w 42 (.int .i64 0) (.int .i64 0) (.int .i64 0));have Vd:=aH ((Gr.alloc (Gr.refl w) (.cells #[.int .i64 0,.int .i64 0,.int .i64 0] 42)).toGc (cb:=mb));have Oa:∀V:World,Hid (dL V mb r->Calls Tryz.prog 19 #[.pointer (some ⟨mb,0,none⟩),.int .i64 21] V fun x w'=>x=.returned (.int .i64 k)/\dL w' mb r.tail/\Gc mb V w'):=fun V=>aH (by
  intro hV;have hh:=cB mb r 21 Q9 Q9 V hV;rw [hq] at hh;exact hh)
 have Ht:=aH hk;clear hq hk;go_enter Tryz.func22,Tryz.ntmps22
 go_wp2_with fail
 refine ((Oa _).out (HM.out.gr ((Gr.refl w).alloc _))).mono ?_;rintro x w1 ⟨rfl,P5,hg1⟩;have I6:w.heap.size < w1.heap.size:=by have:=hg1.size;simp at this;omega
 have hga:=Gr.alloc (Gr.refl w1) (.cells #[.int .i64 k,.int .i64 0,.int .i64 0] 42);have Y6:=aH ((H6.out.gc hg1 Q5).gc (hga.toGc (cb:=mb)) Q5);have C8:=aH (bV.new w1 42 (.int .i64 k) (.int .i64 0) (.int .i64 0));have I1:=aH ((Vd.out.trans hg1).trans (hga.toGc (cb:=mb)));have V9:=aH (P5.gr hga);have hne:¬w.heap.size=w1.heap.size:=Q5
 have Qg:¬w1.heap.size=w.heap.size:=Q5
 clear P5 hg1 hga H6 Vd Oa HM;obtain ⟨i0,i1,i2,y0,y1,y2⟩:=C8.out;obtain ⟨m0,m1,m2,n0,n1,n2⟩:=Y6.out;obtain rfl:=Ht.out;have Pp:=ce (r:=r.tail) (n:=4294967296) Q9;have G':∀V:World,Hid (dL V mb r.tail->Calls Tryz.prog 19 #[.pointer (some ⟨mb,0,none⟩),.int .i64 4294967296] V fun x w'=>x=.returned (.int .i64 (an r.tail 4294967296))/\dL w' mb r.tail.tail/\Gc mb V w'):=fun V=>aH (cB mb r.tail 4294967296 Q9 Q9 V)
 generalize an r.tail 4294967296=q1 at Pp G';go_wp2_with fail
 refine ((G' _).out V9.out).mono ?_;rintro x w2 ⟨rfl,O4,E0⟩;have Mb:=C8.out.gc E0 Q5;have T3:=Y6.out.gc E0 Q5;have X0:=I1.out.trans E0;have E8:w1.heap.size < w2.heap.size:=Nat.lt_of_lt_of_le (World.block_lt_of_cell? _ _ C8.out.1) E0.size;obtain ⟨i0,i1,i2,y0,y1,y2⟩:=Mb;obtain ⟨m0,m1,m2,n0,n1,n2⟩:=T3;have H':=aH (bV.set1 (.int .i64 (q1 - 2147483648)) (C8.out.gc E0 Q5));have R6:=aH ((Y6.out.gc E0 Q5).other (g:=w1.heap.size) (o:=1) (v:=(.int .i64 (q1 - 2147483648))) Q5);have O0:=aH (aT (g:=w1.heap.size) (o:=1) (v:=(.int .i64 (q1 - 2147483648))) X0 Q5);have HM2:=aH (O4.set (g:=w1.heap.size) (o:=1) (v:=(.int .i64 (q1 - 2147483648))) Q5);clear O4 E0 X0 C8 Y6 I1 V9 G';have S3:IntKind.i64.wrap (q1 - 2147483648)=q1 - 2147483648:=Q_;go_wp2
 exact bodyPost_ret (v:=.agg #[.int .i64 kk,.int .i64 (q1 - 2147483648),.int .i64 0]) (by rw [HK.out];simp [results,Tryz.results22,go_sem,m0,m1,m2]) rfl ⟨⟨kk,q1 - 2147483648,0⟩,rfl,by rw [HK.out];simp [a_,wB,ah,aa];omega,⟨_,((HM2.out.set (g:=w.heap.size) Q5).set (g:=w.heap.size) Q5).set (g:=w.heap.size) Q5⟩,aT (aT (aT O0.out (Nat.le_refl _)) (Nat.le_refl _)) (Nat.le_refl _)⟩
theorem xf(mb:Nat)(r:List Int)(w:World)(h:dL w mb r)(k kk:Int)(L7:kk=k)(hk:k=4\/k=5\/k=6\/k=7\/k=8\/k=9\/k=10\/k=14\/k=20)(hq:an r 21=k):
 Calls Tryz.prog 22 #[.pointer (some ⟨mb,0,none⟩)] w (jm mb w):=by
 have HM:=aH h;have Pq:=h.lt;have HK:=aH L7;clear h L7;have H6:=aH (bV.new w 42 (.int .i64 0) (.int .i64 0) (.int .i64 0));have Vd:=aH ((Gr.alloc (Gr.refl w) (.cells #[.int .i64 0,.int .i64 0,.int .i64 0] 42)).toGc (cb:=mb));have Oa:∀V:World,Hid (dL V mb r->Calls Tryz.prog 19 #[.pointer (some ⟨mb,0,none⟩),.int .i64 21] V fun x w'=>x=.returned (.int .i64 k)/\dL w' mb r.tail/\Gc mb V w'):=fun V=>aH (by
  intro hV;have hh:=cB mb r 21 Q9 Q9 V hV;rw [hq] at hh;exact hh)
 have Ht:=aH hk;clear hq hk;go_enter Tryz.func22,Tryz.ntmps22
 go_wp2_with fail
 refine ((Oa _).out (HM.out.gr ((Gr.refl w).alloc _))).mono ?_;rintro x w1 ⟨rfl,P5,hg1⟩;have I6:w.heap.size < w1.heap.size:=by have:=hg1.size;simp at this;omega
 have hga:=Gr.alloc (Gr.refl w1) (.cells #[.int .i64 k,.int .i64 0,.int .i64 0] 42);have Y6:=aH ((H6.out.gc hg1 Q5).gc (hga.toGc (cb:=mb)) Q5);have C8:=aH (bV.new w1 42 (.int .i64 k) (.int .i64 0) (.int .i64 0));have I1:=aH ((Vd.out.trans hg1).trans (hga.toGc (cb:=mb)));have V9:=aH (P5.gr hga);have hne:¬w.heap.size=w1.heap.size:=Q5
 have Qg:¬w1.heap.size=w.heap.size:=Q5
 obtain ⟨p0,p1,p2,r0,r1,r2⟩:=H6.out.gc hg1 Q5;have Jn:=aH P5;have D7:=aH (Vd.out.trans hg1);clear P5 hg1 hga H6 Vd Oa HM;obtain ⟨i0,i1,i2,y0,y1,y2⟩:=C8.out;obtain ⟨m0,m1,m2,n0,n1,n2⟩:=Y6.out;clear m0 m1 m2 n0 n1 n2;have HF:=aH ((((bV.set0 (.int .i64 k) (show bV w1 w.heap.size (.int .i64 0) (.int .i64 0) (.int .i64 0) from ⟨p0,p1,p2,r0,r1,r2⟩)).set1 (.int .i64 0)).set2 (.int .i64 0)).gc ((Gr.alloc (Gr.refl _) (.cells #[.int .i64 k,.int .i64 0,.int .i64 0] 42)).toGc (cb:=mb)) Q5);rcases Ht.out with rfl|rfl|rfl|rfl|rfl|rfl|rfl|rfl|rfl
 all_goals (
  go_wp2
  obtain ⟨c0,c1,c2,_,_,_⟩:=HF.out;exact bodyPost_ret (v:=.agg #[.int .i64 kk,.int .i64 0,.int .i64 0]) (by rw [HK.out];simp [results,Tryz.results22,go_sem,c0,c1,c2]) rfl ⟨⟨kk,0,0⟩,rfl,by rw [HK.out];simp [a_,wB,ah,aa],⟨_,(((Jn.out.set (g:=w.heap.size) Q5).set (g:=w.heap.size) Q5).set (g:=w.heap.size) Q5).gr ((Gr.refl _).alloc _)⟩,Gc.trans_ (aT (aT (aT D7.out (Nat.le_refl _)) (Nat.le_refl _)) (Nat.le_refl _)) ((Gr.refl _).alloc _).toGc⟩
  )
theorem yn(mb:Nat)(r:List Int)(w:World)(h:dL w mb r):
 Calls Tryz.prog 22 #[.pointer (some ⟨mb,0,none⟩)] w (jm mb w):=by
 have hq:=ce (r:=r) (n:=21) Q9;have hc:(an r 21=0\/an r 21=2\/an r 21=3\/an r 21=11\/an r 21=12\/an r 21=13\/an r 21=15\/an r 21=18\/an r 21=19)\/(an r 21=16\/an r 21=17)\/(an r 21=1)\/(an r 21=4\/an r 21=5\/an r 21=6\/an r 21=7\/an r 21=8\/an r 21=9\/an r 21=10\/an r 21=14\/an r 21=20):=Q5
 rcases hc with hc|hc|hc|hc
 · exact yq mb r w h _ _ rfl hc rfl
 · exact yp mb r w h _ _ rfl hc rfl
 · exact uM mb r w h _ _ rfl hc rfl
 · exact xf mb r w h _ _ rfl hc rfl
open Go.RowKit
def dN(P:Nat->Prop)(w:World)(v:Value)(l:List Int):Prop:=
 ∃ao cap,v=.slice ao l.length cap/\l.length<=maxLen/\∀i y,l[i]? =some y->∃b off,ao=some ⟨b,off,none⟩/\P b/\w.cell? ⟨b,off+i,none⟩=some (.int .i64 y)
def ii(P:Nat->Prop)(w:World)(v:Value)(l:List (List Int)):Prop:=
 ∃ao cap,v=.slice ao l.length cap/\l.length<=maxLen/\∀i x,l[i]? =some x->∃b off vx,ao=some ⟨b,off,none⟩/\P b/\w.cell? ⟨b,off+i,none⟩=some vx/\dN P w vx x
def kO(P:Nat->Prop)(w:World)(v:Value)(l:List aw):Prop:=
 ∃ao cap,v=.slice ao l.length cap/\l.length<=maxLen/\∀i x,l[i]? =some x->∃b off,ao=some ⟨b,off,none⟩/\P b/\
  w.cell? ⟨b,off+i * 3,none⟩=some (.int .i64 x.op)/\w.cell? ⟨b,off+i * 3+1,none⟩=some (.int .i64 x.a)/\w.cell? ⟨b,off+i * 3+2,none⟩=some (.int .i64 x.b)
def j5(P:Nat->Prop)(w:World)(v:Value)(l:List aO):Prop:=
 ∃ao cap,v=.slice ao l.length cap/\l.length<=maxLen/\∀i x,l[i]? =some x->∃b off vp vl vc,ao=some ⟨b,off,none⟩/\P b/\
  w.cell? ⟨b,off+i * 4,none⟩=some vp/\w.cell? ⟨b,off+i * 4+1,none⟩=some (.int .i64 x.result)/\w.cell? ⟨b,off+i * 4+2,none⟩=some vl/\w.cell? ⟨b,off+i * 4+3,none⟩=some vc/\
  dN P w vp x.aF/\dN P w vl x.aG/\kO P w vc x.code
def gi(P:Nat->Prop)(w:World)(v:Value)(l:List fK):Prop:=
 ∃ao cap,v=.slice ao l.length cap/\l.length<=maxLen/\∀i x,l[i]? =some x->∃b off vs vp,ao=some ⟨b,off,none⟩/\P b/\
  w.cell? ⟨b,off+i * 3,none⟩=some vs/\w.cell? ⟨b,off+i * 3+1,none⟩=some vp/\w.cell? ⟨b,off+i * 3+2,none⟩=some (.int .i64 x.result)/\
  ei vs x.name/\dN P w vp x.aF
def gh(P:Nat->Prop)(w:World)(v:Value)(l:List dq):Prop:=
 ∃ao cap,v=.slice ao l.length cap/\l.length<=maxLen/\∀i x,l[i]? =some x->∃b off vs,ao=some ⟨b,off,none⟩/\P b/\
  w.cell? ⟨b,off+i * 2,none⟩=some vs/\w.cell? ⟨b,off+i * 2+1,none⟩=some (.int .i64 x.func)/\ei vs x.name
def cE(P P':Nat->Prop)(w w':World):Prop:=∀b,P b->b < w.heap.size->w'.heap[b]? =w.heap[b]? /\P' b
theorem cE.cell{P P':Nat->Prop}{w w':World}(h:cE P P' w w'){b o:Nat}{x:Value}(hb:P b)(hx:w.cell? ⟨b,o,none⟩=some x):w'.cell? ⟨b,o,none⟩=some x/\P' b:=by
 obtain ⟨h1,h2⟩:=h b hb (World.block_lt_of_cell? w _ hx);exact ⟨(World.cell?_of_block (a:=⟨b,o,none⟩) h1).trans hx,h2⟩
theorem dN.stay{P P':Nat->Prop}{w w':World}{v:Value}{l:List Int}(h:dN P w v l)(g:cE P P' w w'):dN P' w' v l:=by
 obtain ⟨ao,cap,hv,hm,hc⟩:=h;refine ⟨ao,cap,hv,hm,fun i x hi=>?_⟩;obtain ⟨b,off,h1,h2,h3⟩:=hc i x hi;exact ⟨b,off,h1,(g.cell h2 h3).2,(g.cell h2 h3).1⟩
theorem kO.stay{P P':Nat->Prop}{w w':World}{v:Value}{l:List aw}(h:kO P w v l)(g:cE P P' w w'):kO P' w' v l:=by
 obtain ⟨ao,cap,hv,hm,hc⟩:=h;refine ⟨ao,cap,hv,hm,fun i x hi=>?_⟩;obtain ⟨b,off,h1,h2,h3,h4,h5⟩:=hc i x hi;exact ⟨b,off,h1,(g.cell h2 h3).2,(g.cell h2 h3).1,(g.cell h2 h4).1,(g.cell h2 h5).1⟩
theorem ii.stay{P P':Nat->Prop}{w w':World}{v:Value}{l:List (List Int)}(h:ii P w v l)(g:cE P P' w w'):ii P' w' v l:=by
 obtain ⟨ao,cap,hv,hm,hc⟩:=h;refine ⟨ao,cap,hv,hm,fun i x hi=>?_⟩;obtain ⟨b,off,vx,h1,h2,h3,h4⟩:=hc i x hi;exact ⟨b,off,vx,h1,(g.cell h2 h3).2,(g.cell h2 h3).1,h4.stay g⟩
theorem j5.stay{P P':Nat->Prop}{w w':World}{v:Value}{l:List aO}(h:j5 P w v l)(g:cE P P' w w'):j5 P' w' v l:=by
 obtain ⟨ao,cap,hv,hm,hc⟩:=h;refine ⟨ao,cap,hv,hm,fun i x hi=>?_⟩;obtain ⟨b,off,vp,vl,vc,h1,h2,h3,h4,h5,h6,h7,h8,h9⟩:=hc i x hi;exact ⟨b,off,vp,vl,vc,h1,(g.cell h2 h3).2,(g.cell h2 h3).1,(g.cell h2 h4).1,(g.cell h2 h5).1,(g.cell h2 h6).1,h7.stay g,h8.stay g,h9.stay g⟩
theorem gi.stay{P P':Nat->Prop}{w w':World}{v:Value}{l:List fK}(h:gi P w v l)(g:cE P P' w w'):gi P' w' v l:=by
 obtain ⟨ao,cap,hv,hm,hc⟩:=h;refine ⟨ao,cap,hv,hm,fun i x hi=>?_⟩;obtain ⟨b,off,vs,vp,h1,h2,h3,h4,h5,h6,h7⟩:=hc i x hi;exact ⟨b,off,vs,vp,h1,(g.cell h2 h3).2,(g.cell h2 h3).1,(g.cell h2 h4).1,(g.cell h2 h5).1,h6,h7.stay g⟩
theorem gh.stay{P P':Nat->Prop}{w w':World}{v:Value}{l:List dq}(h:gh P w v l)(g:cE P P' w w'):gh P' w' v l:=by
 obtain ⟨ao,cap,hv,hm,hc⟩:=h;refine ⟨ao,cap,hv,hm,fun i x hi=>?_⟩;obtain ⟨b,off,vs,h1,h2,h3,h4,h5⟩:=hc i x hi;exact ⟨b,off,vs,h1,(g.cell h2 h3).2,(g.cell h2 h3).1,(g.cell h2 h4).1,h5⟩
def Bt(B:Nat)(v:Value)(b:Nat):Prop:=B<=b/\¬v.ownBlock=some b
theorem tX{α:Type}{f:α->List Value}{n:Nat}(hf:∀x,(f x).length=n):∀{l:List α} {i j:Nat} {x:α},l[i]? =some x->j < n->(l.flatMap f)[i * n+j]? =(f x)[j]?
 | [],i,j,x,h,_=>by simp at h
 | a :: l,0,j,x,h,hj=>by
  simp only [List.getElem?_cons_zero,Option.some.injEq] at h;subst h;rw [List.flatMap_cons,Nat.zero_mul,Nat.zero_add,List.getElem?_append_left (by rw [hf];exact hj)]
 | a :: l,i+1,j,x,h,hj=>by
  rw [List.getElem?_cons_succ] at h;rw [List.flatMap_cons,List.getElem?_append_right (by rw [hf,Nat.add_mul];omega),hf,show (i+1) * n+j - n=i * n+j by rw [Nat.add_mul];omega];exact tX hf h hj
theorem xj{w:World}{B:Nat}{e:TypeId}{n len:Nat}{v:Value}{xs:List Value}(h:w.ownsRow B e n v len xs){j:Nat}(hj:j < len * n):∃g,v.ownBlock=some g/\B<=g/\(∃cap,v=.slice (some ⟨g,0,none⟩) len cap)/\w.cell? ⟨g,0+j,none⟩=xs[j]? :=by
 have h':=h;rcases h.2 with ⟨rfl,rfl⟩|⟨g,cap,cur,rfl,hg,_⟩
 · simp at hj
 · exact ⟨g,rfl,hg,⟨cap,rfl⟩,by rw [Nat.zero_add];exact h'.cellAt j hj⟩
theorem cY{w:World}{B:Nat}{e:TypeId}{n len:Nat}{v:Value}{xs:List Value}(h:w.ownsRow B e n v len xs):(∃ao cap,v=.slice ao len cap)/\len<=maxLen:=by
 rcases h.2 with ⟨rfl,rfl⟩|⟨g,cap,cur,rfl,hg,_,h1,h2,_⟩
 · exact ⟨⟨none,0,rfl⟩,by decide⟩
 · exact ⟨⟨_,_,rfl⟩,Nat.le_trans h1 h2⟩
theorem lT{w:World}{B:Nat}{e:TypeId}{n:Nat}{v:Value}{α:Type}{f:α->List Value}{l:List α}(hf:∀x,(f x).length=n)(h:w.ownsRow B e n v l.length (l.flatMap f))(hn:0 < n):
 ∃ao cap,v=.slice ao l.length cap/\l.length<=maxLen/\∀i x,l[i]? =some x->∃b,ao=some ⟨b,0,none⟩/\B<=b/\v.ownBlock=some b/\∀j,j < n->w.cell? ⟨b,0+(i * n+j),none⟩=(f x)[j]? :=by
 obtain ⟨⟨ao,cap,hv⟩,hm⟩:=cY h;refine ⟨ao,cap,hv,hm,fun i x hi=>?_⟩;have Pr:i < l.length:=(List.getElem?_eq_some_iff.1 hi).1;have hb:∀j,j < n->i * n+j < l.length * n:=fun j hj=>by
  have h1:(i+1) * n<=l.length * n:=Nat.mul_le_mul_right _ Pr;rw [Nat.add_mul] at h1;omega
 obtain ⟨g,h1,h2,⟨Se,h3⟩,_⟩:=xj h (hb 0 hn);refine ⟨g,?_,h2,h1,fun j hj=>?_⟩
 · rw [hv] at h3;simp only [Value.slice.injEq] at h3;exact h3.1
 · obtain ⟨g',k1,_,_,k4⟩:=xj h (hb j hj);rw [h1] at k1;simp only [Option.some.injEq] at k1;subst k1;rw [k4];exact tX hf hi hj
def fI(x:Int):List Value:= [.int .i64 x]
def fC(i:aw):List Value:= [.int .i64 i.op,.int .i64 i.a,.int .i64 i.b]
def fS(e:Value×List Int):List Value:= [e.1]
structure BF where
 vp:Value
 vl:Value
 vc:Value
 f:aO
def fF(e:BF):List Value:= [e.vp,.int .i64 e.f.result,e.vl,e.vc]
structure BI where
 vs:Value
 vp:Value
 i:fK
def fM(e:BI):List Value:= [e.vs,e.vp,.int .i64 e.i.result]
structure BE where
 vs:Value
 e:dq
def fE(e:BE):List Value:= [e.vs,.int .i64 e.e.func]
theorem lC{P:Nat->Prop}{w:World}{B:Nat}{e:TypeId}{v:Value}{l:List Int}(h:w.ownsRow B e 1 v l.length (l.flatMap fI))(hP:∀b,B<=b->P b):dN P w v l:=by
 obtain ⟨ao,cap,hv,hm,hc⟩:=lT (f:=fI) (fun _=>rfl) h Q9;refine ⟨ao,cap,hv,hm,fun i x hi=>?_⟩;obtain ⟨b,h1,h2,_,h3⟩:=hc i x hi;exact ⟨b,0,h1,hP b h2,by have:=h3 0 Q9;rw [Nat.mul_one] at this;exact this⟩
theorem zZ{P:Nat->Prop}{w:World}{B:Nat}{e:TypeId}{v:Value}{l:List aw}(h:w.ownsRow B e 3 v l.length (l.flatMap fC))(hP:∀b,B<=b->P b):kO P w v l:=by
 obtain ⟨ao,cap,hv,hm,hc⟩:=lT (f:=fC) (fun _=>rfl) h Q9;refine ⟨ao,cap,hv,hm,fun i x hi=>?_⟩;obtain ⟨b,h1,h2,_,h3⟩:=hc i x hi;exact ⟨b,0,h1,hP b h2,h3 0 Q9,h3 1 Q9,h3 2 Q9⟩
theorem vZ{P:Nat->Prop}{w:World}{B:Nat}{e:TypeId}{v:Value}{es:List (Value×List Int)}(h:w.ownsRow B e 1 v es.length (es.flatMap fS))(hP:∀b,B<=b->P b)(he:∀e∈es,dN P w e.1 e.2):ii P w v (es.map (·.2)):=by
 obtain ⟨ao,cap,hv,hm,hc⟩:=lT (f:=fS) (fun _=>rfl) h Q9;refine ⟨ao,cap,by rw [List.length_map];exact hv,by rw [List.length_map];exact hm,fun i x hi=>?_⟩;rw [List.getElem?_map,Option.map_eq_some_iff] at hi;obtain ⟨y,hy,rfl⟩:=hi;obtain ⟨b,h1,h2,_,h3⟩:=hc i y hy;exact ⟨b,0,y.1,h1,hP b h2,by have:=h3 0 Q9;rw [Nat.mul_one] at this;exact this,he y (List.mem_of_getElem? hy)⟩
theorem wm{P:Nat->Prop}{w:World}{B:Nat}{e:TypeId}{v:Value}{es:List BF}(h:w.ownsRow B e 4 v es.length (es.flatMap fF))(hP:∀b,B<=b->P b)(he:∀e∈es,dN P w e.vp e.f.aF/\dN P w e.vl e.f.aG/\kO P w e.vc e.f.code):j5 P w v (es.map (·.f)):=by
 obtain ⟨ao,cap,hv,hm,hc⟩:=lT (f:=fF) (fun _=>rfl) h Q9;refine ⟨ao,cap,by rw [List.length_map];exact hv,by rw [List.length_map];exact hm,fun i x hi=>?_⟩;rw [List.getElem?_map,Option.map_eq_some_iff] at hi;obtain ⟨y,hy,rfl⟩:=hi;obtain ⟨b,h1,h2,_,h3⟩:=hc i y hy;obtain ⟨k1,k2,k3⟩:=he y (List.mem_of_getElem? hy);exact ⟨b,0,y.vp,y.vl,y.vc,h1,hP b h2,h3 0 Q9,h3 1 Q9,h3 2 Q9,h3 3 Q9,k1,k2,k3⟩
theorem yg{P:Nat->Prop}{w:World}{B:Nat}{e:TypeId}{v:Value}{es:List BI}(h:w.ownsRow B e 3 v es.length (es.flatMap fM))(hP:∀b,B<=b->P b)(he:∀e∈es,ei e.vs e.i.name/\dN P w e.vp e.i.aF):gi P w v (es.map (·.i)):=by
 obtain ⟨ao,cap,hv,hm,hc⟩:=lT (f:=fM) (fun _=>rfl) h Q9;refine ⟨ao,cap,by rw [List.length_map];exact hv,by rw [List.length_map];exact hm,fun i x hi=>?_⟩;rw [List.getElem?_map,Option.map_eq_some_iff] at hi;obtain ⟨y,hy,rfl⟩:=hi;obtain ⟨b,h1,h2,_,h3⟩:=hc i y hy;obtain ⟨k1,k2⟩:=he y (List.mem_of_getElem? hy);exact ⟨b,0,y.vs,y.vp,h1,hP b h2,h3 0 Q9,h3 1 Q9,h3 2 Q9,k1,k2⟩
theorem tq{P:Nat->Prop}{w:World}{B:Nat}{e:TypeId}{v:Value}{es:List BE}(h:w.ownsRow B e 2 v es.length (es.flatMap fE))(hP:∀b,B<=b->P b)(he:∀e∈es,ei e.vs e.e.name):gh P w v (es.map (·.e)):=by
 obtain ⟨ao,cap,hv,hm,hc⟩:=lT (f:=fE) (fun _=>rfl) h Q9;refine ⟨ao,cap,by rw [List.length_map];exact hv,by rw [List.length_map];exact hm,fun i x hi=>?_⟩;rw [List.getElem?_map,Option.map_eq_some_iff] at hi;obtain ⟨y,hy,rfl⟩:=hi;obtain ⟨b,h1,h2,_,h3⟩:=hc i y hy;exact ⟨b,0,y.vs,h1,hP b h2,h3 0 Q9,h3 1 Q9,he y (List.mem_of_getElem? hy)⟩
theorem Ap.stay{B:Nat}{e:TypeId}{n:Nat}{w w':World}{v v':Value}{len:Nat}{xs:List Value}(h:Ap B e n w v w' v' len xs):cE (Bt B v) (Bt B v') w w':=by
 intro b hb hl;refine ⟨h.frm.block b hl (fun e=>hb.2 e.symm),hb.1,fun e=>?_⟩;rcases h.lies b e with k|k
 · exact hb.2 k
 · omega
theorem cE.set{P P':Nat->Prop}{w w':World}{g o:Nat}{u:Value}(h:cE P P' w w')(hg:∀b,P b->¬b=g):cE P P' w (w'.setCell ⟨g,o,none⟩ u):=by
 intro b hb hl;exact ⟨by rw [Below.heap_setCell _ _ _ _ (hg b hb)];exact (h b hb hl).1,(h b hb hl).2⟩
theorem cE.gc{P:Nat->Prop}{w w':World}{mb:Nat}(h:Gc mb w w')(hg:∀b,P b->¬b=mb):cE P P w w':=by
 intro b hb hl;exact ⟨h.block b hl (by intro e;simp only [Option.some.injEq] at e;exact hg b hb e),hb⟩
theorem cE.trans{P P' P'':Nat->Prop}{w w' Fm:World}(h:cE P P' w w')(k:cE P' P'' w' Fm)(hs:w.heap.size<=w'.heap.size):cE P P'' w Fm:=by
 intro b hb hl;obtain ⟨h1,h2⟩:=h b hb hl;obtain ⟨k1,k2⟩:=k b h2 (Nat.lt_of_lt_of_le hl hs);exact ⟨k1.trans h1,k2⟩
end Go.Proofs.YtkgncijcnlfhiabGreat
