import Derived.Test.YtkgncijcnlfhiabGreatR1b
namespace Go.Proofs.YtkgncijcnlfhiabGreat
set_option maxRecDepth 100000
set_option maxHeartbeats 2000000
set_option linter.unusedVariables false
set_option linter.unusedSimpArgs false
open Go.RowKit
attribute [local go_sem ↓] Go.wp_at_zero Go.wp_at_succ
theorem rX:eK 72 73 2 2 be (aM af):=by
 intro sb B t p w hS hb hB;have hsl:sb < w.heap.size:=World.block_lt_of_cell? w _ hS.2.2.2.1;have HS:=aH hS;clear hS;go_enter Tryz.func72,Tryz.ntmps72
 go_wp2_with fail
 obtain ⟨q0,q1,q2,z0,z1,z2⟩:=lL w;have Z6:Gr w (w.alloc (.cells #[.int .i64 0,.int .i64 0,.int .i64 0] 62)):=Gr.alloc (Gr.refl w) _;have Ka:(w.alloc (.cells #[.int .i64 0,.int .i64 0,.int .i64 0] 62)).heap.size=w.heap.size+1:=Q6
 refine (jH sb t p 2 Q5 _ (HS.out.gc (cb:=w.heap.size) Z6.toGc Q5)).mono ?_;generalize (w.alloc (.cells #[.int .i64 0,.int .i64 0,.int .i64 0] 62))=W0 at q0 q1 q2 z0 z1 z2 Z6 Ka |-;intro x w1 h;cases ho:cM 2 (t.drop p) with
 | none=>
  rw [ho] at h;obtain ⟨rfl,hg⟩:=h;exact ⟨rfl,by unfold ag;rw [ho];exact ⟨rfl,Gc.trans_ Z6.toGc hg⟩⟩
 | some q=>
  obtain ⟨body,r⟩:=q;rw [ho] at h;obtain ⟨nb,rfl,Oe,Pe,G0,G2,hg⟩:=h;have HE:Hid (ag 2 (aM af) (t.drop p)=match bA (aM af) body with
   | none=>none
   | some y=>some (y,r)):=aH (by unfold ag;rw [ho];cases hb:bA (aM af) body<;>simp only [hb])
  have p0:=hg.box (show ¬w.heap.size=sb by omega) q0;have p1:=hg.box (show ¬w.heap.size=sb by omega) q1;have p2:=hg.box (show ¬w.heap.size=sb by omega) q2;have y0:=hg.boxz (show ¬w.heap.size=sb by omega) q0 z0;have y1:=hg.boxz (show ¬w.heap.size=sb by omega) q1 z1;have y2:=hg.boxz (show ¬w.heap.size=sb by omega) q2 z2;have HG:=aH (Gc.trans_ (Z6.toGc (cb:=sb)) hg);have I6:w.heap.size < w1.heap.size:=by have:=hg.size;omega
  have HC:=aH G0;have J3:=aH G2;clear ho q0 q1 q2 z0 z1 z2 hg Z6 G0 G2 HS;go_wp2_with fail
  refine (pH nb w1.heap.size body 2 p _ HC.out Pe (Nat.le_refl _)).mono ?_;intro x w2 h;cases hl:aM af body with
  | none=>
   obtain ⟨rfl,E0⟩:=h.none_ hl;exact ⟨rfl,by rw [HE.out];simp only [bA,hl];exact ⟨rfl,HG.out.over E0 Q5⟩⟩
  | some q=>
   obtain ⟨y,r2⟩:=q;obtain ⟨v,rfl,hy,G_,E0⟩:=h.some_ hl;obtain ⟨a1,c1,rfl⟩:=hy.shape;have HY:=aH hy;have HL:=aH hl;have m0:=E0.box (show ¬w.heap.size=nb by omega) p0;have m1:=E0.box (show ¬w.heap.size=nb by omega) p1;have m2:=E0.box (show ¬w.heap.size=nb by omega) p2;have n0:=E0.boxz (show ¬w.heap.size=nb by omega) p0 y0;have n1:=E0.boxz (show ¬w.heap.size=nb by omega) p1 y1;have n2:=E0.boxz (show ¬w.heap.size=nb by omega) p2 y2;have O0:=aH (HG.out.over E0 Q5);have F7:=aH (J3.out.gc E0 Q5);have E8:w1.heap.size<=w2.heap.size:=E0.size;obtain ⟨⟨s,e0,es⟩,el,e1,e2,ez,e3⟩:=G_;clear h hl hy E0 p0 p1 p2 y0 y1 y2 HC J3 HG ez el;by_cases F6:r2= []
   · have Ri:s=⟨#[]⟩:=by
      have:s.data.toList= []:=es.trans F6
      cases s with|mk d=>simp at this;rw [this]
     subst Ri;have HF:Hid (ag 2 (aM af) (t.drop p)=some (y,r)):=aH (by rw [HE.out];simp only [bA,HL.out,F6]);clear es F6 HE HL;go_wp2
     go_region_held3 (fun w'=>w'.cell? ⟨nb,0,none⟩=some (.string ⟨#[]⟩)/\w'.cell? ⟨nb,1,none⟩=some (.int .i64 2)/\w'.cell? ⟨nb,3,none⟩=some (.int .i64 (p:Int))/\w'.cell? ⟨nb,2,none⟩=some (.int .i64 0)) (first|go_keep|(refine ⟨?_,?_,?_,?_⟩<;>exact D0.cell Q8 Q6)) (first|(go_at_call 64;refine (aP _ _ _).mono ?_;rintro e w' ⟨rfl,D0⟩))
     have X0:=Gr.trans (Gr.drew (Gr.refl _)) D0;have k0:=X0.cell m0 Q6;have k1:=X0.cell m1 Q6;have k2:=X0.cell m2 Q6;have f0:=bw X0 m0 n0;have f1:=bw X0 m1 n1;have f2:=bw X0 m2 n2;have g1:=X0.cell e1 Q6;have g2:=X0.cell e2 Q6;have g3:=X0.cell e3 Q6;have Qe:=aH (HY.out.kp X0.kp);have HG3:=aH (Gc.trans_ O0.out X0.toGc);have Q4:=aH (F7.out.gc (X0.toGc (cb:=nb)) Q5);have hn:¬w.heap.size=nb:=Q5
     have Vu:¬nb=w.heap.size:=Q5
     have Kh:w1.heap.size<=w'.heap.size:=Nat.le_trans E8 X0.size;clear D0 X0 m0 m1 m2 n0 n1 n2 e0 e1 e2 e3 HY O0 F7;generalize w'=W3 at k0 k1 k2 f0 f1 f2 g1 g2 g3 Qe HG3 Q4 Kh |-;go_wp2
     go_region_held3 (fun w'=>w'.cell? ⟨nb,1,none⟩=some (.int .i64 2)/\w'.cell? ⟨nb,3,none⟩=some (.int .i64 (p:Int))/\w'.cell? ⟨nb,2,none⟩=some (.int .i64 0)) (go_keep) (fail)
     have t0:(((W3.setCell ⟨w.heap.size,0,none⟩ (.int .i64 2)).setCell ⟨w.heap.size,1,none⟩ (.int .i64 0)).setCell ⟨w.heap.size,2,none⟩ (.int .i64 (p:Int))).drew.cell? ⟨w.heap.size,0,none⟩=some (.int .i64 2):=(aI (w:=((W3.setCell ⟨w.heap.size,0,none⟩ (.int .i64 2)).setCell ⟨w.heap.size,1,none⟩ (.int .i64 0))) Q5).trans ((aI (w:=(W3.setCell ⟨w.heap.size,0,none⟩ (.int .i64 2))) Q5).trans (World.cell?_setCell_same W3 _ _ k0));have t1:(((W3.setCell ⟨w.heap.size,0,none⟩ (.int .i64 2)).setCell ⟨w.heap.size,1,none⟩ (.int .i64 0)).setCell ⟨w.heap.size,2,none⟩ (.int .i64 (p:Int))).drew.cell? ⟨w.heap.size,1,none⟩=some (.int .i64 0):=(aI (w:=((W3.setCell ⟨w.heap.size,0,none⟩ (.int .i64 2)).setCell ⟨w.heap.size,1,none⟩ (.int .i64 0))) Q5).trans (World.cell?_setCell_same (W3.setCell ⟨w.heap.size,0,none⟩ (.int .i64 2)) _ _ ((aI Q5).trans k1));have t2:(((W3.setCell ⟨w.heap.size,0,none⟩ (.int .i64 2)).setCell ⟨w.heap.size,1,none⟩ (.int .i64 0)).setCell ⟨w.heap.size,2,none⟩ (.int .i64 (p:Int))).drew.cell? ⟨w.heap.size,2,none⟩=some (.int .i64 (p:Int)):=World.cell?_setCell_same ((W3.setCell ⟨w.heap.size,0,none⟩ (.int .i64 2)).setCell ⟨w.heap.size,1,none⟩ (.int .i64 0)) _ _ ((aI (w:=(W3.setCell ⟨w.heap.size,0,none⟩ (.int .i64 2))) Q5).trans ((aI Q5).trans k2));have Tj:Hid (be B (((W3.setCell ⟨w.heap.size,0,none⟩ (.int .i64 2)).setCell ⟨w.heap.size,1,none⟩ (.int .i64 0)).setCell ⟨w.heap.size,2,none⟩ (.int .i64 (p:Int))).drew (.slice a1 y.length c1) y):=aH (((((Qe.out.kp (aN (o:=0) (v:=.int .i64 2) I6)).kp (aN (o:=1) (v:=.int .i64 0) I6)).kp (aN (o:=2) (v:=.int .i64 (p:Int)) I6)).kp (Gr.drew (Gr.refl _)).kp).mono Q5);have G7:Hid (ly (((W3.setCell ⟨w.heap.size,0,none⟩ (.int .i64 2)).setCell ⟨w.heap.size,1,none⟩ (.int .i64 0)).setCell ⟨w.heap.size,2,none⟩ (.int .i64 (p:Int))).drew sb t (t.length - r.length)):=aH (((((Q4.out.set (g:=w.heap.size) (o:=0) (v:=.int .i64 2) Q5).set (g:=w.heap.size) (o:=1) (v:=.int .i64 0) Q5).set (g:=w.heap.size) (o:=2) (v:=.int .i64 (p:Int)) Q5)).gc (cb:=w.heap.size) (Gr.drew (Gr.refl _)).toGc Q5)
     have O1:=aH (kj (v:=.int .i64 2) (v':=.int .i64 0) (v2:=.int .i64 (p:Int)) HG3.out (Nat.le_refl _));generalize (((W3.setCell ⟨w.heap.size,0,none⟩ (.int .i64 2)).setCell ⟨w.heap.size,1,none⟩ (.int .i64 0)).setCell ⟨w.heap.size,2,none⟩ (.int .i64 (p:Int))).drew=W4 at t0 t1 t2 Tj G7 O1 |-;clear k0 k1 k2 f0 f1 f2 g1 g2 g3 Qe HG3 Q4;go_wp2
     exact bodyPost_ret (v:=.tuple #[.slice a1 y.length c1,.agg #[.int .i64 2,.int .i64 0,.int .i64 (p:Int)]]) (by simp [results,Tryz.results72,go_sem,t0,t1,t2]) rfl (by rw [HF.out];exact ⟨_,rfl,Tj.out,G7.out,O1.out⟩)
   · have Y9:s.toList.isEmpty=false:=by
      rw [ByteArray.toList_eq,es];cases r2 with
      | nil=>exact absurd rfl F6
      | cons b l=>rfl
     have HF:Hid (ag 2 (aM af) (t.drop p)=none):=aH (by
      rw [HE.out];cases r2 with
      | nil=>exact absurd rfl F6
      | cons b l=>simp only [bA,HL.out])
     clear es F6 HE HL;go_wp2
     go_region_with (first|(go_at_call 64;refine (aV _ _ _).mono ?_;rintro e w' ⟨rfl,D0⟩;refine aR ?_))
     all_goals exact ⟨rfl,by rw [HF.out];exact ⟨rfl,O0.out.trans (Gr.trans (Gr.drew (Gr.refl w2)) D0).toGc⟩⟩
theorem sK:eK 74 75 3 3 dR (aM bI):=by
 intro sb B t p w hS hb hB;have hsl:sb < w.heap.size:=World.block_lt_of_cell? w _ hS.2.2.2.1;have HS:=aH hS;clear hS;go_enter Tryz.func74,Tryz.ntmps74
 go_wp2_with fail
 obtain ⟨q0,q1,q2,z0,z1,z2⟩:=lL w;have Z6:Gr w (w.alloc (.cells #[.int .i64 0,.int .i64 0,.int .i64 0] 62)):=Gr.alloc (Gr.refl w) _;have Ka:(w.alloc (.cells #[.int .i64 0,.int .i64 0,.int .i64 0] 62)).heap.size=w.heap.size+1:=Q6
 refine (jH sb t p 3 Q5 _ (HS.out.gc (cb:=w.heap.size) Z6.toGc Q5)).mono ?_;generalize (w.alloc (.cells #[.int .i64 0,.int .i64 0,.int .i64 0] 62))=W0 at q0 q1 q2 z0 z1 z2 Z6 Ka |-;intro x w1 h;cases ho:cM 3 (t.drop p) with
 | none=>
  rw [ho] at h;obtain ⟨rfl,hg⟩:=h;exact ⟨rfl,by unfold ag;rw [ho];exact ⟨rfl,Gc.trans_ Z6.toGc hg⟩⟩
 | some q=>
  obtain ⟨body,r⟩:=q;rw [ho] at h;obtain ⟨nb,rfl,Oe,Pe,G0,G2,hg⟩:=h;have HE:Hid (ag 3 (aM bI) (t.drop p)=match bA (aM bI) body with
   | none=>none
   | some y=>some (y,r)):=aH (by unfold ag;rw [ho];cases hb:bA (aM bI) body<;>simp only [hb])
  have p0:=hg.box (show ¬w.heap.size=sb by omega) q0;have p1:=hg.box (show ¬w.heap.size=sb by omega) q1;have p2:=hg.box (show ¬w.heap.size=sb by omega) q2;have y0:=hg.boxz (show ¬w.heap.size=sb by omega) q0 z0;have y1:=hg.boxz (show ¬w.heap.size=sb by omega) q1 z1;have y2:=hg.boxz (show ¬w.heap.size=sb by omega) q2 z2;have HG:=aH (Gc.trans_ (Z6.toGc (cb:=sb)) hg);have I6:w.heap.size < w1.heap.size:=by have:=hg.size;omega
  have HC:=aH G0;have J3:=aH G2;clear ho q0 q1 q2 z0 z1 z2 hg Z6 G0 G2 HS;go_wp2_with fail
  refine (sJ nb w1.heap.size body 2 p _ HC.out Pe (Nat.le_refl _)).mono ?_;intro x w2 h;cases hl:aM bI body with
  | none=>
   obtain ⟨rfl,E0⟩:=h.none_ hl;exact ⟨rfl,by rw [HE.out];simp only [bA,hl];exact ⟨rfl,HG.out.over E0 Q5⟩⟩
  | some q=>
   obtain ⟨y,r2⟩:=q;obtain ⟨v,rfl,hy,G_,E0⟩:=h.some_ hl;obtain ⟨a1,c1,rfl⟩:=hy.shape;have HY:=aH hy;have HL:=aH hl;have m0:=E0.box (show ¬w.heap.size=nb by omega) p0;have m1:=E0.box (show ¬w.heap.size=nb by omega) p1;have m2:=E0.box (show ¬w.heap.size=nb by omega) p2;have n0:=E0.boxz (show ¬w.heap.size=nb by omega) p0 y0;have n1:=E0.boxz (show ¬w.heap.size=nb by omega) p1 y1;have n2:=E0.boxz (show ¬w.heap.size=nb by omega) p2 y2;have O0:=aH (HG.out.over E0 Q5);have F7:=aH (J3.out.gc E0 Q5);have E8:w1.heap.size<=w2.heap.size:=E0.size;obtain ⟨⟨s,e0,es⟩,el,e1,e2,ez,e3⟩:=G_;clear h hl hy E0 p0 p1 p2 y0 y1 y2 HC J3 HG ez el;by_cases F6:r2= []
   · have Ri:s=⟨#[]⟩:=by
      have:s.data.toList= []:=es.trans F6
      cases s with|mk d=>simp at this;rw [this]
     subst Ri;have HF:Hid (ag 3 (aM bI) (t.drop p)=some (y,r)):=aH (by rw [HE.out];simp only [bA,HL.out,F6]);clear es F6 HE HL;go_wp2
     go_region_held3 (fun w'=>w'.cell? ⟨nb,0,none⟩=some (.string ⟨#[]⟩)/\w'.cell? ⟨nb,1,none⟩=some (.int .i64 2)/\w'.cell? ⟨nb,3,none⟩=some (.int .i64 (p:Int))/\w'.cell? ⟨nb,2,none⟩=some (.int .i64 0)) (first|go_keep|(refine ⟨?_,?_,?_,?_⟩<;>exact D0.cell Q8 Q6)) (first|(go_at_call 64;refine (aP _ _ _).mono ?_;rintro e w' ⟨rfl,D0⟩))
     have X0:=Gr.trans (Gr.drew (Gr.refl _)) D0;have k0:=X0.cell m0 Q6;have k1:=X0.cell m1 Q6;have k2:=X0.cell m2 Q6;have f0:=bw X0 m0 n0;have f1:=bw X0 m1 n1;have f2:=bw X0 m2 n2;have g1:=X0.cell e1 Q6;have g2:=X0.cell e2 Q6;have g3:=X0.cell e3 Q6;have Qe:=aH (HY.out.kp X0.kp);have HG3:=aH (Gc.trans_ O0.out X0.toGc);have Q4:=aH (F7.out.gc (X0.toGc (cb:=nb)) Q5);have hn:¬w.heap.size=nb:=Q5
     have Vu:¬nb=w.heap.size:=Q5
     have Kh:w1.heap.size<=w'.heap.size:=Nat.le_trans E8 X0.size;clear D0 X0 m0 m1 m2 n0 n1 n2 e0 e1 e2 e3 HY O0 F7;generalize w'=W3 at k0 k1 k2 f0 f1 f2 g1 g2 g3 Qe HG3 Q4 Kh |-;go_wp2
     go_region_held3 (fun w'=>w'.cell? ⟨nb,1,none⟩=some (.int .i64 2)/\w'.cell? ⟨nb,3,none⟩=some (.int .i64 (p:Int))/\w'.cell? ⟨nb,2,none⟩=some (.int .i64 0)) (go_keep) (fail)
     have t0:(((W3.setCell ⟨w.heap.size,0,none⟩ (.int .i64 2)).setCell ⟨w.heap.size,1,none⟩ (.int .i64 0)).setCell ⟨w.heap.size,2,none⟩ (.int .i64 (p:Int))).drew.cell? ⟨w.heap.size,0,none⟩=some (.int .i64 2):=(aI (w:=((W3.setCell ⟨w.heap.size,0,none⟩ (.int .i64 2)).setCell ⟨w.heap.size,1,none⟩ (.int .i64 0))) Q5).trans ((aI (w:=(W3.setCell ⟨w.heap.size,0,none⟩ (.int .i64 2))) Q5).trans (World.cell?_setCell_same W3 _ _ k0));have t1:(((W3.setCell ⟨w.heap.size,0,none⟩ (.int .i64 2)).setCell ⟨w.heap.size,1,none⟩ (.int .i64 0)).setCell ⟨w.heap.size,2,none⟩ (.int .i64 (p:Int))).drew.cell? ⟨w.heap.size,1,none⟩=some (.int .i64 0):=(aI (w:=((W3.setCell ⟨w.heap.size,0,none⟩ (.int .i64 2)).setCell ⟨w.heap.size,1,none⟩ (.int .i64 0))) Q5).trans (World.cell?_setCell_same (W3.setCell ⟨w.heap.size,0,none⟩ (.int .i64 2)) _ _ ((aI Q5).trans k1));have t2:(((W3.setCell ⟨w.heap.size,0,none⟩ (.int .i64 2)).setCell ⟨w.heap.size,1,none⟩ (.int .i64 0)).setCell ⟨w.heap.size,2,none⟩ (.int .i64 (p:Int))).drew.cell? ⟨w.heap.size,2,none⟩=some (.int .i64 (p:Int)):=World.cell?_setCell_same ((W3.setCell ⟨w.heap.size,0,none⟩ (.int .i64 2)).setCell ⟨w.heap.size,1,none⟩ (.int .i64 0)) _ _ ((aI (w:=(W3.setCell ⟨w.heap.size,0,none⟩ (.int .i64 2))) Q5).trans ((aI Q5).trans k2));have Tj:Hid (dR B (((W3.setCell ⟨w.heap.size,0,none⟩ (.int .i64 2)).setCell ⟨w.heap.size,1,none⟩ (.int .i64 0)).setCell ⟨w.heap.size,2,none⟩ (.int .i64 (p:Int))).drew (.slice a1 y.length c1) y):=aH (((((Qe.out.kp (aN (o:=0) (v:=.int .i64 2) I6)).kp (aN (o:=1) (v:=.int .i64 0) I6)).kp (aN (o:=2) (v:=.int .i64 (p:Int)) I6)).kp (Gr.drew (Gr.refl _)).kp).mono Q5);have G7:Hid (ly (((W3.setCell ⟨w.heap.size,0,none⟩ (.int .i64 2)).setCell ⟨w.heap.size,1,none⟩ (.int .i64 0)).setCell ⟨w.heap.size,2,none⟩ (.int .i64 (p:Int))).drew sb t (t.length - r.length)):=aH (((((Q4.out.set (g:=w.heap.size) (o:=0) (v:=.int .i64 2) Q5).set (g:=w.heap.size) (o:=1) (v:=.int .i64 0) Q5).set (g:=w.heap.size) (o:=2) (v:=.int .i64 (p:Int)) Q5)).gc (cb:=w.heap.size) (Gr.drew (Gr.refl _)).toGc Q5)
     have O1:=aH (kj (v:=.int .i64 2) (v':=.int .i64 0) (v2:=.int .i64 (p:Int)) HG3.out (Nat.le_refl _));generalize (((W3.setCell ⟨w.heap.size,0,none⟩ (.int .i64 2)).setCell ⟨w.heap.size,1,none⟩ (.int .i64 0)).setCell ⟨w.heap.size,2,none⟩ (.int .i64 (p:Int))).drew=W4 at t0 t1 t2 Tj G7 O1 |-;clear k0 k1 k2 f0 f1 f2 g1 g2 g3 Qe HG3 Q4;go_wp2
     exact bodyPost_ret (v:=.tuple #[.slice a1 y.length c1,.agg #[.int .i64 2,.int .i64 0,.int .i64 (p:Int)]]) (by simp [results,Tryz.results74,go_sem,t0,t1,t2]) rfl (by rw [HF.out];exact ⟨_,rfl,Tj.out,G7.out,O1.out⟩)
   · have Y9:s.toList.isEmpty=false:=by
      rw [ByteArray.toList_eq,es];cases r2 with
      | nil=>exact absurd rfl F6
      | cons b l=>rfl
     have HF:Hid (ag 3 (aM bI) (t.drop p)=none):=aH (by
      rw [HE.out];cases r2 with
      | nil=>exact absurd rfl F6
      | cons b l=>simp only [bA,HL.out])
     clear es F6 HE HL;go_wp2
     go_region_with (first|(go_at_call 64;refine (aV _ _ _).mono ?_;rintro e w' ⟨rfl,D0⟩;refine aR ?_))
     all_goals exact ⟨rfl,by rw [HF.out];exact ⟨rfl,O0.out.trans (Gr.trans (Gr.drew (Gr.refl w2)) D0).toGc⟩⟩
theorem vW:eK 76 77 4 4 b6 (aM cN):=by
 intro sb B t p w hS hb hB;have hsl:sb < w.heap.size:=World.block_lt_of_cell? w _ hS.2.2.2.1;have HS:=aH hS;clear hS;go_enter Tryz.func76,Tryz.ntmps76
 go_wp2_with fail
 obtain ⟨q0,q1,q2,z0,z1,z2⟩:=lL w;have Z6:Gr w (w.alloc (.cells #[.int .i64 0,.int .i64 0,.int .i64 0] 62)):=Gr.alloc (Gr.refl w) _;have Ka:(w.alloc (.cells #[.int .i64 0,.int .i64 0,.int .i64 0] 62)).heap.size=w.heap.size+1:=Q6
 refine (jH sb t p 4 Q5 _ (HS.out.gc (cb:=w.heap.size) Z6.toGc Q5)).mono ?_;generalize (w.alloc (.cells #[.int .i64 0,.int .i64 0,.int .i64 0] 62))=W0 at q0 q1 q2 z0 z1 z2 Z6 Ka |-;intro x w1 h;cases ho:cM 4 (t.drop p) with
 | none=>
  rw [ho] at h;obtain ⟨rfl,hg⟩:=h;exact ⟨rfl,by unfold ag;rw [ho];exact ⟨rfl,Gc.trans_ Z6.toGc hg⟩⟩
 | some q=>
  obtain ⟨body,r⟩:=q;rw [ho] at h;obtain ⟨nb,rfl,Oe,Pe,G0,G2,hg⟩:=h;have HE:Hid (ag 4 (aM cN) (t.drop p)=match bA (aM cN) body with
   | none=>none
   | some y=>some (y,r)):=aH (by unfold ag;rw [ho];cases hb:bA (aM cN) body<;>simp only [hb])
  have p0:=hg.box (show ¬w.heap.size=sb by omega) q0;have p1:=hg.box (show ¬w.heap.size=sb by omega) q1;have p2:=hg.box (show ¬w.heap.size=sb by omega) q2;have y0:=hg.boxz (show ¬w.heap.size=sb by omega) q0 z0;have y1:=hg.boxz (show ¬w.heap.size=sb by omega) q1 z1;have y2:=hg.boxz (show ¬w.heap.size=sb by omega) q2 z2;have HG:=aH (Gc.trans_ (Z6.toGc (cb:=sb)) hg);have I6:w.heap.size < w1.heap.size:=by have:=hg.size;omega
  have HC:=aH G0;have J3:=aH G2;clear ho q0 q1 q2 z0 z1 z2 hg Z6 G0 G2 HS;go_wp2_with fail
  refine (uy nb w1.heap.size body 2 p _ HC.out Pe (Nat.le_refl _)).mono ?_;intro x w2 h;cases hl:aM cN body with
  | none=>
   obtain ⟨rfl,E0⟩:=h.none_ hl;exact ⟨rfl,by rw [HE.out];simp only [bA,hl];exact ⟨rfl,HG.out.over E0 Q5⟩⟩
  | some q=>
   obtain ⟨y,r2⟩:=q;obtain ⟨v,rfl,hy,G_,E0⟩:=h.some_ hl;obtain ⟨a1,c1,rfl⟩:=hy.shape;have HY:=aH hy;have HL:=aH hl;have m0:=E0.box (show ¬w.heap.size=nb by omega) p0;have m1:=E0.box (show ¬w.heap.size=nb by omega) p1;have m2:=E0.box (show ¬w.heap.size=nb by omega) p2;have n0:=E0.boxz (show ¬w.heap.size=nb by omega) p0 y0;have n1:=E0.boxz (show ¬w.heap.size=nb by omega) p1 y1;have n2:=E0.boxz (show ¬w.heap.size=nb by omega) p2 y2;have O0:=aH (HG.out.over E0 Q5);have F7:=aH (J3.out.gc E0 Q5);have E8:w1.heap.size<=w2.heap.size:=E0.size;obtain ⟨⟨s,e0,es⟩,el,e1,e2,ez,e3⟩:=G_;clear h hl hy E0 p0 p1 p2 y0 y1 y2 HC J3 HG ez el;by_cases F6:r2= []
   · have Ri:s=⟨#[]⟩:=by
      have:s.data.toList= []:=es.trans F6
      cases s with|mk d=>simp at this;rw [this]
     subst Ri;have HF:Hid (ag 4 (aM cN) (t.drop p)=some (y,r)):=aH (by rw [HE.out];simp only [bA,HL.out,F6]);clear es F6 HE HL;go_wp2
     go_region_held3 (fun w'=>w'.cell? ⟨nb,0,none⟩=some (.string ⟨#[]⟩)/\w'.cell? ⟨nb,1,none⟩=some (.int .i64 2)/\w'.cell? ⟨nb,3,none⟩=some (.int .i64 (p:Int))/\w'.cell? ⟨nb,2,none⟩=some (.int .i64 0)) (first|go_keep|(refine ⟨?_,?_,?_,?_⟩<;>exact D0.cell Q8 Q6)) (first|(go_at_call 64;refine (aP _ _ _).mono ?_;rintro e w' ⟨rfl,D0⟩))
     have X0:=Gr.trans (Gr.drew (Gr.refl _)) D0;have k0:=X0.cell m0 Q6;have k1:=X0.cell m1 Q6;have k2:=X0.cell m2 Q6;have f0:=bw X0 m0 n0;have f1:=bw X0 m1 n1;have f2:=bw X0 m2 n2;have g1:=X0.cell e1 Q6;have g2:=X0.cell e2 Q6;have g3:=X0.cell e3 Q6;have Qe:=aH (HY.out.kp X0.kp);have HG3:=aH (Gc.trans_ O0.out X0.toGc);have Q4:=aH (F7.out.gc (X0.toGc (cb:=nb)) Q5);have hn:¬w.heap.size=nb:=Q5
     have Vu:¬nb=w.heap.size:=Q5
     have Kh:w1.heap.size<=w'.heap.size:=Nat.le_trans E8 X0.size;clear D0 X0 m0 m1 m2 n0 n1 n2 e0 e1 e2 e3 HY O0 F7;generalize w'=W3 at k0 k1 k2 f0 f1 f2 g1 g2 g3 Qe HG3 Q4 Kh |-;go_wp2
     go_region_held3 (fun w'=>w'.cell? ⟨nb,1,none⟩=some (.int .i64 2)/\w'.cell? ⟨nb,3,none⟩=some (.int .i64 (p:Int))/\w'.cell? ⟨nb,2,none⟩=some (.int .i64 0)) (go_keep) (fail)
     have t0:(((W3.setCell ⟨w.heap.size,0,none⟩ (.int .i64 2)).setCell ⟨w.heap.size,1,none⟩ (.int .i64 0)).setCell ⟨w.heap.size,2,none⟩ (.int .i64 (p:Int))).drew.cell? ⟨w.heap.size,0,none⟩=some (.int .i64 2):=(aI (w:=((W3.setCell ⟨w.heap.size,0,none⟩ (.int .i64 2)).setCell ⟨w.heap.size,1,none⟩ (.int .i64 0))) Q5).trans ((aI (w:=(W3.setCell ⟨w.heap.size,0,none⟩ (.int .i64 2))) Q5).trans (World.cell?_setCell_same W3 _ _ k0));have t1:(((W3.setCell ⟨w.heap.size,0,none⟩ (.int .i64 2)).setCell ⟨w.heap.size,1,none⟩ (.int .i64 0)).setCell ⟨w.heap.size,2,none⟩ (.int .i64 (p:Int))).drew.cell? ⟨w.heap.size,1,none⟩=some (.int .i64 0):=(aI (w:=((W3.setCell ⟨w.heap.size,0,none⟩ (.int .i64 2)).setCell ⟨w.heap.size,1,none⟩ (.int .i64 0))) Q5).trans (World.cell?_setCell_same (W3.setCell ⟨w.heap.size,0,none⟩ (.int .i64 2)) _ _ ((aI Q5).trans k1));have t2:(((W3.setCell ⟨w.heap.size,0,none⟩ (.int .i64 2)).setCell ⟨w.heap.size,1,none⟩ (.int .i64 0)).setCell ⟨w.heap.size,2,none⟩ (.int .i64 (p:Int))).drew.cell? ⟨w.heap.size,2,none⟩=some (.int .i64 (p:Int)):=World.cell?_setCell_same ((W3.setCell ⟨w.heap.size,0,none⟩ (.int .i64 2)).setCell ⟨w.heap.size,1,none⟩ (.int .i64 0)) _ _ ((aI (w:=(W3.setCell ⟨w.heap.size,0,none⟩ (.int .i64 2))) Q5).trans ((aI Q5).trans k2));have Tj:Hid (b6 B (((W3.setCell ⟨w.heap.size,0,none⟩ (.int .i64 2)).setCell ⟨w.heap.size,1,none⟩ (.int .i64 0)).setCell ⟨w.heap.size,2,none⟩ (.int .i64 (p:Int))).drew (.slice a1 y.length c1) y):=aH (((((Qe.out.kp (aN (o:=0) (v:=.int .i64 2) I6)).kp (aN (o:=1) (v:=.int .i64 0) I6)).kp (aN (o:=2) (v:=.int .i64 (p:Int)) I6)).kp (Gr.drew (Gr.refl _)).kp).mono Q5);have G7:Hid (ly (((W3.setCell ⟨w.heap.size,0,none⟩ (.int .i64 2)).setCell ⟨w.heap.size,1,none⟩ (.int .i64 0)).setCell ⟨w.heap.size,2,none⟩ (.int .i64 (p:Int))).drew sb t (t.length - r.length)):=aH (((((Q4.out.set (g:=w.heap.size) (o:=0) (v:=.int .i64 2) Q5).set (g:=w.heap.size) (o:=1) (v:=.int .i64 0) Q5).set (g:=w.heap.size) (o:=2) (v:=.int .i64 (p:Int)) Q5)).gc (cb:=w.heap.size) (Gr.drew (Gr.refl _)).toGc Q5)
     have O1:=aH (kj (v:=.int .i64 2) (v':=.int .i64 0) (v2:=.int .i64 (p:Int)) HG3.out (Nat.le_refl _));generalize (((W3.setCell ⟨w.heap.size,0,none⟩ (.int .i64 2)).setCell ⟨w.heap.size,1,none⟩ (.int .i64 0)).setCell ⟨w.heap.size,2,none⟩ (.int .i64 (p:Int))).drew=W4 at t0 t1 t2 Tj G7 O1 |-;clear k0 k1 k2 f0 f1 f2 g1 g2 g3 Qe HG3 Q4;go_wp2
     exact bodyPost_ret (v:=.tuple #[.slice a1 y.length c1,.agg #[.int .i64 2,.int .i64 0,.int .i64 (p:Int)]]) (by simp [results,Tryz.results76,go_sem,t0,t1,t2]) rfl (by rw [HF.out];exact ⟨_,rfl,Tj.out,G7.out,O1.out⟩)
   · have Y9:s.toList.isEmpty=false:=by
      rw [ByteArray.toList_eq,es];cases r2 with
      | nil=>exact absurd rfl F6
      | cons b l=>rfl
     have HF:Hid (ag 4 (aM cN) (t.drop p)=none):=aH (by
      rw [HE.out];cases r2 with
      | nil=>exact absurd rfl F6
      | cons b l=>simp only [bA,HL.out])
     clear es F6 HE HL;go_wp2
     go_region_with (first|(go_at_call 64;refine (aV _ _ _).mono ?_;rintro e w' ⟨rfl,D0⟩;refine aR ?_))
     all_goals exact ⟨rfl,by rw [HF.out];exact ⟨rfl,O0.out.trans (Gr.trans (Gr.drew (Gr.refl w2)) D0).toGc⟩⟩
theorem vT:eK 78 79 5 5 bz (aM cT):=by
 intro sb B t p w hS hb hB;have hsl:sb < w.heap.size:=World.block_lt_of_cell? w _ hS.2.2.2.1;have HS:=aH hS;clear hS;go_enter Tryz.func78,Tryz.ntmps78
 go_wp2_with fail
 obtain ⟨q0,q1,q2,z0,z1,z2⟩:=lL w;have Z6:Gr w (w.alloc (.cells #[.int .i64 0,.int .i64 0,.int .i64 0] 62)):=Gr.alloc (Gr.refl w) _;have Ka:(w.alloc (.cells #[.int .i64 0,.int .i64 0,.int .i64 0] 62)).heap.size=w.heap.size+1:=Q6
 refine (jH sb t p 5 Q5 _ (HS.out.gc (cb:=w.heap.size) Z6.toGc Q5)).mono ?_;generalize (w.alloc (.cells #[.int .i64 0,.int .i64 0,.int .i64 0] 62))=W0 at q0 q1 q2 z0 z1 z2 Z6 Ka |-;intro x w1 h;cases ho:cM 5 (t.drop p) with
 | none=>
  rw [ho] at h;obtain ⟨rfl,hg⟩:=h;exact ⟨rfl,by unfold ag;rw [ho];exact ⟨rfl,Gc.trans_ Z6.toGc hg⟩⟩
 | some q=>
  obtain ⟨body,r⟩:=q;rw [ho] at h;obtain ⟨nb,rfl,Oe,Pe,G0,G2,hg⟩:=h;have HE:Hid (ag 5 (aM cT) (t.drop p)=match bA (aM cT) body with
   | none=>none
   | some y=>some (y,r)):=aH (by unfold ag;rw [ho];cases hb:bA (aM cT) body<;>simp only [hb])
  have p0:=hg.box (show ¬w.heap.size=sb by omega) q0;have p1:=hg.box (show ¬w.heap.size=sb by omega) q1;have p2:=hg.box (show ¬w.heap.size=sb by omega) q2;have y0:=hg.boxz (show ¬w.heap.size=sb by omega) q0 z0;have y1:=hg.boxz (show ¬w.heap.size=sb by omega) q1 z1;have y2:=hg.boxz (show ¬w.heap.size=sb by omega) q2 z2;have HG:=aH (Gc.trans_ (Z6.toGc (cb:=sb)) hg);have I6:w.heap.size < w1.heap.size:=by have:=hg.size;omega
  have HC:=aH G0;have J3:=aH G2;clear ho q0 q1 q2 z0 z1 z2 hg Z6 G0 G2 HS;go_wp2_with fail
  refine (uu nb w1.heap.size body 2 p _ HC.out Pe (Nat.le_refl _)).mono ?_;intro x w2 h;cases hl:aM cT body with
  | none=>
   obtain ⟨rfl,E0⟩:=h.none_ hl;exact ⟨rfl,by rw [HE.out];simp only [bA,hl];exact ⟨rfl,HG.out.over E0 Q5⟩⟩
  | some q=>
   obtain ⟨y,r2⟩:=q;obtain ⟨v,rfl,hy,G_,E0⟩:=h.some_ hl;obtain ⟨a1,c1,rfl⟩:=hy.shape;have HY:=aH hy;have HL:=aH hl;have m0:=E0.box (show ¬w.heap.size=nb by omega) p0;have m1:=E0.box (show ¬w.heap.size=nb by omega) p1;have m2:=E0.box (show ¬w.heap.size=nb by omega) p2;have n0:=E0.boxz (show ¬w.heap.size=nb by omega) p0 y0;have n1:=E0.boxz (show ¬w.heap.size=nb by omega) p1 y1;have n2:=E0.boxz (show ¬w.heap.size=nb by omega) p2 y2;have O0:=aH (HG.out.over E0 Q5);have F7:=aH (J3.out.gc E0 Q5);have E8:w1.heap.size<=w2.heap.size:=E0.size;obtain ⟨⟨s,e0,es⟩,el,e1,e2,ez,e3⟩:=G_;clear h hl hy E0 p0 p1 p2 y0 y1 y2 HC J3 HG ez el;by_cases F6:r2= []
   · have Ri:s=⟨#[]⟩:=by
      have:s.data.toList= []:=es.trans F6
      cases s with|mk d=>simp at this;rw [this]
     subst Ri;have HF:Hid (ag 5 (aM cT) (t.drop p)=some (y,r)):=aH (by rw [HE.out];simp only [bA,HL.out,F6]);clear es F6 HE HL;go_wp2
     go_region_held3 (fun w'=>w'.cell? ⟨nb,0,none⟩=some (.string ⟨#[]⟩)/\w'.cell? ⟨nb,1,none⟩=some (.int .i64 2)/\w'.cell? ⟨nb,3,none⟩=some (.int .i64 (p:Int))/\w'.cell? ⟨nb,2,none⟩=some (.int .i64 0)) (first|go_keep|(refine ⟨?_,?_,?_,?_⟩<;>exact D0.cell Q8 Q6)) (first|(go_at_call 64;refine (aP _ _ _).mono ?_;rintro e w' ⟨rfl,D0⟩))
     have X0:=Gr.trans (Gr.drew (Gr.refl _)) D0;have k0:=X0.cell m0 Q6;have k1:=X0.cell m1 Q6;have k2:=X0.cell m2 Q6;have f0:=bw X0 m0 n0;have f1:=bw X0 m1 n1;have f2:=bw X0 m2 n2;have g1:=X0.cell e1 Q6;have g2:=X0.cell e2 Q6;have g3:=X0.cell e3 Q6;have Qe:=aH (HY.out.kp X0.kp);have HG3:=aH (Gc.trans_ O0.out X0.toGc);have Q4:=aH (F7.out.gc (X0.toGc (cb:=nb)) Q5);have hn:¬w.heap.size=nb:=Q5
     have Vu:¬nb=w.heap.size:=Q5
     have Kh:w1.heap.size<=w'.heap.size:=Nat.le_trans E8 X0.size;clear D0 X0 m0 m1 m2 n0 n1 n2 e0 e1 e2 e3 HY O0 F7;generalize w'=W3 at k0 k1 k2 f0 f1 f2 g1 g2 g3 Qe HG3 Q4 Kh |-;go_wp2
     go_region_held3 (fun w'=>w'.cell? ⟨nb,1,none⟩=some (.int .i64 2)/\w'.cell? ⟨nb,3,none⟩=some (.int .i64 (p:Int))/\w'.cell? ⟨nb,2,none⟩=some (.int .i64 0)) (go_keep) (fail)
     have t0:(((W3.setCell ⟨w.heap.size,0,none⟩ (.int .i64 2)).setCell ⟨w.heap.size,1,none⟩ (.int .i64 0)).setCell ⟨w.heap.size,2,none⟩ (.int .i64 (p:Int))).drew.cell? ⟨w.heap.size,0,none⟩=some (.int .i64 2):=(aI (w:=((W3.setCell ⟨w.heap.size,0,none⟩ (.int .i64 2)).setCell ⟨w.heap.size,1,none⟩ (.int .i64 0))) Q5).trans ((aI (w:=(W3.setCell ⟨w.heap.size,0,none⟩ (.int .i64 2))) Q5).trans (World.cell?_setCell_same W3 _ _ k0));have t1:(((W3.setCell ⟨w.heap.size,0,none⟩ (.int .i64 2)).setCell ⟨w.heap.size,1,none⟩ (.int .i64 0)).setCell ⟨w.heap.size,2,none⟩ (.int .i64 (p:Int))).drew.cell? ⟨w.heap.size,1,none⟩=some (.int .i64 0):=(aI (w:=((W3.setCell ⟨w.heap.size,0,none⟩ (.int .i64 2)).setCell ⟨w.heap.size,1,none⟩ (.int .i64 0))) Q5).trans (World.cell?_setCell_same (W3.setCell ⟨w.heap.size,0,none⟩ (.int .i64 2)) _ _ ((aI Q5).trans k1));have t2:(((W3.setCell ⟨w.heap.size,0,none⟩ (.int .i64 2)).setCell ⟨w.heap.size,1,none⟩ (.int .i64 0)).setCell ⟨w.heap.size,2,none⟩ (.int .i64 (p:Int))).drew.cell? ⟨w.heap.size,2,none⟩=some (.int .i64 (p:Int)):=World.cell?_setCell_same ((W3.setCell ⟨w.heap.size,0,none⟩ (.int .i64 2)).setCell ⟨w.heap.size,1,none⟩ (.int .i64 0)) _ _ ((aI (w:=(W3.setCell ⟨w.heap.size,0,none⟩ (.int .i64 2))) Q5).trans ((aI Q5).trans k2));have Tj:Hid (bz B (((W3.setCell ⟨w.heap.size,0,none⟩ (.int .i64 2)).setCell ⟨w.heap.size,1,none⟩ (.int .i64 0)).setCell ⟨w.heap.size,2,none⟩ (.int .i64 (p:Int))).drew (.slice a1 y.length c1) y):=aH (((((Qe.out.kp (aN (o:=0) (v:=.int .i64 2) I6)).kp (aN (o:=1) (v:=.int .i64 0) I6)).kp (aN (o:=2) (v:=.int .i64 (p:Int)) I6)).kp (Gr.drew (Gr.refl _)).kp).mono Q5);have G7:Hid (ly (((W3.setCell ⟨w.heap.size,0,none⟩ (.int .i64 2)).setCell ⟨w.heap.size,1,none⟩ (.int .i64 0)).setCell ⟨w.heap.size,2,none⟩ (.int .i64 (p:Int))).drew sb t (t.length - r.length)):=aH (((((Q4.out.set (g:=w.heap.size) (o:=0) (v:=.int .i64 2) Q5).set (g:=w.heap.size) (o:=1) (v:=.int .i64 0) Q5).set (g:=w.heap.size) (o:=2) (v:=.int .i64 (p:Int)) Q5)).gc (cb:=w.heap.size) (Gr.drew (Gr.refl _)).toGc Q5)
     have O1:=aH (kj (v:=.int .i64 2) (v':=.int .i64 0) (v2:=.int .i64 (p:Int)) HG3.out (Nat.le_refl _));generalize (((W3.setCell ⟨w.heap.size,0,none⟩ (.int .i64 2)).setCell ⟨w.heap.size,1,none⟩ (.int .i64 0)).setCell ⟨w.heap.size,2,none⟩ (.int .i64 (p:Int))).drew=W4 at t0 t1 t2 Tj G7 O1 |-;clear k0 k1 k2 f0 f1 f2 g1 g2 g3 Qe HG3 Q4;go_wp2
     exact bodyPost_ret (v:=.tuple #[.slice a1 y.length c1,.agg #[.int .i64 2,.int .i64 0,.int .i64 (p:Int)]]) (by simp [results,Tryz.results78,go_sem,t0,t1,t2]) rfl (by rw [HF.out];exact ⟨_,rfl,Tj.out,G7.out,O1.out⟩)
   · have Y9:s.toList.isEmpty=false:=by
      rw [ByteArray.toList_eq,es];cases r2 with
      | nil=>exact absurd rfl F6
      | cons b l=>rfl
     have HF:Hid (ag 5 (aM cT) (t.drop p)=none):=aH (by
      rw [HE.out];cases r2 with
      | nil=>exact absurd rfl F6
      | cons b l=>simp only [bA,HL.out])
     clear es F6 HE HL;go_wp2
     go_region_with (first|(go_at_call 64;refine (aV _ _ _).mono ?_;rintro e w' ⟨rfl,D0⟩;refine aR ?_))
     all_goals exact ⟨rfl,by rw [HF.out];exact ⟨rfl,O0.out.trans (Gr.trans (Gr.drew (Gr.refl w2)) D0).toGc⟩⟩
theorem wX:qn:=⟨qY,rX,sK,vW,vT⟩
end Go.Proofs.YtkgncijcnlfhiabGreat
