import Derived.Test.YtkgncijcnlfhiaaGreatR1b
namespace Go.Proofs.YtkgncijcnlfhiaaGreat
set_option maxRecDepth 100000
set_option maxHeartbeats 2000000
set_option linter.unusedVariables false
set_option linter.unusedSimpArgs false
open Go.RowKit
attribute [local go_sem ↓] Go.wp_at_zero Go.wp_at_succ
theorem pG:d' 91 92 2 2 bY (aM ag):=by
 intro sb B t p w hS hb hB;have hsl:sb < w.heap.size:=World.block_lt_of_cell? w _ hS.2.2.2.1;have HS:=aH hS;clear hS;go_enter Tryz.func91,Tryz.ntmps91
 go_wp2_with fail
 obtain ⟨q0,q1,q2,z0,z1,z2⟩:=kB w;have hg0:Gr w (w.alloc (.cells #[.int .i64 0,.int .i64 0,.int .i64 0] 58)):=Gr.alloc (Gr.refl w) _;have hs0:(w.alloc (.cells #[.int .i64 0,.int .i64 0,.int .i64 0] 58)).heap.size=w.heap.size+1:=by simp
 refine (ir sb t p 2 (by omega) _ (HS.out.gc (cb:=w.heap.size) hg0.toGc (by omega))).mono ?_;generalize (w.alloc (.cells #[.int .i64 0,.int .i64 0,.int .i64 0] 58))=W0 at q0 q1 q2 z0 z1 z2 hg0 hs0 ⊢;intro x w1 h;cases ho:cI 2 (t.drop p) with
 | none=>
  rw [ho] at h;obtain ⟨rfl,hg⟩:=h;exact ⟨rfl,by unfold ai;rw [ho];exact ⟨rfl,Gc.trans_ hg0.toGc hg⟩⟩
 | some q=>
  obtain ⟨body,r⟩:=q;rw [ho] at h;obtain ⟨nb,rfl,hnb,hnb2,hcur,hsec,hg⟩:=h;have HE:Hid (ai 2 (aM ag) (t.drop p)=match a_ (aM ag) body with
   | none=>none
   | some y=>some (y,r)):=aH (by unfold ai;rw [ho];cases hb:a_ (aM ag) body<;>simp only [hb])
  have p0:=hg.box (show ¬w.heap.size=sb by omega) q0;have p1:=hg.box (show ¬w.heap.size=sb by omega) q1;have p2:=hg.box (show ¬w.heap.size=sb by omega) q2;have y0:=hg.boxz (show ¬w.heap.size=sb by omega) q0 z0;have y1:=hg.boxz (show ¬w.heap.size=sb by omega) q1 z1;have y2:=hg.boxz (show ¬w.heap.size=sb by omega) q2 z2;have HG:=aH (Gc.trans_ (hg0.toGc (cb:=sb)) hg);have hs1:w.heap.size < w1.heap.size:=by have:=hg.size;omega
  have HC:=aH hcur;have HSec:=aH hsec;clear ho q0 q1 q2 z0 z1 z2 hg hg0 hcur hsec HS;go_wp2_with fail
  refine (nw nb w1.heap.size body 2 p _ HC.out hnb2 (Nat.le_refl _)).mono ?_;intro x w2 h;cases hl:aM ag body with
  | none=>
   obtain ⟨rfl,hg2⟩:=h.none_ hl;exact ⟨rfl,by rw [HE.out];simp only [a_,hl];exact ⟨rfl,HG.out.over hg2 (by omega)⟩⟩
  | some q=>
   obtain ⟨y,r2⟩:=q;obtain ⟨v,rfl,hy,hcur2,hg2⟩:=h.some_ hl;obtain ⟨a1,c1,rfl⟩:=hy.shape;have HY:=aH hy;have HL:=aH hl;have m0:=hg2.box (show ¬w.heap.size=nb by omega) p0;have m1:=hg2.box (show ¬w.heap.size=nb by omega) p1;have m2:=hg2.box (show ¬w.heap.size=nb by omega) p2;have n0:=hg2.boxz (show ¬w.heap.size=nb by omega) p0 y0;have n1:=hg2.boxz (show ¬w.heap.size=nb by omega) p1 y1;have n2:=hg2.boxz (show ¬w.heap.size=nb by omega) p2 y2;have HG2:=aH (HG.out.over hg2 (by omega));have HSec2:=aH (HSec.out.gc hg2 (by omega));have hs2:w1.heap.size≤w2.heap.size:=hg2.size;obtain ⟨⟨s,e0,es⟩,el,e1,e2,ez,e3⟩:=hcur2;clear h hl hy hg2 p0 p1 p2 y0 y1 y2 HC HSec HG ez el;by_cases hr2:r2= []
   · have hse:s=⟨#[]⟩:=by
      have:s.data.toList= []:=es.trans hr2
      cases s with|mk d=>simp at this;rw [this]
     subst hse;have HF:Hid (ai 2 (aM ag) (t.drop p)=some (y,r)):=aH (by rw [HE.out];simp only [a_,HL.out,hr2]);clear es hr2 HE HL;go_wp2
     go_region_held3 (fun w'=>w'.cell? ⟨nb,0,none⟩=some (.string ⟨#[]⟩)∧w'.cell? ⟨nb,1,none⟩=some (.int .i64 2)∧w'.cell? ⟨nb,3,none⟩=some (.int .i64 (p:Int))∧w'.cell? ⟨nb,2,none⟩=some (.int .i64 0)) (first|go_keep|(refine ⟨?_,?_,?_,?_⟩<;>exact hg'.cell (by assumption) (by simp))) (first|(go_at_call 32;refine (aP _ _ _).mono ?_;rintro e w' ⟨rfl,hg'⟩))
     have hgx:=Gr.trans (Gr.drew (Gr.refl _)) hg';have k0:=hgx.cell m0 (by simp);have k1:=hgx.cell m1 (by simp);have k2:=hgx.cell m2 (by simp);have f0:=cB hgx m0 n0;have f1:=cB hgx m1 n1;have f2:=cB hgx m2 n2;have g1:=hgx.cell e1 (by simp);have g2:=hgx.cell e2 (by simp);have g3:=hgx.cell e3 (by simp);have HY3:=aH (HY.out.kp hgx.kp);have HG3:=aH (Gc.trans_ HG2.out hgx.toGc);have HSec3:=aH (HSec2.out.gc (hgx.toGc (cb:=nb)) (by omega));have hn:¬w.heap.size=nb:=by omega
     have hn':¬nb=w.heap.size:=by omega
     have hs3:w1.heap.size≤w'.heap.size:=Nat.le_trans hs2 hgx.size;clear hg' hgx m0 m1 m2 n0 n1 n2 e0 e1 e2 e3 HY HG2 HSec2;generalize w'=W3 at k0 k1 k2 f0 f1 f2 g1 g2 g3 HY3 HG3 HSec3 hs3 ⊢;go_wp2
     go_region_held3 (fun w'=>w'.cell? ⟨nb,1,none⟩=some (.int .i64 2)∧w'.cell? ⟨nb,3,none⟩=some (.int .i64 (p:Int))∧w'.cell? ⟨nb,2,none⟩=some (.int .i64 0)) (go_keep) (fail)
     have t0:(((W3.setCell ⟨w.heap.size,0,none⟩ (.int .i64 2)).setCell ⟨w.heap.size,1,none⟩ (.int .i64 0)).setCell ⟨w.heap.size,2,none⟩ (.int .i64 (p:Int))).drew.cell? ⟨w.heap.size,0,none⟩=some (.int .i64 2):=(aJ (w:=((W3.setCell ⟨w.heap.size,0,none⟩ (.int .i64 2)).setCell ⟨w.heap.size,1,none⟩ (.int .i64 0))) (by omega)).trans ((aJ (w:=(W3.setCell ⟨w.heap.size,0,none⟩ (.int .i64 2))) (by omega)).trans (World.cell?_setCell_same W3 _ _ k0));have t1:(((W3.setCell ⟨w.heap.size,0,none⟩ (.int .i64 2)).setCell ⟨w.heap.size,1,none⟩ (.int .i64 0)).setCell ⟨w.heap.size,2,none⟩ (.int .i64 (p:Int))).drew.cell? ⟨w.heap.size,1,none⟩=some (.int .i64 0):=(aJ (w:=((W3.setCell ⟨w.heap.size,0,none⟩ (.int .i64 2)).setCell ⟨w.heap.size,1,none⟩ (.int .i64 0))) (by omega)).trans (World.cell?_setCell_same (W3.setCell ⟨w.heap.size,0,none⟩ (.int .i64 2)) _ _ ((aJ (by omega)).trans k1));have t2:(((W3.setCell ⟨w.heap.size,0,none⟩ (.int .i64 2)).setCell ⟨w.heap.size,1,none⟩ (.int .i64 0)).setCell ⟨w.heap.size,2,none⟩ (.int .i64 (p:Int))).drew.cell? ⟨w.heap.size,2,none⟩=some (.int .i64 (p:Int)):=World.cell?_setCell_same ((W3.setCell ⟨w.heap.size,0,none⟩ (.int .i64 2)).setCell ⟨w.heap.size,1,none⟩ (.int .i64 0)) _ _ ((aJ (w:=(W3.setCell ⟨w.heap.size,0,none⟩ (.int .i64 2))) (by omega)).trans ((aJ (by omega)).trans k2));have HY4:Hid (bY B (((W3.setCell ⟨w.heap.size,0,none⟩ (.int .i64 2)).setCell ⟨w.heap.size,1,none⟩ (.int .i64 0)).setCell ⟨w.heap.size,2,none⟩ (.int .i64 (p:Int))).drew (.slice a1 y.length c1) y):=aH (((((HY3.out.kp (aN (o:=0) (v:=.int .i64 2) hs1)).kp (aN (o:=1) (v:=.int .i64 0) hs1)).kp (aN (o:=2) (v:=.int .i64 (p:Int)) hs1)).kp (Gr.drew (Gr.refl _)).kp).mono (by omega));have HSec4:Hid (kr (((W3.setCell ⟨w.heap.size,0,none⟩ (.int .i64 2)).setCell ⟨w.heap.size,1,none⟩ (.int .i64 0)).setCell ⟨w.heap.size,2,none⟩ (.int .i64 (p:Int))).drew sb t (t.length - r.length)):=aH (((((HSec3.out.set (g:=w.heap.size) (o:=0) (v:=.int .i64 2) (by omega)).set (g:=w.heap.size) (o:=1) (v:=.int .i64 0) (by omega)).set (g:=w.heap.size) (o:=2) (v:=.int .i64 (p:Int)) (by omega))).gc (cb:=w.heap.size) (Gr.drew (Gr.refl _)).toGc (by omega))
     have HG4:=aH (jy (v:=.int .i64 2) (v':=.int .i64 0) (v2:=.int .i64 (p:Int)) HG3.out (Nat.le_refl _));generalize (((W3.setCell ⟨w.heap.size,0,none⟩ (.int .i64 2)).setCell ⟨w.heap.size,1,none⟩ (.int .i64 0)).setCell ⟨w.heap.size,2,none⟩ (.int .i64 (p:Int))).drew=W4 at t0 t1 t2 HY4 HSec4 HG4 ⊢;clear k0 k1 k2 f0 f1 f2 g1 g2 g3 HY3 HG3 HSec3;go_wp2
     exact bodyPost_ret (v:=.tuple #[.slice a1 y.length c1,.agg #[.int .i64 2,.int .i64 0,.int .i64 (p:Int)]]) (by simp [results,Tryz.results91,go_sem,t0,t1,t2]) rfl (by rw [HF.out];exact ⟨_,rfl,HY4.out,HSec4.out,HG4.out⟩)
   · have hbl:s.toList.isEmpty=false:=by
      rw [ByteArray.toList_eq,es];cases r2 with
      | nil=>exact absurd rfl hr2
      | cons b l=>rfl
     have HF:Hid (ai 2 (aM ag) (t.drop p)=none):=aH (by
      rw [HE.out];cases r2 with
      | nil=>exact absurd rfl hr2
      | cons b l=>simp only [a_,HL.out])
     clear es hr2 HE HL;go_wp2
     go_region_with (first|(go_at_call 32;refine (aV _ _ _).mono ?_;rintro e w' ⟨rfl,hg'⟩;refine aQ ?_))
     all_goals exact ⟨rfl,by rw [HF.out];exact ⟨rfl,HG2.out.trans (Gr.trans (Gr.drew (Gr.refl w2)) hg').toGc⟩⟩
theorem qz:d' 93 94 3 3 dK (aM bN):=by
 intro sb B t p w hS hb hB;have hsl:sb < w.heap.size:=World.block_lt_of_cell? w _ hS.2.2.2.1;have HS:=aH hS;clear hS;go_enter Tryz.func93,Tryz.ntmps93
 go_wp2_with fail
 obtain ⟨q0,q1,q2,z0,z1,z2⟩:=kB w;have hg0:Gr w (w.alloc (.cells #[.int .i64 0,.int .i64 0,.int .i64 0] 58)):=Gr.alloc (Gr.refl w) _;have hs0:(w.alloc (.cells #[.int .i64 0,.int .i64 0,.int .i64 0] 58)).heap.size=w.heap.size+1:=by simp
 refine (ir sb t p 3 (by omega) _ (HS.out.gc (cb:=w.heap.size) hg0.toGc (by omega))).mono ?_;generalize (w.alloc (.cells #[.int .i64 0,.int .i64 0,.int .i64 0] 58))=W0 at q0 q1 q2 z0 z1 z2 hg0 hs0 ⊢;intro x w1 h;cases ho:cI 3 (t.drop p) with
 | none=>
  rw [ho] at h;obtain ⟨rfl,hg⟩:=h;exact ⟨rfl,by unfold ai;rw [ho];exact ⟨rfl,Gc.trans_ hg0.toGc hg⟩⟩
 | some q=>
  obtain ⟨body,r⟩:=q;rw [ho] at h;obtain ⟨nb,rfl,hnb,hnb2,hcur,hsec,hg⟩:=h;have HE:Hid (ai 3 (aM bN) (t.drop p)=match a_ (aM bN) body with
   | none=>none
   | some y=>some (y,r)):=aH (by unfold ai;rw [ho];cases hb:a_ (aM bN) body<;>simp only [hb])
  have p0:=hg.box (show ¬w.heap.size=sb by omega) q0;have p1:=hg.box (show ¬w.heap.size=sb by omega) q1;have p2:=hg.box (show ¬w.heap.size=sb by omega) q2;have y0:=hg.boxz (show ¬w.heap.size=sb by omega) q0 z0;have y1:=hg.boxz (show ¬w.heap.size=sb by omega) q1 z1;have y2:=hg.boxz (show ¬w.heap.size=sb by omega) q2 z2;have HG:=aH (Gc.trans_ (hg0.toGc (cb:=sb)) hg);have hs1:w.heap.size < w1.heap.size:=by have:=hg.size;omega
  have HC:=aH hcur;have HSec:=aH hsec;clear ho q0 q1 q2 z0 z1 z2 hg hg0 hcur hsec HS;go_wp2_with fail
  refine (rV nb w1.heap.size body 2 p _ HC.out hnb2 (Nat.le_refl _)).mono ?_;intro x w2 h;cases hl:aM bN body with
  | none=>
   obtain ⟨rfl,hg2⟩:=h.none_ hl;exact ⟨rfl,by rw [HE.out];simp only [a_,hl];exact ⟨rfl,HG.out.over hg2 (by omega)⟩⟩
  | some q=>
   obtain ⟨y,r2⟩:=q;obtain ⟨v,rfl,hy,hcur2,hg2⟩:=h.some_ hl;obtain ⟨a1,c1,rfl⟩:=hy.shape;have HY:=aH hy;have HL:=aH hl;have m0:=hg2.box (show ¬w.heap.size=nb by omega) p0;have m1:=hg2.box (show ¬w.heap.size=nb by omega) p1;have m2:=hg2.box (show ¬w.heap.size=nb by omega) p2;have n0:=hg2.boxz (show ¬w.heap.size=nb by omega) p0 y0;have n1:=hg2.boxz (show ¬w.heap.size=nb by omega) p1 y1;have n2:=hg2.boxz (show ¬w.heap.size=nb by omega) p2 y2;have HG2:=aH (HG.out.over hg2 (by omega));have HSec2:=aH (HSec.out.gc hg2 (by omega));have hs2:w1.heap.size≤w2.heap.size:=hg2.size;obtain ⟨⟨s,e0,es⟩,el,e1,e2,ez,e3⟩:=hcur2;clear h hl hy hg2 p0 p1 p2 y0 y1 y2 HC HSec HG ez el;by_cases hr2:r2= []
   · have hse:s=⟨#[]⟩:=by
      have:s.data.toList= []:=es.trans hr2
      cases s with|mk d=>simp at this;rw [this]
     subst hse;have HF:Hid (ai 3 (aM bN) (t.drop p)=some (y,r)):=aH (by rw [HE.out];simp only [a_,HL.out,hr2]);clear es hr2 HE HL;go_wp2
     go_region_held3 (fun w'=>w'.cell? ⟨nb,0,none⟩=some (.string ⟨#[]⟩)∧w'.cell? ⟨nb,1,none⟩=some (.int .i64 2)∧w'.cell? ⟨nb,3,none⟩=some (.int .i64 (p:Int))∧w'.cell? ⟨nb,2,none⟩=some (.int .i64 0)) (first|go_keep|(refine ⟨?_,?_,?_,?_⟩<;>exact hg'.cell (by assumption) (by simp))) (first|(go_at_call 32;refine (aP _ _ _).mono ?_;rintro e w' ⟨rfl,hg'⟩))
     have hgx:=Gr.trans (Gr.drew (Gr.refl _)) hg';have k0:=hgx.cell m0 (by simp);have k1:=hgx.cell m1 (by simp);have k2:=hgx.cell m2 (by simp);have f0:=cB hgx m0 n0;have f1:=cB hgx m1 n1;have f2:=cB hgx m2 n2;have g1:=hgx.cell e1 (by simp);have g2:=hgx.cell e2 (by simp);have g3:=hgx.cell e3 (by simp);have HY3:=aH (HY.out.kp hgx.kp);have HG3:=aH (Gc.trans_ HG2.out hgx.toGc);have HSec3:=aH (HSec2.out.gc (hgx.toGc (cb:=nb)) (by omega));have hn:¬w.heap.size=nb:=by omega
     have hn':¬nb=w.heap.size:=by omega
     have hs3:w1.heap.size≤w'.heap.size:=Nat.le_trans hs2 hgx.size;clear hg' hgx m0 m1 m2 n0 n1 n2 e0 e1 e2 e3 HY HG2 HSec2;generalize w'=W3 at k0 k1 k2 f0 f1 f2 g1 g2 g3 HY3 HG3 HSec3 hs3 ⊢;go_wp2
     go_region_held3 (fun w'=>w'.cell? ⟨nb,1,none⟩=some (.int .i64 2)∧w'.cell? ⟨nb,3,none⟩=some (.int .i64 (p:Int))∧w'.cell? ⟨nb,2,none⟩=some (.int .i64 0)) (go_keep) (fail)
     have t0:(((W3.setCell ⟨w.heap.size,0,none⟩ (.int .i64 2)).setCell ⟨w.heap.size,1,none⟩ (.int .i64 0)).setCell ⟨w.heap.size,2,none⟩ (.int .i64 (p:Int))).drew.cell? ⟨w.heap.size,0,none⟩=some (.int .i64 2):=(aJ (w:=((W3.setCell ⟨w.heap.size,0,none⟩ (.int .i64 2)).setCell ⟨w.heap.size,1,none⟩ (.int .i64 0))) (by omega)).trans ((aJ (w:=(W3.setCell ⟨w.heap.size,0,none⟩ (.int .i64 2))) (by omega)).trans (World.cell?_setCell_same W3 _ _ k0));have t1:(((W3.setCell ⟨w.heap.size,0,none⟩ (.int .i64 2)).setCell ⟨w.heap.size,1,none⟩ (.int .i64 0)).setCell ⟨w.heap.size,2,none⟩ (.int .i64 (p:Int))).drew.cell? ⟨w.heap.size,1,none⟩=some (.int .i64 0):=(aJ (w:=((W3.setCell ⟨w.heap.size,0,none⟩ (.int .i64 2)).setCell ⟨w.heap.size,1,none⟩ (.int .i64 0))) (by omega)).trans (World.cell?_setCell_same (W3.setCell ⟨w.heap.size,0,none⟩ (.int .i64 2)) _ _ ((aJ (by omega)).trans k1));have t2:(((W3.setCell ⟨w.heap.size,0,none⟩ (.int .i64 2)).setCell ⟨w.heap.size,1,none⟩ (.int .i64 0)).setCell ⟨w.heap.size,2,none⟩ (.int .i64 (p:Int))).drew.cell? ⟨w.heap.size,2,none⟩=some (.int .i64 (p:Int)):=World.cell?_setCell_same ((W3.setCell ⟨w.heap.size,0,none⟩ (.int .i64 2)).setCell ⟨w.heap.size,1,none⟩ (.int .i64 0)) _ _ ((aJ (w:=(W3.setCell ⟨w.heap.size,0,none⟩ (.int .i64 2))) (by omega)).trans ((aJ (by omega)).trans k2));have HY4:Hid (dK B (((W3.setCell ⟨w.heap.size,0,none⟩ (.int .i64 2)).setCell ⟨w.heap.size,1,none⟩ (.int .i64 0)).setCell ⟨w.heap.size,2,none⟩ (.int .i64 (p:Int))).drew (.slice a1 y.length c1) y):=aH (((((HY3.out.kp (aN (o:=0) (v:=.int .i64 2) hs1)).kp (aN (o:=1) (v:=.int .i64 0) hs1)).kp (aN (o:=2) (v:=.int .i64 (p:Int)) hs1)).kp (Gr.drew (Gr.refl _)).kp).mono (by omega));have HSec4:Hid (kr (((W3.setCell ⟨w.heap.size,0,none⟩ (.int .i64 2)).setCell ⟨w.heap.size,1,none⟩ (.int .i64 0)).setCell ⟨w.heap.size,2,none⟩ (.int .i64 (p:Int))).drew sb t (t.length - r.length)):=aH (((((HSec3.out.set (g:=w.heap.size) (o:=0) (v:=.int .i64 2) (by omega)).set (g:=w.heap.size) (o:=1) (v:=.int .i64 0) (by omega)).set (g:=w.heap.size) (o:=2) (v:=.int .i64 (p:Int)) (by omega))).gc (cb:=w.heap.size) (Gr.drew (Gr.refl _)).toGc (by omega))
     have HG4:=aH (jy (v:=.int .i64 2) (v':=.int .i64 0) (v2:=.int .i64 (p:Int)) HG3.out (Nat.le_refl _));generalize (((W3.setCell ⟨w.heap.size,0,none⟩ (.int .i64 2)).setCell ⟨w.heap.size,1,none⟩ (.int .i64 0)).setCell ⟨w.heap.size,2,none⟩ (.int .i64 (p:Int))).drew=W4 at t0 t1 t2 HY4 HSec4 HG4 ⊢;clear k0 k1 k2 f0 f1 f2 g1 g2 g3 HY3 HG3 HSec3;go_wp2
     exact bodyPost_ret (v:=.tuple #[.slice a1 y.length c1,.agg #[.int .i64 2,.int .i64 0,.int .i64 (p:Int)]]) (by simp [results,Tryz.results93,go_sem,t0,t1,t2]) rfl (by rw [HF.out];exact ⟨_,rfl,HY4.out,HSec4.out,HG4.out⟩)
   · have hbl:s.toList.isEmpty=false:=by
      rw [ByteArray.toList_eq,es];cases r2 with
      | nil=>exact absurd rfl hr2
      | cons b l=>rfl
     have HF:Hid (ai 3 (aM bN) (t.drop p)=none):=aH (by
      rw [HE.out];cases r2 with
      | nil=>exact absurd rfl hr2
      | cons b l=>simp only [a_,HL.out])
     clear es hr2 HE HL;go_wp2
     go_region_with (first|(go_at_call 32;refine (aV _ _ _).mono ?_;rintro e w' ⟨rfl,hg'⟩;refine aQ ?_))
     all_goals exact ⟨rfl,by rw [HF.out];exact ⟨rfl,HG2.out.trans (Gr.trans (Gr.drew (Gr.refl w2)) hg').toGc⟩⟩
theorem tw:d' 95 96 4 4 bt (aM cJ):=by
 intro sb B t p w hS hb hB;have hsl:sb < w.heap.size:=World.block_lt_of_cell? w _ hS.2.2.2.1;have HS:=aH hS;clear hS;go_enter Tryz.func95,Tryz.ntmps95
 go_wp2_with fail
 obtain ⟨q0,q1,q2,z0,z1,z2⟩:=kB w;have hg0:Gr w (w.alloc (.cells #[.int .i64 0,.int .i64 0,.int .i64 0] 58)):=Gr.alloc (Gr.refl w) _;have hs0:(w.alloc (.cells #[.int .i64 0,.int .i64 0,.int .i64 0] 58)).heap.size=w.heap.size+1:=by simp
 refine (ir sb t p 4 (by omega) _ (HS.out.gc (cb:=w.heap.size) hg0.toGc (by omega))).mono ?_;generalize (w.alloc (.cells #[.int .i64 0,.int .i64 0,.int .i64 0] 58))=W0 at q0 q1 q2 z0 z1 z2 hg0 hs0 ⊢;intro x w1 h;cases ho:cI 4 (t.drop p) with
 | none=>
  rw [ho] at h;obtain ⟨rfl,hg⟩:=h;exact ⟨rfl,by unfold ai;rw [ho];exact ⟨rfl,Gc.trans_ hg0.toGc hg⟩⟩
 | some q=>
  obtain ⟨body,r⟩:=q;rw [ho] at h;obtain ⟨nb,rfl,hnb,hnb2,hcur,hsec,hg⟩:=h;have HE:Hid (ai 4 (aM cJ) (t.drop p)=match a_ (aM cJ) body with
   | none=>none
   | some y=>some (y,r)):=aH (by unfold ai;rw [ho];cases hb:a_ (aM cJ) body<;>simp only [hb])
  have p0:=hg.box (show ¬w.heap.size=sb by omega) q0;have p1:=hg.box (show ¬w.heap.size=sb by omega) q1;have p2:=hg.box (show ¬w.heap.size=sb by omega) q2;have y0:=hg.boxz (show ¬w.heap.size=sb by omega) q0 z0;have y1:=hg.boxz (show ¬w.heap.size=sb by omega) q1 z1;have y2:=hg.boxz (show ¬w.heap.size=sb by omega) q2 z2;have HG:=aH (Gc.trans_ (hg0.toGc (cb:=sb)) hg);have hs1:w.heap.size < w1.heap.size:=by have:=hg.size;omega
  have HC:=aH hcur;have HSec:=aH hsec;clear ho q0 q1 q2 z0 z1 z2 hg hg0 hcur hsec HS;go_wp2_with fail
  refine (tg nb w1.heap.size body 2 p _ HC.out hnb2 (Nat.le_refl _)).mono ?_;intro x w2 h;cases hl:aM cJ body with
  | none=>
   obtain ⟨rfl,hg2⟩:=h.none_ hl;exact ⟨rfl,by rw [HE.out];simp only [a_,hl];exact ⟨rfl,HG.out.over hg2 (by omega)⟩⟩
  | some q=>
   obtain ⟨y,r2⟩:=q;obtain ⟨v,rfl,hy,hcur2,hg2⟩:=h.some_ hl;obtain ⟨a1,c1,rfl⟩:=hy.shape;have HY:=aH hy;have HL:=aH hl;have m0:=hg2.box (show ¬w.heap.size=nb by omega) p0;have m1:=hg2.box (show ¬w.heap.size=nb by omega) p1;have m2:=hg2.box (show ¬w.heap.size=nb by omega) p2;have n0:=hg2.boxz (show ¬w.heap.size=nb by omega) p0 y0;have n1:=hg2.boxz (show ¬w.heap.size=nb by omega) p1 y1;have n2:=hg2.boxz (show ¬w.heap.size=nb by omega) p2 y2;have HG2:=aH (HG.out.over hg2 (by omega));have HSec2:=aH (HSec.out.gc hg2 (by omega));have hs2:w1.heap.size≤w2.heap.size:=hg2.size;obtain ⟨⟨s,e0,es⟩,el,e1,e2,ez,e3⟩:=hcur2;clear h hl hy hg2 p0 p1 p2 y0 y1 y2 HC HSec HG ez el;by_cases hr2:r2= []
   · have hse:s=⟨#[]⟩:=by
      have:s.data.toList= []:=es.trans hr2
      cases s with|mk d=>simp at this;rw [this]
     subst hse;have HF:Hid (ai 4 (aM cJ) (t.drop p)=some (y,r)):=aH (by rw [HE.out];simp only [a_,HL.out,hr2]);clear es hr2 HE HL;go_wp2
     go_region_held3 (fun w'=>w'.cell? ⟨nb,0,none⟩=some (.string ⟨#[]⟩)∧w'.cell? ⟨nb,1,none⟩=some (.int .i64 2)∧w'.cell? ⟨nb,3,none⟩=some (.int .i64 (p:Int))∧w'.cell? ⟨nb,2,none⟩=some (.int .i64 0)) (first|go_keep|(refine ⟨?_,?_,?_,?_⟩<;>exact hg'.cell (by assumption) (by simp))) (first|(go_at_call 32;refine (aP _ _ _).mono ?_;rintro e w' ⟨rfl,hg'⟩))
     have hgx:=Gr.trans (Gr.drew (Gr.refl _)) hg';have k0:=hgx.cell m0 (by simp);have k1:=hgx.cell m1 (by simp);have k2:=hgx.cell m2 (by simp);have f0:=cB hgx m0 n0;have f1:=cB hgx m1 n1;have f2:=cB hgx m2 n2;have g1:=hgx.cell e1 (by simp);have g2:=hgx.cell e2 (by simp);have g3:=hgx.cell e3 (by simp);have HY3:=aH (HY.out.kp hgx.kp);have HG3:=aH (Gc.trans_ HG2.out hgx.toGc);have HSec3:=aH (HSec2.out.gc (hgx.toGc (cb:=nb)) (by omega));have hn:¬w.heap.size=nb:=by omega
     have hn':¬nb=w.heap.size:=by omega
     have hs3:w1.heap.size≤w'.heap.size:=Nat.le_trans hs2 hgx.size;clear hg' hgx m0 m1 m2 n0 n1 n2 e0 e1 e2 e3 HY HG2 HSec2;generalize w'=W3 at k0 k1 k2 f0 f1 f2 g1 g2 g3 HY3 HG3 HSec3 hs3 ⊢;go_wp2
     go_region_held3 (fun w'=>w'.cell? ⟨nb,1,none⟩=some (.int .i64 2)∧w'.cell? ⟨nb,3,none⟩=some (.int .i64 (p:Int))∧w'.cell? ⟨nb,2,none⟩=some (.int .i64 0)) (go_keep) (fail)
     have t0:(((W3.setCell ⟨w.heap.size,0,none⟩ (.int .i64 2)).setCell ⟨w.heap.size,1,none⟩ (.int .i64 0)).setCell ⟨w.heap.size,2,none⟩ (.int .i64 (p:Int))).drew.cell? ⟨w.heap.size,0,none⟩=some (.int .i64 2):=(aJ (w:=((W3.setCell ⟨w.heap.size,0,none⟩ (.int .i64 2)).setCell ⟨w.heap.size,1,none⟩ (.int .i64 0))) (by omega)).trans ((aJ (w:=(W3.setCell ⟨w.heap.size,0,none⟩ (.int .i64 2))) (by omega)).trans (World.cell?_setCell_same W3 _ _ k0));have t1:(((W3.setCell ⟨w.heap.size,0,none⟩ (.int .i64 2)).setCell ⟨w.heap.size,1,none⟩ (.int .i64 0)).setCell ⟨w.heap.size,2,none⟩ (.int .i64 (p:Int))).drew.cell? ⟨w.heap.size,1,none⟩=some (.int .i64 0):=(aJ (w:=((W3.setCell ⟨w.heap.size,0,none⟩ (.int .i64 2)).setCell ⟨w.heap.size,1,none⟩ (.int .i64 0))) (by omega)).trans (World.cell?_setCell_same (W3.setCell ⟨w.heap.size,0,none⟩ (.int .i64 2)) _ _ ((aJ (by omega)).trans k1));have t2:(((W3.setCell ⟨w.heap.size,0,none⟩ (.int .i64 2)).setCell ⟨w.heap.size,1,none⟩ (.int .i64 0)).setCell ⟨w.heap.size,2,none⟩ (.int .i64 (p:Int))).drew.cell? ⟨w.heap.size,2,none⟩=some (.int .i64 (p:Int)):=World.cell?_setCell_same ((W3.setCell ⟨w.heap.size,0,none⟩ (.int .i64 2)).setCell ⟨w.heap.size,1,none⟩ (.int .i64 0)) _ _ ((aJ (w:=(W3.setCell ⟨w.heap.size,0,none⟩ (.int .i64 2))) (by omega)).trans ((aJ (by omega)).trans k2));have HY4:Hid (bt B (((W3.setCell ⟨w.heap.size,0,none⟩ (.int .i64 2)).setCell ⟨w.heap.size,1,none⟩ (.int .i64 0)).setCell ⟨w.heap.size,2,none⟩ (.int .i64 (p:Int))).drew (.slice a1 y.length c1) y):=aH (((((HY3.out.kp (aN (o:=0) (v:=.int .i64 2) hs1)).kp (aN (o:=1) (v:=.int .i64 0) hs1)).kp (aN (o:=2) (v:=.int .i64 (p:Int)) hs1)).kp (Gr.drew (Gr.refl _)).kp).mono (by omega));have HSec4:Hid (kr (((W3.setCell ⟨w.heap.size,0,none⟩ (.int .i64 2)).setCell ⟨w.heap.size,1,none⟩ (.int .i64 0)).setCell ⟨w.heap.size,2,none⟩ (.int .i64 (p:Int))).drew sb t (t.length - r.length)):=aH (((((HSec3.out.set (g:=w.heap.size) (o:=0) (v:=.int .i64 2) (by omega)).set (g:=w.heap.size) (o:=1) (v:=.int .i64 0) (by omega)).set (g:=w.heap.size) (o:=2) (v:=.int .i64 (p:Int)) (by omega))).gc (cb:=w.heap.size) (Gr.drew (Gr.refl _)).toGc (by omega))
     have HG4:=aH (jy (v:=.int .i64 2) (v':=.int .i64 0) (v2:=.int .i64 (p:Int)) HG3.out (Nat.le_refl _));generalize (((W3.setCell ⟨w.heap.size,0,none⟩ (.int .i64 2)).setCell ⟨w.heap.size,1,none⟩ (.int .i64 0)).setCell ⟨w.heap.size,2,none⟩ (.int .i64 (p:Int))).drew=W4 at t0 t1 t2 HY4 HSec4 HG4 ⊢;clear k0 k1 k2 f0 f1 f2 g1 g2 g3 HY3 HG3 HSec3;go_wp2
     exact bodyPost_ret (v:=.tuple #[.slice a1 y.length c1,.agg #[.int .i64 2,.int .i64 0,.int .i64 (p:Int)]]) (by simp [results,Tryz.results95,go_sem,t0,t1,t2]) rfl (by rw [HF.out];exact ⟨_,rfl,HY4.out,HSec4.out,HG4.out⟩)
   · have hbl:s.toList.isEmpty=false:=by
      rw [ByteArray.toList_eq,es];cases r2 with
      | nil=>exact absurd rfl hr2
      | cons b l=>rfl
     have HF:Hid (ai 4 (aM cJ) (t.drop p)=none):=aH (by
      rw [HE.out];cases r2 with
      | nil=>exact absurd rfl hr2
      | cons b l=>simp only [a_,HL.out])
     clear es hr2 HE HL;go_wp2
     go_region_with (first|(go_at_call 32;refine (aV _ _ _).mono ?_;rintro e w' ⟨rfl,hg'⟩;refine aQ ?_))
     all_goals exact ⟨rfl,by rw [HF.out];exact ⟨rfl,HG2.out.trans (Gr.trans (Gr.drew (Gr.refl w2)) hg').toGc⟩⟩
theorem tE:d' 97 98 5 5 bu (aM cP):=by
 intro sb B t p w hS hb hB;have hsl:sb < w.heap.size:=World.block_lt_of_cell? w _ hS.2.2.2.1;have HS:=aH hS;clear hS;go_enter Tryz.func97,Tryz.ntmps97
 go_wp2_with fail
 obtain ⟨q0,q1,q2,z0,z1,z2⟩:=kB w;have hg0:Gr w (w.alloc (.cells #[.int .i64 0,.int .i64 0,.int .i64 0] 58)):=Gr.alloc (Gr.refl w) _;have hs0:(w.alloc (.cells #[.int .i64 0,.int .i64 0,.int .i64 0] 58)).heap.size=w.heap.size+1:=by simp
 refine (ir sb t p 5 (by omega) _ (HS.out.gc (cb:=w.heap.size) hg0.toGc (by omega))).mono ?_;generalize (w.alloc (.cells #[.int .i64 0,.int .i64 0,.int .i64 0] 58))=W0 at q0 q1 q2 z0 z1 z2 hg0 hs0 ⊢;intro x w1 h;cases ho:cI 5 (t.drop p) with
 | none=>
  rw [ho] at h;obtain ⟨rfl,hg⟩:=h;exact ⟨rfl,by unfold ai;rw [ho];exact ⟨rfl,Gc.trans_ hg0.toGc hg⟩⟩
 | some q=>
  obtain ⟨body,r⟩:=q;rw [ho] at h;obtain ⟨nb,rfl,hnb,hnb2,hcur,hsec,hg⟩:=h;have HE:Hid (ai 5 (aM cP) (t.drop p)=match a_ (aM cP) body with
   | none=>none
   | some y=>some (y,r)):=aH (by unfold ai;rw [ho];cases hb:a_ (aM cP) body<;>simp only [hb])
  have p0:=hg.box (show ¬w.heap.size=sb by omega) q0;have p1:=hg.box (show ¬w.heap.size=sb by omega) q1;have p2:=hg.box (show ¬w.heap.size=sb by omega) q2;have y0:=hg.boxz (show ¬w.heap.size=sb by omega) q0 z0;have y1:=hg.boxz (show ¬w.heap.size=sb by omega) q1 z1;have y2:=hg.boxz (show ¬w.heap.size=sb by omega) q2 z2;have HG:=aH (Gc.trans_ (hg0.toGc (cb:=sb)) hg);have hs1:w.heap.size < w1.heap.size:=by have:=hg.size;omega
  have HC:=aH hcur;have HSec:=aH hsec;clear ho q0 q1 q2 z0 z1 z2 hg hg0 hcur hsec HS;go_wp2_with fail
  refine (uH nb w1.heap.size body 2 p _ HC.out hnb2 (Nat.le_refl _)).mono ?_;intro x w2 h;cases hl:aM cP body with
  | none=>
   obtain ⟨rfl,hg2⟩:=h.none_ hl;exact ⟨rfl,by rw [HE.out];simp only [a_,hl];exact ⟨rfl,HG.out.over hg2 (by omega)⟩⟩
  | some q=>
   obtain ⟨y,r2⟩:=q;obtain ⟨v,rfl,hy,hcur2,hg2⟩:=h.some_ hl;obtain ⟨a1,c1,rfl⟩:=hy.shape;have HY:=aH hy;have HL:=aH hl;have m0:=hg2.box (show ¬w.heap.size=nb by omega) p0;have m1:=hg2.box (show ¬w.heap.size=nb by omega) p1;have m2:=hg2.box (show ¬w.heap.size=nb by omega) p2;have n0:=hg2.boxz (show ¬w.heap.size=nb by omega) p0 y0;have n1:=hg2.boxz (show ¬w.heap.size=nb by omega) p1 y1;have n2:=hg2.boxz (show ¬w.heap.size=nb by omega) p2 y2;have HG2:=aH (HG.out.over hg2 (by omega));have HSec2:=aH (HSec.out.gc hg2 (by omega));have hs2:w1.heap.size≤w2.heap.size:=hg2.size;obtain ⟨⟨s,e0,es⟩,el,e1,e2,ez,e3⟩:=hcur2;clear h hl hy hg2 p0 p1 p2 y0 y1 y2 HC HSec HG ez el;by_cases hr2:r2= []
   · have hse:s=⟨#[]⟩:=by
      have:s.data.toList= []:=es.trans hr2
      cases s with|mk d=>simp at this;rw [this]
     subst hse;have HF:Hid (ai 5 (aM cP) (t.drop p)=some (y,r)):=aH (by rw [HE.out];simp only [a_,HL.out,hr2]);clear es hr2 HE HL;go_wp2
     go_region_held3 (fun w'=>w'.cell? ⟨nb,0,none⟩=some (.string ⟨#[]⟩)∧w'.cell? ⟨nb,1,none⟩=some (.int .i64 2)∧w'.cell? ⟨nb,3,none⟩=some (.int .i64 (p:Int))∧w'.cell? ⟨nb,2,none⟩=some (.int .i64 0)) (first|go_keep|(refine ⟨?_,?_,?_,?_⟩<;>exact hg'.cell (by assumption) (by simp))) (first|(go_at_call 32;refine (aP _ _ _).mono ?_;rintro e w' ⟨rfl,hg'⟩))
     have hgx:=Gr.trans (Gr.drew (Gr.refl _)) hg';have k0:=hgx.cell m0 (by simp);have k1:=hgx.cell m1 (by simp);have k2:=hgx.cell m2 (by simp);have f0:=cB hgx m0 n0;have f1:=cB hgx m1 n1;have f2:=cB hgx m2 n2;have g1:=hgx.cell e1 (by simp);have g2:=hgx.cell e2 (by simp);have g3:=hgx.cell e3 (by simp);have HY3:=aH (HY.out.kp hgx.kp);have HG3:=aH (Gc.trans_ HG2.out hgx.toGc);have HSec3:=aH (HSec2.out.gc (hgx.toGc (cb:=nb)) (by omega));have hn:¬w.heap.size=nb:=by omega
     have hn':¬nb=w.heap.size:=by omega
     have hs3:w1.heap.size≤w'.heap.size:=Nat.le_trans hs2 hgx.size;clear hg' hgx m0 m1 m2 n0 n1 n2 e0 e1 e2 e3 HY HG2 HSec2;generalize w'=W3 at k0 k1 k2 f0 f1 f2 g1 g2 g3 HY3 HG3 HSec3 hs3 ⊢;go_wp2
     go_region_held3 (fun w'=>w'.cell? ⟨nb,1,none⟩=some (.int .i64 2)∧w'.cell? ⟨nb,3,none⟩=some (.int .i64 (p:Int))∧w'.cell? ⟨nb,2,none⟩=some (.int .i64 0)) (go_keep) (fail)
     have t0:(((W3.setCell ⟨w.heap.size,0,none⟩ (.int .i64 2)).setCell ⟨w.heap.size,1,none⟩ (.int .i64 0)).setCell ⟨w.heap.size,2,none⟩ (.int .i64 (p:Int))).drew.cell? ⟨w.heap.size,0,none⟩=some (.int .i64 2):=(aJ (w:=((W3.setCell ⟨w.heap.size,0,none⟩ (.int .i64 2)).setCell ⟨w.heap.size,1,none⟩ (.int .i64 0))) (by omega)).trans ((aJ (w:=(W3.setCell ⟨w.heap.size,0,none⟩ (.int .i64 2))) (by omega)).trans (World.cell?_setCell_same W3 _ _ k0));have t1:(((W3.setCell ⟨w.heap.size,0,none⟩ (.int .i64 2)).setCell ⟨w.heap.size,1,none⟩ (.int .i64 0)).setCell ⟨w.heap.size,2,none⟩ (.int .i64 (p:Int))).drew.cell? ⟨w.heap.size,1,none⟩=some (.int .i64 0):=(aJ (w:=((W3.setCell ⟨w.heap.size,0,none⟩ (.int .i64 2)).setCell ⟨w.heap.size,1,none⟩ (.int .i64 0))) (by omega)).trans (World.cell?_setCell_same (W3.setCell ⟨w.heap.size,0,none⟩ (.int .i64 2)) _ _ ((aJ (by omega)).trans k1));have t2:(((W3.setCell ⟨w.heap.size,0,none⟩ (.int .i64 2)).setCell ⟨w.heap.size,1,none⟩ (.int .i64 0)).setCell ⟨w.heap.size,2,none⟩ (.int .i64 (p:Int))).drew.cell? ⟨w.heap.size,2,none⟩=some (.int .i64 (p:Int)):=World.cell?_setCell_same ((W3.setCell ⟨w.heap.size,0,none⟩ (.int .i64 2)).setCell ⟨w.heap.size,1,none⟩ (.int .i64 0)) _ _ ((aJ (w:=(W3.setCell ⟨w.heap.size,0,none⟩ (.int .i64 2))) (by omega)).trans ((aJ (by omega)).trans k2));have HY4:Hid (bu B (((W3.setCell ⟨w.heap.size,0,none⟩ (.int .i64 2)).setCell ⟨w.heap.size,1,none⟩ (.int .i64 0)).setCell ⟨w.heap.size,2,none⟩ (.int .i64 (p:Int))).drew (.slice a1 y.length c1) y):=aH (((((HY3.out.kp (aN (o:=0) (v:=.int .i64 2) hs1)).kp (aN (o:=1) (v:=.int .i64 0) hs1)).kp (aN (o:=2) (v:=.int .i64 (p:Int)) hs1)).kp (Gr.drew (Gr.refl _)).kp).mono (by omega));have HSec4:Hid (kr (((W3.setCell ⟨w.heap.size,0,none⟩ (.int .i64 2)).setCell ⟨w.heap.size,1,none⟩ (.int .i64 0)).setCell ⟨w.heap.size,2,none⟩ (.int .i64 (p:Int))).drew sb t (t.length - r.length)):=aH (((((HSec3.out.set (g:=w.heap.size) (o:=0) (v:=.int .i64 2) (by omega)).set (g:=w.heap.size) (o:=1) (v:=.int .i64 0) (by omega)).set (g:=w.heap.size) (o:=2) (v:=.int .i64 (p:Int)) (by omega))).gc (cb:=w.heap.size) (Gr.drew (Gr.refl _)).toGc (by omega))
     have HG4:=aH (jy (v:=.int .i64 2) (v':=.int .i64 0) (v2:=.int .i64 (p:Int)) HG3.out (Nat.le_refl _));generalize (((W3.setCell ⟨w.heap.size,0,none⟩ (.int .i64 2)).setCell ⟨w.heap.size,1,none⟩ (.int .i64 0)).setCell ⟨w.heap.size,2,none⟩ (.int .i64 (p:Int))).drew=W4 at t0 t1 t2 HY4 HSec4 HG4 ⊢;clear k0 k1 k2 f0 f1 f2 g1 g2 g3 HY3 HG3 HSec3;go_wp2
     exact bodyPost_ret (v:=.tuple #[.slice a1 y.length c1,.agg #[.int .i64 2,.int .i64 0,.int .i64 (p:Int)]]) (by simp [results,Tryz.results97,go_sem,t0,t1,t2]) rfl (by rw [HF.out];exact ⟨_,rfl,HY4.out,HSec4.out,HG4.out⟩)
   · have hbl:s.toList.isEmpty=false:=by
      rw [ByteArray.toList_eq,es];cases r2 with
      | nil=>exact absurd rfl hr2
      | cons b l=>rfl
     have HF:Hid (ai 5 (aM cP) (t.drop p)=none):=aH (by
      rw [HE.out];cases r2 with
      | nil=>exact absurd rfl hr2
      | cons b l=>simp only [a_,HL.out])
     clear es hr2 HE HL;go_wp2
     go_region_with (first|(go_at_call 32;refine (aV _ _ _).mono ?_;rintro e w' ⟨rfl,hg'⟩;refine aQ ?_))
     all_goals exact ⟨rfl,by rw [HF.out];exact ⟨rfl,HG2.out.trans (Gr.trans (Gr.drew (Gr.refl w2)) hg').toGc⟩⟩
theorem ua:pR:=⟨pf,pG,qz,tw,tE⟩
end Go.Proofs.YtkgncijcnlfhiaaGreat
