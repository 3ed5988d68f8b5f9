import Derived.Test.YtkgncijcnlfhiaaGreatZ6
import Derived.Test.YtkgncijcnlfhiaaGreatZ7
import Derived.Test.YtkgncijcnlfhiaaGreatZi
namespace Go.Proofs.YtkgncijcnlfhiaaGreat
set_option linter.unusedVariables false
set_option linter.unusedSimpArgs false
open Go.RowKit
attribute [local go_sem ↓] Go.wp_at_zero Go.wp_at_succ
def iB(w:World)(g:Nat)(y0 y1 y2 y3 y4 y5 y6 y7:Value):World:=(((((((w.setCell ⟨g,0,none⟩ y0).setCell ⟨g,1,none⟩ y1).setCell ⟨g,2,none⟩ y2).setCell ⟨g,3,none⟩ y3).setCell ⟨g,4,none⟩ y4).setCell ⟨g,5,none⟩ y5).setCell ⟨g,6,none⟩ y6).setCell ⟨g,7,none⟩ y7
theorem xG(w:World)(g:Nat)(y0 y1 y2 y3 y4 y5 y6 y7:Value):(((((((w.setCell ⟨g,0,none⟩ y0).setCell ⟨g,1,none⟩ y1).setCell ⟨g,2,none⟩ y2).setCell ⟨g,3,none⟩ y3).setCell ⟨g,4,none⟩ y4).setCell ⟨g,5,none⟩ y5).setCell ⟨g,6,none⟩ y6).setCell ⟨g,7,none⟩ y7=iB w g y0 y1 y2 y3 y4 y5 y6 y7:=rfl
theorem iK{w:World}{g b:Nat}{y0 y1 y2 y3 y4 y5 y6 y7:Value}(h:¬b=g):(iB w g y0 y1 y2 y3 y4 y5 y6 y7).heap[b]? =w.heap[b]? :=by
 unfold iB;rw [Below.heap_setCell _ _ _ _ h,Below.heap_setCell _ _ _ _ h,Below.heap_setCell _ _ _ _ h,Below.heap_setCell _ _ _ _ h,Below.heap_setCell _ _ _ _ h,Below.heap_setCell _ _ _ _ h,Below.heap_setCell _ _ _ _ h,Below.heap_setCell _ _ _ _ h]
theorem xH{w w1:World}{g:Nat}{y0 y1 y2 y3 y4 y5 y6 y7:Value}(h:Gr w w1)(hg:w.heap.size≤g):Gr w (iB w1 g y0 y1 y2 y3 y4 y5 y6 y7):=(d_ (d_ (d_ (d_ (d_ (d_ (d_ (d_ h hg) hg) hg) hg) hg) hg) hg) hg)
theorem wQ{w:World}{g:Nat}{x0 x1 x2 x3 x4 x5 x6 x7 y0 y1 y2 y3 y4 y5 y6 y7:Value}{t:TypeId}(h:w.heap[g]? =some (.cells #[x0,x1,x2,x3,x4,x5,x6,x7] t (0,0))):(iB w g y0 y1 y2 y3 y4 y5 y6 y7).heap[g]? =some (.cells #[y0,y1,y2,y3,y4,y5,y6,y7] t (0,0)):=by
 unfold iB;have h0:=heap_setCell_same w g 0 _ t y0 h;have h1:=heap_setCell_same _ g 1 _ t y1 h0;have h2:=heap_setCell_same _ g 2 _ t y2 h1;have h3:=heap_setCell_same _ g 3 _ t y3 h2;have h4:=heap_setCell_same _ g 4 _ t y4 h3;have h5:=heap_setCell_same _ g 5 _ t y5 h4;have h6:=heap_setCell_same _ g 6 _ t y6 h5;have h7:=heap_setCell_same _ g 7 _ t y7 h6;simpa using h7
def yU(w:World)(b:Nat):Prop:=∃arr,w.heap[b]? =some (.cells arr 3 (0,0))
def AZ(w:World)(v1 v2 v3 v4 v5:Value)(N:Nat)(res:Int)(sl:List Int)(x:Ending)(w':World):Prop:=∃vs,x=.returned (.agg #[v1,v2,v3,v4,v5,vs,.int .i64 (N:Int),.int .i64 res])∧Gr w w'∧dP (fun b=>w.heap.size≤b∧yU w' b) w' vs sl
theorem ml{w:World}{B:Nat}{v:Value}{l:List Int}(h:w.ownsRow B 3 1 v l.length (eh l)):dP (fun b=>B≤b∧yU w b) w v l:=by
 obtain ⟨h1,h2⟩:=h;rcases h2 with ⟨rfl,h3⟩|⟨g,cap,cur,rfl,hb,hh,h4,h5,h6,h7⟩
 · have:l= []:=List.length_eq_zero_iff.1 h3
   subst this;exact ld _ _
 · refine ⟨_,cap,rfl,⟨by omega,by omega⟩,fun i hi=>⟨g,0,rfl,⟨hb,_,hh⟩,?_⟩⟩;have e:=aU (o:=0+i) hh;rw [e,←Array.getElem?_toList];have h8:(cur.toList.take (l.length * 1))[i]? =cur.toList[i]? :=by rw [List.getElem?_take,if_pos (by omega)]
   rw [Nat.zero_add,←h8,h7,qb hi];rfl
def pD(w:World)(v1 v2 v3 v4 v5 vp vl vc:Value)(res:Int):World:=((w.alloc (.cells #[v1,v2,v3,v4,v5] 33)).alloc (.cells #[vp,.int .i64 res,vl,vc] 48)).alloc (.cells #[.slice none 0 0,.slice none 0 0,.slice none 0 0,.slice none 0 0,.slice none 0 0,.slice none 0 0,.int .i64 0,.int .i64 0] 69)
theorem yA(w:World)(v1 v2 v3 v4 v5 vp vl vc:Value)(res:Int):((w.alloc (.cells #[v1,v2,v3,v4,v5] 33)).alloc (.cells #[vp,.int .i64 res,vl,vc] 48)).alloc (.cells #[.slice none 0 0,.slice none 0 0,.slice none 0 0,.slice none 0 0,.slice none 0 0,.slice none 0 0,.int .i64 0,.int .i64 0] 69)=pD w v1 v2 v3 v4 v5 vp vl vc res:=rfl
theorem qO(w:World)(v1 v2 v3 v4 v5 vp vl vc:Value)(res:Int):Gr w (pD w v1 v2 v3 v4 v5 vp vl vc res)∧(pD w v1 v2 v3 v4 v5 vp vl vc res).heap.size=w.heap.size+1+1+1∧(pD w v1 v2 v3 v4 v5 vp vl vc res).heap[w.heap.size]? =some (.cells #[v1,v2,v3,v4,v5] 33 (0,0))∧(pD w v1 v2 v3 v4 v5 vp vl vc res).heap[w.heap.size+1]? =some (.cells #[vp,.int .i64 res,vl,vc] 48 (0,0))∧(pD w v1 v2 v3 v4 v5 vp vl vc res).heap[w.heap.size+1+1]? =some (.cells #[.slice none 0 0,.slice none 0 0,.slice none 0 0,.slice none 0 0,.slice none 0 0,.slice none 0 0,.int .i64 0,.int .i64 0] 69 (0,0)):=by
 have s1:(w.alloc (.cells #[v1,v2,v3,v4,v5] 33)).heap.size=w.heap.size+1:=by simp
 have s2:((w.alloc (.cells #[v1,v2,v3,v4,v5] 33)).alloc (.cells #[vp,.int .i64 res,vl,vc] 48)).heap.size=w.heap.size+1+1:=by simp
 have h1:=heap_alloc_new w (.cells #[v1,v2,v3,v4,v5] 33);have h2:=heap_alloc_new (w.alloc (.cells #[v1,v2,v3,v4,v5] 33)) (.cells #[vp,.int .i64 res,vl,vc] 48);have h3:=heap_alloc_new ((w.alloc (.cells #[v1,v2,v3,v4,v5] 33)).alloc (.cells #[vp,.int .i64 res,vl,vc] 48)) (.cells #[.slice none 0 0,.slice none 0 0,.slice none 0 0,.slice none 0 0,.slice none 0 0,.slice none 0 0,.int .i64 0,.int .i64 0] 69);rw [s1] at h2;rw [s2] at h3;have g2:=Gr.alloc (Gr.refl (w.alloc (.cells #[v1,v2,v3,v4,v5] 33))) (.cells #[vp,.int .i64 res,vl,vc] 48);have g3:=Gr.alloc (Gr.refl ((w.alloc (.cells #[v1,v2,v3,v4,v5] 33)).alloc (.cells #[vp,.int .i64 res,vl,vc] 48))) (.cells #[.slice none 0 0,.slice none 0 0,.slice none 0 0,.slice none 0 0,.slice none 0 0,.slice none 0 0,.int .i64 0,.int .i64 0] 69);exact ⟨(((Gr.refl w).alloc _).alloc _).alloc _,by simp [pD],((g2.trans g3).block _ (by omega) (by simp)).trans h1,(g3.block _ (by omega) (by simp)).trans h2,h3⟩
set_option maxRecDepth 100000 in
set_option maxHeartbeats 2000000 in
theorem uD(v1 v2 v3 v4 v5 vp vl vc:Value)(f:aO)(w:World)(hu:∀v∈[v1,v2,v3,v4,v5],∃a n c,v=.slice a n c)(hp:aX w vp f.aF)(hl:aX w vl f.aG)(hc:∃a c,vc=.slice a f.code.length c)(hpl:f.aF.length≤10000)(hll:f.aG.length≤10000):
 Calls Tryz.prog 26 #[.agg #[v1,v2,v3,v4,v5],.agg #[vp,.int .i64 f.result,vl,vc]] w (AZ w v1 v2 v3 v4 v5 f.code.length f.result (f.aF++f.aG)):=by
 obtain ⟨q1,n1,c1,rfl⟩:=hu v1 (by simp);obtain ⟨q2,n2,c2,rfl⟩:=hu v2 (by simp);obtain ⟨q3,n3,c3,rfl⟩:=hu v3 (by simp);obtain ⟨q4,n4,c4,rfl⟩:=hu v4 (by simp);obtain ⟨q5,n5,c5,rfl⟩:=hu v5 (by simp);obtain ⟨qp,cp,rfl⟩:=hp.shape;obtain ⟨ql,cl,rfl⟩:=hl.shape;obtain ⟨qc,cc,rfl⟩:=hc;have HP:=aH hp;have HLL:=aH hl;have HF:=aH (qO w (.slice q1 n1 c1) (.slice q2 n2 c2) (.slice q3 n3 c3) (.slice q4 n4 c4) (.slice q5 n5 c5) (.slice qp f.aF.length cp) (.slice ql f.aG.length cl) (.slice qc f.code.length cc) f.result);clear hu hp hl;go_enter Tryz.func26,Tryz.ntmps26
 go_wp2_with fail
 rw [yA];generalize pD w (.slice q1 n1 c1) (.slice q2 n2 c2) (.slice q3 n3 c3) (.slice q4 n4 c4) (.slice q5 n5 c5) (.slice qp f.aF.length cp) (.slice ql f.aG.length cl) (.slice qc f.code.length cc) f.result=V at HF ⊢;obtain ⟨hgV,hsV,hb0,hb1,hb2⟩:=HF.out;have KS:Hid (∀w',Gr V w'→w'.cell? ⟨w.heap.size,0,none⟩=some (.slice q1 n1 c1)∧w'.cell? ⟨w.heap.size,1,none⟩=some (.slice q2 n2 c2)∧w'.cell? ⟨w.heap.size,2,none⟩=some (.slice q3 n3 c3)∧w'.cell? ⟨w.heap.size,3,none⟩=some (.slice q4 n4 c4)∧w'.cell? ⟨w.heap.size,4,none⟩=some (.slice q5 n5 c5)∧w'.cell? ⟨w.heap.size+1,0,none⟩=some (.slice qp f.aF.length cp)∧w'.cell? ⟨w.heap.size+1,1,none⟩=some (.int .i64 f.result)∧w'.cell? ⟨w.heap.size+1,2,none⟩=some (.slice ql f.aG.length cl)∧w'.cell? ⟨w.heap.size+1,3,none⟩=some (.slice qc f.code.length cc)):=aH (fun w' g=>by
  have e0:=(g.block w.heap.size (by omega) (by simp)).trans hb0;have e1:=(g.block (w.heap.size+1) (by omega) (by simp)).trans hb1;refine ⟨?_,?_,?_,?_,?_,?_,?_,?_,?_⟩<;>first|(rw [aU e0];rfl)|(rw [aU e1];rfl))
 have KR:Hid (∀w',Gr V w'→w'.heap[w.heap.size+1+1]? =some (.cells #[.slice none 0 0,.slice none 0 0,.slice none 0 0,.slice none 0 0,.slice none 0 0,.slice none 0 0,.int .i64 0,.int .i64 0] 69 (0,0))):=aH (fun w' g=>(g.block _ (by omega) (by simp)).trans hb2);have KP:Hid (∀(w':World) (y0 y1 y2 y3 y4 y5 y6 y7:Value),Gr V w'→(iB w' (w.heap.size+1+1) y0 y1 y2 y3 y4 y5 y6 y7).cell? ⟨w.heap.size,0,none⟩=some (.slice q1 n1 c1)∧(iB w' (w.heap.size+1+1) y0 y1 y2 y3 y4 y5 y6 y7).cell? ⟨w.heap.size,1,none⟩=some (.slice q2 n2 c2)∧(iB w' (w.heap.size+1+1) y0 y1 y2 y3 y4 y5 y6 y7).cell? ⟨w.heap.size,2,none⟩=some (.slice q3 n3 c3)∧(iB w' (w.heap.size+1+1) y0 y1 y2 y3 y4 y5 y6 y7).cell? ⟨w.heap.size,3,none⟩=some (.slice q4 n4 c4)∧(iB w' (w.heap.size+1+1) y0 y1 y2 y3 y4 y5 y6 y7).cell? ⟨w.heap.size,4,none⟩=some (.slice q5 n5 c5)∧(iB w' (w.heap.size+1+1) y0 y1 y2 y3 y4 y5 y6 y7).cell? ⟨w.heap.size+1,0,none⟩=some (.slice qp f.aF.length cp)∧(iB w' (w.heap.size+1+1) y0 y1 y2 y3 y4 y5 y6 y7).cell? ⟨w.heap.size+1,1,none⟩=some (.int .i64 f.result)∧(iB w' (w.heap.size+1+1) y0 y1 y2 y3 y4 y5 y6 y7).cell? ⟨w.heap.size+1,2,none⟩=some (.slice ql f.aG.length cl)∧(iB w' (w.heap.size+1+1) y0 y1 y2 y3 y4 y5 y6 y7).cell? ⟨w.heap.size+1,3,none⟩=some (.slice qc f.code.length cc)):=aH (fun w' y0 y1 y2 y3 y4 y5 y6 y7 g=>by
  have e0:(iB w' (w.heap.size+1+1) y0 y1 y2 y3 y4 y5 y6 y7).heap[w.heap.size]? =_:=(iK (by omega)).trans ((g.block w.heap.size (by omega) (by simp)).trans hb0);have e1:(iB w' (w.heap.size+1+1) y0 y1 y2 y3 y4 y5 y6 y7).heap[w.heap.size+1]? =_:=(iK (by omega)).trans ((g.block (w.heap.size+1) (by omega) (by simp)).trans hb1);refine ⟨?_,?_,?_,?_,?_,?_,?_,?_,?_⟩<;>first|(rw [aU e0];rfl)|(rw [aU e1];rfl))
 have HG:=aH hgV;have HSZ:=aH hsV;obtain ⟨s0,s1,s2,s3,s4,s5,s6,s7,s8⟩:=KS.out V (Gr.refl V);clear hgV hb0 hb1 hb2 HF hsV;go_region_held3 (fun w'=>w'.cell? ⟨w.heap.size,0,none⟩=some (.slice q1 n1 c1)∧w'.cell? ⟨w.heap.size,1,none⟩=some (.slice q2 n2 c2)∧w'.cell? ⟨w.heap.size,2,none⟩=some (.slice q3 n3 c3)∧w'.cell? ⟨w.heap.size,3,none⟩=some (.slice q4 n4 c4)∧w'.cell? ⟨w.heap.size,4,none⟩=some (.slice q5 n5 c5)∧w'.cell? ⟨w.heap.size+1,0,none⟩=some (.slice qp f.aF.length cp)∧w'.cell? ⟨w.heap.size+1,1,none⟩=some (.int .i64 f.result)∧w'.cell? ⟨w.heap.size+1,2,none⟩=some (.slice ql f.aG.length cl)∧w'.cell? ⟨w.heap.size+1,3,none⟩=some (.slice qc f.code.length cc)) (first|with_reducible exact KS.out _ HG2.out|exact KP.out w2 _ _ _ _ _ _ _ _ HG2.out|exact KS.out _ (by repeat (first|with_reducible exact Gr.refl _|with_reducible refine Gr.drew ?_|with_reducible refine Gr.alloc ?_ _|with_reducible refine Gr.trans ?_ (by with_reducible assumption)))) (first|(go_at_call 47;refine (lS V.heap.size (.slice qp f.aF.length cp) (.slice ql f.aG.length cl) f.aF f.aG _ (by simp [go_sem]) (by simp [go_sem]) (HP.out.gr (HG.out.trans (by repeat (first|with_reducible exact Gr.refl _|with_reducible refine Gr.drew ?_|with_reducible refine Gr.alloc ?_ _|with_reducible refine Gr.trans ?_ (by with_reducible assumption))))) (HLL.out.gr (HG.out.trans (by repeat (first|with_reducible exact Gr.refl _|with_reducible refine Gr.drew ?_|with_reducible refine Gr.alloc ?_ _|with_reducible refine Gr.trans ?_ (by with_reducible assumption))))) hpl hll).mono ?_;rintro x w2 ⟨v2,rfl,ho2,hg2⟩;obtain ⟨q9,c9,rfl⟩:=aL ho2;have HO2:=aH ho2;clear ho2;have HG2:Hid (Gr V w2):=aH (Gr.trans (Gr.drew (Gr.alloc (Gr.refl V) _)) hg2);clear hg2;have HRR:=aH (KR.out w2 HG2.out);have r0:=aU (o:=0) HRR.out;have f0:=bJ (o:=0) HRR.out;have r1:=aU (o:=1) HRR.out;have f1:=bJ (o:=1) HRR.out;have r2:=aU (o:=2) HRR.out;have f2:=bJ (o:=2) HRR.out;have r3:=aU (o:=3) HRR.out;have f3:=bJ (o:=3) HRR.out;have r4:=aU (o:=4) HRR.out;have f4:=bJ (o:=4) HRR.out;have r5:=aU (o:=5) HRR.out;have f5:=bJ (o:=5) HRR.out;have r6:=aU (o:=6) HRR.out;have f6:=bJ (o:=6) HRR.out;have r7:=aU (o:=7) HRR.out;have f7:=bJ (o:=7) HRR.out;simp at r0 r1 r2 r3 r4 r5 r6 r7))
 all_goals go_wp2_with fail
 all_goals rw [xG]
 all_goals
  have hbx:=wQ (y0:=.slice q1 n1 c1) (y1:=.slice q2 n2 c2) (y2:=.slice q3 n3 c3) (y3:=.slice q4 n4 c4) (y4:=.slice q5 n5 c5) (y5:=.slice q9 (f.aF++f.aG).length c9) (y6:=.int .i64 (f.code.length:Int)) (y7:=.int .i64 f.result) HRR.out;have p0:=(aU (o:=0) hbx).trans (show _=some (.slice q1 n1 c1) from rfl);have p1:=(aU (o:=1) hbx).trans (show _=some (.slice q2 n2 c2) from rfl);have p2:=(aU (o:=2) hbx).trans (show _=some (.slice q3 n3 c3) from rfl);have p3:=(aU (o:=3) hbx).trans (show _=some (.slice q4 n4 c4) from rfl);have p4:=(aU (o:=4) hbx).trans (show _=some (.slice q5 n5 c5) from rfl);have p5:=(aU (o:=5) hbx).trans (show _=some (.slice q9 (f.aF++f.aG).length c9) from rfl);have p6:=(aU (o:=6) hbx).trans (show _=some (.int .i64 (f.code.length:Int)) from rfl);have p7:=(aU (o:=7) hbx).trans (show _=some (.int .i64 f.result) from rfl);have hsz:=HSZ.out;have hG:Gr w (iB w2 (w.heap.size+1+1) (.slice q1 n1 c1) (.slice q2 n2 c2) (.slice q3 n3 c3) (.slice q4 n4 c4) (.slice q5 n5 c5) (.slice q9 (f.aF++f.aG).length c9) (.int .i64 (f.code.length:Int)) (.int .i64 f.result)):=xH (HG.out.trans HG2.out) (by omega);have hRI:dP (fun b=>w.heap.size≤b∧yU (iB w2 (w.heap.size+1+1) (.slice q1 n1 c1) (.slice q2 n2 c2) (.slice q3 n3 c3) (.slice q4 n4 c4) (.slice q5 n5 c5) (.slice q9 (f.aF++f.aG).length c9) (.int .i64 (f.code.length:Int)) (.int .i64 f.result)) b) (iB w2 (w.heap.size+1+1) (.slice q1 n1 c1) (.slice q2 n2 c2) (.slice q3 n3 c3) (.slice q4 n4 c4) (.slice q5 n5 c5) (.slice q9 (f.aF++f.aG).length c9) (.int .i64 (f.code.length:Int)) (.int .i64 f.result)) (.slice q9 (f.aF++f.aG).length c9) (f.aF++f.aG):=(ml HO2.out).mono (fun b hb hl=>by
   have hb':V.heap.size+1≤b:=by simpa using hb.1
   obtain ⟨arr,harr⟩:=hb.2;exact ⟨iK (by omega),by omega,arr,(iK (by omega)).trans harr⟩)
  have HGF:=aH hG;have HRF:=aH hRI;clear hbx hG hRI;simp only [List.length_append] at p0 p1 p2 p3 p4 p5 p6 p7 HGF HRF ⊢;exact bodyPost_ret (v:=.agg #[.slice q1 n1 c1,.slice q2 n2 c2,.slice q3 n3 c3,.slice q4 n4 c4,.slice q5 n5 c5,.slice q9 (f.aF.length+f.aG.length) c9,.int .i64 (f.code.length:Int),.int .i64 f.result]) (by simp [results,Tryz.results26,go_sem,p0,p1,p2,p3,p4,p5,p6,p7]) rfl ⟨_,rfl,HGF.out,HRF.out⟩
open Go.RowKit
theorem sw{u:aK}{f:aO}{i:aw}{ts ps:List Int}(he:dJ u f i=some (ts,ps)):ps.length≤2:=by
 unfold dJ at he;generalize (if 1≤i.a then u.aA[(i.a - 1).toNat]? else none)=S at he;by_cases c0:i.op=0
 · rw [if_pos c0] at he;split at he
   · cases he;simp
   · cases he
 rw [if_neg c0] at he;by_cases c1:i.op=1
 · rw [if_pos c1] at he;cases he;simp
 rw [if_neg c1] at he;by_cases c2:i.op=2
 · rw [if_pos c2] at he;rw [Option.map_eq_some_iff] at he;obtain ⟨k,hk,e⟩:=he;cases e;simp
 rw [if_neg c2] at he;by_cases c3:i.op=3
 · rw [if_pos c3] at he;rw [Option.map_eq_some_iff] at he;obtain ⟨k,hk,e⟩:=he;cases e;simp
 rw [if_neg c3] at he;by_cases c4:i.op=4
 · rw [if_pos c4] at he;cases he;simp
 rw [if_neg c4] at he;by_cases c5:i.op=5
 · rw [if_pos c5] at he;cases he;simp
 rw [if_neg c5] at he;by_cases c6:i.op=6∨i.op=7∨i.op=8∨i.op=9∨i.op=10
 · rw [if_pos c6] at he;cases he;simp
 rw [if_neg c6] at he;by_cases c7:i.op=11
 · rw [if_pos c7] at he;split at he
   · cases he;simp
   · cases he
 rw [if_neg c7] at he;by_cases c8:i.op=12
 · rw [if_pos c8] at he;split at he
   · cases he;simp
   · cases he
 rw [if_neg c8] at he;by_cases c9:i.op=13
 · rw [if_pos c9] at he;split at he
   · cases he;simp
   · rw [Option.map_eq_some_iff] at he;obtain ⟨g,hg,e⟩:=he;cases e;simp
 rw [if_neg c9] at he;by_cases c10:i.op=14
 · rw [if_pos c10] at he;cases he;simp
 rw [if_neg c10] at he;by_cases c11:i.op=15
 · rw [if_pos c11] at he;rw [Option.map_eq_some_iff] at he;obtain ⟨k,hk,e⟩:=he;cases e;simp
 rw [if_neg c11] at he;by_cases c12:i.op=16
 · rw [if_pos c12] at he;rw [Option.bind_eq_some_iff] at he;obtain ⟨s,hs,he⟩:=he;rw [Option.map_eq_some_iff] at he;obtain ⟨k,hk,e⟩:=he;cases e;simp
 rw [if_neg c12] at he;by_cases c13:i.op=17
 · rw [if_pos c13] at he;rw [Option.bind_eq_some_iff] at he;obtain ⟨s,hs,he⟩:=he;rw [Option.map_eq_some_iff] at he;obtain ⟨k,hk,e⟩:=he;cases e;simp
 rw [if_neg c13] at he;by_cases c14:i.op=18
 · rw [if_pos c14] at he;rw [Option.map_eq_some_iff] at he;obtain ⟨k,hk,e⟩:=he;cases e;simp
 rw [if_neg c14] at he;by_cases c15:i.op=19
 · rw [if_pos c15] at he;rw [Option.map_eq_some_iff] at he;obtain ⟨k,hk,e⟩:=he;cases e;simp
 rw [if_neg c15] at he;by_cases c16:i.op=20
 · rw [if_pos c16] at he;cases he;simp
 rw [if_neg c16] at he;cases he
theorem mh{u:aK}{f:aO}{i:aw}{s ts ps:List Int}(he:A3 u f i s=some (ts,ps)):ps.length≤2:=by
 unfold A3 at he;by_cases c4:i.op=4
 · rw [if_pos c4,Option.map_eq_some_iff] at he;obtain ⟨k,hk,e⟩:=he;cases e;simp
 rw [if_neg c4] at he;by_cases c5:i.op=5
 · rw [if_pos c5,Option.map_eq_some_iff] at he;obtain ⟨k,hk,e⟩:=he;cases e;simp
 rw [if_neg c5] at he;exact sw he
theorem mo{u:aK}{f:aO}{i:aw}{s ts ps:List Int}(he:A3 u f i s=some (ts,ps))(hop:i.op=11∨i.op=12):i.a < f.code.length:=by
 unfold A3 dJ at he;rcases hop with h|h<;>simp [h] at he<;>exact he.1
theorem rT{w:World}{ao:Option Addr}{c:Nat}{l:List Int}(h:aX w (.slice ao l.length c) l)(hc:l.length≤c){d:Nat}(hd:d≤l.length):aX w (.slice (if c=d then ao else Option.map (fun x=>x.add d) ao) (l.length - d) (c - d)) (l.drop d):=by
 obtain ⟨ao',c',h1,h2,h3⟩:=h;simp only [Value.slice.injEq,true_and] at h1;obtain ⟨rfl,rfl⟩:=h1;refine ⟨_,_,by rw [List.length_drop],by rw [List.length_drop];omega,fun i hi=>?_⟩;rw [List.length_drop] at hi;obtain ⟨b,off,rfl,hcell⟩:=h3 (d+i) (by omega);rw [if_neg (by omega)];refine ⟨b,off+d,by simp [Addr.add],?_⟩;have e:(l.drop d).getD i 0=l.getD (d+i) 0:=by rw [List.getD_eq_getElem?_getD,List.getD_eq_getElem?_getD,List.getElem?_drop]
 rw [e,←hcell,Nat.add_assoc]
theorem q_{w:World}{ao:Option Addr}{c:Nat}{l:List Int}(h:aX w (.slice ao l.length c) l){d:Nat}(hd:d≤l.length):aX w (.slice ao d c) (l.take d):=by
 obtain ⟨ao',c',h1,h2,h3⟩:=h;simp only [Value.slice.injEq,true_and] at h1;obtain ⟨rfl,rfl⟩:=h1;have hl:(l.take d).length=d:=by rw [List.length_take];omega
 refine ⟨_,_,by rw [hl],by omega,fun i hi=>?_⟩;rw [hl] at hi;obtain ⟨b,off,rfl,hcell⟩:=h3 i (by omega);refine ⟨b,off,rfl,?_⟩;have e:(l.take d).getD i 0=l.getD i 0:=by rw [List.getD_eq_getElem?_getD,List.getD_eq_getElem?_getD,List.getElem?_take,if_pos hi]
 rw [e,←hcell]
theorem nE{w:World}{v x:Value}{l:List Int}{p:Addr}{ao:Option Addr}{n c:Nat}(h:aX w v l)(hp:w.cell? p=some (.slice ao n c)):aX (w.setCell p x) v l:=by
 obtain ⟨a,cap,hv,hm,hc⟩:=h;refine ⟨a,cap,hv,hm,fun i hi=>?_⟩;obtain ⟨b,off,h1,h2⟩:=hc i hi;refine ⟨b,off,h1,?_⟩;rw [World.cell?_setCell_other _ _ _ _ (by intro e;rw [←e,hp] at h2;cases h2)];exact h2
theorem lN{w:World}{v x y:Value}{l:List Int}{g:Nat}{ao a1:Option Addr}{n c n1 c1:Nat}(h:aX w v l)(h0:w.cell? ⟨g,0,none⟩=some (.slice ao n c))(h1:w.cell? ⟨g,1,none⟩=some (.slice a1 n1 c1)):aX ((w.setCell ⟨g,0,none⟩ x).setCell ⟨g,1,none⟩ y) v l:=
 nE (nE h h0) (by rw [World.cell?_setCell_other _ _ _ _ (by intro e;simp at e)];exact h1)
end Go.Proofs.YtkgncijcnlfhiaaGreat
