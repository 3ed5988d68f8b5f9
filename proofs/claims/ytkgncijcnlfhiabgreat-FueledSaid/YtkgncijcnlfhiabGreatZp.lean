import Derived.Test.YtkgncijcnlfhiabGreatZ6
import Derived.Test.YtkgncijcnlfhiabGreatZ7
namespace Go.Proofs.YtkgncijcnlfhiabGreat
set_option linter.unusedVariables false
set_option linter.unusedSimpArgs false
open Go.RowKit
attribute [local go_sem ↓] Go.wp_at_zero Go.wp_at_succ
def iT(w:World)(g:Nat)(y0 y1 y2 y3 y4 y5 y6 y7:Value):World:=(((((((w.setCell ⟨g,0,none⟩ y0).setCell ⟨g,1,none⟩ y1).setCell ⟨g,2,none⟩ y2).setCell ⟨g,3,none⟩ y3).setCell ⟨g,4,none⟩ y4).setCell ⟨g,5,none⟩ y5).setCell ⟨g,6,none⟩ y6).setCell ⟨g,7,none⟩ y7
theorem zM(w:World)(g:Nat)(y0 y1 y2 y3 y4 y5 y6 y7:Value):(((((((w.setCell ⟨g,0,none⟩ y0).setCell ⟨g,1,none⟩ y1).setCell ⟨g,2,none⟩ y2).setCell ⟨g,3,none⟩ y3).setCell ⟨g,4,none⟩ y4).setCell ⟨g,5,none⟩ y5).setCell ⟨g,6,none⟩ y6).setCell ⟨g,7,none⟩ y7=iT w g y0 y1 y2 y3 y4 y5 y6 y7:=rfl
theorem iv{w:World}{g b:Nat}{y0 y1 y2 y3 y4 y5 y6 y7:Value}(h:¬b=g):(iT w g y0 y1 y2 y3 y4 y5 y6 y7).heap[b]? =w.heap[b]? :=by
 unfold iT;rw [Below.heap_setCell _ _ _ _ h,Below.heap_setCell _ _ _ _ h,Below.heap_setCell _ _ _ _ h,Below.heap_setCell _ _ _ _ h,Below.heap_setCell _ _ _ _ h,Below.heap_setCell _ _ _ _ h,Below.heap_setCell _ _ _ _ h,Below.heap_setCell _ _ _ _ h]
theorem zW{w w1:World}{g:Nat}{y0 y1 y2 y3 y4 y5 y6 y7:Value}(h:Gr w w1)(hg:w.heap.size<=g):Gr w (iT w1 g y0 y1 y2 y3 y4 y5 y6 y7):=(eI (eI (eI (eI (eI (eI (eI (eI h hg) hg) hg) hg) hg) hg) hg) hg)
theorem yF{w:World}{g:Nat}{x0 x1 x2 x3 x4 x5 x6 x7 y0 y1 y2 y3 y4 y5 y6 y7:Value}{t:TypeId}(h:w.heap[g]? =some (.cells #[x0,x1,x2,x3,x4,x5,x6,x7] t (0,0))):(iT w g y0 y1 y2 y3 y4 y5 y6 y7).heap[g]? =some (.cells #[y0,y1,y2,y3,y4,y5,y6,y7] t (0,0)):=by
 unfold iT;have h0:=heap_setCell_same w g 0 _ t y0 h;have h1:=heap_setCell_same _ g 1 _ t y1 h0;have h2:=heap_setCell_same _ g 2 _ t y2 h1;have h3:=heap_setCell_same _ g 3 _ t y3 h2;have h4:=heap_setCell_same _ g 4 _ t y4 h3;have h5:=heap_setCell_same _ g 5 _ t y5 h4;have h6:=heap_setCell_same _ g 6 _ t y6 h5;have h7:=heap_setCell_same _ g 7 _ t y7 h6;simpa using h7
def Aq(w:World)(b:Nat):Prop:=∃arr,w.heap[b]? =some (.cells arr 3 (0,0))
def Bz(w:World)(v1 v2 v3 v4 v5:Value)(N:Nat)(res:Int)(sl:List Int)(x:Ending)(w':World):Prop:=∃vs,x=.returned (.agg #[v1,v2,v3,v4,v5,vs,.int .i64 (N:Int),.int .i64 res])/\Gr w w'/\dS (fun b=>w.heap.size<=b/\Aq w' b) w' vs sl
theorem oW{w:World}{B:Nat}{v:Value}{l:List Int}(h:w.ownsRow B 3 1 v l.length (fP l)):dS (fun b=>B<=b/\Aq w b) w v l:=by
 obtain ⟨h1,h2⟩:=h;rcases h2 with ⟨rfl,h3⟩|⟨g,cap,cur,rfl,hb,hh,h4,h5,h6,h7⟩
 · have:l= []:=List.length_eq_zero_iff.1 h3
   subst this;exact mg _ _
 · refine ⟨_,cap,rfl,⟨Q5,Q5⟩,fun i hi=>⟨g,0,rfl,⟨hb,_,hh⟩,?_⟩⟩;have e:=aU (o:=0+i) hh;rw [e,<-Array.getElem?_toList];have h8:(cur.toList.take (l.length * 1))[i]? =cur.toList[i]? :=by rw [List.getElem?_take,if_pos Q5]
   rw [Nat.zero_add,<-h8,h7,rx hi];rfl
def pw(w:World)(v1 v2 v3 v4 v5 vp vl vc:Value)(res:Int):World:=((w.alloc (.cells #[v1,v2,v3,v4,v5] 29)).alloc (.cells #[vp,.int .i64 res,vl,vc] 47)).alloc (.cells #[.slice none 0 0,.slice none 0 0,.slice none 0 0,.slice none 0 0,.slice none 0 0,.slice none 0 0,.int .i64 0,.int .i64 0] 80)
theorem zQ(w:World)(v1 v2 v3 v4 v5 vp vl vc:Value)(res:Int):((w.alloc (.cells #[v1,v2,v3,v4,v5] 29)).alloc (.cells #[vp,.int .i64 res,vl,vc] 47)).alloc (.cells #[.slice none 0 0,.slice none 0 0,.slice none 0 0,.slice none 0 0,.slice none 0 0,.slice none 0 0,.int .i64 0,.int .i64 0] 80)=pw w v1 v2 v3 v4 v5 vp vl vc res:=rfl
theorem si(w:World)(v1 v2 v3 v4 v5 vp vl vc:Value)(res:Int):Gr w (pw w v1 v2 v3 v4 v5 vp vl vc res)/\(pw w v1 v2 v3 v4 v5 vp vl vc res).heap.size=w.heap.size+1+1+1/\(pw w v1 v2 v3 v4 v5 vp vl vc res).heap[w.heap.size]? =some (.cells #[v1,v2,v3,v4,v5] 29 (0,0))/\(pw w v1 v2 v3 v4 v5 vp vl vc res).heap[w.heap.size+1]? =some (.cells #[vp,.int .i64 res,vl,vc] 47 (0,0))/\(pw w v1 v2 v3 v4 v5 vp vl vc res).heap[w.heap.size+1+1]? =some (.cells #[.slice none 0 0,.slice none 0 0,.slice none 0 0,.slice none 0 0,.slice none 0 0,.slice none 0 0,.int .i64 0,.int .i64 0] 80 (0,0)):=by
 have s1:(w.alloc (.cells #[v1,v2,v3,v4,v5] 29)).heap.size=w.heap.size+1:=Q6
 have s2:((w.alloc (.cells #[v1,v2,v3,v4,v5] 29)).alloc (.cells #[vp,.int .i64 res,vl,vc] 47)).heap.size=w.heap.size+1+1:=Q6
 have h1:=heap_alloc_new w (.cells #[v1,v2,v3,v4,v5] 29);have h2:=heap_alloc_new (w.alloc (.cells #[v1,v2,v3,v4,v5] 29)) (.cells #[vp,.int .i64 res,vl,vc] 47);have h3:=heap_alloc_new ((w.alloc (.cells #[v1,v2,v3,v4,v5] 29)).alloc (.cells #[vp,.int .i64 res,vl,vc] 47)) (.cells #[.slice none 0 0,.slice none 0 0,.slice none 0 0,.slice none 0 0,.slice none 0 0,.slice none 0 0,.int .i64 0,.int .i64 0] 80);rw [s1] at h2;rw [s2] at h3;have g2:=Gr.alloc (Gr.refl (w.alloc (.cells #[v1,v2,v3,v4,v5] 29))) (.cells #[vp,.int .i64 res,vl,vc] 47);have g3:=Gr.alloc (Gr.refl ((w.alloc (.cells #[v1,v2,v3,v4,v5] 29)).alloc (.cells #[vp,.int .i64 res,vl,vc] 47))) (.cells #[.slice none 0 0,.slice none 0 0,.slice none 0 0,.slice none 0 0,.slice none 0 0,.slice none 0 0,.int .i64 0,.int .i64 0] 80);exact ⟨(((Gr.refl w).alloc _).alloc _).alloc _,by simp [pw],((g2.trans g3).block _ Q5 Q6).trans h1,(g3.block _ Q5 Q6).trans h2,h3⟩
set_option maxRecDepth 100000 in
set_option maxHeartbeats 2000000 in
theorem ut(v1 v2 v3 v4 v5 vp vl vc:Value)(f:aO)(w:World)(hu:∀v∈[v1,v2,v3,v4,v5],∃a n c,v=.slice a n c)(hp:aW w vp f.aF)(hl:aW w vl f.aG)(hc:∃a c,vc=.slice a f.code.length c)(Om:f.aF.length<=10000)(Sq:f.aG.length<=10000):
 Calls Tryz.prog 32 #[.agg #[v1,v2,v3,v4,v5],.agg #[vp,.int .i64 f.result,vl,vc]] w (Bz w v1 v2 v3 v4 v5 f.code.length f.result (f.aF++f.aG)):=by
 obtain ⟨q1,n1,c1,rfl⟩:=hu v1 Q6;obtain ⟨q2,n2,c2,rfl⟩:=hu v2 Q6;obtain ⟨q3,n3,c3,rfl⟩:=hu v3 Q6;obtain ⟨q4,n4,c4,rfl⟩:=hu v4 Q6;obtain ⟨q5,n5,c5,rfl⟩:=hu v5 Q6;obtain ⟨qp,cp,rfl⟩:=hp.shape;obtain ⟨ql,cl,rfl⟩:=hl.shape;obtain ⟨qc,cc,rfl⟩:=hc;have HP:=aH hp;have KG:=aH hl;have HF:=aH (si w (.slice q1 n1 c1) (.slice q2 n2 c2) (.slice q3 n3 c3) (.slice q4 n4 c4) (.slice q5 n5 c5) (.slice qp f.aF.length cp) (.slice ql f.aG.length cl) (.slice qc f.code.length cc) f.result);clear hu hp hl;go_enter Tryz.func32,Tryz.ntmps32
 go_wp2_with fail
 rw [zQ];generalize pw w (.slice q1 n1 c1) (.slice q2 n2 c2) (.slice q3 n3 c3) (.slice q4 n4 c4) (.slice q5 n5 c5) (.slice qp f.aF.length cp) (.slice ql f.aG.length cl) (.slice qc f.code.length cc) f.result=V at HF |-;obtain ⟨Qm,OQ,D4,Y0,E5⟩:=HF.out;have KS:Hid (∀w',Gr V w'->w'.cell? ⟨w.heap.size,0,none⟩=some (.slice q1 n1 c1)/\w'.cell? ⟨w.heap.size,1,none⟩=some (.slice q2 n2 c2)/\w'.cell? ⟨w.heap.size,2,none⟩=some (.slice q3 n3 c3)/\w'.cell? ⟨w.heap.size,3,none⟩=some (.slice q4 n4 c4)/\w'.cell? ⟨w.heap.size,4,none⟩=some (.slice q5 n5 c5)/\w'.cell? ⟨w.heap.size+1,0,none⟩=some (.slice qp f.aF.length cp)/\w'.cell? ⟨w.heap.size+1,1,none⟩=some (.int .i64 f.result)/\w'.cell? ⟨w.heap.size+1,2,none⟩=some (.slice ql f.aG.length cl)/\w'.cell? ⟨w.heap.size+1,3,none⟩=some (.slice qc f.code.length cc)):=aH (fun w' g=>by
  have e0:=(g.block w.heap.size Q5 Q6).trans D4;have e1:=(g.block (w.heap.size+1) Q5 Q6).trans Y0;refine ⟨?_,?_,?_,?_,?_,?_,?_,?_,?_⟩<;>first|(rw [aU e0];rfl)|(rw [aU e1];rfl))
 have KR:Hid (∀w',Gr V w'->w'.heap[w.heap.size+1+1]? =some (.cells #[.slice none 0 0,.slice none 0 0,.slice none 0 0,.slice none 0 0,.slice none 0 0,.slice none 0 0,.int .i64 0,.int .i64 0] 80 (0,0))):=aH (fun w' g=>(g.block _ Q5 Q6).trans E5);have KP:Hid (∀(w':World) (y0 y1 y2 y3 y4 y5 y6 y7:Value),Gr V w'->(iT w' (w.heap.size+1+1) y0 y1 y2 y3 y4 y5 y6 y7).cell? ⟨w.heap.size,0,none⟩=some (.slice q1 n1 c1)/\(iT w' (w.heap.size+1+1) y0 y1 y2 y3 y4 y5 y6 y7).cell? ⟨w.heap.size,1,none⟩=some (.slice q2 n2 c2)/\(iT w' (w.heap.size+1+1) y0 y1 y2 y3 y4 y5 y6 y7).cell? ⟨w.heap.size,2,none⟩=some (.slice q3 n3 c3)/\(iT w' (w.heap.size+1+1) y0 y1 y2 y3 y4 y5 y6 y7).cell? ⟨w.heap.size,3,none⟩=some (.slice q4 n4 c4)/\(iT w' (w.heap.size+1+1) y0 y1 y2 y3 y4 y5 y6 y7).cell? ⟨w.heap.size,4,none⟩=some (.slice q5 n5 c5)/\(iT w' (w.heap.size+1+1) y0 y1 y2 y3 y4 y5 y6 y7).cell? ⟨w.heap.size+1,0,none⟩=some (.slice qp f.aF.length cp)/\(iT w' (w.heap.size+1+1) y0 y1 y2 y3 y4 y5 y6 y7).cell? ⟨w.heap.size+1,1,none⟩=some (.int .i64 f.result)/\(iT w' (w.heap.size+1+1) y0 y1 y2 y3 y4 y5 y6 y7).cell? ⟨w.heap.size+1,2,none⟩=some (.slice ql f.aG.length cl)/\(iT w' (w.heap.size+1+1) y0 y1 y2 y3 y4 y5 y6 y7).cell? ⟨w.heap.size+1,3,none⟩=some (.slice qc f.code.length cc)):=aH (fun w' y0 y1 y2 y3 y4 y5 y6 y7 g=>by
  have e0:(iT w' (w.heap.size+1+1) y0 y1 y2 y3 y4 y5 y6 y7).heap[w.heap.size]? =_:=(iv Q5).trans ((g.block w.heap.size Q5 Q6).trans D4);have e1:(iT w' (w.heap.size+1+1) y0 y1 y2 y3 y4 y5 y6 y7).heap[w.heap.size+1]? =_:=(iv Q5).trans ((g.block (w.heap.size+1) Q5 Q6).trans Y0);refine ⟨?_,?_,?_,?_,?_,?_,?_,?_,?_⟩<;>first|(rw [aU e0];rfl)|(rw [aU e1];rfl))
 have HG:=aH Qm;have Ig:=aH OQ;obtain ⟨s0,s1,s2,s3,s4,s5,s6,s7,s8⟩:=KS.out V (Gr.refl V);clear Qm D4 Y0 E5 HF OQ;go_region_held3 (fun w'=>w'.cell? ⟨w.heap.size,0,none⟩=some (.slice q1 n1 c1)/\w'.cell? ⟨w.heap.size,1,none⟩=some (.slice q2 n2 c2)/\w'.cell? ⟨w.heap.size,2,none⟩=some (.slice q3 n3 c3)/\w'.cell? ⟨w.heap.size,3,none⟩=some (.slice q4 n4 c4)/\w'.cell? ⟨w.heap.size,4,none⟩=some (.slice q5 n5 c5)/\w'.cell? ⟨w.heap.size+1,0,none⟩=some (.slice qp f.aF.length cp)/\w'.cell? ⟨w.heap.size+1,1,none⟩=some (.int .i64 f.result)/\w'.cell? ⟨w.heap.size+1,2,none⟩=some (.slice ql f.aG.length cl)/\w'.cell? ⟨w.heap.size+1,3,none⟩=some (.slice qc f.code.length cc)) (first|with_reducible exact KS.out _ O0.out|exact KP.out w2 _ _ _ _ _ _ _ _ O0.out|exact KS.out _ (by repeat (first|with_reducible exact Gr.refl _|with_reducible refine Gr.drew ?_|with_reducible refine Gr.alloc ?_ _|with_reducible refine Gr.trans ?_ (by with_reducible assumption)))) (first|(go_at_call 57;refine (nP V.heap.size (.slice qp f.aF.length cp) (.slice ql f.aG.length cl) f.aF f.aG _ (by simp [go_sem]) (by simp [go_sem]) (HP.out.gr (HG.out.trans (by repeat (first|with_reducible exact Gr.refl _|with_reducible refine Gr.drew ?_|with_reducible refine Gr.alloc ?_ _|with_reducible refine Gr.trans ?_ (by with_reducible assumption))))) (KG.out.gr (HG.out.trans (by repeat (first|with_reducible exact Gr.refl _|with_reducible refine Gr.drew ?_|with_reducible refine Gr.alloc ?_ _|with_reducible refine Gr.trans ?_ (by with_reducible assumption))))) Om Sq).mono ?_;rintro x w2 ⟨v2,rfl,SZ,E0⟩;obtain ⟨q9,c9,rfl⟩:=aL SZ;have O5:=aH SZ;clear SZ;have O0:Hid (Gr V w2):=aH (Gr.trans (Gr.drew (Gr.alloc (Gr.refl V) _)) E0);clear E0;have De:=aH (KR.out w2 O0.out);have r0:=aU (o:=0) De.out;have f0:=bH (o:=0) De.out;have r1:=aU (o:=1) De.out;have f1:=bH (o:=1) De.out;have r2:=aU (o:=2) De.out;have f2:=bH (o:=2) De.out;have r3:=aU (o:=3) De.out;have f3:=bH (o:=3) De.out;have r4:=aU (o:=4) De.out;have f4:=bH (o:=4) De.out;have r5:=aU (o:=5) De.out;have f5:=bH (o:=5) De.out;have r6:=aU (o:=6) De.out;have f6:=bH (o:=6) De.out;have r7:=aU (o:=7) De.out;have f7:=bH (o:=7) De.out;simp at r0 r1 r2 r3 r4 r5 r6 r7))
 all_goals go_wp2_with fail
 all_goals rw [zM]
 all_goals
  have P4:=yF (y0:=.slice q1 n1 c1) (y1:=.slice q2 n2 c2) (y2:=.slice q3 n3 c3) (y3:=.slice q4 n4 c4) (y4:=.slice q5 n5 c5) (y5:=.slice q9 (f.aF++f.aG).length c9) (y6:=.int .i64 (f.code.length:Int)) (y7:=.int .i64 f.result) De.out;have p0:=(aU (o:=0) P4).trans (show _=some (.slice q1 n1 c1) from rfl);have p1:=(aU (o:=1) P4).trans (show _=some (.slice q2 n2 c2) from rfl);have p2:=(aU (o:=2) P4).trans (show _=some (.slice q3 n3 c3) from rfl);have p3:=(aU (o:=3) P4).trans (show _=some (.slice q4 n4 c4) from rfl);have p4:=(aU (o:=4) P4).trans (show _=some (.slice q5 n5 c5) from rfl);have p5:=(aU (o:=5) P4).trans (show _=some (.slice q9 (f.aF++f.aG).length c9) from rfl);have p6:=(aU (o:=6) P4).trans (show _=some (.int .i64 (f.code.length:Int)) from rfl);have p7:=(aU (o:=7) P4).trans (show _=some (.int .i64 f.result) from rfl);have R0:=Ig.out;have hG:Gr w (iT w2 (w.heap.size+1+1) (.slice q1 n1 c1) (.slice q2 n2 c2) (.slice q3 n3 c3) (.slice q4 n4 c4) (.slice q5 n5 c5) (.slice q9 (f.aF++f.aG).length c9) (.int .i64 (f.code.length:Int)) (.int .i64 f.result)):=zW (HG.out.trans O0.out) Q5;have hRI:dS (fun b=>w.heap.size<=b/\Aq (iT w2 (w.heap.size+1+1) (.slice q1 n1 c1) (.slice q2 n2 c2) (.slice q3 n3 c3) (.slice q4 n4 c4) (.slice q5 n5 c5) (.slice q9 (f.aF++f.aG).length c9) (.int .i64 (f.code.length:Int)) (.int .i64 f.result)) b) (iT w2 (w.heap.size+1+1) (.slice q1 n1 c1) (.slice q2 n2 c2) (.slice q3 n3 c3) (.slice q4 n4 c4) (.slice q5 n5 c5) (.slice q9 (f.aF++f.aG).length c9) (.int .i64 (f.code.length:Int)) (.int .i64 f.result)) (.slice q9 (f.aF++f.aG).length c9) (f.aF++f.aG):=(oW O5.out).mono (fun b hb hl=>by
   have Er:V.heap.size+1<=b:=by simpa using hb.1
   obtain ⟨arr,Jl⟩:=hb.2;exact ⟨iv Q5,Q5,arr,(iv Q5).trans Jl⟩)
  have X8:=aH hG;have ZQ:=aH hRI;clear P4 hG hRI;simp only [List.length_append] at p0 p1 p2 p3 p4 p5 p6 p7 X8 ZQ |-;exact bodyPost_ret (v:=.agg #[.slice q1 n1 c1,.slice q2 n2 c2,.slice q3 n3 c3,.slice q4 n4 c4,.slice q5 n5 c5,.slice q9 (f.aF.length+f.aG.length) c9,.int .i64 (f.code.length:Int),.int .i64 f.result]) (by simp [results,Tryz.results32,go_sem,p0,p1,p2,p3,p4,p5,p6,p7]) rfl ⟨_,rfl,X8.out,ZQ.out⟩
open Go.RowKit
theorem uH{u:aK}{f:aO}{i:aw}{ts ps:List Int}(he:dQ u f i=some (ts,ps)):ps.length<=2:=by
 unfold dQ at he;generalize (if 1<=i.a then u.aA[(i.a - 1).toNat]? else none)=S at he;by_cases c0:i.op=0
 · rw [if_pos c0] at he;split at he
   · cases he;simp
   · cases he
 rw [if_neg c0] at he;by_cases c1:i.op=1
 · rw [if_pos c1] at he;cases he;simp
 rw [if_neg c1] at he;by_cases c2:i.op=2
 · rw [if_pos c2] at he;rw [Option.map_eq_some_iff] at he;obtain ⟨k,hk,e⟩:=he;cases e;simp
 rw [if_neg c2] at he;by_cases c3:i.op=3
 · rw [if_pos c3] at he;rw [Option.map_eq_some_iff] at he;obtain ⟨k,hk,e⟩:=he;cases e;simp
 rw [if_neg c3] at he;by_cases c4:i.op=4
 · rw [if_pos c4] at he;cases he;simp
 rw [if_neg c4] at he;by_cases c5:i.op=5
 · rw [if_pos c5] at he;cases he;simp
 rw [if_neg c5] at he;by_cases c6:i.op=6\/i.op=7\/i.op=8\/i.op=9\/i.op=10
 · rw [if_pos c6] at he;cases he;simp
 rw [if_neg c6] at he;by_cases c7:i.op=11
 · rw [if_pos c7] at he;split at he
   · cases he;simp
   · cases he
 rw [if_neg c7] at he;by_cases c8:i.op=12
 · rw [if_pos c8] at he;split at he
   · cases he;simp
   · cases he
 rw [if_neg c8] at he;by_cases c9:i.op=13
 · rw [if_pos c9] at he;split at he
   · cases he;simp
   · rw [Option.map_eq_some_iff] at he;obtain ⟨g,hg,e⟩:=he;cases e;simp
 rw [if_neg c9] at he;by_cases IF:i.op=14
 · rw [if_pos IF] at he;cases he;simp
 rw [if_neg IF] at he;by_cases JF:i.op=15
 · rw [if_pos JF] at he;rw [Option.map_eq_some_iff] at he;obtain ⟨k,hk,e⟩:=he;cases e;simp
 rw [if_neg JF] at he;by_cases MF:i.op=16
 · rw [if_pos MF] at he;rw [Option.bind_eq_some_iff] at he;obtain ⟨s,hs,he⟩:=he;rw [Option.map_eq_some_iff] at he;obtain ⟨k,hk,e⟩:=he;cases e;simp
 rw [if_neg MF] at he;by_cases NF:i.op=17
 · rw [if_pos NF] at he;rw [Option.bind_eq_some_iff] at he;obtain ⟨s,hs,he⟩:=he;rw [Option.map_eq_some_iff] at he;obtain ⟨k,hk,e⟩:=he;cases e;simp
 rw [if_neg NF] at he;by_cases PF:i.op=18
 · rw [if_pos PF] at he;rw [Option.map_eq_some_iff] at he;obtain ⟨k,hk,e⟩:=he;cases e;simp
 rw [if_neg PF] at he;by_cases QF:i.op=19
 · rw [if_pos QF] at he;rw [Option.map_eq_some_iff] at he;obtain ⟨k,hk,e⟩:=he;cases e;simp
 rw [if_neg QF] at he;by_cases RF:i.op=20
 · rw [if_pos RF] at he;cases he;simp
 rw [if_neg RF] at he;cases he
theorem nr{u:aK}{f:aO}{i:aw}{s ts ps:List Int}(he:aj u f i s=some (ts,ps)):ps.length<=2:=by
 unfold aj at he;by_cases c4:i.op=4
 · rw [if_pos c4,Option.map_eq_some_iff] at he;obtain ⟨k,hk,e⟩:=he;cases e;simp
 rw [if_neg c4] at he;by_cases c5:i.op=5
 · rw [if_pos c5,Option.map_eq_some_iff] at he;obtain ⟨k,hk,e⟩:=he;cases e;simp
 rw [if_neg c5] at he;exact uH he
theorem oF{u:aK}{f:aO}{i:aw}{s ts ps:List Int}(he:aj u f i s=some (ts,ps))(Da:i.op=11\/i.op=12):i.a < f.code.length:=by
 unfold aj dQ at he;rcases Da with h|h<;>simp [h] at he<;>exact he.1
theorem sR{w:World}{ao:Option Addr}{c:Nat}{l:List Int}(h:aW w (.slice ao l.length c) l)(hc:l.length<=c){d:Nat}(hd:d<=l.length):aW w (.slice (if c=d then ao else Option.map (fun x=>x.add d) ao) (l.length - d) (c - d)) (l.drop d):=by
 obtain ⟨ao',c',h1,h2,h3⟩:=h;simp only [Value.slice.injEq,true_and] at h1;obtain ⟨rfl,rfl⟩:=h1;refine ⟨_,_,by rw [List.length_drop],by rw [List.length_drop];omega,fun i hi=>?_⟩;rw [List.length_drop] at hi;obtain ⟨b,off,rfl,Z0⟩:=h3 (d+i) Q5;rw [if_neg Q5];refine ⟨b,off+d,by simp [Addr.add],?_⟩;have e:(l.drop d).getD i 0=l.getD (d+i) 0:=by rw [List.getD_eq_getElem?_getD,List.getD_eq_getElem?_getD,List.getElem?_drop]
 rw [e,<-Z0,Nat.add_assoc]
theorem sD{w:World}{ao:Option Addr}{c:Nat}{l:List Int}(h:aW w (.slice ao l.length c) l){d:Nat}(hd:d<=l.length):aW w (.slice ao d c) (l.take d):=by
 obtain ⟨ao',c',h1,h2,h3⟩:=h;simp only [Value.slice.injEq,true_and] at h1;obtain ⟨rfl,rfl⟩:=h1;have hl:(l.take d).length=d:=by rw [List.length_take];omega
 refine ⟨_,_,by rw [hl],Q5,fun i hi=>?_⟩;rw [hl] at hi;obtain ⟨b,off,rfl,Z0⟩:=h3 i Q5;refine ⟨b,off,rfl,?_⟩;have e:(l.take d).getD i 0=l.getD i 0:=by rw [List.getD_eq_getElem?_getD,List.getD_eq_getElem?_getD,List.getElem?_take,if_pos hi]
 rw [e,<-Z0]
theorem oI{w:World}{v x:Value}{l:List Int}{p:Addr}{ao:Option Addr}{n c:Nat}(h:aW w v l)(hp:w.cell? p=some (.slice ao n c)):aW (w.setCell p x) v l:=by
 obtain ⟨a,cap,hv,hm,hc⟩:=h;refine ⟨a,cap,hv,hm,fun i hi=>?_⟩;obtain ⟨b,off,h1,h2⟩:=hc i hi;refine ⟨b,off,h1,?_⟩;rw [World.cell?_setCell_other _ _ _ _ (by intro e;rw [<-e,hp] at h2;cases h2)];exact h2
theorem mr{w:World}{v x y:Value}{l:List Int}{g:Nat}{ao a1:Option Addr}{n c n1 c1:Nat}(h:aW w v l)(h0:w.cell? ⟨g,0,none⟩=some (.slice ao n c))(h1:w.cell? ⟨g,1,none⟩=some (.slice a1 n1 c1)):aW ((w.setCell ⟨g,0,none⟩ x).setCell ⟨g,1,none⟩ y) v l:=
 oI (oI h h0) (by rw [World.cell?_setCell_other _ _ _ _ (by intro e;simp at e)];exact h1)
end Go.Proofs.YtkgncijcnlfhiabGreat
