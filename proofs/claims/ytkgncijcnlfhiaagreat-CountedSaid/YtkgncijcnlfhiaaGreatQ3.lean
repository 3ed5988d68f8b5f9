import Derived.Test.YtkgncijcnlfhiaaGreatV1
import Derived.Test.YtkgncijcnlfhiaaGreatE1
import Derived.Test.YtkgncijcnlfhiaaGreatS1
import Derived.Test.YtkgncijcnlfhiaaGreatD1
namespace Go.Proofs.YtkgncijcnlfhiaaGreat
set_option maxRecDepth 100000
set_option maxHeartbeats 2000000
set_option linter.unusedVariables false
set_option linter.unusedSimpArgs false
open Go.RowKit
def As(l:List aK)(ob:Nat)(W:World)(x:Ending)(w':World):Prop:=
 (∃u p0 p1 p2 p4 n0 n1 n2 n4 q0 q1 q2 q4 w1,bw l=.inl u∧x=.returned (.tuple #[])∧jL W.heap.size w1 (.agg #[.slice p0 n0 q0,.slice p1 n1 q1,.slice p2 n2 q2,.slice none 0 0,.slice p4 n4 q4]) u∧Gr W w1∧w'=eT w1 ob (.slice p0 n0 q0) (.slice p1 n1 q1) (.slice p2 n2 q2) (.slice none 0 0) (.slice p4 n4 q4))∨
 ∃(e:Int) (k:Nat),bw l=.inr (e,k)∧x=.panicked (dF e (k:Int))∧Gr W w'
theorem uJ(l:List aK)(vl:Value)(ub ob:Nat)(W:World)(hR:dh W vl l)(hu:W.cell? ⟨ub,0,none⟩=some vl)(ho:W.heap[ob]? =some (.cells #[.slice none 0 0,.slice none 0 0,.slice none 0 0,.slice none 0 0,.slice none 0 0] 33 (0,0))):
 Calls Tryz.prog 21 #[.pointer (some ⟨ub,0,none⟩),.pointer (some ⟨ob,0,none⟩)] W (As l ob W):=by
 obtain ⟨al,cl,rfl⟩:=hR.shape;have HUN:=aH (tR W l _ hR);have HO:=aH ho;clear hR ho;go_enter Tryz.func21,Tryz.ntmps21
 go_wp2_with fail
 refine HUN.out.mono ?_;rintro x w1 ⟨hg,⟨v,u,hl,rfl,hv⟩|⟨e,k,hl,rfl⟩⟩
 · obtain ⟨p0,p1,p2,p4,n0,n1,n2,n4,q0,q1,q2,q4,rfl⟩:=hv.slices;have hob:=(hg.block ob (Array.getElem?_eq_some_iff.1 HO.out).1 (by simp)).trans HO.out;have c0:w1.cell? ⟨ob,0,none⟩=some (.slice none 0 0):=by rw [aI hob];rfl
   have c1:w1.cell? ⟨ob,1,none⟩=some (.slice none 0 0):=by rw [aI hob];rfl
   have c2:w1.cell? ⟨ob,2,none⟩=some (.slice none 0 0):=by rw [aI hob];rfl
   have c3:w1.cell? ⟨ob,3,none⟩=some (.slice none 0 0):=by rw [aI hob];rfl
   have c4:w1.cell? ⟨ob,4,none⟩=some (.slice none 0 0):=by rw [aI hob];rfl
   have z0:w1.frozen? ⟨ob,0,none⟩=false:=aR hob;have z1:w1.frozen? ⟨ob,1,none⟩=false:=aR hob;have z2:w1.frozen? ⟨ob,2,none⟩=false:=aR hob;have z3:w1.frozen? ⟨ob,3,none⟩=false:=aR hob;have z4:w1.frozen? ⟨ob,4,none⟩=false:=aR hob;have HL:=aH hl;have HV:=aH hv;have HG:=aH hg;clear hl hv hg hob HUN;go_wp2_with fail
   go_end0
   exact .inl ⟨u,p0,p1,p2,p4,n0,n1,n2,n4,q0,q1,q2,q4,w1,HL.out,rfl,HV.out,HG.out,rfl⟩
 · exact ⟨rfl,.inr ⟨e,k,hl,rfl,hg⟩⟩
def vM(W:World)(l:List aK)(e a:Int)(w1:World):Prop:=∃p0 p1 p2 p3 p4 n0 n1 n2 n3 n4 q0 q1 q2 q3 q4,w1.heap[W.heap.size+2]? =some (.cells #[.slice p0 n0 q0,.slice p1 n1 q1,.slice p2 n2 q2,.slice p3 n3 q3,.slice p4 n4 q4] 33 (0,0))∧w1.heap[W.heap.size+1]? =some (.cells #[.slice none 0 0,.slice none 0 0,.slice none 0 0,.slice none 0 0,.slice none 0 0] 33 (0,0))∧Gr W w1∧W.heap.size+4≤w1.heap.size∧
 ((∃u,bw l=.inl u∧e=0∧a=0∧jL (W.heap.size+4) w1 (.agg #[.slice p0 n0 q0,.slice p1 n1 q1,.slice p2 n2 q2,.slice p3 n3 q3,.slice p4 n4 q4]) u)∨∃k:Nat,bw l=.inr (e,k)∧a=(k:Int)∧(.agg #[.slice p0 n0 q0,.slice p1 n1 q1,.slice p2 n2 q2,.slice p3 n3 q3,.slice p4 n4 q4]:Value)=.agg #[.slice none 0 0,.slice none 0 0,.slice none 0 0,.slice none 0 0,.slice none 0 0])
def zW(W:World)(l:List aK)(x:Ending)(w':World):Prop:=Gr W w'∧((∃v u,bw l=.inl u∧x=.returned (.tuple #[v,.int .i64 0,.int .i64 0])∧jL W.heap.size w' v u)∨∃(e:Int) (k:Nat),bw l=.inr (e,k)∧x=.returned (.tuple #[.agg #[.slice none 0 0,.slice none 0 0,.slice none 0 0,.slice none 0 0,.slice none 0 0],.int .i64 e,.int .i64 (k:Int)]))
theorem jL.less{C C':Nat}{w:World}{v:Value}{u:aK}(h:jL C w v u)(hc:C'≤C):jL C' w v u:=by
 obtain ⟨v1,v2,v3,v5,es1,cs,es3,es5,ρ,B,e1,hb,r⟩:=h;exact ⟨v1,v2,v3,v5,es1,cs,es3,es5,ρ,B,e1,Nat.le_trans hc hb,r⟩
theorem qy{w:World}{b g:Nat}{x0 x1 x2 y0 y1 y2 y3 y4:Value}(h:cO w g x0 x1 x2)(hg:¬g=b):cO (eT w b y0 y1 y2 y3 y4) g x0 x1 x2:=by
 obtain ⟨h0,h1,h2,z0,z1,z2⟩:=h;have e:=eR (w:=w) (b:=b) (y0:=y0) (y1:=y1) (y2:=y2) (y3:=y3) (y4:=y4) hg;exact ⟨(World.cell?_of_block (a:=⟨g,0,none⟩) e).trans h0,(World.cell?_of_block (a:=⟨g,1,none⟩) e).trans h1,(World.cell?_of_block (a:=⟨g,2,none⟩) e).trans h2,(World.frozen?_of_block (a:=⟨g,0,none⟩) e).trans z0,(World.frozen?_of_block (a:=⟨g,1,none⟩) e).trans z1,(World.frozen?_of_block (a:=⟨g,2,none⟩) e).trans z2⟩
theorem Tryz.infUn:(Tryz.prog.info? 33).map (·.size)=some 5:=by kernel_rfl
theorem uT(W:World)(l:List aK)(vl:Value)(hR:dh W vl l):Calls Tryz.prog 15 #[vl] W (zW W l):=by
 have hmf:∀(fn:Fn) (first cap:Array Value) (w:World),(Instr.makeFunc fn first cap).run Tryz.prog w=.ok (.func fn first cap) w:=fun _ _ _ _=>rfl
 obtain ⟨al,cl,rfl⟩:=hR.shape;have hb0:=heap_alloc_new W (.cells #[.slice al l.length cl] 42);have hb1:=heap_alloc_new (W.alloc (.cells #[.slice al l.length cl] 42)) (.cells #[.slice none 0 0,.slice none 0 0,.slice none 0 0,.slice none 0 0,.slice none 0 0] 33);have hb2:=heap_alloc_new ((W.alloc (.cells #[.slice al l.length cl] 42)).alloc (.cells #[.slice none 0 0,.slice none 0 0,.slice none 0 0,.slice none 0 0,.slice none 0 0] 33)) (.cells #[.slice none 0 0,.slice none 0 0,.slice none 0 0,.slice none 0 0,.slice none 0 0] 33);have s1:(W.alloc (.cells #[.slice al l.length cl] 42)).heap.size=W.heap.size+1:=by simp
 have s2:((W.alloc (.cells #[.slice al l.length cl] 42)).alloc (.cells #[.slice none 0 0,.slice none 0 0,.slice none 0 0,.slice none 0 0,.slice none 0 0] 33)).heap.size=W.heap.size+2:=by simp
 have s3:(((W.alloc (.cells #[.slice al l.length cl] 42)).alloc (.cells #[.slice none 0 0,.slice none 0 0,.slice none 0 0,.slice none 0 0,.slice none 0 0] 33)).alloc (.cells #[.slice none 0 0,.slice none 0 0,.slice none 0 0,.slice none 0 0,.slice none 0 0] 33)).heap.size=W.heap.size+3:=by simp
 rw [s1] at hb1;rw [s2] at hb2;have gV:Gr W (((W.alloc (.cells #[.slice al l.length cl] 42)).alloc (.cells #[.slice none 0 0,.slice none 0 0,.slice none 0 0,.slice none 0 0,.slice none 0 0] 33)).alloc (.cells #[.slice none 0 0,.slice none 0 0,.slice none 0 0,.slice none 0 0,.slice none 0 0] 33)):=(((Gr.refl W).alloc _).alloc _).alloc _;have g2:Gr ((W.alloc (.cells #[.slice al l.length cl] 42)).alloc (.cells #[.slice none 0 0,.slice none 0 0,.slice none 0 0,.slice none 0 0,.slice none 0 0] 33)) (((W.alloc (.cells #[.slice al l.length cl] 42)).alloc (.cells #[.slice none 0 0,.slice none 0 0,.slice none 0 0,.slice none 0 0,.slice none 0 0] 33)).alloc (.cells #[.slice none 0 0,.slice none 0 0,.slice none 0 0,.slice none 0 0,.slice none 0 0] 33)):=(Gr.refl _).alloc _;have g1:Gr (W.alloc (.cells #[.slice al l.length cl] 42)) (((W.alloc (.cells #[.slice al l.length cl] 42)).alloc (.cells #[.slice none 0 0,.slice none 0 0,.slice none 0 0,.slice none 0 0,.slice none 0 0] 33)).alloc (.cells #[.slice none 0 0,.slice none 0 0,.slice none 0 0,.slice none 0 0,.slice none 0 0] 33)):=((Gr.refl _).alloc _).alloc _;have k0:(((W.alloc (.cells #[.slice al l.length cl] 42)).alloc (.cells #[.slice none 0 0,.slice none 0 0,.slice none 0 0,.slice none 0 0,.slice none 0 0] 33)).alloc (.cells #[.slice none 0 0,.slice none 0 0,.slice none 0 0,.slice none 0 0,.slice none 0 0] 33)).cell? ⟨W.heap.size,0,none⟩=some (.slice al l.length cl):=g1.cell (by rw [aI hb0];rfl) (by simp);have k1:=(g2.block (W.heap.size+1) (by rw [s2];omega) (by simp)).trans hb1;have HV:=aH (And.intro gV (And.intro s3 (And.intro k0 (And.intro k1 hb2))));have HR:=aH hR;clear hb0 hb1 hb2 s1 s2 s3 gV g2 g1 k0 k1 hR;go_enter Tryz.func15,Tryz.ntmps15
 go_wp2_with fail
 generalize (((W.alloc (.cells #[.slice al l.length cl] 42)).alloc (.cells #[.slice none 0 0,.slice none 0 0,.slice none 0 0,.slice none 0 0,.slice none 0 0] 33)).alloc (.cells #[.slice none 0 0,.slice none 0 0,.slice none 0 0,.slice none 0 0,.slice none 0 0] 33))=V at HV ⊢;obtain ⟨gV,hsV,k0,k1,k2⟩:=HV.out;clear HV;have hwb:cO (V.alloc (.cells #[.int .i64 0,.int .i64 0,.int .i64 0] 58)) V.heap.size (.int .i64 0) (.int .i64 0) (.int .i64 0):=cO.new V 58 (.int .i64 0) (.int .i64 0) (.int .i64 0);have hgr:=Gr.alloc (Gr.refl V) (.cells #[.int .i64 0,.int .i64 0,.int .i64 0] 58);have hgs:(V.alloc (.cells #[.int .i64 0,.int .i64 0,.int .i64 0] 58)).heap.size=V.heap.size+1:=by simp
 refine (gR 21 #[.pointer (some ⟨W.heap.size,0,none⟩),.pointer (some ⟨W.heap.size+2,0,none⟩)] V (fun w1=>vM W l 0 0 w1) (fun e n a w1=>n=0∧vM W l e a w1) (fun w=>rfl)
  ((uJ l _ W.heap.size (W.heap.size+2) _ (HR.out.gr (gV.trans hgr)) (hgr.cell k0 (by simp)) ((hgr.block _ (by omega) (by simp)).trans k2)).mono ?_)).mono ?_
 · intro x w' h;rcases h with ⟨u,p0,p1,p2,p4,n0,n1,n2,n4,q0,q1,q2,q4,w1,hl,rfl,hv,hg,rfl⟩|⟨e,k,hl,rfl,hg⟩
   · have hsz:(eT w1 (W.heap.size+2) (.slice p0 n0 q0) (.slice p1 n1 q1) (.slice p2 n2 q2) (.slice none 0 0) (.slice p4 n4 q4)).heap.size=w1.heap.size:=by unfold eT;simp
     have hs4:W.heap.size+4≤w1.heap.size:=by have:=hg.size;omega
     have gW:=gV.trans (hgr.trans hg);refine ⟨qy (hwb.gr hg) (by omega),.inl ⟨rfl,p0,p1,p2,none,p4,n0,n1,n2,0,n4,q0,q1,q2,0,q4,?_,?_,?_,by rw [hsz];exact hs4,.inl ⟨u,hl,rfl,rfl,?_⟩⟩⟩
     · exact je ((hg.block _ (by omega) (by simp)).trans ((hgr.block _ (by omega) (by simp)).trans k2))
     · exact (eR (by omega)).trans ((hg.block _ (by omega) (by simp)).trans ((hgr.block _ (by omega) (by simp)).trans k1))
     · exact ⟨gW.os,gW.tape,gW.output,by rw [hsz];exact gW.size,fun i hi hne=>(eR (by omega)).trans (gW.block i hi hne)⟩
     · rw [hgs,hsV] at hv;exact hv.mv (by omega) (fun k hk _=>eR (by omega))
   · have hs4:W.heap.size+4≤w'.heap.size:=by have:=hg.size;omega
     exact ⟨hwb.gr hg,.inr ⟨e,0,(k:Int),rfl,rfl,none,none,none,none,none,0,0,0,0,0,0,0,0,0,0,(hg.block _ (by omega) (by simp)).trans ((hgr.block _ (by omega) (by simp)).trans k2),(hg.block _ (by omega) (by simp)).trans ((hgr.block _ (by omega) (by simp)).trans k1),gV.trans (hgr.trans hg),hs4,.inr ⟨k,hl,rfl,rfl⟩⟩⟩
 · rintro x w2 ⟨w1,hgc,_,hx⟩;have hy:∃e n a:Int,x=.returned (.agg #[.int .i64 e,.int .i64 n,.int .i64 a])∧vM W l e a w1:=by
    rcases hx with ⟨rfl,h⟩|⟨e,n,a,rfl,-,h⟩
    · exact ⟨0,0,0,rfl,h⟩
    · exact ⟨e,n,a,rfl,h⟩
   obtain ⟨e,n,a,rfl,p0,p1,p2,p3,p4,n0,n1,n2,n3,n4,q0,q1,q2,q3,q4,hone,hres,hgW,hs4,hfin⟩:=hy;have hgc2:∀k,k < w1.heap.size→¬k=W.heap.size+3→w2.heap[k]? =w1.heap[k]? :=fun k hk hn=>hgc.block k hk (by simp;omega)
   have hone2:=(hgc2 _ (by omega) (by omega)).trans hone;have hres2:=(hgc2 _ (by omega) (by omega)).trans hres;have hgW2:Gr W w2:=⟨hgc.os.trans hgW.os,hgc.tape.trans hgW.tape,hgc.output.trans hgW.output,Nat.le_trans hgW.size hgc.size,fun i hi hne=>(hgc2 i (by have:=hgW.size;omega) (by omega)).trans (hgW.block i hi hne)⟩;have hfin2:(∃u,bw l=.inl u∧e=0∧a=0∧jL (W.heap.size+4) w2 (.agg #[.slice p0 n0 q0,.slice p1 n1 q1,.slice p2 n2 q2,.slice p3 n3 q3,.slice p4 n4 q4]) u)∨∃k:Nat,bw l=.inr (e,k)∧a=(k:Int)∧(.agg #[.slice p0 n0 q0,.slice p1 n1 q1,.slice p2 n2 q2,.slice p3 n3 q3,.slice p4 n4 q4]:Value)=.agg #[.slice none 0 0,.slice none 0 0,.slice none 0 0,.slice none 0 0,.slice none 0 0]:=by
    rcases hfin with ⟨u,h1,h2,h3,h4⟩|h
    · exact .inl ⟨u,h1,h2,h3,h4.mv hgc.size (fun k hk hl=>hgc2 k hl (by omega))⟩
    · exact .inr h
   have hs42:W.heap.size+4≤w2.heap.size:=Nat.le_trans hs4 hgc.size;have hb3:=heap_alloc_new w2 (.cells #[.int .i64 e,.int .i64 n,.int .i64 a] 58);have g3:=(Gr.refl w2).alloc (.cells #[.int .i64 e,.int .i64 n,.int .i64 a] 58);have KH:Hid (∀w',Gr (w2.alloc (.cells #[.int .i64 e,.int .i64 n,.int .i64 a] 58)) w'→w'.heap[W.heap.size+2]? =some (.cells #[.slice p0 n0 q0,.slice p1 n1 q1,.slice p2 n2 q2,.slice p3 n3 q3,.slice p4 n4 q4] 33 (0,0))∧w'.heap[W.heap.size+1]? =some (.cells #[.slice none 0 0,.slice none 0 0,.slice none 0 0,.slice none 0 0,.slice none 0 0] 33 (0,0))∧w'.heap[w2.heap.size]? =some (.cells #[.int .i64 e,.int .i64 n,.int .i64 a] 58 (0,0))):=aH (fun w' g=>
    ⟨((g3.trans g).block _ (by omega) (by simp)).trans hone2,((g3.trans g).block _ (by omega) (by simp)).trans hres2,(g.block _ (by simp) (by simp)).trans hb3⟩)
   have KS:Hid (∀w',Gr (w2.alloc (.cells #[.int .i64 e,.int .i64 n,.int .i64 a] 58)) w'→w'.cell? ⟨W.heap.size+2,0,none⟩=some (.slice p0 n0 q0)∧w'.cell? ⟨W.heap.size+2,1,none⟩=some (.slice p1 n1 q1)∧w'.cell? ⟨W.heap.size+2,2,none⟩=some (.slice p2 n2 q2)∧w'.cell? ⟨W.heap.size+2,3,none⟩=some (.slice p3 n3 q3)∧w'.cell? ⟨W.heap.size+2,4,none⟩=some (.slice p4 n4 q4)∧w'.cell? ⟨w2.heap.size,0,none⟩=some (.int .i64 e)∧w'.cell? ⟨w2.heap.size,2,none⟩=some (.int .i64 a)):=aH (fun w' g=>by
    obtain ⟨d1,_,d3⟩:=KH.out w' g;refine ⟨?_,?_,?_,?_,?_,?_,?_⟩<;>first|(rw [aI d1];rfl)|(rw [aI d3];rfl))
   have KSR:Hid (∀w',Gr (w2.alloc (.cells #[.int .i64 e,.int .i64 n,.int .i64 a] 58)) w'→(w'.setRow (W.heap.size+1) #[.slice p0 n0 q0,.slice p1 n1 q1,.slice p2 n2 q2,.slice p3 n3 q3,.slice p4 n4 q4]).cell? ⟨W.heap.size+2,0,none⟩=some (.slice p0 n0 q0)∧(w'.setRow (W.heap.size+1) #[.slice p0 n0 q0,.slice p1 n1 q1,.slice p2 n2 q2,.slice p3 n3 q3,.slice p4 n4 q4]).cell? ⟨W.heap.size+2,1,none⟩=some (.slice p1 n1 q1)∧(w'.setRow (W.heap.size+1) #[.slice p0 n0 q0,.slice p1 n1 q1,.slice p2 n2 q2,.slice p3 n3 q3,.slice p4 n4 q4]).cell? ⟨W.heap.size+2,2,none⟩=some (.slice p2 n2 q2)∧(w'.setRow (W.heap.size+1) #[.slice p0 n0 q0,.slice p1 n1 q1,.slice p2 n2 q2,.slice p3 n3 q3,.slice p4 n4 q4]).cell? ⟨W.heap.size+2,3,none⟩=some (.slice p3 n3 q3)∧(w'.setRow (W.heap.size+1) #[.slice p0 n0 q0,.slice p1 n1 q1,.slice p2 n2 q2,.slice p3 n3 q3,.slice p4 n4 q4]).cell? ⟨W.heap.size+2,4,none⟩=some (.slice p4 n4 q4)∧(w'.setRow (W.heap.size+1) #[.slice p0 n0 q0,.slice p1 n1 q1,.slice p2 n2 q2,.slice p3 n3 q3,.slice p4 n4 q4]).cell? ⟨w2.heap.size,0,none⟩=some (.int .i64 e)∧(w'.setRow (W.heap.size+1) #[.slice p0 n0 q0,.slice p1 n1 q1,.slice p2 n2 q2,.slice p3 n3 q3,.slice p4 n4 q4]).cell? ⟨w2.heap.size,2,none⟩=some (.int .i64 a)):=aH (fun w' g=>by
    obtain ⟨d1,_,d3⟩:=KH.out w' g;have e1:(w'.setRow (W.heap.size+1) #[.slice p0 n0 q0,.slice p1 n1 q1,.slice p2 n2 q2,.slice p3 n3 q3,.slice p4 n4 q4]).heap[W.heap.size+2]? =_:=(setRow_other _ _ _ _ (by omega)).trans d1;have e3:(w'.setRow (W.heap.size+1) #[.slice p0 n0 q0,.slice p1 n1 q1,.slice p2 n2 q2,.slice p3 n3 q3,.slice p4 n4 q4]).heap[w2.heap.size]? =_:=(setRow_other _ _ _ _ (by omega)).trans d3;refine ⟨?_,?_,?_,?_,?_,?_,?_⟩<;>first|(rw [aI e1];rfl)|(rw [aI e3];rfl))
   have HG2:=aH (hgW2.trans g3);have HFN:=aH hfin2;have HG3:=aH g3;clear hx hone hres hgW hs4 hfin hgc2 hone2 hres2 hgW2 hfin2 hb3 g3 hgc hwb hgr hgs k0 k1 k2 gV hmf;go_upto_region 3 with fail
   generalize w2.alloc (.cells #[.int .i64 e,.int .i64 n,.int .i64 a] 58)=W4 at KH KS KSR HG2 HG3 ⊢;refine wp_region_held_drew (S:=(fun w'=>w'.cell? ⟨W.heap.size+2,0,none⟩=some (.slice p0 n0 q0)∧w'.cell? ⟨W.heap.size+2,1,none⟩=some (.slice p1 n1 q1)∧w'.cell? ⟨W.heap.size+2,2,none⟩=some (.slice p2 n2 q2)∧w'.cell? ⟨W.heap.size+2,3,none⟩=some (.slice p3 n3 q3)∧w'.cell? ⟨W.heap.size+2,4,none⟩=some (.slice p4 n4 q4)∧w'.cell? ⟨w2.heap.size,0,none⟩=some (.int .i64 e)∧w'.cell? ⟨w2.heap.size,2,none⟩=some (.int .i64 a))) (by kernel_rfl) (KS.out _ (Gr.drew (Gr.refl _))) (fun hH=>?_);refine tL 0 ?_;simp only [Act.put,sA,s0,s1];refine tL 1 ?_;simp only [Act.put,sA,s0,s1];refine tL 2 ?_;simp only [Act.put,sA,s0,s1];refine tL 3 ?_;simp only [Act.put,sA,s0,s1];refine tL 4 ?_;simp only [Act.put,sA,s0,s1];refine au (i:=5) rfl (by kernel_rfl) (fun K hK=>?_);refine ae (by rfl) (wp_store_row (P:=Tryz.prog) 33 _ _ rfl (W.heap.size+1) #[.slice p0 n0 q0,.slice p1 n1 q1,.slice p2 n2 q2,.slice p3 n3 q3,.slice p4 n4 q4] (by rfl) (by simp [Act.eval]) 33 _ (KH.out W4.drew (Gr.drew (Gr.refl _))).2.1 Tryz.infUn rfl (by simp [Value.oneCell']) ?_);refine hK.out _ _ (KSR.out _ (Gr.drew (Gr.refl _))) (fun hH=>?_);clear hK;try simp only [Act.put,sA,s0,s1]
   refine tL 6 ?_;simp only [Act.put,sA,s0,s1];refine tL 7 ?_;simp only [Act.put,sA,s0,s1];refine wpAnyH_done (by kernel_rfl) ?_ _;clear hH KS KSR;have hbr:=setRow_heap W4.drew (W.heap.size+1) _ #[.slice p0 n0 q0,.slice p1 n1 q1,.slice p2 n2 q2,.slice p3 n3 q3,.slice p4 n4 q4] _ _ (KH.out W4.drew (Gr.drew (Gr.refl _))).2.1;have t0:(W4.drew.setRow (W.heap.size+1) #[.slice p0 n0 q0,.slice p1 n1 q1,.slice p2 n2 q2,.slice p3 n3 q3,.slice p4 n4 q4]).cell? ⟨W.heap.size+1,0,none⟩=some (.slice p0 n0 q0):=by rw [aI hbr];rfl
   have t1:(W4.drew.setRow (W.heap.size+1) #[.slice p0 n0 q0,.slice p1 n1 q1,.slice p2 n2 q2,.slice p3 n3 q3,.slice p4 n4 q4]).cell? ⟨W.heap.size+1,1,none⟩=some (.slice p1 n1 q1):=by rw [aI hbr];rfl
   have t2:(W4.drew.setRow (W.heap.size+1) #[.slice p0 n0 q0,.slice p1 n1 q1,.slice p2 n2 q2,.slice p3 n3 q3,.slice p4 n4 q4]).cell? ⟨W.heap.size+1,2,none⟩=some (.slice p2 n2 q2):=by rw [aI hbr];rfl
   have t3:(W4.drew.setRow (W.heap.size+1) #[.slice p0 n0 q0,.slice p1 n1 q1,.slice p2 n2 q2,.slice p3 n3 q3,.slice p4 n4 q4]).cell? ⟨W.heap.size+1,3,none⟩=some (.slice p3 n3 q3):=by rw [aI hbr];rfl
   have t4:(W4.drew.setRow (W.heap.size+1) #[.slice p0 n0 q0,.slice p1 n1 q1,.slice p2 n2 q2,.slice p3 n3 q3,.slice p4 n4 q4]).cell? ⟨W.heap.size+1,4,none⟩=some (.slice p4 n4 q4):=by rw [aI hbr];rfl
   clear hbr;go_wp2_with fail
   refine bodyPost_ret (v:=.tuple #[.agg #[.slice p0 n0 q0,.slice p1 n1 q1,.slice p2 n2 q2,.slice p3 n3 q3,.slice p4 n4 q4],.int .i64 e,.int .i64 a]) (by simp [results,Tryz.results15,go_sem,t0,t1,t2,t3,t4]) rfl ?_;have hgE:Gr W (W4.drew.setRow (W.heap.size+1) #[.slice p0 n0 q0,.slice p1 n1 q1,.slice p2 n2 q2,.slice p3 n3 q3,.slice p4 n4 q4]):=kH HG2.out.drew (by omega);refine ⟨hgE,?_⟩;rcases HFN.out with ⟨u,h1,rfl,rfl,h4⟩|⟨k,h1,rfl,h3⟩
   · refine .inl ⟨_,u,h1,rfl,jL.less ((h4.mv HG3.out.size (fun k hk hl=>HG3.out.block k hl (by simp))).mv (w':=W4.drew.setRow (W.heap.size+1) #[.slice p0 n0 q0,.slice p1 n1 q1,.slice p2 n2 q2,.slice p3 n3 q3,.slice p4 n4 q4]) (by simp) (fun k hk hl=>?_)) (by omega)⟩;exact setRow_other _ _ _ _ (by omega)
   · exact .inr ⟨e,k,h1,by rw [h3]⟩
theorem m_:∀(r:List UInt8) (k v:Nat),10≤k→bA k v r=none
 | [],_,_,_=>rfl
 | b :: r,k,v,hk=>by
  unfold bA;by_cases hf:b.toNat % 128 * 2 ^ (7 * k) < 18446744073709551616
  · rw [if_pos hf];have hz:b.toNat % 128=0:=by
     rcases Nat.eq_zero_or_pos (b.toNat % 128) with h|h
     · exact h
     · have h1:2 ^ 64≤2 ^ (7 * k):=Nat.pow_le_pow_right (by decide) (by omega);have h2:1 * 2 ^ (7 * k)≤b.toNat % 128 * 2 ^ (7 * k):=Nat.mul_le_mul_right _ h;omega
    by_cases hb:b.toNat < 128
    · rw [if_pos hb,if_neg];intro h;rcases h with h|h
      · omega
      · omega
    · rw [if_neg hb];exact m_ r _ _ (by omega)
  · rw [if_neg hf]
theorem nI:∀(r:List UInt8) (k v n:Nat) (r':List UInt8),k≤9→bA k v r=some (n,r')→∃m,n=v+m * 2 ^ (7 * k)∧r=jn (10 - k) m++r'∧(k≠0→m≠0)
 | [],_,_,_,_,_,h=>by simp [bA] at h
 | b :: r,k,v,n,r',hk,h=>by
  unfold bA at h;have hb256:=b.toNat_lt;by_cases hf:b.toNat % 128 * 2 ^ (7 * k) < 18446744073709551616
  · rw [if_pos hf] at h;by_cases hb:b.toNat < 128
    · rw [if_pos hb] at h;by_cases hc:b.toNat≠0∨k=0
      · rw [if_pos hc] at h;simp only [Option.some.injEq,Prod.mk.injEq] at h;refine ⟨b.toNat,?_,?_,?_⟩
        · rw [←h.1,Nat.mod_eq_of_lt hb]
        · rw [jq hb,←h.2,UInt8.ofNat_toNat];rfl
        · intro h0;rcases hc with h1|h1
          · exact h1
          · exact absurd h1 h0
      · rw [if_neg hc] at h;cases h
    · rw [if_neg hb] at h;by_cases hk9:k+1≤9
      · obtain ⟨m,e1,e2,e3⟩:=nI r (k+1) _ n r' hk9 h;have hm:m≠0:=e3 (by omega);refine ⟨b.toNat % 128+128 * m,?_,?_,fun _=>by omega⟩
        · rw [e1,show 7 * (k+1)=7 * k+7 by omega,Nat.pow_add,Nat.add_mul];rw [show m * (2 ^ (7 * k) * 2 ^ 7)=128 * m * 2 ^ (7 * k) by rw [show (2:Nat) ^ 7=128 by rfl,Nat.mul_comm (2 ^ (7 * k)) 128,←Nat.mul_assoc,Nat.mul_comm m 128]];omega
        · rw [show 10 - k=(10 - (k+1))+1 by omega,lZ (by omega),e2];have h1:(b.toNat % 128+128 * m) % 128=b.toNat % 128:=by omega
          have h2:(b.toNat % 128+128 * m) / 128=m:=by omega
          rw [h1,h2,show b.toNat % 128+128=b.toNat by omega,UInt8.ofNat_toNat];rfl
      · rw [m_ r _ _ (by omega)] at h;cases h
  · rw [if_neg hf] at h;cases h
theorem j8{r r':List UInt8}{n:Nat}(h:bA 0 0 r=some (n,r')):r=num n++r':=by
 obtain ⟨m,h1,h2,_⟩:=nI r 0 0 n r' (by decide) h;have:n=m:=by simpa using h1
 subst this;exact h2
def uN{α:Type}(f:List UInt8→Option (α×List UInt8))(g:α→List UInt8):Prop:=∀r y r',f r=some (y,r')→r=g y++r'
theorem sX{v:Nat}:oL (gu v)=v:=by
 unfold gu oL;split
 · rw [if_pos (by omega)];omega
 · rw [if_neg (by omega)];omega
theorem qr{v:Nat}(h:v < 18446744073709551616):-9223372036854775808≤gu v∧gu v≤9223372036854775807:=by
 unfold gu;split<;>omega
theorem mJ:uN ag A':=by
 intro r y r' h;unfold ag at h;cases hn:bA 0 0 r with
 | none=>rw [hn] at h;cases h
 | some p=>
  obtain ⟨n,r1⟩:=p;rw [hn] at h;simp only [Option.map_some,Option.some.injEq,Prod.mk.injEq] at h;rw [j8 hn,←h.1,←h.2];unfold A';rw [sX]
theorem fA:uN aq b9:=by
 intro r y r' h;unfold aq at h;cases hn:bA 0 0 r with
 | none=>rw [hn] at h;cases h
 | some p=>
  obtain ⟨n,r1⟩:=p;rw [hn] at h;simp only at h;split at h
  · simp only [Option.some.injEq,Prod.mk.injEq] at h;rw [j8 hn,←h.1,←h.2];unfold b9;simp
  · cases h
theorem oR{n:Nat}{r y r':List UInt8}(h:cm n r=some (y,r')):r=y++r'∧y.length=n:=by
 unfold cm at h;split at h
 · simp only [Option.some.injEq,Prod.mk.injEq] at h;rw [←h.1,←h.2];exact ⟨(List.take_append_drop _ _).symm,by rw [List.length_take];omega⟩
 · cases h
theorem oo:uN dt b6:=by
 intro r y r' h;unfold dt at h;cases hn:bA 0 0 r with
 | none=>rw [hn] at h;cases h
 | some p=>
  obtain ⟨n,r1⟩:=p;rw [hn] at h;simp only at h;obtain ⟨h1,h2⟩:=oR h;rw [j8 hn,h1];unfold b6;rw [h2,List.append_assoc]
theorem rq{α:Type}{f:List UInt8→Option (α×List UInt8)}{g:α→List UInt8}(hf:uN f g):∀(n:Nat) (r:List UInt8) (ys:List α) (r':List UInt8),ew f n r=some (ys,r')→ys.length=n∧r=ys.flatMap g++r'
 | 0,r,ys,r',h=>by
  simp only [ew,Option.some.injEq,Prod.mk.injEq] at h;rw [←h.1,←h.2];simp
 | n+1,r,ys,r',h=>by
  simp only [ew] at h;cases h1:f r with
  | none=>rw [h1] at h;cases h
  | some p=>
   obtain ⟨y,r1⟩:=p;rw [h1] at h;simp only at h;cases h2:ew f n r1 with
   | none=>rw [h2] at h;cases h
   | some q=>
    obtain ⟨zs,r2⟩:=q;rw [h2] at h;simp only [Option.some.injEq,Prod.mk.injEq] at h;obtain ⟨e1,e2⟩:=rq hf n r1 zs r2 h2;rw [←h.1,←h.2,hf r y r1 h1,e2];simp [e1]
theorem ft{α:Type}{f:List UInt8→Option (α×List UInt8)}{g:α→List UInt8}(hf:uN f g):uN (aM f) (dY g):=by
 intro r ys r' h;unfold aM at h;cases hn:bA 0 0 r with
 | none=>rw [hn] at h;cases h
 | some p=>
  obtain ⟨n,r1⟩:=p;rw [hn] at h;simp only at h;split at h
  · obtain ⟨e1,e2⟩:=rq hf n r1 ys r' h;rw [j8 hn,e2];unfold dY;rw [e1,List.append_assoc]
  · cases h
theorem jF:uN ar bE:=ft fA
theorem xR:uN cM bh:=by
 intro r y r' h;cases r with
 | nil=>simp [cM,cZ] at h
 | cons b r1=>
  simp only [cM,cZ] at h;have hb:UInt8.ofNat ((b.toNat:Int)).toNat=b:=by simp
  by_cases h1:wB (b.toNat:Int) 0 20=true
  · rw [if_pos h1] at h;by_cases h2:(b.toNat:Int)=1
    · rw [if_pos h2] at h;cases hs:ag r1 with
      | none=>rw [hs] at h;cases h
      | some p=>
       obtain ⟨v,r2⟩:=p;rw [hs] at h;simp only [Option.some.injEq,Prod.mk.injEq] at h;rw [mJ r1 v r2 hs,←h.1,←h.2];unfold bh;simp only [if_pos h2,hb];rfl
    · rw [if_neg h2] at h;rcases eF (b.toNat:Int) with hN|hN|hN
      · rw [if_pos hN] at h;simp only [Option.some.injEq,Prod.mk.injEq] at h;rw [←h.1,←h.2];unfold bh;simp [if_neg h2,hN]
      · rw [if_neg (by omega)] at h;cases hs:aq r1 with
        | none=>rw [hs] at h;cases h
        | some p=>
         obtain ⟨v,r2⟩:=p;rw [hs] at h;simp only [if_pos hN,Option.some.injEq,Prod.mk.injEq] at h;rw [fA r1 v r2 hs,←h.1,←h.2];unfold bh b9;simp [if_neg h2,hN]
      · rw [if_neg (by omega)] at h;cases hs:aq r1 with
        | none=>rw [hs] at h;cases h
        | some p=>
         obtain ⟨v,r2⟩:=p;rw [hs] at h;simp only [if_neg (show ¬ah (b.toNat:Int)=1 by omega)] at h;cases hs2:aq r2 with
         | none=>rw [hs2] at h;cases h
         | some q=>
          obtain ⟨u,r3⟩:=q;rw [hs2] at h;simp only [Option.some.injEq,Prod.mk.injEq] at h;rw [fA r1 v r2 hs,fA r2 u r3 hs2,←h.1,←h.2];unfold bh b9;simp [if_neg h2,hN]
  · rw [if_neg h1] at h;cases h
theorem vi:uN bN bq:=by
 intro r y r' h;unfold bN at h;cases h1:ar r with
 | none=>rw [h1] at h;cases h
 | some p1=>
  obtain ⟨ps,r1⟩:=p1;rw [h1] at h;simp only at h;cases h2:ar r1 with
  | none=>rw [h2] at h;cases h
  | some p2=>
   obtain ⟨ls,r2⟩:=p2;rw [h2] at h;simp only at h;cases h3:aq r2 with
   | none=>rw [h3] at h;cases h
   | some p3=>
    obtain ⟨res,r3⟩:=p3;rw [h3] at h;simp only at h;cases h4:aM cM r3 with
    | none=>rw [h4] at h;cases h
    | some p4=>
     obtain ⟨c,r4⟩:=p4;rw [h4] at h;simp only [Option.some.injEq,Prod.mk.injEq] at h;rw [jF r ps r1 h1,jF r1 ls r2 h2,fA r2 res r3 h3,ft xR r3 c r4 h4,←h.1,←h.2];unfold bq b9;simp only [List.append_assoc]
theorem xM:uN cJ dR:=by
 intro r y r' h;unfold cJ at h;cases h1:dt r with
 | none=>rw [h1] at h;cases h
 | some p1=>
  obtain ⟨s,r1⟩:=p1;rw [h1] at h;simp only at h;cases h2:ar r1 with
  | none=>rw [h2] at h;cases h
  | some p2=>
   obtain ⟨ls,r2⟩:=p2;rw [h2] at h;simp only at h;cases h3:aq r2 with
   | none=>rw [h3] at h;cases h
   | some p3=>
    obtain ⟨res,r3⟩:=p3;rw [h3] at h;simp only [Option.some.injEq,Prod.mk.injEq] at h;rw [oo r s r1 h1,jF r1 ls r2 h2,fA r2 res r3 h3,←h.1,←h.2];unfold dR b9;simp only [List.append_assoc]
theorem x_:uN cP dT:=by
 intro r y r' h;unfold cP at h;cases h1:dt r with
 | none=>rw [h1] at h;cases h
 | some p1=>
  obtain ⟨s,r1⟩:=p1;rw [h1] at h;simp only at h;cases h3:aq r1 with
  | none=>rw [h3] at h;cases h
  | some p3=>
   obtain ⟨res,r3⟩:=p3;rw [h3] at h;simp only [Option.some.injEq,Prod.mk.injEq] at h;rw [oo r s r1 h1,fA r1 res r3 h3,←h.1,←h.2];unfold dT b9;simp only [List.append_assoc]
theorem ow:∀(j k v m:Nat) (r:List UInt8),j+k=10→v < 2 ^ (7 * k)→v+m * 2 ^ (7 * k) < 18446744073709551616→(k≠0→m≠0)→bA k v (jn j m++r)=some (v+m * 2 ^ (7 * k),r)
 | 0,k,v,m,r,hjk,hv,hlt,hm=>by
  have hk:k=10:=by omega
  subst hk;have h1:m≠0:=hm (by decide);have h2:1 * 2 ^ (7 * 10)≤m * 2 ^ (7 * 10):=Nat.mul_le_mul_right _ (by omega);omega
 | j+1,k,v,m,r,hjk,hv,hlt,hm=>by
  by_cases hs:m < 128
  · rw [jq hs];have hb:(UInt8.ofNat m).toNat=m:=by rw [UInt8.toNat_ofNat'];omega
    show bA k v (UInt8.ofNat m :: r)=_
    unfold bA;rw [hb,Nat.mod_eq_of_lt hs,if_pos (by omega),if_pos hs,if_pos];by_cases h0:k=0
    · exact .inr h0
    · exact .inl (hm h0)
  · rw [lZ hs];have hb:(UInt8.ofNat (m % 128+128)).toNat=m % 128+128:=by rw [UInt8.toNat_ofNat'];omega
    show bA k v (UInt8.ofNat (m % 128+128) :: (jn j (m / 128)++r))=_
    unfold bA;have hl:(m % 128+128) % 128=m % 128:=by omega
    have hle:m % 128 * 2 ^ (7 * k)≤m * 2 ^ (7 * k):=Nat.mul_le_mul_right _ (by omega);rw [hb,hl,if_pos (by omega),if_neg (by omega)];have hp:2 ^ (7 * (k+1))=2 ^ (7 * k) * 128:=by rw [show 7 * (k+1)=7 * k+7 by omega,Nat.pow_add]
    have h2:m % 128 * 2 ^ (7 * k)≤127 * 2 ^ (7 * k):=Nat.mul_le_mul_right _ (by omega);have e:v+m % 128 * 2 ^ (7 * k)+m / 128 * 2 ^ (7 * (k+1))=v+m * 2 ^ (7 * k):=by
     rw [hp,show m / 128 * (2 ^ (7 * k) * 128)=(128 * (m / 128)) * 2 ^ (7 * k) by rw [Nat.mul_comm (2 ^ (7 * k)) 128,←Nat.mul_assoc,Nat.mul_comm (m / 128) 128],Nat.add_assoc,←Nat.add_mul,show m % 128+128 * (m / 128)=m by omega]
    rw [ow j (k+1) _ (m / 128) r (by omega) (by rw [hp];omega) (by rw [e];exact hlt) (by intro;omega),e]
theorem kP{n:Nat}(r:List UInt8)(h:n < 18446744073709551616):bA 0 0 (num n++r)=some (n,r):=by
 have:=ow 10 0 0 n r rfl (by decide) (by simpa using h) (by simp)
 unfold num;simpa using this
theorem od(b r:List UInt8):cm b.length (b++r)=some (b,r):=by simp [cm]
theorem oW(c j:Nat):lH c (j+1)=UInt8.ofNat (c % 256) :: lH (c / 256) j:=by
 unfold lH;rw [List.range_succ_eq_map,List.map_cons,List.map_map];congr 1
 · simp
 · apply List.map_congr_left
   intro i _;simp only [Function.comp,Nat.succ_eq_add_one];rw [Nat.pow_succ,Nat.mul_comm,Nat.div_div_eq_div_mul]
theorem rx:∀(j c:Nat) (r:List UInt8),dm j c (lH c j++r)=some r
 | 0,c,r=>by simp [dm,lH]
 | j+1,c,r=>by
  rw [oW];show dm (j+1) c (UInt8.ofNat (c % 256) :: (lH (c / 256) j++r))=_
  simp only [dm,cZ];rw [if_pos (by rw [UInt8.toNat_ofNat'];omega)];exact rx j (c / 256) r
theorem sK:∀(j c:Nat) (r r':List UInt8),dm j c r=some r'→r=lH c j++r'
 | 0,c,r,r',h=>by simp only [dm,Option.some.injEq] at h;rw [h];simp [lH]
 | j+1,c,[],r',h=>by simp [dm,cZ] at h
 | j+1,c,b :: r,r',h=>by
  simp only [dm,cZ] at h;split at h
  · rename_i hb
    rw [oW,←hb,UInt8.ofNat_toNat,sK j _ r r' h];rfl
  · cases h
theorem ph{n:Nat}{r b r':List UInt8}(h:cI n r=some (b,r')):r=cS n b++r':=by
 cases r with
 | nil=>simp [cI,cZ] at h
 | cons x r1=>
  simp only [cI,cZ] at h;by_cases hx:x.toNat=n
  · rw [if_pos hx] at h;cases hn:bA 0 0 r1 with
    | none=>rw [hn] at h;cases h
    | some p=>
     obtain ⟨k,r2⟩:=p;rw [hn] at h;simp only at h;cases ht:cm k r2 with
     | none=>rw [ht] at h;cases h
     | some q=>
      obtain ⟨y,r3⟩:=q;rw [ht] at h;simp only at h;cases hs:dm 4 (lJ y) r3 with
      | none=>rw [hs] at h;cases h
      | some r4=>
       rw [hs] at h;simp only [Option.some.injEq,Prod.mk.injEq] at h;obtain ⟨t1,t2⟩:=oR ht;rw [j8 hn,t1,sK 4 _ r3 r4 hs,←h.1,←h.2,←t2,←hx];unfold cS;rw [UInt8.ofNat_toNat];simp only [List.append_assoc,List.cons_append,List.nil_append]
  · rw [if_neg hx] at h;cases h
theorem vD{n:Nat}(b r:List UInt8)(hn:n < 256)(hb:b.length < 18446744073709551616):cI n (cS n b++r)=some (b,r):=by
 have e:cS n b++r=UInt8.ofNat n :: (num b.length++(b++(lH (lJ b) 4++r))):=by unfold cS;simp only [List.append_assoc,List.cons_append,List.nil_append]
 rw [e];simp only [cI,cZ];rw [if_pos (by rw [UInt8.toNat_ofNat'];omega),kP _ hb];simp only [od,rx]
def a_{α:Type}(f:List UInt8→Option (List α×List UInt8))(b:List UInt8):Option (List α):=match f b with
 | some (y,[])=>some y
 | _=>none
def ai{α:Type}(n:Nat)(f:List UInt8→Option (List α×List UInt8))(r:List UInt8):Option (List α×List UInt8):=match cI n r with
 | none=>none
 | some (b,r')=>match a_ f b with
  | none=>none
  | some y=>some (y,r')
theorem i9{α:Type}{n:Nat}{f:List UInt8→Option (List α×List UInt8)}{g:List α→List UInt8}(hf:uN f g){r r':List UInt8}{y:List α}(h:ai n f r=some (y,r')):r=cS n (g y)++r'∧a_ f (g y)=some y:=by
 unfold ai at h;cases ho:cI n r with
 | none=>rw [ho] at h;cases h
 | some p=>
  obtain ⟨b,r1⟩:=p;rw [ho] at h;simp only at h;cases hb:a_ f b with
  | none=>rw [hb] at h;cases h
  | some z=>
   rw [hb] at h;simp only [Option.some.injEq,Prod.mk.injEq] at h;obtain ⟨rfl,rfl⟩:=h;have hfb:f b=some (z,[]):=by
    unfold a_ at hb;split at hb
    · rename_i y' heq;simp only [Option.some.injEq] at hb;rw [heq,hb]
    · cases hb
   have e:=hf b z [] hfb;rw [List.append_nil] at e;rw [←e];exact ⟨ph ho,hb⟩
theorem ic{α:Type}{n:Nat}{f:List UInt8→Option (List α×List UInt8)}{b r:List UInt8}{y:List α}(hn:n < 256)(hb:b.length < 18446744073709551616)(hf:a_ f b=some y):ai n f (cS n b++r)=some (y,r):=by
 unfold ai;rw [vD b r hn hb];simp only [hf]
def pl(t r:List UInt8):Nat:=t.length - r.length
def dec(t:List UInt8):aK ⊕ (Int×Nat):=
 if 20000 < t.length then .inr (3,0)
 else if t.take 5≠dW then .inr (2,0)
 else match ai 1 (aM ar) (t.drop 5) with
  | none=>.inr (2,5)
  | some (sh,r1)=>if A9 sh=false then .inr (2,5) else match ai 2 (aM ag) r1 with
   | none=>.inr (2,pl t r1)
   | some (cs,r2)=>if dE cs=false then .inr (2,pl t r1) else match ai 3 (aM bN) r2 with
    | none=>.inr (2,pl t r2)
    | some (fs,r3)=>if cL fs sh.length=false then .inr (2,pl t r2) else match ai 4 (aM cJ) r3 with
     | none=>.inr (2,pl t r3)
     | some (im,r4)=>if bm im sh.length=false then .inr (2,pl t r3) else match ai 5 (aM cP) r4 with
      | none=>.inr (2,pl t r4)
      | some (ex,r5)=>if b_ ex fs.length=false then .inr (2,pl t r4) else if r5= [] then .inl ⟨sh,cs,fs,im,ex⟩ else .inr (2,pl t r5)
theorem kD{b:Bool}(h:¬b=false):b=true:=by cases b<;>simp_all
structure yK(t:List UInt8)(u:aK)(r1 r2 r3 r4:List UInt8):Prop where
 len:t.length≤20000
 head:t.take 5=dW
 s1:ai 1 (aM ar) (t.drop 5)=some (u.aA,r1)
 o1:A9 u.aA=true
 s2:ai 2 (aM ag) r1=some (u.aD,r2)
 o2:dE u.aD=true
 s3:ai 3 (aM bN) r2=some (u.aE,r3)
 o3:cL u.aE u.aA.length=true
 s4:ai 4 (aM cJ) r3=some (u.aB,r4)
 o4:bm u.aB u.aA.length=true
 s5:ai 5 (aM cP) r4=some (u.aC,[])
 o5:b_ u.aC u.aE.length=true
theorem sd{t:List UInt8}{u:aK}(h:dec t=.inl u):∃r1 r2 r3 r4,yK t u r1 r2 r3 r4:=by
 unfold dec at h;by_cases h1:20000 < t.length
 · rw [if_pos h1] at h;cases h
 rw [if_neg h1] at h;by_cases h2:t.take 5≠dW
 · rw [if_pos h2] at h;cases h
 rw [if_neg h2] at h;have h2':t.take 5=dW:=Classical.byContradiction h2;cases s1:ai 1 (aM ar) (t.drop 5) with
 | none=>rw [s1] at h;cases h
 | some p1=>
 obtain ⟨sh,r1⟩:=p1;rw [s1] at h;simp only at h;by_cases o1:A9 sh=false
 · rw [if_pos o1] at h;cases h
 rw [if_neg o1] at h;cases s2:ai 2 (aM ag) r1 with
 | none=>rw [s2] at h;cases h
 | some p2=>
 obtain ⟨cs,r2⟩:=p2;rw [s2] at h;simp only at h;by_cases o2:dE cs=false
 · rw [if_pos o2] at h;cases h
 rw [if_neg o2] at h;cases s3:ai 3 (aM bN) r2 with
 | none=>rw [s3] at h;cases h
 | some p3=>
 obtain ⟨fs,r3⟩:=p3;rw [s3] at h;simp only at h;by_cases o3:cL fs sh.length=false
 · rw [if_pos o3] at h;cases h
 rw [if_neg o3] at h;cases s4:ai 4 (aM cJ) r3 with
 | none=>rw [s4] at h;cases h
 | some p4=>
 obtain ⟨im,r4⟩:=p4;rw [s4] at h;simp only at h;by_cases o4:bm im sh.length=false
 · rw [if_pos o4] at h;cases h
 rw [if_neg o4] at h;cases s5:ai 5 (aM cP) r4 with
 | none=>rw [s5] at h;cases h
 | some p5=>
 obtain ⟨ex,r5⟩:=p5;rw [s5] at h;simp only at h;by_cases o5:b_ ex fs.length=false
 · rw [if_pos o5] at h;cases h
 rw [if_neg o5] at h;by_cases h6:r5= []
 · rw [if_pos h6] at h;simp only [Sum.inl.injEq] at h;subst h;subst h6;exact ⟨r1,r2,r3,r4,by omega,h2',s1,kD o1,s2,kD o2,s3,kD o3,s4,kD o4,s5,kD o5⟩
 · rw [if_neg h6] at h;cases h
theorem sR{α:Type}{f:List UInt8→Option (α×List UInt8)}{Q:α→Prop}(hf:∀r y r',f r=some (y,r')→Q y):∀(n:Nat) (r:List UInt8) (ys:List α) (r':List UInt8),ew f n r=some (ys,r')→∀y∈ys,Q y
 | 0,r,ys,r',h=>by
  simp only [ew,Option.some.injEq,Prod.mk.injEq] at h;rw [←h.1];simp
 | n+1,r,ys,r',h=>by
  simp only [ew] at h;cases h1:f r with
  | none=>rw [h1] at h;cases h
  | some p=>
   obtain ⟨y,r1⟩:=p;rw [h1] at h;simp only at h;cases h2:ew f n r1 with
   | none=>rw [h2] at h;cases h
   | some q=>
    obtain ⟨zs,r2⟩:=q;rw [h2] at h;simp only [Option.some.injEq,Prod.mk.injEq] at h;rw [←h.1];intro z hz;rcases List.mem_cons.1 hz with rfl|hz
    · exact hf _ _ _ h1
    · exact sR hf n r1 zs r2 h2 z hz
theorem mU:∀r y r',ag r=some (y,r')→-9223372036854775808≤y∧y≤9223372036854775807:=by
 intro r y r' h;unfold ag at h;cases hn:bA 0 0 r with
 | none=>rw [hn] at h;cases h
 | some p=>
  obtain ⟨n,r1⟩:=p;rw [hn] at h;simp only [Option.map_some,Option.some.injEq,Prod.mk.injEq] at h;rw [←h.1];exact qr (ie r 0 0 (by decide) (by decide) n r1 hn)
theorem tP{b:List UInt8}{cs:List Int}(h:a_ (aM ag) b=some cs):∀x∈cs,-9223372036854775808≤x∧x≤9223372036854775807:=by
 unfold a_ at h;split at h
 · rename_i y heq
   simp only [Option.some.injEq] at h;subst h;unfold aM at heq;cases hn:bA 0 0 b with
   | none=>rw [hn] at heq;cases heq
   | some p=>
    obtain ⟨n,r1⟩:=p;rw [hn] at heq;simp only at heq;split at heq
    · exact sR mU n r1 _ _ heq
    · cases heq
 · cases h
theorem tQ{t:List UInt8}{u:aK}{r1 r2 r3 r4:List UInt8}(P:yK t u r1 r2 r3 r4):
 ak u=true∧mf u∧t=enc u∧r4=cS 5 (fZ u)∧t=iV u++r4∧r3=cS 4 (fO u)++r4∧r2=cS 3 (fN u)++r3∧r1=cS 2 (fL u)++r2∧t.drop 5=cS 1 (fH u)++r1∧
 a_ (aM ar) (fH u)=some u.aA∧a_ (aM ag) (fL u)=some u.aD∧a_ (aM bN) (fN u)=some u.aE∧a_ (aM cJ) (fO u)=some u.aB:=by
 obtain ⟨e1,b1⟩:=i9 (ft jF) P.s1;obtain ⟨e2,b2⟩:=i9 (ft mJ) P.s2;obtain ⟨e3,b3⟩:=i9 (ft vi) P.s3;obtain ⟨e4,b4⟩:=i9 (ft xM) P.s4;obtain ⟨e5,b5⟩:=i9 (ft x_) P.s5;have ht:t=dW++t.drop 5:=by rw [←P.head,List.take_append_drop]
 rw [List.append_nil] at e5;have ht4:t=iV u++r4:=by
  rw [ht,e1,e2,e3,e4];unfold iV lG lV mY fH fL fN fO;simp only [List.append_assoc]
 refine ⟨?_,tP b2,?_,e5,ht4,e4,e3,e2,e1,b1,b2,b3,b4⟩
 · unfold ak;rw [P.o1,P.o2,P.o3,P.o4,P.o5];rfl
 · conv=>lhs;rw [ht4,e5]
   rfl
theorem i7(n:Nat)(b:List UInt8)(hb:1≤b.length):7≤(cS n b).length:=by
 have:=(ix 10 b.length).2
 unfold cS num;simp only [List.length_append,r_,List.length_cons,List.length_nil];omega
theorem vY(u:aK):33≤(iV u).length:=by
 have h1:=i7 1 (fH u) dX;have h2:=i7 2 (fL u) dX;have h3:=i7 3 (fN u) dX;have h4:=i7 4 (fO u) dX;unfold iV lG lV mY;simp only [List.length_append];have:dW.length=5:=rfl
 omega
theorem yc{t:List UInt8}{u:aK}(h:dec t=.inl u):ak u=true∧mf u∧enc u=t∧t.length≤20000∧40≤t.length:=by
 obtain ⟨r1,r2,r3,r4,P⟩:=sd h;obtain ⟨h1,h2,h3,h4,h5,_⟩:=tQ P;have L:=vY u;have L5:=i7 5 (fZ u) dX;have Lt:t.length=(iV u).length+(cS 5 (fZ u)).length:=by conv=>lhs;rw [h5,h4,List.length_append]
 exact ⟨h1,h2,h3.symm,P.len,by omega⟩
end Go.Proofs.YtkgncijcnlfhiaaGreat
