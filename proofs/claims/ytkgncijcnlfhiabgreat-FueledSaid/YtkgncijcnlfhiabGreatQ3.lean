import Derived.Test.YtkgncijcnlfhiabGreatV1
import Derived.Test.YtkgncijcnlfhiabGreatE1
import Derived.Test.YtkgncijcnlfhiabGreatS1
import Derived.Test.YtkgncijcnlfhiabGreatD1
namespace Go.Proofs.YtkgncijcnlfhiabGreat
set_option maxRecDepth 100000
set_option maxHeartbeats 2000000
set_option linter.unusedVariables false
set_option linter.unusedSimpArgs false
open Go.RowKit
def Cc(l:List aK)(ob:Nat)(W:World)(x:Ending)(w':World):Prop:=
 (∃u p0 p1 p2 p4 n0 n1 n2 n4 q0 q1 q2 q4 w1,cR l=.inl u/\x=.returned (.tuple #[])/\j_ W.heap.size w1 (.agg #[.slice p0 n0 q0,.slice p1 n1 q1,.slice p2 n2 q2,.slice none 0 0,.slice p4 n4 q4]) u/\Gr W w1/\w'=ev w1 ob (.slice p0 n0 q0) (.slice p1 n1 q1) (.slice p2 n2 q2) (.slice none 0 0) (.slice p4 n4 q4))\/
 ∃(e:Int) (k:Nat),cR l=.inr (e,k)/\x=.panicked (dM e (k:Int))/\Gr W w'
theorem uN(l:List aK)(vl:Value)(ub ob:Nat)(W:World)(hR:eS W vl l)(hu:W.cell? ⟨ub,0,none⟩=some vl)(ho:W.heap[ob]? =some (.cells #[.slice none 0 0,.slice none 0 0,.slice none 0 0,.slice none 0 0,.slice none 0 0] 29 (0,0))):
 Calls Tryz.prog 47 #[.pointer (some ⟨ub,0,none⟩),.pointer (some ⟨ob,0,none⟩)] W (Cc l ob W):=by
 obtain ⟨al,cl,rfl⟩:=hR.shape;have Zv:=aH (vL W l _ hR);have HO:=aH ho;clear hR ho;go_enter Tryz.func47,Tryz.ntmps47
 go_wp2_with fail
 refine Zv.out.mono ?_;rintro x w1 ⟨hg,⟨v,u,hl,rfl,hv⟩|⟨e,k,hl,rfl⟩⟩
 · obtain ⟨p0,p1,p2,p4,n0,n1,n2,n4,q0,q1,q2,q4,rfl⟩:=hv.slices;have R':=(hg.block ob (Array.getElem?_eq_some_iff.1 HO.out).1 Q6).trans HO.out;have c0:w1.cell? ⟨ob,0,none⟩=some (.slice none 0 0):=by rw [aJ R'];rfl
   have c1:w1.cell? ⟨ob,1,none⟩=some (.slice none 0 0):=by rw [aJ R'];rfl
   have c2:w1.cell? ⟨ob,2,none⟩=some (.slice none 0 0):=by rw [aJ R'];rfl
   have c3:w1.cell? ⟨ob,3,none⟩=some (.slice none 0 0):=by rw [aJ R'];rfl
   have c4:w1.cell? ⟨ob,4,none⟩=some (.slice none 0 0):=by rw [aJ R'];rfl
   have z0:w1.frozen? ⟨ob,0,none⟩=false:=aS R';have z1:w1.frozen? ⟨ob,1,none⟩=false:=aS R';have z2:w1.frozen? ⟨ob,2,none⟩=false:=aS R';have z3:w1.frozen? ⟨ob,3,none⟩=false:=aS R';have z4:w1.frozen? ⟨ob,4,none⟩=false:=aS R';have HL:=aH hl;have HV:=aH hv;have HG:=aH hg;clear hl hv hg R' Zv;go_wp2_with fail
   go_end0
   exact .inl ⟨u,p0,p1,p2,p4,n0,n1,n2,n4,q0,q1,q2,q4,w1,HL.out,rfl,HV.out,HG.out,rfl⟩
 · exact ⟨rfl,.inr ⟨e,k,hl,rfl,hg⟩⟩
def yM(W:World)(l:List aK)(e a:Int)(w1:World):Prop:=∃p0 p1 p2 p3 p4 n0 n1 n2 n3 n4 q0 q1 q2 q3 q4,w1.heap[W.heap.size+2]? =some (.cells #[.slice p0 n0 q0,.slice p1 n1 q1,.slice p2 n2 q2,.slice p3 n3 q3,.slice p4 n4 q4] 29 (0,0))/\w1.heap[W.heap.size+1]? =some (.cells #[.slice none 0 0,.slice none 0 0,.slice none 0 0,.slice none 0 0,.slice none 0 0] 29 (0,0))/\Gr W w1/\W.heap.size+4<=w1.heap.size/\
 ((∃u,cR l=.inl u/\e=0/\a=0/\j_ (W.heap.size+4) w1 (.agg #[.slice p0 n0 q0,.slice p1 n1 q1,.slice p2 n2 q2,.slice p3 n3 q3,.slice p4 n4 q4]) u)\/∃k:Nat,cR l=.inr (e,k)/\a=(k:Int)/\(.agg #[.slice p0 n0 q0,.slice p1 n1 q1,.slice p2 n2 q2,.slice p3 n3 q3,.slice p4 n4 q4]:Value)=.agg #[.slice none 0 0,.slice none 0 0,.slice none 0 0,.slice none 0 0,.slice none 0 0])
def BM(W:World)(l:List aK)(x:Ending)(w':World):Prop:=Gr W w'/\((∃v u,cR l=.inl u/\x=.returned (.tuple #[v,.int .i64 0,.int .i64 0])/\j_ W.heap.size w' v u)\/∃(e:Int) (k:Nat),cR l=.inr (e,k)/\x=.returned (.tuple #[.agg #[.slice none 0 0,.slice none 0 0,.slice none 0 0,.slice none 0 0,.slice none 0 0],.int .i64 e,.int .i64 (k:Int)]))
theorem j_.less{C C':Nat}{w:World}{v:Value}{u:aK}(h:j_ C w v u)(hc:C'<=C):j_ C' w v u:=by
 obtain ⟨v1,v2,v3,v5,O2,cs,J1,E3,ρ,B,e1,hb,r⟩:=h;exact ⟨v1,v2,v3,v5,O2,cs,J1,E3,ρ,B,e1,Nat.le_trans hc hb,r⟩
theorem sB{w:World}{b g:Nat}{x0 x1 x2 y0 y1 y2 y3 y4:Value}(h:bV w g x0 x1 x2)(hg:¬g=b):bV (ev w b y0 y1 y2 y3 y4) g x0 x1 x2:=by
 obtain ⟨h0,h1,h2,z0,z1,z2⟩:=h;have e:=en (w:=w) (b:=b) (y0:=y0) (y1:=y1) (y2:=y2) (y3:=y3) (y4:=y4) hg;exact ⟨(World.cell?_of_block (a:=⟨g,0,none⟩) e).trans h0,(World.cell?_of_block (a:=⟨g,1,none⟩) e).trans h1,(World.cell?_of_block (a:=⟨g,2,none⟩) e).trans h2,(World.frozen?_of_block (a:=⟨g,0,none⟩) e).trans z0,(World.frozen?_of_block (a:=⟨g,1,none⟩) e).trans z1,(World.frozen?_of_block (a:=⟨g,2,none⟩) e).trans z2⟩
theorem Tryz.infUn:(Tryz.prog.info? 29).map (·.size)=some 5:=Q7
theorem wK(W:World)(l:List aK)(vl:Value)(hR:eS W vl l):Calls Tryz.prog 27 #[vl] W (BM W l):=by
 have Kf:∀(fn:Fn) (first cap:Array Value) (w:World),(Instr.makeFunc fn first cap).run Tryz.prog w=.ok (.func fn first cap) w:=fun _ _ _ _=>rfl
 obtain ⟨al,cl,rfl⟩:=hR.shape;have D4:=heap_alloc_new W (.cells #[.slice al l.length cl] 23);have Y0:=heap_alloc_new (W.alloc (.cells #[.slice al l.length cl] 23)) (.cells #[.slice none 0 0,.slice none 0 0,.slice none 0 0,.slice none 0 0,.slice none 0 0] 29);have E5:=heap_alloc_new ((W.alloc (.cells #[.slice al l.length cl] 23)).alloc (.cells #[.slice none 0 0,.slice none 0 0,.slice none 0 0,.slice none 0 0,.slice none 0 0] 29)) (.cells #[.slice none 0 0,.slice none 0 0,.slice none 0 0,.slice none 0 0,.slice none 0 0] 29);have s1:(W.alloc (.cells #[.slice al l.length cl] 23)).heap.size=W.heap.size+1:=Q6
 have s2:((W.alloc (.cells #[.slice al l.length cl] 23)).alloc (.cells #[.slice none 0 0,.slice none 0 0,.slice none 0 0,.slice none 0 0,.slice none 0 0] 29)).heap.size=W.heap.size+2:=Q6
 have s3:(((W.alloc (.cells #[.slice al l.length cl] 23)).alloc (.cells #[.slice none 0 0,.slice none 0 0,.slice none 0 0,.slice none 0 0,.slice none 0 0] 29)).alloc (.cells #[.slice none 0 0,.slice none 0 0,.slice none 0 0,.slice none 0 0,.slice none 0 0] 29)).heap.size=W.heap.size+3:=Q6
 rw [s1] at Y0;rw [s2] at E5;have gV:Gr W (((W.alloc (.cells #[.slice al l.length cl] 23)).alloc (.cells #[.slice none 0 0,.slice none 0 0,.slice none 0 0,.slice none 0 0,.slice none 0 0] 29)).alloc (.cells #[.slice none 0 0,.slice none 0 0,.slice none 0 0,.slice none 0 0,.slice none 0 0] 29)):=(((Gr.refl W).alloc _).alloc _).alloc _;have g2:Gr ((W.alloc (.cells #[.slice al l.length cl] 23)).alloc (.cells #[.slice none 0 0,.slice none 0 0,.slice none 0 0,.slice none 0 0,.slice none 0 0] 29)) (((W.alloc (.cells #[.slice al l.length cl] 23)).alloc (.cells #[.slice none 0 0,.slice none 0 0,.slice none 0 0,.slice none 0 0,.slice none 0 0] 29)).alloc (.cells #[.slice none 0 0,.slice none 0 0,.slice none 0 0,.slice none 0 0,.slice none 0 0] 29)):=(Gr.refl _).alloc _;have g1:Gr (W.alloc (.cells #[.slice al l.length cl] 23)) (((W.alloc (.cells #[.slice al l.length cl] 23)).alloc (.cells #[.slice none 0 0,.slice none 0 0,.slice none 0 0,.slice none 0 0,.slice none 0 0] 29)).alloc (.cells #[.slice none 0 0,.slice none 0 0,.slice none 0 0,.slice none 0 0,.slice none 0 0] 29)):=((Gr.refl _).alloc _).alloc _;have k0:(((W.alloc (.cells #[.slice al l.length cl] 23)).alloc (.cells #[.slice none 0 0,.slice none 0 0,.slice none 0 0,.slice none 0 0,.slice none 0 0] 29)).alloc (.cells #[.slice none 0 0,.slice none 0 0,.slice none 0 0,.slice none 0 0,.slice none 0 0] 29)).cell? ⟨W.heap.size,0,none⟩=some (.slice al l.length cl):=g1.cell (by rw [aJ D4];rfl) Q6;have k1:=(g2.block (W.heap.size+1) (by rw [s2];omega) Q6).trans Y0;have HV:=aH (And.intro gV (And.intro s3 (And.intro k0 (And.intro k1 E5))));have HR:=aH hR;clear D4 Y0 E5 s1 s2 s3 gV g2 g1 k0 k1 hR;go_enter Tryz.func27,Tryz.ntmps27
 go_wp2_with fail
 generalize (((W.alloc (.cells #[.slice al l.length cl] 23)).alloc (.cells #[.slice none 0 0,.slice none 0 0,.slice none 0 0,.slice none 0 0,.slice none 0 0] 29)).alloc (.cells #[.slice none 0 0,.slice none 0 0,.slice none 0 0,.slice none 0 0,.slice none 0 0] 29))=V at HV |-;obtain ⟨gV,OQ,k0,k1,k2⟩:=HV.out;clear HV;have M1:bV (V.alloc (.cells #[.int .i64 0,.int .i64 0,.int .i64 0] 62)) V.heap.size (.int .i64 0) (.int .i64 0) (.int .i64 0):=bV.new V 62 (.int .i64 0) (.int .i64 0) (.int .i64 0);have M3:=Gr.alloc (Gr.refl V) (.cells #[.int .i64 0,.int .i64 0,.int .i64 0] 62);have Rg:(V.alloc (.cells #[.int .i64 0,.int .i64 0,.int .i64 0] 62)).heap.size=V.heap.size+1:=Q6
 refine (iN 47 #[.pointer (some ⟨W.heap.size,0,none⟩),.pointer (some ⟨W.heap.size+2,0,none⟩)] V (fun w1=>yM W l 0 0 w1) (fun e n a w1=>n=0/\yM W l e a w1) (fun w=>rfl)
  ((uN l _ W.heap.size (W.heap.size+2) _ (HR.out.gr (gV.trans M3)) (M3.cell k0 Q6) ((M3.block _ Q5 Q6).trans k2)).mono ?_)).mono ?_
 · intro x w' h;rcases h with ⟨u,p0,p1,p2,p4,n0,n1,n2,n4,q0,q1,q2,q4,w1,hl,rfl,hv,hg,rfl⟩|⟨e,k,hl,rfl,hg⟩
   · have R0:(ev w1 (W.heap.size+2) (.slice p0 n0 q0) (.slice p1 n1 q1) (.slice p2 n2 q2) (.slice none 0 0) (.slice p4 n4 q4)).heap.size=w1.heap.size:=by unfold ev;simp
     have Nm:W.heap.size+4<=w1.heap.size:=by have:=hg.size;omega
     have gW:=gV.trans (M3.trans hg);refine ⟨sB (M1.gr hg) Q5,.inl ⟨rfl,p0,p1,p2,none,p4,n0,n1,n2,0,n4,q0,q1,q2,0,q4,?_,?_,?_,by rw [R0];exact Nm,.inl ⟨u,hl,rfl,rfl,?_⟩⟩⟩
     · exact kV ((hg.block _ Q5 Q6).trans ((M3.block _ Q5 Q6).trans k2))
     · exact (en Q5).trans ((hg.block _ Q5 Q6).trans ((M3.block _ Q5 Q6).trans k1))
     · exact ⟨gW.os,gW.tape,gW.output,by rw [R0];exact gW.size,fun i hi hne=>(en Q5).trans (gW.block i hi hne)⟩
     · rw [Rg,OQ] at hv;exact hv.mv Q5 (fun k hk _=>en Q5)
   · have Nm:W.heap.size+4<=w'.heap.size:=by have:=hg.size;omega
     exact ⟨M1.gr hg,.inr ⟨e,0,(k:Int),rfl,rfl,none,none,none,none,none,0,0,0,0,0,0,0,0,0,0,(hg.block _ Q5 Q6).trans ((M3.block _ Q5 Q6).trans k2),(hg.block _ Q5 Q6).trans ((M3.block _ Q5 Q6).trans k1),gV.trans (M3.trans hg),Nm,.inr ⟨k,hl,rfl,rfl⟩⟩⟩
 · rintro x w2 ⟨w1,hgc,_,hx⟩;have hy:∃e n a:Int,x=.returned (.agg #[.int .i64 e,.int .i64 n,.int .i64 a])/\yM W l e a w1:=by
    rcases hx with ⟨rfl,h⟩|⟨e,n,a,rfl,-,h⟩
    · exact ⟨0,0,0,rfl,h⟩
    · exact ⟨e,n,a,rfl,h⟩
   obtain ⟨e,n,a,rfl,p0,p1,p2,p3,p4,n0,n1,n2,n3,n4,q0,q1,q2,q3,q4,V6,Le,O7,Nm,Xa⟩:=hy;have hgc2:∀k,k < w1.heap.size->¬k=W.heap.size+3->w2.heap[k]? =w1.heap[k]? :=fun k hk hn=>hgc.block k hk gS
   have Cw:=(hgc2 _ Q5 Q5).trans V6;have Dw:=(hgc2 _ Q5 Q5).trans Le;have GI:Gr W w2:=⟨hgc.os.trans O7.os,hgc.tape.trans O7.tape,hgc.output.trans O7.output,Nat.le_trans O7.size hgc.size,fun i hi hne=>(hgc2 i (by have:=O7.size;omega) Q5).trans (O7.block i hi hne)⟩;have Ew:(∃u,cR l=.inl u/\e=0/\a=0/\j_ (W.heap.size+4) w2 (.agg #[.slice p0 n0 q0,.slice p1 n1 q1,.slice p2 n2 q2,.slice p3 n3 q3,.slice p4 n4 q4]) u)\/∃k:Nat,cR l=.inr (e,k)/\a=(k:Int)/\(.agg #[.slice p0 n0 q0,.slice p1 n1 q1,.slice p2 n2 q2,.slice p3 n3 q3,.slice p4 n4 q4]:Value)=.agg #[.slice none 0 0,.slice none 0 0,.slice none 0 0,.slice none 0 0,.slice none 0 0]:=by
    rcases Xa with ⟨u,h1,h2,h3,h4⟩|h
    · exact .inl ⟨u,h1,h2,h3,h4.mv hgc.size (fun k hk hl=>hgc2 k hl Q5)⟩
    · exact .inr h
   have hs42:W.heap.size+4<=w2.heap.size:=Nat.le_trans Nm hgc.size;have O':=heap_alloc_new w2 (.cells #[.int .i64 e,.int .i64 n,.int .i64 a] 62);have g3:=(Gr.refl w2).alloc (.cells #[.int .i64 e,.int .i64 n,.int .i64 a] 62);have KH:Hid (∀w',Gr (w2.alloc (.cells #[.int .i64 e,.int .i64 n,.int .i64 a] 62)) w'->w'.heap[W.heap.size+2]? =some (.cells #[.slice p0 n0 q0,.slice p1 n1 q1,.slice p2 n2 q2,.slice p3 n3 q3,.slice p4 n4 q4] 29 (0,0))/\w'.heap[W.heap.size+1]? =some (.cells #[.slice none 0 0,.slice none 0 0,.slice none 0 0,.slice none 0 0,.slice none 0 0] 29 (0,0))/\w'.heap[w2.heap.size]? =some (.cells #[.int .i64 e,.int .i64 n,.int .i64 a] 62 (0,0))):=aH (fun w' g=>
    ⟨((g3.trans g).block _ Q5 Q6).trans Cw,((g3.trans g).block _ Q5 Q6).trans Dw,(g.block _ Q6 Q6).trans O'⟩)
   have KS:Hid (∀w',Gr (w2.alloc (.cells #[.int .i64 e,.int .i64 n,.int .i64 a] 62)) w'->w'.cell? ⟨W.heap.size+2,0,none⟩=some (.slice p0 n0 q0)/\w'.cell? ⟨W.heap.size+2,1,none⟩=some (.slice p1 n1 q1)/\w'.cell? ⟨W.heap.size+2,2,none⟩=some (.slice p2 n2 q2)/\w'.cell? ⟨W.heap.size+2,3,none⟩=some (.slice p3 n3 q3)/\w'.cell? ⟨W.heap.size+2,4,none⟩=some (.slice p4 n4 q4)/\w'.cell? ⟨w2.heap.size,0,none⟩=some (.int .i64 e)/\w'.cell? ⟨w2.heap.size,2,none⟩=some (.int .i64 a)):=aH (fun w' g=>by
    obtain ⟨d1,_,d3⟩:=KH.out w' g;refine ⟨?_,?_,?_,?_,?_,?_,?_⟩<;>first|(rw [aJ d1];rfl)|(rw [aJ d3];rfl))
   have JC:Hid (∀w',Gr (w2.alloc (.cells #[.int .i64 e,.int .i64 n,.int .i64 a] 62)) w'->(w'.setRow (W.heap.size+1) #[.slice p0 n0 q0,.slice p1 n1 q1,.slice p2 n2 q2,.slice p3 n3 q3,.slice p4 n4 q4]).cell? ⟨W.heap.size+2,0,none⟩=some (.slice p0 n0 q0)/\(w'.setRow (W.heap.size+1) #[.slice p0 n0 q0,.slice p1 n1 q1,.slice p2 n2 q2,.slice p3 n3 q3,.slice p4 n4 q4]).cell? ⟨W.heap.size+2,1,none⟩=some (.slice p1 n1 q1)/\(w'.setRow (W.heap.size+1) #[.slice p0 n0 q0,.slice p1 n1 q1,.slice p2 n2 q2,.slice p3 n3 q3,.slice p4 n4 q4]).cell? ⟨W.heap.size+2,2,none⟩=some (.slice p2 n2 q2)/\(w'.setRow (W.heap.size+1) #[.slice p0 n0 q0,.slice p1 n1 q1,.slice p2 n2 q2,.slice p3 n3 q3,.slice p4 n4 q4]).cell? ⟨W.heap.size+2,3,none⟩=some (.slice p3 n3 q3)/\(w'.setRow (W.heap.size+1) #[.slice p0 n0 q0,.slice p1 n1 q1,.slice p2 n2 q2,.slice p3 n3 q3,.slice p4 n4 q4]).cell? ⟨W.heap.size+2,4,none⟩=some (.slice p4 n4 q4)/\(w'.setRow (W.heap.size+1) #[.slice p0 n0 q0,.slice p1 n1 q1,.slice p2 n2 q2,.slice p3 n3 q3,.slice p4 n4 q4]).cell? ⟨w2.heap.size,0,none⟩=some (.int .i64 e)/\(w'.setRow (W.heap.size+1) #[.slice p0 n0 q0,.slice p1 n1 q1,.slice p2 n2 q2,.slice p3 n3 q3,.slice p4 n4 q4]).cell? ⟨w2.heap.size,2,none⟩=some (.int .i64 a)):=aH (fun w' g=>by
    obtain ⟨d1,_,d3⟩:=KH.out w' g;have e1:(w'.setRow (W.heap.size+1) #[.slice p0 n0 q0,.slice p1 n1 q1,.slice p2 n2 q2,.slice p3 n3 q3,.slice p4 n4 q4]).heap[W.heap.size+2]? =_:=(setRow_other _ _ _ _ Q5).trans d1;have e3:(w'.setRow (W.heap.size+1) #[.slice p0 n0 q0,.slice p1 n1 q1,.slice p2 n2 q2,.slice p3 n3 q3,.slice p4 n4 q4]).heap[w2.heap.size]? =_:=(setRow_other _ _ _ _ Q5).trans d3;refine ⟨?_,?_,?_,?_,?_,?_,?_⟩<;>first|(rw [aJ e1];rfl)|(rw [aJ e3];rfl))
   have O0:=aH (GI.trans g3);have Q':=aH Ew;have HG3:=aH g3;clear hx V6 Le O7 Nm Xa hgc2 Cw Dw GI Ew O' g3 hgc M1 M3 Rg k0 k1 k2 gV Kf;go_upto_region 3 with fail
   generalize w2.alloc (.cells #[.int .i64 e,.int .i64 n,.int .i64 a] 62)=W4 at KH KS JC O0 HG3 |-;refine wp_region_held_drew (S:=(fun w'=>w'.cell? ⟨W.heap.size+2,0,none⟩=some (.slice p0 n0 q0)/\w'.cell? ⟨W.heap.size+2,1,none⟩=some (.slice p1 n1 q1)/\w'.cell? ⟨W.heap.size+2,2,none⟩=some (.slice p2 n2 q2)/\w'.cell? ⟨W.heap.size+2,3,none⟩=some (.slice p3 n3 q3)/\w'.cell? ⟨W.heap.size+2,4,none⟩=some (.slice p4 n4 q4)/\w'.cell? ⟨w2.heap.size,0,none⟩=some (.int .i64 e)/\w'.cell? ⟨w2.heap.size,2,none⟩=some (.int .i64 a))) Q7 (KS.out _ (Gr.drew (Gr.refl _))) (fun hH=>?_);refine tL 0 ?_;simp only [Act.put,sA,s0,s1];refine tL 1 ?_;simp only [Act.put,sA,s0,s1];refine tL 2 ?_;simp only [Act.put,sA,s0,s1];refine tL 3 ?_;simp only [Act.put,sA,s0,s1];refine tL 4 ?_;simp only [Act.put,sA,s0,s1];refine aq (i:=5) rfl Q7 (fun K hK=>?_);refine ae cw (wp_store_row (P:=Tryz.prog) 29 _ _ rfl (W.heap.size+1) #[.slice p0 n0 q0,.slice p1 n1 q1,.slice p2 n2 q2,.slice p3 n3 q3,.slice p4 n4 q4] cw fk 29 _ (KH.out W4.drew (Gr.drew (Gr.refl _))).2.1 Tryz.infUn rfl (by simp [Value.oneCell']) ?_);refine hK.out _ _ (JC.out _ (Gr.drew (Gr.refl _))) (fun hH=>?_);clear hK;try simp only [Act.put,sA,s0,s1]
   refine tL 6 ?_;simp only [Act.put,sA,s0,s1];refine tL 7 ?_;simp only [Act.put,sA,s0,s1];refine wpAnyH_done Q7 ?_ _;clear hH KS JC;have Nf:=setRow_heap W4.drew (W.heap.size+1) _ #[.slice p0 n0 q0,.slice p1 n1 q1,.slice p2 n2 q2,.slice p3 n3 q3,.slice p4 n4 q4] _ _ (KH.out W4.drew (Gr.drew (Gr.refl _))).2.1;have t0:(W4.drew.setRow (W.heap.size+1) #[.slice p0 n0 q0,.slice p1 n1 q1,.slice p2 n2 q2,.slice p3 n3 q3,.slice p4 n4 q4]).cell? ⟨W.heap.size+1,0,none⟩=some (.slice p0 n0 q0):=by rw [aJ Nf];rfl
   have t1:(W4.drew.setRow (W.heap.size+1) #[.slice p0 n0 q0,.slice p1 n1 q1,.slice p2 n2 q2,.slice p3 n3 q3,.slice p4 n4 q4]).cell? ⟨W.heap.size+1,1,none⟩=some (.slice p1 n1 q1):=by rw [aJ Nf];rfl
   have t2:(W4.drew.setRow (W.heap.size+1) #[.slice p0 n0 q0,.slice p1 n1 q1,.slice p2 n2 q2,.slice p3 n3 q3,.slice p4 n4 q4]).cell? ⟨W.heap.size+1,2,none⟩=some (.slice p2 n2 q2):=by rw [aJ Nf];rfl
   have t3:(W4.drew.setRow (W.heap.size+1) #[.slice p0 n0 q0,.slice p1 n1 q1,.slice p2 n2 q2,.slice p3 n3 q3,.slice p4 n4 q4]).cell? ⟨W.heap.size+1,3,none⟩=some (.slice p3 n3 q3):=by rw [aJ Nf];rfl
   have t4:(W4.drew.setRow (W.heap.size+1) #[.slice p0 n0 q0,.slice p1 n1 q1,.slice p2 n2 q2,.slice p3 n3 q3,.slice p4 n4 q4]).cell? ⟨W.heap.size+1,4,none⟩=some (.slice p4 n4 q4):=by rw [aJ Nf];rfl
   clear Nf;go_wp2_with fail
   refine bodyPost_ret (v:=.tuple #[.agg #[.slice p0 n0 q0,.slice p1 n1 q1,.slice p2 n2 q2,.slice p3 n3 q3,.slice p4 n4 q4],.int .i64 e,.int .i64 a]) (by simp [results,Tryz.results27,go_sem,t0,t1,t2,t3,t4]) rfl ?_;have hgE:Gr W (W4.drew.setRow (W.heap.size+1) #[.slice p0 n0 q0,.slice p1 n1 q1,.slice p2 n2 q2,.slice p3 n3 q3,.slice p4 n4 q4]):=pE O0.out.drew Q5;refine ⟨hgE,?_⟩;rcases Q'.out with ⟨u,h1,rfl,rfl,h4⟩|⟨k,h1,rfl,h3⟩
   · refine .inl ⟨_,u,h1,rfl,j_.less ((h4.mv HG3.out.size (fun k hk hl=>HG3.out.block k hl Q6)).mv (w':=W4.drew.setRow (W.heap.size+1) #[.slice p0 n0 q0,.slice p1 n1 q1,.slice p2 n2 q2,.slice p3 n3 q3,.slice p4 n4 q4]) Q6 (fun k hk hl=>?_)) Q5⟩;exact setRow_other _ _ _ _ Q5
   · exact .inr ⟨e,k,h1,by rw [h3]⟩
theorem nv:∀(r:List UInt8) (k v:Nat),10<=k->bC k v r=none
 | [],_,_,_=>rfl
 | b :: r,k,v,hk=>by
  unfold bC;by_cases hf:b.toNat % 128 * 2 ^ (7 * k) < 18446744073709551616
  · rw [if_pos hf];have hz:b.toNat % 128=0:=by
     rcases Nat.eq_zero_or_pos (b.toNat % 128) with h|h
     · exact h
     · have h1:2 ^ 64<=2 ^ (7 * k):=Nat.pow_le_pow_right Q9 Q5;have h2:1 * 2 ^ (7 * k)<=b.toNat % 128 * 2 ^ (7 * k):=Nat.mul_le_mul_right _ h;omega
    by_cases hb:b.toNat < 128
    · rw [if_pos hb,if_neg];intro h;rcases h with h|h
      · omega
      · omega
    · rw [if_neg hb];exact nv r _ _ Q5
  · rw [if_neg hf]
theorem oR:∀(r:List UInt8) (k v n:Nat) (r':List UInt8),k<=9->bC k v r=some (n,r')->∃m,n=v+m * 2 ^ (7 * k)/\r=kT (10 - k) m++r'/\(k≠0->m≠0)
 | [],_,_,_,_,_,h=>by simp [bC] at h
 | b :: r,k,v,n,r',hk,h=>by
  unfold bC at h;have hb256:=b.toNat_lt;by_cases hf:b.toNat % 128 * 2 ^ (7 * k) < 18446744073709551616
  · rw [if_pos hf] at h;by_cases hb:b.toNat < 128
    · rw [if_pos hb] at h;by_cases hc:b.toNat≠0\/k=0
      · rw [if_pos hc] at h;simp only [Option.some.injEq,Prod.mk.injEq] at h;refine ⟨b.toNat,?_,?_,?_⟩
        · rw [<-h.1,Nat.mod_eq_of_lt hb]
        · rw [kd hb,<-h.2,UInt8.ofNat_toNat];rfl
        · intro h0;rcases hc with h1|h1
          · exact h1
          · exact absurd h1 h0
      · rw [if_neg hc] at h;cases h
    · rw [if_neg hb] at h;by_cases hk9:k+1<=9
      · obtain ⟨m,e1,e2,e3⟩:=oR r (k+1) _ n r' hk9 h;have hm:m≠0:=e3 Q5;refine ⟨b.toNat % 128+128 * m,?_,?_,fun _=>by omega⟩
        · rw [e1,show 7 * (k+1)=7 * k+7 by omega,Nat.pow_add,Nat.add_mul];rw [show m * (2 ^ (7 * k) * 2 ^ 7)=128 * m * 2 ^ (7 * k) by rw [show (2:Nat) ^ 7=128 by rfl,Nat.mul_comm (2 ^ (7 * k)) 128,<-Nat.mul_assoc,Nat.mul_comm m 128]];omega
        · rw [show 10 - k=(10 - (k+1))+1 by omega,nA Q5,e2];have h1:(b.toNat % 128+128 * m) % 128=b.toNat % 128:=by omega
          have h2:(b.toNat % 128+128 * m) / 128=m:=Q5
          rw [h1,h2,show b.toNat % 128+128=b.toNat by omega,UInt8.ofNat_toNat];rfl
      · rw [nv r _ _ Q5] at h;cases h
  · rw [if_neg hf] at h;cases h
theorem lE{r r':List UInt8}{n:Nat}(h:bC 0 0 r=some (n,r')):r=num n++r':=by
 obtain ⟨m,h1,h2,_⟩:=oR r 0 0 n r' Q9 h;have:n=m:=by simpa using h1
 subst this;exact h2
def vj{α:Type}(f:List UInt8->Option (α×List UInt8))(g:α->List UInt8):Prop:=∀r y r',f r=some (y,r')->r=g y++r'
theorem vF{v:Nat}:pf (ig v)=v:=by
 unfold ig pf;split
 · rw [if_pos Q5];omega
 · rw [if_neg Q5];omega
theorem rr{v:Nat}(h:v < 18446744073709551616):-9223372036854775808<=ig v/\ig v<=9223372036854775807:=by
 unfold ig;split<;>omega
theorem mx:vj af dl:=by
 intro r y r' h;unfold af at h;cases hn:bC 0 0 r with
 | none=>rw [hn] at h;cases h
 | some p=>
  obtain ⟨n,r1⟩:=p;rw [hn] at h;simp only [Option.map_some,Option.some.injEq,Prod.mk.injEq] at h;rw [lE hn,<-h.1,<-h.2];unfold dl;rw [vF]
theorem fY:vj ar ba:=by
 intro r y r' h;unfold ar at h;cases hn:bC 0 0 r with
 | none=>rw [hn] at h;cases h
 | some p=>
  obtain ⟨n,r1⟩:=p;rw [hn] at h;simp only at h;split at h
  · simp only [Option.some.injEq,Prod.mk.injEq] at h;rw [lE hn,<-h.1,<-h.2];unfold ba;simp
  · cases h
theorem qz{n:Nat}{r y r':List UInt8}(h:dC n r=some (y,r')):r=y++r'/\y.length=n:=by
 unfold dC at h;split at h
 · simp only [Option.some.injEq,Prod.mk.injEq] at h;rw [<-h.1,<-h.2];exact ⟨(List.take_append_drop _ _).symm,by rw [List.length_take];omega⟩
 · cases h
theorem qT:vj dw b_:=by
 intro r y r' h;unfold dw at h;cases hn:bC 0 0 r with
 | none=>rw [hn] at h;cases h
 | some p=>
  obtain ⟨n,r1⟩:=p;rw [hn] at h;simp only at h;obtain ⟨h1,h2⟩:=qz h;rw [lE hn,h1];unfold b_;rw [h2,List.append_assoc]
theorem tH{α:Type}{f:List UInt8->Option (α×List UInt8)}{g:α->List UInt8}(hf:vj f g):∀(n:Nat) (r:List UInt8) (ys:List α) (r':List UInt8),fT f n r=some (ys,r')->ys.length=n/\r=ys.flatMap g++r'
 | 0,r,ys,r',h=>by
  simp only [fT,Option.some.injEq,Prod.mk.injEq] at h;rw [<-h.1,<-h.2];simp
 | n+1,r,ys,r',h=>by
  simp only [fT] at h;cases h1:f r with
  | none=>rw [h1] at h;cases h
  | some p=>
   obtain ⟨y,r1⟩:=p;rw [h1] at h;simp only at h;cases h2:fT f n r1 with
   | none=>rw [h2] at h;cases h
   | some q=>
    obtain ⟨zs,r2⟩:=q;rw [h2] at h;simp only [Option.some.injEq,Prod.mk.injEq] at h;obtain ⟨e1,e2⟩:=tH hf n r1 zs r2 h2;rw [<-h.1,<-h.2,hf r y r1 h1,e2];simp [e1]
theorem gv{α:Type}{f:List UInt8->Option (α×List UInt8)}{g:α->List UInt8}(hf:vj f g):vj (aM f) (df g):=by
 intro r ys r' h;unfold aM at h;cases hn:bC 0 0 r with
 | none=>rw [hn] at h;cases h
 | some p=>
  obtain ⟨n,r1⟩:=p;rw [hn] at h;simp only at h;split at h
  · obtain ⟨e1,e2⟩:=tH hf n r1 ys r' h;rw [lE hn,e2];unfold df;rw [e1,List.append_assoc]
  · cases h
theorem js:vj au bG:=gv fY
theorem zb:vj cP bl:=by
 intro r y r' h;cases r with
 | nil=>simp [cP,cm] at h
 | cons b r1=>
  simp only [cP,cm] at h;have hb:UInt8.ofNat ((b.toNat:Int)).toNat=b:=Q6
  by_cases h1:wB (b.toNat:Int) 0 20=true
  · rw [if_pos h1] at h;by_cases h2:(b.toNat:Int)=1
    · rw [if_pos h2] at h;cases hs:af r1 with
      | none=>rw [hs] at h;cases h
      | some p=>
       obtain ⟨v,r2⟩:=p;rw [hs] at h;simp only [Option.some.injEq,Prod.mk.injEq] at h;rw [mx r1 v r2 hs,<-h.1,<-h.2];unfold bl;simp only [if_pos h2,hb];rfl
    · rw [if_neg h2] at h;rcases eQ (b.toNat:Int) with hN|hN|hN
      · rw [if_pos hN] at h;simp only [Option.some.injEq,Prod.mk.injEq] at h;rw [<-h.1,<-h.2];unfold bl;simp [if_neg h2,hN]
      · rw [if_neg Q5] at h;cases hs:ar r1 with
        | none=>rw [hs] at h;cases h
        | some p=>
         obtain ⟨v,r2⟩:=p;rw [hs] at h;simp only [if_pos hN,Option.some.injEq,Prod.mk.injEq] at h;rw [fY r1 v r2 hs,<-h.1,<-h.2];unfold bl ba;simp [if_neg h2,hN]
      · rw [if_neg Q5] at h;cases hs:ar r1 with
        | none=>rw [hs] at h;cases h
        | some p=>
         obtain ⟨v,r2⟩:=p;rw [hs] at h;simp only [if_neg (show ¬aa (b.toNat:Int)=1 by omega)] at h;cases E8:ar r2 with
         | none=>rw [E8] at h;cases h
         | some q=>
          obtain ⟨u,r3⟩:=q;rw [E8] at h;simp only [Option.some.injEq,Prod.mk.injEq] at h;rw [fY r1 v r2 hs,fY r2 u r3 E8,<-h.1,<-h.2];unfold bl ba;simp [if_neg h2,hN]
  · rw [if_neg h1] at h;cases h
theorem wR:vj bI b8:=by
 intro r y r' h;unfold bI at h;cases h1:au r with
 | none=>rw [h1] at h;cases h
 | some p1=>
  obtain ⟨ps,r1⟩:=p1;rw [h1] at h;simp only at h;cases h2:au r1 with
  | none=>rw [h2] at h;cases h
  | some p2=>
   obtain ⟨ls,r2⟩:=p2;rw [h2] at h;simp only at h;cases h3:ar r2 with
   | none=>rw [h3] at h;cases h
   | some p3=>
    obtain ⟨res,r3⟩:=p3;rw [h3] at h;simp only at h;cases h4:aM cP r3 with
    | none=>rw [h4] at h;cases h
    | some p4=>
     obtain ⟨c,r4⟩:=p4;rw [h4] at h;simp only [Option.some.injEq,Prod.mk.injEq] at h;rw [js r ps r1 h1,js r1 ls r2 h2,fY r2 res r3 h3,gv zb r3 c r4 h4,<-h.1,<-h.2];unfold b8 ba;simp only [List.append_assoc]
theorem zg:vj cN dW:=by
 intro r y r' h;unfold cN at h;cases h1:dw r with
 | none=>rw [h1] at h;cases h
 | some p1=>
  obtain ⟨s,r1⟩:=p1;rw [h1] at h;simp only at h;cases h2:au r1 with
  | none=>rw [h2] at h;cases h
  | some p2=>
   obtain ⟨ls,r2⟩:=p2;rw [h2] at h;simp only at h;cases h3:ar r2 with
   | none=>rw [h3] at h;cases h
   | some p3=>
    obtain ⟨res,r3⟩:=p3;rw [h3] at h;simp only [Option.some.injEq,Prod.mk.injEq] at h;rw [qT r s r1 h1,js r1 ls r2 h2,fY r2 res r3 h3,<-h.1,<-h.2];unfold dW ba;simp only [List.append_assoc]
theorem yl:vj cT db:=by
 intro r y r' h;unfold cT at h;cases h1:dw r with
 | none=>rw [h1] at h;cases h
 | some p1=>
  obtain ⟨s,r1⟩:=p1;rw [h1] at h;simp only at h;cases h3:ar r1 with
  | none=>rw [h3] at h;cases h
  | some p3=>
   obtain ⟨res,r3⟩:=p3;rw [h3] at h;simp only [Option.some.injEq,Prod.mk.injEq] at h;rw [qT r s r1 h1,fY r1 res r3 h3,<-h.1,<-h.2];unfold db ba;simp only [List.append_assoc]
theorem rU:∀(j k v m:Nat) (r:List UInt8),j+k=10->v < 2 ^ (7 * k)->v+m * 2 ^ (7 * k) < 18446744073709551616->(k≠0->m≠0)->bC k v (kT j m++r)=some (v+m * 2 ^ (7 * k),r)
 | 0,k,v,m,r,Wq,hv,J0,hm=>by
  have hk:k=10:=Q5
  subst hk;have h1:m≠0:=hm Q9;have h2:1 * 2 ^ (7 * 10)<=m * 2 ^ (7 * 10):=Nat.mul_le_mul_right _ Q5;omega
 | j+1,k,v,m,r,Wq,hv,J0,hm=>by
  by_cases hs:m < 128
  · rw [kd hs];have hb:(UInt8.ofNat m).toNat=m:=by rw [UInt8.toNat_ofNat'];omega
    show bC k v (UInt8.ofNat m :: r)=_
    unfold bC;rw [hb,Nat.mod_eq_of_lt hs,if_pos Q5,if_pos hs,if_pos];by_cases h0:k=0
    · exact .inr h0
    · exact .inl (hm h0)
  · rw [nA hs];have hb:(UInt8.ofNat (m % 128+128)).toNat=m % 128+128:=by rw [UInt8.toNat_ofNat'];omega
    show bC k v (UInt8.ofNat (m % 128+128) :: (kT j (m / 128)++r))=_
    unfold bC;have hl:(m % 128+128) % 128=m % 128:=Q5
    have hle:m % 128 * 2 ^ (7 * k)<=m * 2 ^ (7 * k):=Nat.mul_le_mul_right _ Q5;rw [hb,hl,if_pos Q5,if_neg Q5];have hp:2 ^ (7 * (k+1))=2 ^ (7 * k) * 128:=by rw [show 7 * (k+1)=7 * k+7 by omega,Nat.pow_add]
    have h2:m % 128 * 2 ^ (7 * k)<=127 * 2 ^ (7 * k):=Nat.mul_le_mul_right _ Q5;have e:v+m % 128 * 2 ^ (7 * k)+m / 128 * 2 ^ (7 * (k+1))=v+m * 2 ^ (7 * k):=by
     rw [hp,show m / 128 * (2 ^ (7 * k) * 128)=(128 * (m / 128)) * 2 ^ (7 * k) by rw [Nat.mul_comm (2 ^ (7 * k)) 128,<-Nat.mul_assoc,Nat.mul_comm (m / 128) 128],Nat.add_assoc,<-Nat.add_mul,show m % 128+128 * (m / 128)=m by omega]
    rw [rU j (k+1) _ (m / 128) r Q5 (by rw [hp];omega) (by rw [e];exact J0) (by intro;omega),e]
theorem lJ{n:Nat}(r:List UInt8)(h:n < 18446744073709551616):bC 0 0 (num n++r)=some (n,r):=by
 have:=rU 10 0 0 n r rfl Q9 (by simpa using h) Q6
 unfold num;simpa using this
theorem py(b r:List UInt8):dC b.length (b++r)=some (b,r):=by simp [dC]
theorem qZ(c j:Nat):nU c (j+1)=UInt8.ofNat (c % 256) :: nU (c / 256) j:=by
 unfold nU;rw [List.range_succ_eq_map,List.map_cons,List.map_map];congr 1
 · simp
 · apply List.map_congr_left
   intro i _;simp only [Function.comp,Nat.succ_eq_add_one];rw [Nat.pow_succ,Nat.mul_comm,Nat.div_div_eq_div_mul]
theorem tu:∀(j c:Nat) (r:List UInt8),d_ j c (nU c j++r)=some r
 | 0,c,r=>by simp [d_,nU]
 | j+1,c,r=>by
  rw [qZ];show d_ (j+1) c (UInt8.ofNat (c % 256) :: (nU (c / 256) j++r))=_
  simp only [d_,cm];rw [if_pos (by rw [UInt8.toNat_ofNat'];omega)];exact tu j (c / 256) r
theorem t9:∀(j c:Nat) (r r':List UInt8),d_ j c r=some r'->r=nU c j++r'
 | 0,c,r,r',h=>by simp only [d_,Option.some.injEq] at h;rw [h];simp [nU]
 | j+1,c,[],r',h=>by simp [d_,cm] at h
 | j+1,c,b :: r,r',h=>by
  simp only [d_,cm] at h;split at h
  · rename_i hb
    rw [qZ,<-hb,UInt8.ofNat_toNat,t9 j _ r r' h];rfl
  · cases h
theorem qh{n:Nat}{r b r':List UInt8}(h:cM n r=some (b,r')):r=cZ n b++r':=by
 cases r with
 | nil=>simp [cM,cm] at h
 | cons x r1=>
  simp only [cM,cm] at h;by_cases hx:x.toNat=n
  · rw [if_pos hx] at h;cases hn:bC 0 0 r1 with
    | none=>rw [hn] at h;cases h
    | some p=>
     obtain ⟨k,r2⟩:=p;rw [hn] at h;simp only at h;cases ht:dC k r2 with
     | none=>rw [ht] at h;cases h
     | some q=>
      obtain ⟨y,r3⟩:=q;rw [ht] at h;simp only at h;cases hs:d_ 4 (mL y) r3 with
      | none=>rw [hs] at h;cases h
      | some r4=>
       rw [hs] at h;simp only [Option.some.injEq,Prod.mk.injEq] at h;obtain ⟨t1,t2⟩:=qz ht;rw [lE hn,t1,t9 4 _ r3 r4 hs,<-h.1,<-h.2,<-t2,<-hx];unfold cZ;rw [UInt8.ofNat_toNat];simp only [List.append_assoc,List.cons_append,List.nil_append]
  · rw [if_neg hx] at h;cases h
theorem yI{n:Nat}(b r:List UInt8)(hn:n < 256)(hb:b.length < 18446744073709551616):cM n (cZ n b++r)=some (b,r):=by
 have e:cZ n b++r=UInt8.ofNat n :: (num b.length++(b++(nU (mL b) 4++r))):=by unfold cZ;simp only [List.append_assoc,List.cons_append,List.nil_append]
 rw [e];simp only [cM,cm];rw [if_pos (by rw [UInt8.toNat_ofNat'];omega),lJ _ hb];simp only [py,tu]
def bA{α:Type}(f:List UInt8->Option (List α×List UInt8))(b:List UInt8):Option (List α):=match f b with
 | some (y,[])=>some y
 | _=>none
def ag{α:Type}(n:Nat)(f:List UInt8->Option (List α×List UInt8))(r:List UInt8):Option (List α×List UInt8):=match cM n r with
 | none=>none
 | some (b,r')=>match bA f b with
  | none=>none
  | some y=>some (y,r')
theorem je{α:Type}{n:Nat}{f:List UInt8->Option (List α×List UInt8)}{g:List α->List UInt8}(hf:vj f g){r r':List UInt8}{y:List α}(h:ag n f r=some (y,r')):r=cZ n (g y)++r'/\bA f (g y)=some y:=by
 unfold ag at h;cases ho:cM n r with
 | none=>rw [ho] at h;cases h
 | some p=>
  obtain ⟨b,r1⟩:=p;rw [ho] at h;simp only at h;cases hb:bA f b with
  | none=>rw [hb] at h;cases h
  | some z=>
   rw [hb] at h;simp only [Option.some.injEq,Prod.mk.injEq] at h;obtain ⟨rfl,rfl⟩:=h;have I_:f b=some (z,[]):=by
    unfold bA at hb;split at hb
    · rename_i y' heq;simp only [Option.some.injEq] at hb;rw [heq,hb]
    · cases hb
   have e:=hf b z [] I_;rw [List.append_nil] at e;rw [<-e];exact ⟨qh ho,hb⟩
theorem jF{α:Type}{n:Nat}{f:List UInt8->Option (List α×List UInt8)}{b r:List UInt8}{y:List α}(hn:n < 256)(hb:b.length < 18446744073709551616)(hf:bA f b=some y):ag n f (cZ n b++r)=some (y,r):=by
 unfold ag;rw [yI b r hn hb];simp only [hf]
def pl(t r:List UInt8):Nat:=t.length - r.length
def dec(t:List UInt8):aK ⊕ (Int×Nat):=
 if 20000 < t.length then .inr (3,0)
 else if t.take 5≠dg then .inr (2,0)
 else match ag 1 (aM au) (t.drop 5) with
  | none=>.inr (2,5)
  | some (sh,r1)=>if cL sh=false then .inr (2,5) else match ag 2 (aM af) r1 with
   | none=>.inr (2,pl t r1)
   | some (cs,r2)=>if cV cs=false then .inr (2,pl t r1) else match ag 3 (aM bI) r2 with
    | none=>.inr (2,pl t r2)
    | some (fs,r3)=>if b9 fs sh.length=false then .inr (2,pl t r2) else match ag 4 (aM cN) r3 with
     | none=>.inr (2,pl t r3)
     | some (im,r4)=>if bZ im sh.length=false then .inr (2,pl t r3) else match ag 5 (aM cT) r4 with
      | none=>.inr (2,pl t r4)
      | some (ex,r5)=>if bm ex fs.length=false then .inr (2,pl t r4) else if r5= [] then .inl ⟨sh,cs,fs,im,ex⟩ else .inr (2,pl t r5)
theorem kl{b:Bool}(h:¬b=false):b=true:=by cases b<;>simp_all
structure zv(t:List UInt8)(u:aK)(r1 r2 r3 r4:List UInt8):Prop where
 len:t.length<=20000
 head:t.take 5=dg
 s1:ag 1 (aM au) (t.drop 5)=some (u.aA,r1)
 o1:cL u.aA=true
 s2:ag 2 (aM af) r1=some (u.aD,r2)
 o2:cV u.aD=true
 s3:ag 3 (aM bI) r2=some (u.aE,r3)
 o3:b9 u.aE u.aA.length=true
 s4:ag 4 (aM cN) r3=some (u.aB,r4)
 o4:bZ u.aB u.aA.length=true
 s5:ag 5 (aM cT) r4=some (u.aC,[])
 o5:bm u.aC u.aE.length=true
theorem uz{t:List UInt8}{u:aK}(h:dec t=.inl u):∃r1 r2 r3 r4,zv t u r1 r2 r3 r4:=by
 unfold dec at h;by_cases h1:20000 < t.length
 · rw [if_pos h1] at h;cases h
 rw [if_neg h1] at h;by_cases h2:t.take 5≠dg
 · rw [if_pos h2] at h;cases h
 rw [if_neg h2] at h;have Sn:t.take 5=dg:=Classical.byContradiction h2;cases s1:ag 1 (aM au) (t.drop 5) with
 | none=>rw [s1] at h;cases h
 | some p1=>
 obtain ⟨sh,r1⟩:=p1;rw [s1] at h;simp only at h;by_cases o1:cL sh=false
 · rw [if_pos o1] at h;cases h
 rw [if_neg o1] at h;cases s2:ag 2 (aM af) r1 with
 | none=>rw [s2] at h;cases h
 | some p2=>
 obtain ⟨cs,r2⟩:=p2;rw [s2] at h;simp only at h;by_cases o2:cV cs=false
 · rw [if_pos o2] at h;cases h
 rw [if_neg o2] at h;cases s3:ag 3 (aM bI) r2 with
 | none=>rw [s3] at h;cases h
 | some p3=>
 obtain ⟨fs,r3⟩:=p3;rw [s3] at h;simp only at h;by_cases o3:b9 fs sh.length=false
 · rw [if_pos o3] at h;cases h
 rw [if_neg o3] at h;cases s4:ag 4 (aM cN) r3 with
 | none=>rw [s4] at h;cases h
 | some p4=>
 obtain ⟨im,r4⟩:=p4;rw [s4] at h;simp only at h;by_cases o4:bZ im sh.length=false
 · rw [if_pos o4] at h;cases h
 rw [if_neg o4] at h;cases s5:ag 5 (aM cT) r4 with
 | none=>rw [s5] at h;cases h
 | some p5=>
 obtain ⟨ex,r5⟩:=p5;rw [s5] at h;simp only at h;by_cases o5:bm ex fs.length=false
 · rw [if_pos o5] at h;cases h
 rw [if_neg o5] at h;by_cases h6:r5= []
 · rw [if_pos h6] at h;simp only [Sum.inl.injEq] at h;subst h;subst h6;exact ⟨r1,r2,r3,r4,Q5,Sn,s1,kl o1,s2,kl o2,s3,kl o3,s4,kl o4,s5,kl o5⟩
 · rw [if_neg h6] at h;cases h
theorem tx{α:Type}{f:List UInt8->Option (α×List UInt8)}{Q:α->Prop}(hf:∀r y r',f r=some (y,r')->Q y):∀(n:Nat) (r:List UInt8) (ys:List α) (r':List UInt8),fT f n r=some (ys,r')->∀y∈ys,Q y
 | 0,r,ys,r',h=>by
  simp only [fT,Option.some.injEq,Prod.mk.injEq] at h;rw [<-h.1];simp
 | n+1,r,ys,r',h=>by
  simp only [fT] at h;cases h1:f r with
  | none=>rw [h1] at h;cases h
  | some p=>
   obtain ⟨y,r1⟩:=p;rw [h1] at h;simp only at h;cases h2:fT f n r1 with
   | none=>rw [h2] at h;cases h
   | some q=>
    obtain ⟨zs,r2⟩:=q;rw [h2] at h;simp only [Option.some.injEq,Prod.mk.injEq] at h;rw [<-h.1];intro z hz;rcases List.mem_cons.1 hz with rfl|hz
    · exact hf _ _ _ h1
    · exact tx hf n r1 zs r2 h2 z hz
theorem nY:∀r y r',af r=some (y,r')->-9223372036854775808<=y/\y<=9223372036854775807:=by
 intro r y r' h;unfold af at h;cases hn:bC 0 0 r with
 | none=>rw [hn] at h;cases h
 | some p=>
  obtain ⟨n,r1⟩:=p;rw [hn] at h;simp only [Option.map_some,Option.some.injEq,Prod.mk.injEq] at h;rw [<-h.1];exact rr (jC r 0 0 Q9 Q9 n r1 hn)
theorem uW{b:List UInt8}{cs:List Int}(h:bA (aM af) b=some cs):∀x∈cs,-9223372036854775808<=x/\x<=9223372036854775807:=by
 unfold bA at h;split at h
 · rename_i y heq
   simp only [Option.some.injEq] at h;subst h;unfold aM at heq;cases hn:bC 0 0 b with
   | none=>rw [hn] at heq;cases heq
   | some p=>
    obtain ⟨n,r1⟩:=p;rw [hn] at heq;simp only at heq;split at heq
    · exact tx nY n r1 _ _ heq
    · cases heq
 · cases h
theorem ux{t:List UInt8}{u:aK}{r1 r2 r3 r4:List UInt8}(P:zv t u r1 r2 r3 r4):
 ai u=true/\mn u/\t=enc u/\r4=cZ 5 (gK u)/\t=jL u++r4/\r3=cZ 4 (fx u)++r4/\r2=cZ 3 (f_ u)++r3/\r1=cZ 2 (f8 u)++r2/\t.drop 5=cZ 1 (f9 u)++r1/\
 bA (aM au) (f9 u)=some u.aA/\bA (aM af) (f8 u)=some u.aD/\bA (aM bI) (f_ u)=some u.aE/\bA (aM cN) (fx u)=some u.aB:=by
 obtain ⟨e1,b1⟩:=je (gv js) P.s1;obtain ⟨e2,b2⟩:=je (gv mx) P.s2;obtain ⟨e3,b3⟩:=je (gv wR) P.s3;obtain ⟨e4,b4⟩:=je (gv zg) P.s4;obtain ⟨e5,b5⟩:=je (gv yl) P.s5;have ht:t=dg++t.drop 5:=by rw [<-P.head,List.take_append_drop]
 rw [List.append_nil] at e5;have ht4:t=jL u++r4:=by
  rw [ht,e1,e2,e3,e4];unfold jL mG mf na f9 f8 f_ fx;simp only [List.append_assoc]
 refine ⟨?_,uW b2,?_,e5,ht4,e4,e3,e2,e1,b1,b2,b3,b4⟩
 · unfold ai;rw [P.o1,P.o2,P.o3,P.o4,P.o5];rfl
 · conv=>lhs;rw [ht4,e5]
   rfl
theorem jA(n:Nat)(b:List UInt8)(hb:1<=b.length):7<=(cZ n b).length:=by
 have:=(jS 10 b.length).2
 unfold cZ num;simp only [List.length_append,pV,List.length_cons,List.length_nil];omega
theorem w_(u:aK):33<=(jL u).length:=by
 have h1:=jA 1 (f9 u) dh;have h2:=jA 2 (f8 u) dh;have h3:=jA 3 (f_ u) dh;have h4:=jA 4 (fx u) dh;unfold jL mG mf na;simp only [List.length_append];have:dg.length=5:=rfl
 omega
theorem AE{t:List UInt8}{u:aK}(h:dec t=.inl u):ai u=true/\mn u/\enc u=t/\t.length<=20000/\40<=t.length:=by
 obtain ⟨r1,r2,r3,r4,P⟩:=uz h;obtain ⟨h1,h2,h3,h4,h5,_⟩:=ux P;have L:=w_ u;have L5:=jA 5 (gK u) dh;have Lt:t.length=(jL u).length+(cZ 5 (gK u)).length:=by conv=>lhs;rw [h5,h4,List.length_append]
 exact ⟨h1,h2,h3.symm,P.len,Q5⟩
end Go.Proofs.YtkgncijcnlfhiabGreat
