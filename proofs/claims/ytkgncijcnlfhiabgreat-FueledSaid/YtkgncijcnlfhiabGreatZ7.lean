import Derived.Test.YtkgncijcnlfhiabGreatZ6
namespace Go.Proofs.YtkgncijcnlfhiabGreat
set_option maxRecDepth 100000
set_option maxHeartbeats 2000000
set_option linter.unusedVariables false
set_option linter.unusedSimpArgs false
open Go.RowKit
attribute [local go_sem ↓] Go.wp_at_zero Go.wp_at_succ
def gO(o:Option (List Int×List Int))(n a:Int)(w:World)(x:Ending)(w':World):Prop:=Gr w w'/\match o with
 | none=>x=.panicked (kC 10 n a)
 | some (ts,ps)=>∃vt vp,x=.returned (.agg #[vt,vp])/\aW w' vt ts/\aW w' vp ps
structure Sc(W:World)(u:aK)(sl:List Int)(v1 v2 v3 v4 vs:Value):Prop where
 sh:bM W v1 u.aA
 co:∃ao cap,v2=.slice ao u.aD.length cap
 fu:dH W v3 u.aE
 im:bo W v4 u.aB
 sl:aW W vs sl
 l2:u.aD.length<=1000000
 l3:u.aE.length<=1000000
 l4:u.aB.length<=1000000
theorem eI{w w1:World}{g o:Nat}{v:Value}(h:Gr w w1)(hg:w.heap.size<=g):Gr w (w1.setCell ⟨g,o,none⟩ v):=
 ⟨h.os,h.tape,h.output,by simpa using h.size,fun i hi hne=>by rw [Below.heap_setCell _ _ _ _ (by show i≠g;omega)];exact h.block i hi hne⟩
def put2(w:World)(g:Nat)(y0 y1:Value):World:=(w.setCell ⟨g,0,none⟩ y0).setCell ⟨g,1,none⟩ y1
theorem cH(w:World)(g:Nat)(y0 y1:Value):(w.setCell ⟨g,0,none⟩ y0).setCell ⟨g,1,none⟩ y1=put2 w g y0 y1:=rfl
theorem bJ{w w1:World}{g:Nat}{y0 y1:Value}(h:Gr w w1)(hg:w.heap.size<=g):Gr w (put2 w1 g y0 y1):=eI (eI h hg) hg
theorem bq{w:World}{g:Nat}{x0 x1 y0 y1:Value}(h0:w.cell? ⟨g,0,none⟩=some x0)(h1:w.cell? ⟨g,1,none⟩=some x1):(put2 w g y0 y1).cell? ⟨g,0,none⟩=some y0/\(put2 w g y0 y1).cell? ⟨g,1,none⟩=some y1:=by
 unfold put2;refine ⟨?_,World.cell?_setCell_same _ _ _ (u:=x1) ?_⟩
 · rw [World.cell?_setCell_other _ _ _ _ (by intro e;simp at e)];exact World.cell?_setCell_same _ _ _ h0
 · rw [World.cell?_setCell_other _ _ _ _ (by intro e;simp at e)];exact h1
theorem bN{w:World}{g b o:Nat}{y0 y1:Value}(h:¬b=g):(put2 w g y0 y1).cell? ⟨b,o,none⟩=w.cell? ⟨b,o,none⟩:=by
 unfold put2;rw [World.cell?_setCell_other _ _ _ _ (by intro e;simp only [Addr.mk.injEq] at e;exact h e.1.symm),World.cell?_setCell_other _ _ _ _ (by intro e;simp only [Addr.mk.injEq] at e;exact h e.1.symm)]
theorem bn(w:World):aW w (.slice none 0 0) []:=⟨none,0,rfl,by decide,fun i h=>by simp at h⟩
theorem uw{w:World}{b:Nat}{y:Int}(h:w.cell? ⟨b,0,none⟩=some (.int .i64 y)):aW w (.slice (some ⟨b,0,none⟩) 1 1) [y]:=
 ⟨some ⟨b,0,none⟩,1,rfl,by simp [maxLen],fun i hi=>⟨b,0,rfl,by
  obtain rfl:i=0:=by simp at hi;omega
  simpa using h⟩⟩
theorem vP{w:World}{b:Nat}{y z:Int}(h:w.cell? ⟨b,0,none⟩=some (.int .i64 y))(k:w.cell? ⟨b,1,none⟩=some (.int .i64 z)):aW w (.slice (some ⟨b,0,none⟩) 2 2) [y,z]:=
 ⟨some ⟨b,0,none⟩,2,rfl,by simp [maxLen],fun i hi=>⟨b,0,rfl,by
  rcases (show i=0\/i=1 by simp at hi;omega) with rfl|rfl
  · simpa using h
  · simpa using k⟩⟩
def lR(w:World)(x0 x1 x2 x3 x4 x5 x6 x7:Value)(op ia ib n a:Int):World:=(((w.alloc (.cells #[x0,x1,x2,x3,x4,x5,x6,x7] 80)).alloc (.cells #[.int .i64 op,.int .i64 ia,.int .i64 ib] 42)).alloc (.cells #[.int .i64 10,.int .i64 n,.int .i64 a] 62)).alloc (.cells #[.slice none 0 0,.slice none 0 0] 184)
structure lw(w w1:World)(x0 x1 x2 x3 x4 x5 x6 x7:Value)(op ia ib n a:Int):Prop where
 gr:Gr w w1
 sz:w.heap.size+4<=w1.heap.size
 s0:w1.cell? ⟨w.heap.size,0,none⟩=some x0
 s1:w1.cell? ⟨w.heap.size,1,none⟩=some x1
 s2:w1.cell? ⟨w.heap.size,2,none⟩=some x2
 s3:w1.cell? ⟨w.heap.size,3,none⟩=some x3
 s4:w1.cell? ⟨w.heap.size,4,none⟩=some x4
 s5:w1.cell? ⟨w.heap.size,5,none⟩=some x5
 s6:w1.cell? ⟨w.heap.size,6,none⟩=some x6
 s7:w1.cell? ⟨w.heap.size,7,none⟩=some x7
 i0:w1.cell? ⟨w.heap.size+1,0,none⟩=some (.int .i64 op)
 i1:w1.cell? ⟨w.heap.size+1,1,none⟩=some (.int .i64 ia)
 i2:w1.cell? ⟨w.heap.size+1,2,none⟩=some (.int .i64 ib)
 y0:w1.cell? ⟨w.heap.size+1+1,0,none⟩=some (.int .i64 10)
 y1:w1.cell? ⟨w.heap.size+1+1,1,none⟩=some (.int .i64 n)
 y2:w1.cell? ⟨w.heap.size+1+1,2,none⟩=some (.int .i64 a)
 r0:w1.cell? ⟨w.heap.size+1+1+1,0,none⟩=some (.slice none 0 0)
 r1:w1.cell? ⟨w.heap.size+1+1+1,1,none⟩=some (.slice none 0 0)
 z0:w1.frozen? ⟨w.heap.size+1+1+1,0,none⟩=false
 z1:w1.frozen? ⟨w.heap.size+1+1+1,1,none⟩=false
theorem lw.new(w:World)(x0 x1 x2 x3 x4 x5 x6 x7:Value)(op ia ib n a:Int):lw w (lR w x0 x1 x2 x3 x4 x5 x6 x7 op ia ib n a) x0 x1 x2 x3 x4 x5 x6 x7 op ia ib n a:=by
 refine ⟨((((Gr.refl w).alloc _).alloc _).alloc _).alloc _,by simp [lR],?_,?_,?_,?_,?_,?_,?_,?_,?_,?_,?_,?_,?_,?_,?_,?_,?_,?_⟩<;>simp [lR,go_sem]
theorem lw.go{w w1 w2:World}{x0 x1 x2 x3 x4 x5 x6 x7:Value}{op ia ib n a:Int}(h:lw w w1 x0 x1 x2 x3 x4 x5 x6 x7 op ia ib n a)(g:Gr w1 w2):lw w w2 x0 x1 x2 x3 x4 x5 x6 x7 op ia ib n a:=by
 have hf:∀{p:Addr} {x:Value},w1.cell? p=some x->w1.frozen? p=false->w2.frozen? p=false:=fun {p x} hx hz=>(World.frozen?_of_block (g.block p.block (World.block_lt_of_cell? w1 p hx) Q6)).trans hz
 exact ⟨h.gr.trans g,Nat.le_trans h.sz g.size,g.cell h.s0 Q6,g.cell h.s1 Q6,g.cell h.s2 Q6,g.cell h.s3 Q6,g.cell h.s4 Q6,g.cell h.s5 Q6,g.cell h.s6 Q6,g.cell h.s7 Q6,g.cell h.i0 Q6,g.cell h.i1 Q6,g.cell h.i2 Q6,g.cell h.y0 Q6,g.cell h.y1 Q6,g.cell h.y2 Q6,g.cell h.r0 Q6,g.cell h.r1 Q6,hf h.r0 h.z0,hf h.r1 h.z1⟩
theorem a8(v:Value)(w:World):Calls Tryz.prog 134 #[v] w fun x w'=>x=.returned v/\Gr w w':=
 (sr v w).mono fun x w' h=>⟨h.1,by rw [h.2];exact Gr.refl _⟩
theorem bU(w:World)(y:Int)(t:TypeId):(w.alloc (.cells #[.int .i64 y] t)).cell? ⟨w.heap.size,0,none⟩=some (.int .i64 y):=by simp [go_sem]
theorem cQ(w:World)(y z:Int)(t:TypeId):(w.alloc (.cells #[.int .i64 y,.int .i64 z] t)).cell? ⟨w.heap.size,0,none⟩=some (.int .i64 y)/\(w.alloc (.cells #[.int .i64 y,.int .i64 z] t)).cell? ⟨w.heap.size,1,none⟩=some (.int .i64 z):=by
 constructor<;>simp [go_sem]
theorem pq{sl:List Int}{k:Nat}{y:Int}(h:sl[k]? =some y)(x0 x1 x2 x3 x4 vs x6 x7:Value)(n a:Int)(w:World)(hR:aW w vs sl):
 Calls Tryz.prog 135 #[.agg #[x0,x1,x2,x3,x4,vs,x6,x7],.int .i64 (k:Int),.agg #[.int .i64 10,.int .i64 n,.int .i64 a]] w fun x w'=>x=.returned (.int .i64 y)/\Gr w w':=by
 have:=qr sl k x0 x1 x2 x3 x4 vs x6 x7 n a w hR
 rw [h] at this;exact this
theorem tJ{sl:List Int}{k:Nat}(h:sl[k]? =none)(x0 x1 x2 x3 x4 vs x6 x7:Value)(n a:Int)(w:World)(hR:aW w vs sl):
 Calls Tryz.prog 135 #[.agg #[x0,x1,x2,x3,x4,vs,x6,x7],.int .i64 (k:Int),.agg #[.int .i64 10,.int .i64 n,.int .i64 a]] w fun x w'=>x=.panicked (kC 10 n a)/\Gr w w':=by
 have:=qr sl k x0 x1 x2 x3 x4 vs x6 x7 n a w hR
 rw [h] at this;exact this
theorem tj{s:List Int}{y:Int}(h:s.getLast? =some y)(v:Value)(n a:Int)(w:World)(hR:aW w v s):
 Calls Tryz.prog 136 #[v,.agg #[.int .i64 10,.int .i64 n,.int .i64 a]] w fun x w'=>x=.returned (.int .i64 y)/\Gr w w':=by
 have:=tW s v n a w hR
 rw [h] at this;exact this
theorem wC{s:List Int}(h:s.getLast? =none)(v:Value)(n a:Int)(w:World)(hR:aW w v s):
 Calls Tryz.prog 136 #[v,.agg #[.int .i64 10,.int .i64 n,.int .i64 a]] w fun x w'=>x=.panicked (kC 10 n a)/\Gr w w':=by
 have:=tW s v n a w hR
 rw [h] at this;exact this
theorem oA{u:aK}{i:aw}{y:Int}(h:iA u i=some y)(KJ:0<=i.a)(J2:i.a<=65535)(D4:0<=i.b)(Y0:i.b<=65535)(v1 x1 x2 x3 x4 x5 x6 x7:Value)(n a:Int)(W w:World)(hR:bM W v1 u.aA)(hW:Gr W w):
 Calls Tryz.prog 139 #[.agg #[v1,x1,x2,x3,x4,x5,x6,x7],.agg #[.int .i64 i.op,.int .i64 i.a,.int .i64 i.b],.agg #[.int .i64 10,.int .i64 n,.int .i64 a]] w fun x w'=>x=.returned (.int .i64 y)/\Gr w w':=by
 have:=oU u i KJ J2 D4 Y0 v1 x1 x2 x3 x4 x5 x6 x7 n a W w hR hW
 rw [h] at this;exact this
theorem qC{u:aK}{i:aw}(h:iA u i=none)(KJ:0<=i.a)(J2:i.a<=65535)(D4:0<=i.b)(Y0:i.b<=65535)(v1 x1 x2 x3 x4 x5 x6 x7:Value)(n a:Int)(W w:World)(hR:bM W v1 u.aA)(hW:Gr W w):
 Calls Tryz.prog 139 #[.agg #[v1,x1,x2,x3,x4,x5,x6,x7],.agg #[.int .i64 i.op,.int .i64 i.a,.int .i64 i.b],.agg #[.int .i64 10,.int .i64 n,.int .i64 a]] w fun x w'=>x=.panicked (kC 10 n a)/\Gr w w':=by
 have:=oU u i KJ J2 D4 Y0 v1 x1 x2 x3 x4 x5 x6 x7 n a W w hR hW
 rw [h] at this;exact this
theorem kg{u:aK}{k:Int}{s:List Int}(h:dE u k=some s)(Je:0<=k)(M6:k<=65535)(v1 x1 x2 x3 x4 x5 x6 x7:Value)(n a:Int)(W w:World)(hR:bM W v1 u.aA)(hW:Gr W w):
 Calls Tryz.prog 138 #[.agg #[v1,x1,x2,x3,x4,x5,x6,x7],.int .i64 k,.agg #[.int .i64 10,.int .i64 n,.int .i64 a]] w fun x w'=>Gr w w'/\∃v,x=.returned v/\aW W v s:=by
 have:=kI u k Je M6 v1 x1 x2 x3 x4 x5 x6 x7 n a W w hR hW
 rw [h] at this;exact this
theorem lu{u:aK}{k:Int}(h:dE u k=none)(Je:0<=k)(M6:k<=65535)(v1 x1 x2 x3 x4 x5 x6 x7:Value)(n a:Int)(W w:World)(hR:bM W v1 u.aA)(hW:Gr W w):
 Calls Tryz.prog 138 #[.agg #[v1,x1,x2,x3,x4,x5,x6,x7],.int .i64 k,.agg #[.int .i64 10,.int .i64 n,.int .i64 a]] w fun x w'=>Gr w w'/\x=.panicked (kC 10 n a):=by
 have:=kI u k Je M6 v1 x1 x2 x3 x4 x5 x6 x7 n a W w hR hW
 rw [h] at this;exact this
theorem oc{u:aK}{k:Nat}{l:List Int}{r:Int}(h:mD u k=some (l,r))(M6:k<=65535)(x0 x1 v3 v4 x4 x5 x6 x7:Value)(n a:Int)(W w:World)(hF:dH W v3 u.aE)(hI:bo W v4 u.aB)(hW:Gr W w)(Ie:u.aE.length<=1000000)(Pr:u.aB.length<=1000000):
 Calls Tryz.prog 137 #[.agg #[x0,x1,v3,v4,x4,x5,x6,x7],.int .i64 (k:Int),.agg #[.int .i64 10,.int .i64 n,.int .i64 a]] w fun x w'=>Gr w w'/\∃v,x=.returned (.tuple #[v,.int .i64 r])/\aW W v l:=by
 have:=k_ u k M6 x0 x1 v3 v4 x4 x5 x6 x7 n a W w hF hI hW Ie Pr
 rw [h] at this;exact this
theorem rT{u:aK}{k:Nat}(h:mD u k=none)(M6:k<=65535)(x0 x1 v3 v4 x4 x5 x6 x7:Value)(n a:Int)(W w:World)(hF:dH W v3 u.aE)(hI:bo W v4 u.aB)(hW:Gr W w)(Ie:u.aE.length<=1000000)(Pr:u.aB.length<=1000000):
 Calls Tryz.prog 137 #[.agg #[x0,x1,v3,v4,x4,x5,x6,x7],.int .i64 (k:Int),.agg #[.int .i64 10,.int .i64 n,.int .i64 a]] w fun x w'=>Gr w w'/\x=.panicked (kC 10 n a):=by
 have:=k_ u k M6 x0 x1 v3 v4 x4 x5 x6 x7 n a W w hF hI hW Ie Pr
 rw [h] at this;exact this
theorem bp{w w2:World}{g h:Nat}{y:Int}{y0 y1:Value}(hc:w2.cell? ⟨h,0,none⟩=some (.int .i64 y))(hn:¬h=g):aW (put2 w2 g y0 y1) (.slice (some ⟨h,0,none⟩) 1 1) [y]:=uw (by rw [bN hn];exact hc)
theorem eP{w w2:World}{g h:Nat}{y z:Int}{y0 y1:Value}(hc:w2.cell? ⟨h,0,none⟩=some (.int .i64 y))(hd:w2.cell? ⟨h,1,none⟩=some (.int .i64 z))(hn:¬h=g):aW (put2 w2 g y0 y1) (.slice (some ⟨h,0,none⟩) 2 2) [y,z]:=vP (by rw [bN hn];exact hc) (by rw [bN hn];exact hd)
theorem BA(u:aK)(f:aO)(ja jb:Nat)(J2:ja<=65535)(Y0:jb<=65535)(st:List Int)(v1 v2 v3 v4 v5 vs I2:Value)(n a:Int)(W w:World)(hS:Sc W u (f.aF++f.aG) v1 v2 v3 v4 vs)(hW:Gr W w)(T0:aW w I2 st)(I5:f.code.length<=1000000):
 Calls Tryz.prog 107 #[.agg #[v1,v2,v3,v4,v5,vs,.int .i64 (f.code.length:Int),.int .i64 f.result],.agg #[.int .i64 0,.int .i64 (ja:Int),.int .i64 (jb:Int)],I2,.agg #[.int .i64 10,.int .i64 n,.int .i64 a]] w (gO (aj u f ⟨0,(ja:Int),(jb:Int)⟩ st) n a w):=by
 have M4:Hid (∀G4,f.aF++f.aG=G4->aj u f ⟨0,(ja:Int),(jb:Int)⟩ st=if (ja:Int) < (u.aD.length:Int) then some ([],[0]) else none):=aH (fun G4 h=>by subst h;unfold aj dQ;simp);generalize hsl:f.aF++f.aG=sl at hS;have J4:=aH (M4.out sl hsl);clear hsl M4;obtain ⟨a2,c2,rfl⟩:=hS.co;obtain ⟨a1,c1,rfl⟩:=hS.sh.shape;obtain ⟨a3,c3,rfl⟩:=hS.fu.shape;obtain ⟨a4,c4,L6⟩:∃ao cap,v4=.slice ao u.aB.length cap:=by obtain ⟨ao,cap,h,_⟩:=hS.im;exact ⟨ao,cap,h⟩
 subst L6;obtain ⟨al,cs,rfl⟩:=hS.sl.shape;obtain ⟨at_,ct,rfl⟩:=T0.shape;have M7:=hS.l2;have HS:=aH hS;have J7:=aH T0;have K7:=aH hW;have HB:=aH (lw.new w (.slice a1 u.aA.length c1) (.slice a2 u.aD.length c2) (.slice a3 u.aE.length c3) (.slice a4 u.aB.length c4) v5 (.slice al sl.length cs) (.int .i64 (f.code.length:Int)) (.int .i64 f.result) 0 (ja:Int) (jb:Int) n a);unfold lR at HB;clear hS T0;by_cases hc:(ja:Int) < (u.aD.length:Int)
 · have HQ:Hid (aj u f ⟨0,(ja:Int),(jb:Int)⟩ st=some ([],[0])):=aH (by rw [J4.out,if_pos hc]);have hd:decide ((ja:Int) < (u.aD.length:Int))=true:=by simpa using hc
   go_enter Tryz.func107,Tryz.ntmps107
   go_wp2_with fail
   refine (bP _ _ _ _).mono ?_;rintro e w' ⟨rfl,D0⟩;have hE:=HB.out.go D0;have P3:=hE;obtain ⟨-,R0,s0,s1,s2,s3,s4,s5,s6,s7,i0,i1,i2,y0,y1,y2,r0,r1,z0,z1⟩:=P3;go_wp2_with fail
   refine (a8 _ _).mono ?_;rintro e w2 ⟨rfl,E0⟩;have M6:=E0.cell (bU _ _ _) Q6;have hE:=hE.go (((Gr.refl _).alloc _).trans E0);clear R0 s0 s1 s2 s3 s4 s5 s6 s7 i0 i1 i2 y0 y1 y2 r0 r1 z0 z1;have P3:=hE;obtain ⟨-,R0,s0,s1,s2,s3,s4,s5,s6,s7,i0,i1,i2,y0,y1,y2,r0,r1,z0,z1⟩:=P3;go_wp2_with fail
   rw [cH];obtain ⟨q0,q1⟩:=bq (y0:=.slice none 0 0) (y1:=.slice (some ⟨w'.heap.size,0,none⟩) 1 1) hE.r0 hE.r1;exact bodyPost_ret (v:=.agg #[.slice none 0 0,.slice (some ⟨w'.heap.size,0,none⟩) 1 1]) (by simp [results,Tryz.results107,go_sem,q0,q1]) rfl ⟨bJ hE.gr Q5,by rw [HQ.out];exact ⟨_,_,rfl,bn _,bp (w:=w) (by simpa using M6) (by first|omega|(have:=D0.size;simp at this;omega)|(have:=E0.size;simp at this;omega)|(have h1:=D0.size;have h2:=E0.size;simp at h1 h2;omega))⟩⟩
 · have HQ:Hid (aj u f ⟨0,(ja:Int),(jb:Int)⟩ st=none):=aH (by rw [J4.out,if_neg hc]);have hd:decide ((ja:Int) < (u.aD.length:Int))=false:=by simpa using hc
   go_enter Tryz.func107,Tryz.ntmps107
   go_wp2_with fail
   refine (bk _ _ _ _).mono ?_;rintro e w' ⟨rfl,D0⟩;exact ⟨rfl,HB.out.gr.trans D0,by rw [HQ.out]⟩
theorem BX(u:aK)(f:aO)(ia ib:Int)(st:List Int)(v1 v2 v3 v4 v5 vs I2:Value)(n a:Int)(W w:World)(hS:Sc W u (f.aF++f.aG) v1 v2 v3 v4 vs)(hW:Gr W w)(T0:aW w I2 st)(I5:f.code.length<=1000000):
 Calls Tryz.prog 107 #[.agg #[v1,v2,v3,v4,v5,vs,.int .i64 (f.code.length:Int),.int .i64 f.result],.agg #[.int .i64 1,.int .i64 ia,.int .i64 ib],I2,.agg #[.int .i64 10,.int .i64 n,.int .i64 a]] w (gO (aj u f ⟨1,ia,ib⟩ st) n a w):=by
 have M4:Hid (∀G4,f.aF++f.aG=G4->aj u f ⟨1,ia,ib⟩ st=some ([],[0])):=aH (fun G4 h=>by subst h;unfold aj dQ;simp);generalize hsl:f.aF++f.aG=sl at hS;have J4:=aH (M4.out sl hsl);clear hsl M4;obtain ⟨a2,c2,rfl⟩:=hS.co;obtain ⟨a1,c1,rfl⟩:=hS.sh.shape;obtain ⟨a3,c3,rfl⟩:=hS.fu.shape;obtain ⟨a4,c4,L6⟩:∃ao cap,v4=.slice ao u.aB.length cap:=by obtain ⟨ao,cap,h,_⟩:=hS.im;exact ⟨ao,cap,h⟩
 subst L6;obtain ⟨al,cs,rfl⟩:=hS.sl.shape;obtain ⟨at_,ct,rfl⟩:=T0.shape;have M7:=hS.l2;have HS:=aH hS;have J7:=aH T0;have K7:=aH hW;have HB:=aH (lw.new w (.slice a1 u.aA.length c1) (.slice a2 u.aD.length c2) (.slice a3 u.aE.length c3) (.slice a4 u.aB.length c4) v5 (.slice al sl.length cs) (.int .i64 (f.code.length:Int)) (.int .i64 f.result) 1 ia ib n a);unfold lR at HB;clear hS T0
 · have HQ:Hid (aj u f ⟨1,ia,ib⟩ st=some ([],[0])):=aH (by rw [J4.out]);go_enter Tryz.func107,Tryz.ntmps107
   go_wp2_with fail
   refine (a8 _ _).mono ?_;rintro e w2 ⟨rfl,E0⟩;have M6:=E0.cell (bU _ _ _) Q6;have hE:=HB.out.go (((Gr.refl _).alloc _).trans E0);have P3:=hE;obtain ⟨-,R0,s0,s1,s2,s3,s4,s5,s6,s7,i0,i1,i2,y0,y1,y2,r0,r1,z0,z1⟩:=P3;go_wp2_with fail
   rw [cH];obtain ⟨q0,q1⟩:=bq (y0:=.slice none 0 0) (y1:=.slice (some ⟨w.heap.size+1+1+1+1,0,none⟩) 1 1) hE.r0 hE.r1;exact bodyPost_ret (v:=.agg #[.slice none 0 0,.slice (some ⟨w.heap.size+1+1+1+1,0,none⟩) 1 1]) (by simp [results,Tryz.results107,go_sem,q0,q1]) rfl ⟨bJ hE.gr Q5,by rw [HQ.out];exact ⟨_,_,rfl,bn _,bp (w:=w) (by simpa using M6) (by first|omega|(have:=D0.size;simp at this;omega)|(have:=E0.size;simp at this;omega)|(have h1:=D0.size;have h2:=E0.size;simp at h1 h2;omega))⟩⟩
theorem A8(u:aK)(f:aO)(ja jb:Nat)(J2:ja<=65535)(Y0:jb<=65535)(st:List Int)(v1 v2 v3 v4 v5 vs I2:Value)(n a:Int)(W w:World)(hS:Sc W u (f.aF++f.aG) v1 v2 v3 v4 vs)(hW:Gr W w)(T0:aW w I2 st)(I5:f.code.length<=1000000):
 Calls Tryz.prog 107 #[.agg #[v1,v2,v3,v4,v5,vs,.int .i64 (f.code.length:Int),.int .i64 f.result],.agg #[.int .i64 2,.int .i64 (ja:Int),.int .i64 (jb:Int)],I2,.agg #[.int .i64 10,.int .i64 n,.int .i64 a]] w (gO (aj u f ⟨2,(ja:Int),(jb:Int)⟩ st) n a w):=by
 have M4:Hid (∀G4,f.aF++f.aG=G4->aj u f ⟨2,(ja:Int),(jb:Int)⟩ st=(G4[ja]?).map fun y=>([],[y])):=aH (fun G4 h=>by subst h;unfold aj dQ;simp);generalize hsl:f.aF++f.aG=sl at hS;have J4:=aH (M4.out sl hsl);clear hsl M4;obtain ⟨a2,c2,rfl⟩:=hS.co;obtain ⟨a1,c1,rfl⟩:=hS.sh.shape;obtain ⟨a3,c3,rfl⟩:=hS.fu.shape;obtain ⟨a4,c4,L6⟩:∃ao cap,v4=.slice ao u.aB.length cap:=by obtain ⟨ao,cap,h,_⟩:=hS.im;exact ⟨ao,cap,h⟩
 subst L6;obtain ⟨al,cs,rfl⟩:=hS.sl.shape;obtain ⟨at_,ct,rfl⟩:=T0.shape;have M7:=hS.l2;have HS:=aH hS;have J7:=aH T0;have K7:=aH hW;have HB:=aH (lw.new w (.slice a1 u.aA.length c1) (.slice a2 u.aD.length c2) (.slice a3 u.aE.length c3) (.slice a4 u.aB.length c4) v5 (.slice al sl.length cs) (.int .i64 (f.code.length:Int)) (.int .i64 f.result) 2 (ja:Int) (jb:Int) n a);unfold lR at HB;clear hS T0;cases hx:sl[ja]? with
 | some y=>
  have HX:=aH hx;have HQ:Hid (aj u f ⟨2,(ja:Int),(jb:Int)⟩ st=some ([],[y])):=aH (by rw [J4.out,hx];rfl);clear hx;go_enter Tryz.func107,Tryz.ntmps107
  go_wp2_with fail
  refine (pq HX.out _ _ _ _ _ _ _ _ _ _ _ (HS.out.sl.gr (K7.out.trans HB.out.gr))).mono ?_;rintro e w' ⟨rfl,D0⟩;have hE:=HB.out.go D0;have P3:=hE;obtain ⟨-,R0,s0,s1,s2,s3,s4,s5,s6,s7,i0,i1,i2,y0,y1,y2,r0,r1,z0,z1⟩:=P3;go_wp2_with fail
  refine (a8 _ _).mono ?_;rintro e w2 ⟨rfl,E0⟩;have M6:=E0.cell (bU _ _ _) Q6;have hE:=hE.go (((Gr.refl _).alloc _).trans E0);clear R0 s0 s1 s2 s3 s4 s5 s6 s7 i0 i1 i2 y0 y1 y2 r0 r1 z0 z1;have P3:=hE;obtain ⟨-,R0,s0,s1,s2,s3,s4,s5,s6,s7,i0,i1,i2,y0,y1,y2,r0,r1,z0,z1⟩:=P3;go_wp2_with fail
  rw [cH];obtain ⟨q0,q1⟩:=bq (y0:=.slice none 0 0) (y1:=.slice (some ⟨w'.heap.size,0,none⟩) 1 1) hE.r0 hE.r1;exact bodyPost_ret (v:=.agg #[.slice none 0 0,.slice (some ⟨w'.heap.size,0,none⟩) 1 1]) (by simp [results,Tryz.results107,go_sem,q0,q1]) rfl ⟨bJ hE.gr Q5,by rw [HQ.out];exact ⟨_,_,rfl,bn _,bp (w:=w) (by simpa using M6) (by first|omega|(have:=D0.size;simp at this;omega)|(have:=E0.size;simp at this;omega)|(have h1:=D0.size;have h2:=E0.size;simp at h1 h2;omega))⟩⟩
 | none=>
  have HX:=aH hx;have HQ:Hid (aj u f ⟨2,(ja:Int),(jb:Int)⟩ st=none):=aH (by rw [J4.out,hx];rfl);clear hx;go_enter Tryz.func107,Tryz.ntmps107
  go_wp2_with fail
  refine (tJ HX.out _ _ _ _ _ _ _ _ _ _ _ (HS.out.sl.gr (K7.out.trans HB.out.gr))).mono ?_;rintro e w' ⟨rfl,D0⟩;exact ⟨rfl,HB.out.gr.trans D0,by rw [HQ.out]⟩
theorem A9(u:aK)(f:aO)(ja jb:Nat)(J2:ja<=65535)(Y0:jb<=65535)(st:List Int)(v1 v2 v3 v4 v5 vs I2:Value)(n a:Int)(W w:World)(hS:Sc W u (f.aF++f.aG) v1 v2 v3 v4 vs)(hW:Gr W w)(T0:aW w I2 st)(I5:f.code.length<=1000000):
 Calls Tryz.prog 107 #[.agg #[v1,v2,v3,v4,v5,vs,.int .i64 (f.code.length:Int),.int .i64 f.result],.agg #[.int .i64 3,.int .i64 (ja:Int),.int .i64 (jb:Int)],I2,.agg #[.int .i64 10,.int .i64 n,.int .i64 a]] w (gO (aj u f ⟨3,(ja:Int),(jb:Int)⟩ st) n a w):=by
 have M4:Hid (∀G4,f.aF++f.aG=G4->aj u f ⟨3,(ja:Int),(jb:Int)⟩ st=(G4[ja]?).map fun y=>([y],[])):=aH (fun G4 h=>by subst h;unfold aj dQ;simp);generalize hsl:f.aF++f.aG=sl at hS;have J4:=aH (M4.out sl hsl);clear hsl M4;obtain ⟨a2,c2,rfl⟩:=hS.co;obtain ⟨a1,c1,rfl⟩:=hS.sh.shape;obtain ⟨a3,c3,rfl⟩:=hS.fu.shape;obtain ⟨a4,c4,L6⟩:∃ao cap,v4=.slice ao u.aB.length cap:=by obtain ⟨ao,cap,h,_⟩:=hS.im;exact ⟨ao,cap,h⟩
 subst L6;obtain ⟨al,cs,rfl⟩:=hS.sl.shape;obtain ⟨at_,ct,rfl⟩:=T0.shape;have M7:=hS.l2;have HS:=aH hS;have J7:=aH T0;have K7:=aH hW;have HB:=aH (lw.new w (.slice a1 u.aA.length c1) (.slice a2 u.aD.length c2) (.slice a3 u.aE.length c3) (.slice a4 u.aB.length c4) v5 (.slice al sl.length cs) (.int .i64 (f.code.length:Int)) (.int .i64 f.result) 3 (ja:Int) (jb:Int) n a);unfold lR at HB;clear hS T0;cases hx:sl[ja]? with
 | some y=>
  have HX:=aH hx;have HQ:Hid (aj u f ⟨3,(ja:Int),(jb:Int)⟩ st=some ([y],[])):=aH (by rw [J4.out,hx];rfl);clear hx;go_enter Tryz.func107,Tryz.ntmps107
  go_wp2_with fail
  refine (pq HX.out _ _ _ _ _ _ _ _ _ _ _ (HS.out.sl.gr (K7.out.trans HB.out.gr))).mono ?_;rintro e w' ⟨rfl,D0⟩;have hE:=HB.out.go D0;have P3:=hE;obtain ⟨-,R0,s0,s1,s2,s3,s4,s5,s6,s7,i0,i1,i2,y0,y1,y2,r0,r1,z0,z1⟩:=P3;go_wp2_with fail
  refine (a8 _ _).mono ?_;rintro e w2 ⟨rfl,E0⟩;have M6:=E0.cell (bU _ _ _) Q6;have hE:=hE.go (((Gr.refl _).alloc _).trans E0);clear R0 s0 s1 s2 s3 s4 s5 s6 s7 i0 i1 i2 y0 y1 y2 r0 r1 z0 z1;have P3:=hE;obtain ⟨-,R0,s0,s1,s2,s3,s4,s5,s6,s7,i0,i1,i2,y0,y1,y2,r0,r1,z0,z1⟩:=P3;go_wp2_with fail
  rw [cH];obtain ⟨q0,q1⟩:=bq (y0:=.slice (some ⟨w'.heap.size,0,none⟩) 1 1) (y1:=.slice none 0 0) hE.r0 hE.r1;exact bodyPost_ret (v:=.agg #[.slice (some ⟨w'.heap.size,0,none⟩) 1 1,.slice none 0 0]) (by simp [results,Tryz.results107,go_sem,q0,q1]) rfl ⟨bJ hE.gr Q5,by rw [HQ.out];exact ⟨_,_,rfl,bp (w:=w) (by simpa using M6) (by first|omega|(have:=D0.size;simp at this;omega)|(have:=E0.size;simp at this;omega)|(have h1:=D0.size;have h2:=E0.size;simp at h1 h2;omega)),bn _⟩⟩
 | none=>
  have HX:=aH hx;have HQ:Hid (aj u f ⟨3,(ja:Int),(jb:Int)⟩ st=none):=aH (by rw [J4.out,hx];rfl);clear hx;go_enter Tryz.func107,Tryz.ntmps107
  go_wp2_with fail
  refine (tJ HX.out _ _ _ _ _ _ _ _ _ _ _ (HS.out.sl.gr (K7.out.trans HB.out.gr))).mono ?_;rintro e w' ⟨rfl,D0⟩;exact ⟨rfl,HB.out.gr.trans D0,by rw [HQ.out]⟩
theorem BU(u:aK)(f:aO)(ja jb:Nat)(J2:ja<=65535)(Y0:jb<=65535)(st:List Int)(v1 v2 v3 v4 v5 vs I2:Value)(n a:Int)(W w:World)(hS:Sc W u (f.aF++f.aG) v1 v2 v3 v4 vs)(hW:Gr W w)(T0:aW w I2 st)(I5:f.code.length<=1000000):
 Calls Tryz.prog 107 #[.agg #[v1,v2,v3,v4,v5,vs,.int .i64 (f.code.length:Int),.int .i64 f.result],.agg #[.int .i64 4,.int .i64 (ja:Int),.int .i64 (jb:Int)],I2,.agg #[.int .i64 10,.int .i64 n,.int .i64 a]] w (gO (aj u f ⟨4,(ja:Int),(jb:Int)⟩ st) n a w):=by
 have M4:Hid (∀G4,f.aF++f.aG=G4->aj u f ⟨4,(ja:Int),(jb:Int)⟩ st=(st.getLast?).map fun y=>([y],[])):=aH (fun G4 h=>by subst h;unfold aj dQ;simp);generalize hsl:f.aF++f.aG=sl at hS;have J4:=aH (M4.out sl hsl);clear hsl M4;obtain ⟨a2,c2,rfl⟩:=hS.co;obtain ⟨a1,c1,rfl⟩:=hS.sh.shape;obtain ⟨a3,c3,rfl⟩:=hS.fu.shape;obtain ⟨a4,c4,L6⟩:∃ao cap,v4=.slice ao u.aB.length cap:=by obtain ⟨ao,cap,h,_⟩:=hS.im;exact ⟨ao,cap,h⟩
 subst L6;obtain ⟨al,cs,rfl⟩:=hS.sl.shape;obtain ⟨at_,ct,rfl⟩:=T0.shape;have M7:=hS.l2;have HS:=aH hS;have J7:=aH T0;have K7:=aH hW;have HB:=aH (lw.new w (.slice a1 u.aA.length c1) (.slice a2 u.aD.length c2) (.slice a3 u.aE.length c3) (.slice a4 u.aB.length c4) v5 (.slice al sl.length cs) (.int .i64 (f.code.length:Int)) (.int .i64 f.result) 4 (ja:Int) (jb:Int) n a);unfold lR at HB;clear hS T0;cases hx:st.getLast? with
 | some y=>
  have HX:=aH hx;have HQ:Hid (aj u f ⟨4,(ja:Int),(jb:Int)⟩ st=some ([y],[])):=aH (by rw [J4.out,hx];rfl);clear hx;go_enter Tryz.func107,Tryz.ntmps107
  go_wp2_with fail
  refine (tj HX.out _ _ _ _ (J7.out.gr HB.out.gr)).mono ?_;rintro e w' ⟨rfl,D0⟩;have hE:=HB.out.go D0;have P3:=hE;obtain ⟨-,R0,s0,s1,s2,s3,s4,s5,s6,s7,i0,i1,i2,y0,y1,y2,r0,r1,z0,z1⟩:=P3;go_wp2_with fail
  refine (a8 _ _).mono ?_;rintro e w2 ⟨rfl,E0⟩;have M6:=E0.cell (bU _ _ _) Q6;have hE:=hE.go (((Gr.refl _).alloc _).trans E0);clear R0 s0 s1 s2 s3 s4 s5 s6 s7 i0 i1 i2 y0 y1 y2 r0 r1 z0 z1;have P3:=hE;obtain ⟨-,R0,s0,s1,s2,s3,s4,s5,s6,s7,i0,i1,i2,y0,y1,y2,r0,r1,z0,z1⟩:=P3;go_wp2_with fail
  rw [cH];obtain ⟨q0,q1⟩:=bq (y0:=.slice (some ⟨w'.heap.size,0,none⟩) 1 1) (y1:=.slice none 0 0) hE.r0 hE.r1;exact bodyPost_ret (v:=.agg #[.slice (some ⟨w'.heap.size,0,none⟩) 1 1,.slice none 0 0]) (by simp [results,Tryz.results107,go_sem,q0,q1]) rfl ⟨bJ hE.gr Q5,by rw [HQ.out];exact ⟨_,_,rfl,bp (w:=w) (by simpa using M6) (by first|omega|(have:=D0.size;simp at this;omega)|(have:=E0.size;simp at this;omega)|(have h1:=D0.size;have h2:=E0.size;simp at h1 h2;omega)),bn _⟩⟩
 | none=>
  have HX:=aH hx;have HQ:Hid (aj u f ⟨4,(ja:Int),(jb:Int)⟩ st=none):=aH (by rw [J4.out,hx];rfl);clear hx;go_enter Tryz.func107,Tryz.ntmps107
  go_wp2_with fail
  refine (wC HX.out _ _ _ _ (J7.out.gr HB.out.gr)).mono ?_;rintro e w' ⟨rfl,D0⟩;exact ⟨rfl,HB.out.gr.trans D0,by rw [HQ.out]⟩
theorem Bl(u:aK)(f:aO)(ja jb:Nat)(J2:ja<=65535)(Y0:jb<=65535)(st:List Int)(v1 v2 v3 v4 v5 vs I2:Value)(n a:Int)(W w:World)(hS:Sc W u (f.aF++f.aG) v1 v2 v3 v4 vs)(hW:Gr W w)(T0:aW w I2 st)(I5:f.code.length<=1000000):
 Calls Tryz.prog 107 #[.agg #[v1,v2,v3,v4,v5,vs,.int .i64 (f.code.length:Int),.int .i64 f.result],.agg #[.int .i64 5,.int .i64 (ja:Int),.int .i64 (jb:Int)],I2,.agg #[.int .i64 10,.int .i64 n,.int .i64 a]] w (gO (aj u f ⟨5,(ja:Int),(jb:Int)⟩ st) n a w):=by
 have M4:Hid (∀G4,f.aF++f.aG=G4->aj u f ⟨5,(ja:Int),(jb:Int)⟩ st=(st.getLast?).map fun y=>([y],[y,y])):=aH (fun G4 h=>by subst h;unfold aj dQ;simp);generalize hsl:f.aF++f.aG=sl at hS;have J4:=aH (M4.out sl hsl);clear hsl M4;obtain ⟨a2,c2,rfl⟩:=hS.co;obtain ⟨a1,c1,rfl⟩:=hS.sh.shape;obtain ⟨a3,c3,rfl⟩:=hS.fu.shape;obtain ⟨a4,c4,L6⟩:∃ao cap,v4=.slice ao u.aB.length cap:=by obtain ⟨ao,cap,h,_⟩:=hS.im;exact ⟨ao,cap,h⟩
 subst L6;obtain ⟨al,cs,rfl⟩:=hS.sl.shape;obtain ⟨at_,ct,rfl⟩:=T0.shape;have M7:=hS.l2;have HS:=aH hS;have J7:=aH T0;have K7:=aH hW;have HB:=aH (lw.new w (.slice a1 u.aA.length c1) (.slice a2 u.aD.length c2) (.slice a3 u.aE.length c3) (.slice a4 u.aB.length c4) v5 (.slice al sl.length cs) (.int .i64 (f.code.length:Int)) (.int .i64 f.result) 5 (ja:Int) (jb:Int) n a);unfold lR at HB;clear hS T0;cases hx:st.getLast? with
 | some y=>
  have HX:=aH hx;have HQ:Hid (aj u f ⟨5,(ja:Int),(jb:Int)⟩ st=some ([y],[y,y])):=aH (by rw [J4.out,hx];rfl);clear hx;go_enter Tryz.func107,Tryz.ntmps107
  go_wp2_with fail
  refine (tj HX.out _ _ _ _ (J7.out.gr HB.out.gr)).mono ?_;rintro e w' ⟨rfl,D0⟩;have hE:=HB.out.go D0;have P3:=hE;obtain ⟨-,R0,s0,s1,s2,s3,s4,s5,s6,s7,i0,i1,i2,y0,y1,y2,r0,r1,z0,z1⟩:=P3;go_wp2_with fail
  refine (a8 _ _).mono ?_;rintro e w2 ⟨rfl,E0⟩;have M6:=E0.cell (bU _ _ _) Q6;have hE:=hE.go (((Gr.refl _).alloc _).trans E0);clear R0 s0 s1 s2 s3 s4 s5 s6 s7 i0 i1 i2 y0 y1 y2 r0 r1 z0 z1;have P3:=hE;obtain ⟨-,R0,s0,s1,s2,s3,s4,s5,s6,s7,i0,i1,i2,y0,y1,y2,r0,r1,z0,z1⟩:=P3;go_wp2_with fail
  refine (a8 _ _).mono ?_;rintro e w3 ⟨rfl,P0⟩;have Lb:=P0.cell ((World.grownBy_alloc _ _ none).cell M6 Q6) Q6;have Ti:=P0.cell (cQ _ _ _ _).1 Q6;have MQ:=P0.cell (cQ _ _ _ _).2 Q6;have hE:=hE.go (((Gr.refl _).alloc _).trans P0);clear R0 s0 s1 s2 s3 s4 s5 s6 s7 i0 i1 i2 y0 y1 y2 r0 r1 z0 z1;have P3:=hE;obtain ⟨-,R0,s0,s1,s2,s3,s4,s5,s6,s7,i0,i1,i2,y0,y1,y2,r0,r1,z0,z1⟩:=P3;go_wp2_with fail
  rw [cH];obtain ⟨q0,q1⟩:=bq (y0:=.slice (some ⟨w'.heap.size,0,none⟩) 1 1) (y1:=.slice (some ⟨w2.heap.size,0,none⟩) 2 2) hE.r0 hE.r1;exact bodyPost_ret (v:=.agg #[.slice (some ⟨w'.heap.size,0,none⟩) 1 1,.slice (some ⟨w2.heap.size,0,none⟩) 2 2]) (by simp [results,Tryz.results107,go_sem,q0,q1]) rfl ⟨bJ hE.gr Q5,by rw [HQ.out];exact ⟨_,_,rfl,bp (w:=w) (by simpa using Lb) (by first|omega|(have:=D0.size;simp at this;omega)|(have:=E0.size;simp at this;omega)|(have h1:=D0.size;have h2:=E0.size;simp at h1 h2;omega)),eP (w:=w) (by simpa using Ti) (by simpa using MQ) (by first|omega|(have:=D0.size;simp at this;omega)|(have:=E0.size;simp at this;omega)|(have h1:=D0.size;have h2:=E0.size;simp at h1 h2;omega))⟩⟩
 | none=>
  have HX:=aH hx;have HQ:Hid (aj u f ⟨5,(ja:Int),(jb:Int)⟩ st=none):=aH (by rw [J4.out,hx];rfl);clear hx;go_enter Tryz.func107,Tryz.ntmps107
  go_wp2_with fail
  refine (wC HX.out _ _ _ _ (J7.out.gr HB.out.gr)).mono ?_;rintro e w' ⟨rfl,D0⟩;exact ⟨rfl,HB.out.gr.trans D0,by rw [HQ.out]⟩
theorem A2(u:aK)(f:aO)(ja jb:Nat)(J2:ja<=65535)(Y0:jb<=65535)(st:List Int)(v1 v2 v3 v4 v5 vs I2:Value)(n a:Int)(W w:World)(hS:Sc W u (f.aF++f.aG) v1 v2 v3 v4 vs)(hW:Gr W w)(T0:aW w I2 st)(I5:f.code.length<=1000000):
 Calls Tryz.prog 107 #[.agg #[v1,v2,v3,v4,v5,vs,.int .i64 (f.code.length:Int),.int .i64 f.result],.agg #[.int .i64 6,.int .i64 (ja:Int),.int .i64 (jb:Int)],I2,.agg #[.int .i64 10,.int .i64 n,.int .i64 a]] w (gO (aj u f ⟨6,(ja:Int),(jb:Int)⟩ st) n a w):=by
 have M4:Hid (∀G4,f.aF++f.aG=G4->aj u f ⟨6,(ja:Int),(jb:Int)⟩ st=some ([0,0],[0])):=aH (fun G4 h=>by subst h;unfold aj dQ;simp);generalize hsl:f.aF++f.aG=sl at hS;have J4:=aH (M4.out sl hsl);clear hsl M4;obtain ⟨a2,c2,rfl⟩:=hS.co;obtain ⟨a1,c1,rfl⟩:=hS.sh.shape;obtain ⟨a3,c3,rfl⟩:=hS.fu.shape;obtain ⟨a4,c4,L6⟩:∃ao cap,v4=.slice ao u.aB.length cap:=by obtain ⟨ao,cap,h,_⟩:=hS.im;exact ⟨ao,cap,h⟩
 subst L6;obtain ⟨al,cs,rfl⟩:=hS.sl.shape;obtain ⟨at_,ct,rfl⟩:=T0.shape;have M7:=hS.l2;have HS:=aH hS;have J7:=aH T0;have K7:=aH hW;have HB:=aH (lw.new w (.slice a1 u.aA.length c1) (.slice a2 u.aD.length c2) (.slice a3 u.aE.length c3) (.slice a4 u.aB.length c4) v5 (.slice al sl.length cs) (.int .i64 (f.code.length:Int)) (.int .i64 f.result) 6 (ja:Int) (jb:Int) n a);unfold lR at HB;clear hS T0
 · have HQ:Hid (aj u f ⟨6,(ja:Int),(jb:Int)⟩ st=some ([0,0],[0])):=aH (by rw [J4.out]);go_enter Tryz.func107,Tryz.ntmps107
   go_wp2_with fail
   refine (a8 _ _).mono ?_;rintro e w2 ⟨rfl,E0⟩;have M6:=E0.cell (cQ _ _ _ _).1 Q6;have P7:=E0.cell (cQ _ _ _ _).2 Q6;have hE:=HB.out.go (((Gr.refl _).alloc _).trans E0);have P3:=hE;obtain ⟨-,R0,s0,s1,s2,s3,s4,s5,s6,s7,i0,i1,i2,y0,y1,y2,r0,r1,z0,z1⟩:=P3;go_wp2_with fail
   refine (a8 _ _).mono ?_;rintro e w3 ⟨rfl,P0⟩;have Lb:=P0.cell ((World.grownBy_alloc _ _ none).cell M6 Q6) Q6;have Fc:=P0.cell ((World.grownBy_alloc _ _ none).cell P7 Q6) Q6;have Ti:=P0.cell (bU _ _ _) Q6;have hE:=hE.go (((Gr.refl _).alloc _).trans P0);clear R0 s0 s1 s2 s3 s4 s5 s6 s7 i0 i1 i2 y0 y1 y2 r0 r1 z0 z1;have P3:=hE;obtain ⟨-,R0,s0,s1,s2,s3,s4,s5,s6,s7,i0,i1,i2,y0,y1,y2,r0,r1,z0,z1⟩:=P3;go_wp2_with fail
   rw [cH];obtain ⟨q0,q1⟩:=bq (y0:=.slice (some ⟨w.heap.size+1+1+1+1,0,none⟩) 2 2) (y1:=.slice (some ⟨w2.heap.size,0,none⟩) 1 1) hE.r0 hE.r1;exact bodyPost_ret (v:=.agg #[.slice (some ⟨w.heap.size+1+1+1+1,0,none⟩) 2 2,.slice (some ⟨w2.heap.size,0,none⟩) 1 1]) (by simp [results,Tryz.results107,go_sem,q0,q1]) rfl ⟨bJ hE.gr Q5,by rw [HQ.out];exact ⟨_,_,rfl,eP (w:=w) (by simpa using Lb) (by simpa using Fc) (by first|omega|(have:=D0.size;simp at this;omega)|(have:=E0.size;simp at this;omega)|(have h1:=D0.size;have h2:=E0.size;simp at h1 h2;omega)),bp (w:=w) (by simpa using Ti) (by first|omega|(have:=D0.size;simp at this;omega)|(have:=E0.size;simp at this;omega)|(have h1:=D0.size;have h2:=E0.size;simp at h1 h2;omega))⟩⟩
theorem Bi(u:aK)(f:aO)(ja jb:Nat)(J2:ja<=65535)(Y0:jb<=65535)(st:List Int)(v1 v2 v3 v4 v5 vs I2:Value)(n a:Int)(W w:World)(hS:Sc W u (f.aF++f.aG) v1 v2 v3 v4 vs)(hW:Gr W w)(T0:aW w I2 st)(I5:f.code.length<=1000000):
 Calls Tryz.prog 107 #[.agg #[v1,v2,v3,v4,v5,vs,.int .i64 (f.code.length:Int),.int .i64 f.result],.agg #[.int .i64 7,.int .i64 (ja:Int),.int .i64 (jb:Int)],I2,.agg #[.int .i64 10,.int .i64 n,.int .i64 a]] w (gO (aj u f ⟨7,(ja:Int),(jb:Int)⟩ st) n a w):=by
 have M4:Hid (∀G4,f.aF++f.aG=G4->aj u f ⟨7,(ja:Int),(jb:Int)⟩ st=some ([0,0],[0])):=aH (fun G4 h=>by subst h;unfold aj dQ;simp);generalize hsl:f.aF++f.aG=sl at hS;have J4:=aH (M4.out sl hsl);clear hsl M4;obtain ⟨a2,c2,rfl⟩:=hS.co;obtain ⟨a1,c1,rfl⟩:=hS.sh.shape;obtain ⟨a3,c3,rfl⟩:=hS.fu.shape;obtain ⟨a4,c4,L6⟩:∃ao cap,v4=.slice ao u.aB.length cap:=by obtain ⟨ao,cap,h,_⟩:=hS.im;exact ⟨ao,cap,h⟩
 subst L6;obtain ⟨al,cs,rfl⟩:=hS.sl.shape;obtain ⟨at_,ct,rfl⟩:=T0.shape;have M7:=hS.l2;have HS:=aH hS;have J7:=aH T0;have K7:=aH hW;have HB:=aH (lw.new w (.slice a1 u.aA.length c1) (.slice a2 u.aD.length c2) (.slice a3 u.aE.length c3) (.slice a4 u.aB.length c4) v5 (.slice al sl.length cs) (.int .i64 (f.code.length:Int)) (.int .i64 f.result) 7 (ja:Int) (jb:Int) n a);unfold lR at HB;clear hS T0
 · have HQ:Hid (aj u f ⟨7,(ja:Int),(jb:Int)⟩ st=some ([0,0],[0])):=aH (by rw [J4.out]);go_enter Tryz.func107,Tryz.ntmps107
   go_wp2_with fail
   refine (a8 _ _).mono ?_;rintro e w2 ⟨rfl,E0⟩;have M6:=E0.cell (cQ _ _ _ _).1 Q6;have P7:=E0.cell (cQ _ _ _ _).2 Q6;have hE:=HB.out.go (((Gr.refl _).alloc _).trans E0);have P3:=hE;obtain ⟨-,R0,s0,s1,s2,s3,s4,s5,s6,s7,i0,i1,i2,y0,y1,y2,r0,r1,z0,z1⟩:=P3;go_wp2_with fail
   refine (a8 _ _).mono ?_;rintro e w3 ⟨rfl,P0⟩;have Lb:=P0.cell ((World.grownBy_alloc _ _ none).cell M6 Q6) Q6;have Fc:=P0.cell ((World.grownBy_alloc _ _ none).cell P7 Q6) Q6;have Ti:=P0.cell (bU _ _ _) Q6;have hE:=hE.go (((Gr.refl _).alloc _).trans P0);clear R0 s0 s1 s2 s3 s4 s5 s6 s7 i0 i1 i2 y0 y1 y2 r0 r1 z0 z1;have P3:=hE;obtain ⟨-,R0,s0,s1,s2,s3,s4,s5,s6,s7,i0,i1,i2,y0,y1,y2,r0,r1,z0,z1⟩:=P3;go_wp2_with fail
   rw [cH];obtain ⟨q0,q1⟩:=bq (y0:=.slice (some ⟨w.heap.size+1+1+1+1,0,none⟩) 2 2) (y1:=.slice (some ⟨w2.heap.size,0,none⟩) 1 1) hE.r0 hE.r1;exact bodyPost_ret (v:=.agg #[.slice (some ⟨w.heap.size+1+1+1+1,0,none⟩) 2 2,.slice (some ⟨w2.heap.size,0,none⟩) 1 1]) (by simp [results,Tryz.results107,go_sem,q0,q1]) rfl ⟨bJ hE.gr Q5,by rw [HQ.out];exact ⟨_,_,rfl,eP (w:=w) (by simpa using Lb) (by simpa using Fc) (by first|omega|(have:=D0.size;simp at this;omega)|(have:=E0.size;simp at this;omega)|(have h1:=D0.size;have h2:=E0.size;simp at h1 h2;omega)),bp (w:=w) (by simpa using Ti) (by first|omega|(have:=D0.size;simp at this;omega)|(have:=E0.size;simp at this;omega)|(have h1:=D0.size;have h2:=E0.size;simp at h1 h2;omega))⟩⟩
theorem Ba(u:aK)(f:aO)(ja jb:Nat)(J2:ja<=65535)(Y0:jb<=65535)(st:List Int)(v1 v2 v3 v4 v5 vs I2:Value)(n a:Int)(W w:World)(hS:Sc W u (f.aF++f.aG) v1 v2 v3 v4 vs)(hW:Gr W w)(T0:aW w I2 st)(I5:f.code.length<=1000000):
 Calls Tryz.prog 107 #[.agg #[v1,v2,v3,v4,v5,vs,.int .i64 (f.code.length:Int),.int .i64 f.result],.agg #[.int .i64 8,.int .i64 (ja:Int),.int .i64 (jb:Int)],I2,.agg #[.int .i64 10,.int .i64 n,.int .i64 a]] w (gO (aj u f ⟨8,(ja:Int),(jb:Int)⟩ st) n a w):=by
 have M4:Hid (∀G4,f.aF++f.aG=G4->aj u f ⟨8,(ja:Int),(jb:Int)⟩ st=some ([0,0],[0])):=aH (fun G4 h=>by subst h;unfold aj dQ;simp);generalize hsl:f.aF++f.aG=sl at hS;have J4:=aH (M4.out sl hsl);clear hsl M4;obtain ⟨a2,c2,rfl⟩:=hS.co;obtain ⟨a1,c1,rfl⟩:=hS.sh.shape;obtain ⟨a3,c3,rfl⟩:=hS.fu.shape;obtain ⟨a4,c4,L6⟩:∃ao cap,v4=.slice ao u.aB.length cap:=by obtain ⟨ao,cap,h,_⟩:=hS.im;exact ⟨ao,cap,h⟩
 subst L6;obtain ⟨al,cs,rfl⟩:=hS.sl.shape;obtain ⟨at_,ct,rfl⟩:=T0.shape;have M7:=hS.l2;have HS:=aH hS;have J7:=aH T0;have K7:=aH hW;have HB:=aH (lw.new w (.slice a1 u.aA.length c1) (.slice a2 u.aD.length c2) (.slice a3 u.aE.length c3) (.slice a4 u.aB.length c4) v5 (.slice al sl.length cs) (.int .i64 (f.code.length:Int)) (.int .i64 f.result) 8 (ja:Int) (jb:Int) n a);unfold lR at HB;clear hS T0
 · have HQ:Hid (aj u f ⟨8,(ja:Int),(jb:Int)⟩ st=some ([0,0],[0])):=aH (by rw [J4.out]);go_enter Tryz.func107,Tryz.ntmps107
   go_wp2_with fail
   refine (a8 _ _).mono ?_;rintro e w2 ⟨rfl,E0⟩;have M6:=E0.cell (cQ _ _ _ _).1 Q6;have P7:=E0.cell (cQ _ _ _ _).2 Q6;have hE:=HB.out.go (((Gr.refl _).alloc _).trans E0);have P3:=hE;obtain ⟨-,R0,s0,s1,s2,s3,s4,s5,s6,s7,i0,i1,i2,y0,y1,y2,r0,r1,z0,z1⟩:=P3;go_wp2_with fail
   refine (a8 _ _).mono ?_;rintro e w3 ⟨rfl,P0⟩;have Lb:=P0.cell ((World.grownBy_alloc _ _ none).cell M6 Q6) Q6;have Fc:=P0.cell ((World.grownBy_alloc _ _ none).cell P7 Q6) Q6;have Ti:=P0.cell (bU _ _ _) Q6;have hE:=hE.go (((Gr.refl _).alloc _).trans P0);clear R0 s0 s1 s2 s3 s4 s5 s6 s7 i0 i1 i2 y0 y1 y2 r0 r1 z0 z1;have P3:=hE;obtain ⟨-,R0,s0,s1,s2,s3,s4,s5,s6,s7,i0,i1,i2,y0,y1,y2,r0,r1,z0,z1⟩:=P3;go_wp2_with fail
   rw [cH];obtain ⟨q0,q1⟩:=bq (y0:=.slice (some ⟨w.heap.size+1+1+1+1,0,none⟩) 2 2) (y1:=.slice (some ⟨w2.heap.size,0,none⟩) 1 1) hE.r0 hE.r1;exact bodyPost_ret (v:=.agg #[.slice (some ⟨w.heap.size+1+1+1+1,0,none⟩) 2 2,.slice (some ⟨w2.heap.size,0,none⟩) 1 1]) (by simp [results,Tryz.results107,go_sem,q0,q1]) rfl ⟨bJ hE.gr Q5,by rw [HQ.out];exact ⟨_,_,rfl,eP (w:=w) (by simpa using Lb) (by simpa using Fc) (by first|omega|(have:=D0.size;simp at this;omega)|(have:=E0.size;simp at this;omega)|(have h1:=D0.size;have h2:=E0.size;simp at h1 h2;omega)),bp (w:=w) (by simpa using Ti) (by first|omega|(have:=D0.size;simp at this;omega)|(have:=E0.size;simp at this;omega)|(have h1:=D0.size;have h2:=E0.size;simp at h1 h2;omega))⟩⟩
theorem BB(u:aK)(f:aO)(ja jb:Nat)(J2:ja<=65535)(Y0:jb<=65535)(st:List Int)(v1 v2 v3 v4 v5 vs I2:Value)(n a:Int)(W w:World)(hS:Sc W u (f.aF++f.aG) v1 v2 v3 v4 vs)(hW:Gr W w)(T0:aW w I2 st)(I5:f.code.length<=1000000):
 Calls Tryz.prog 107 #[.agg #[v1,v2,v3,v4,v5,vs,.int .i64 (f.code.length:Int),.int .i64 f.result],.agg #[.int .i64 9,.int .i64 (ja:Int),.int .i64 (jb:Int)],I2,.agg #[.int .i64 10,.int .i64 n,.int .i64 a]] w (gO (aj u f ⟨9,(ja:Int),(jb:Int)⟩ st) n a w):=by
 have M4:Hid (∀G4,f.aF++f.aG=G4->aj u f ⟨9,(ja:Int),(jb:Int)⟩ st=some ([0,0],[0])):=aH (fun G4 h=>by subst h;unfold aj dQ;simp);generalize hsl:f.aF++f.aG=sl at hS;have J4:=aH (M4.out sl hsl);clear hsl M4;obtain ⟨a2,c2,rfl⟩:=hS.co;obtain ⟨a1,c1,rfl⟩:=hS.sh.shape;obtain ⟨a3,c3,rfl⟩:=hS.fu.shape;obtain ⟨a4,c4,L6⟩:∃ao cap,v4=.slice ao u.aB.length cap:=by obtain ⟨ao,cap,h,_⟩:=hS.im;exact ⟨ao,cap,h⟩
 subst L6;obtain ⟨al,cs,rfl⟩:=hS.sl.shape;obtain ⟨at_,ct,rfl⟩:=T0.shape;have M7:=hS.l2;have HS:=aH hS;have J7:=aH T0;have K7:=aH hW;have HB:=aH (lw.new w (.slice a1 u.aA.length c1) (.slice a2 u.aD.length c2) (.slice a3 u.aE.length c3) (.slice a4 u.aB.length c4) v5 (.slice al sl.length cs) (.int .i64 (f.code.length:Int)) (.int .i64 f.result) 9 (ja:Int) (jb:Int) n a);unfold lR at HB;clear hS T0
 · have HQ:Hid (aj u f ⟨9,(ja:Int),(jb:Int)⟩ st=some ([0,0],[0])):=aH (by rw [J4.out]);go_enter Tryz.func107,Tryz.ntmps107
   go_wp2_with fail
   refine (a8 _ _).mono ?_;rintro e w2 ⟨rfl,E0⟩;have M6:=E0.cell (cQ _ _ _ _).1 Q6;have P7:=E0.cell (cQ _ _ _ _).2 Q6;have hE:=HB.out.go (((Gr.refl _).alloc _).trans E0);have P3:=hE;obtain ⟨-,R0,s0,s1,s2,s3,s4,s5,s6,s7,i0,i1,i2,y0,y1,y2,r0,r1,z0,z1⟩:=P3;go_wp2_with fail
   refine (a8 _ _).mono ?_;rintro e w3 ⟨rfl,P0⟩;have Lb:=P0.cell ((World.grownBy_alloc _ _ none).cell M6 Q6) Q6;have Fc:=P0.cell ((World.grownBy_alloc _ _ none).cell P7 Q6) Q6;have Ti:=P0.cell (bU _ _ _) Q6;have hE:=hE.go (((Gr.refl _).alloc _).trans P0);clear R0 s0 s1 s2 s3 s4 s5 s6 s7 i0 i1 i2 y0 y1 y2 r0 r1 z0 z1;have P3:=hE;obtain ⟨-,R0,s0,s1,s2,s3,s4,s5,s6,s7,i0,i1,i2,y0,y1,y2,r0,r1,z0,z1⟩:=P3;go_wp2_with fail
   rw [cH];obtain ⟨q0,q1⟩:=bq (y0:=.slice (some ⟨w.heap.size+1+1+1+1,0,none⟩) 2 2) (y1:=.slice (some ⟨w2.heap.size,0,none⟩) 1 1) hE.r0 hE.r1;exact bodyPost_ret (v:=.agg #[.slice (some ⟨w.heap.size+1+1+1+1,0,none⟩) 2 2,.slice (some ⟨w2.heap.size,0,none⟩) 1 1]) (by simp [results,Tryz.results107,go_sem,q0,q1]) rfl ⟨bJ hE.gr Q5,by rw [HQ.out];exact ⟨_,_,rfl,eP (w:=w) (by simpa using Lb) (by simpa using Fc) (by first|omega|(have:=D0.size;simp at this;omega)|(have:=E0.size;simp at this;omega)|(have h1:=D0.size;have h2:=E0.size;simp at h1 h2;omega)),bp (w:=w) (by simpa using Ti) (by first|omega|(have:=D0.size;simp at this;omega)|(have:=E0.size;simp at this;omega)|(have h1:=D0.size;have h2:=E0.size;simp at h1 h2;omega))⟩⟩
theorem AM(u:aK)(f:aO)(ja jb:Nat)(J2:ja<=65535)(Y0:jb<=65535)(st:List Int)(v1 v2 v3 v4 v5 vs I2:Value)(n a:Int)(W w:World)(hS:Sc W u (f.aF++f.aG) v1 v2 v3 v4 vs)(hW:Gr W w)(T0:aW w I2 st)(I5:f.code.length<=1000000):
 Calls Tryz.prog 107 #[.agg #[v1,v2,v3,v4,v5,vs,.int .i64 (f.code.length:Int),.int .i64 f.result],.agg #[.int .i64 10,.int .i64 (ja:Int),.int .i64 (jb:Int)],I2,.agg #[.int .i64 10,.int .i64 n,.int .i64 a]] w (gO (aj u f ⟨10,(ja:Int),(jb:Int)⟩ st) n a w):=by
 have M4:Hid (∀G4,f.aF++f.aG=G4->aj u f ⟨10,(ja:Int),(jb:Int)⟩ st=some ([0,0],[0])):=aH (fun G4 h=>by subst h;unfold aj dQ;simp);generalize hsl:f.aF++f.aG=sl at hS;have J4:=aH (M4.out sl hsl);clear hsl M4;obtain ⟨a2,c2,rfl⟩:=hS.co;obtain ⟨a1,c1,rfl⟩:=hS.sh.shape;obtain ⟨a3,c3,rfl⟩:=hS.fu.shape;obtain ⟨a4,c4,L6⟩:∃ao cap,v4=.slice ao u.aB.length cap:=by obtain ⟨ao,cap,h,_⟩:=hS.im;exact ⟨ao,cap,h⟩
 subst L6;obtain ⟨al,cs,rfl⟩:=hS.sl.shape;obtain ⟨at_,ct,rfl⟩:=T0.shape;have M7:=hS.l2;have HS:=aH hS;have J7:=aH T0;have K7:=aH hW;have HB:=aH (lw.new w (.slice a1 u.aA.length c1) (.slice a2 u.aD.length c2) (.slice a3 u.aE.length c3) (.slice a4 u.aB.length c4) v5 (.slice al sl.length cs) (.int .i64 (f.code.length:Int)) (.int .i64 f.result) 10 (ja:Int) (jb:Int) n a);unfold lR at HB;clear hS T0
 · have HQ:Hid (aj u f ⟨10,(ja:Int),(jb:Int)⟩ st=some ([0,0],[0])):=aH (by rw [J4.out]);go_enter Tryz.func107,Tryz.ntmps107
   go_wp2_with fail
   refine (a8 _ _).mono ?_;rintro e w2 ⟨rfl,E0⟩;have M6:=E0.cell (cQ _ _ _ _).1 Q6;have P7:=E0.cell (cQ _ _ _ _).2 Q6;have hE:=HB.out.go (((Gr.refl _).alloc _).trans E0);have P3:=hE;obtain ⟨-,R0,s0,s1,s2,s3,s4,s5,s6,s7,i0,i1,i2,y0,y1,y2,r0,r1,z0,z1⟩:=P3;go_wp2_with fail
   refine (a8 _ _).mono ?_;rintro e w3 ⟨rfl,P0⟩;have Lb:=P0.cell ((World.grownBy_alloc _ _ none).cell M6 Q6) Q6;have Fc:=P0.cell ((World.grownBy_alloc _ _ none).cell P7 Q6) Q6;have Ti:=P0.cell (bU _ _ _) Q6;have hE:=hE.go (((Gr.refl _).alloc _).trans P0);clear R0 s0 s1 s2 s3 s4 s5 s6 s7 i0 i1 i2 y0 y1 y2 r0 r1 z0 z1;have P3:=hE;obtain ⟨-,R0,s0,s1,s2,s3,s4,s5,s6,s7,i0,i1,i2,y0,y1,y2,r0,r1,z0,z1⟩:=P3;go_wp2_with fail
   rw [cH];obtain ⟨q0,q1⟩:=bq (y0:=.slice (some ⟨w.heap.size+1+1+1+1,0,none⟩) 2 2) (y1:=.slice (some ⟨w2.heap.size,0,none⟩) 1 1) hE.r0 hE.r1;exact bodyPost_ret (v:=.agg #[.slice (some ⟨w.heap.size+1+1+1+1,0,none⟩) 2 2,.slice (some ⟨w2.heap.size,0,none⟩) 1 1]) (by simp [results,Tryz.results107,go_sem,q0,q1]) rfl ⟨bJ hE.gr Q5,by rw [HQ.out];exact ⟨_,_,rfl,eP (w:=w) (by simpa using Lb) (by simpa using Fc) (by first|omega|(have:=D0.size;simp at this;omega)|(have:=E0.size;simp at this;omega)|(have h1:=D0.size;have h2:=E0.size;simp at h1 h2;omega)),bp (w:=w) (by simpa using Ti) (by first|omega|(have:=D0.size;simp at this;omega)|(have:=E0.size;simp at this;omega)|(have h1:=D0.size;have h2:=E0.size;simp at h1 h2;omega))⟩⟩
theorem AU(u:aK)(f:aO)(ja jb:Nat)(J2:ja<=65535)(Y0:jb<=65535)(st:List Int)(v1 v2 v3 v4 v5 vs I2:Value)(n a:Int)(W w:World)(hS:Sc W u (f.aF++f.aG) v1 v2 v3 v4 vs)(hW:Gr W w)(T0:aW w I2 st)(I5:f.code.length<=1000000):
 Calls Tryz.prog 107 #[.agg #[v1,v2,v3,v4,v5,vs,.int .i64 (f.code.length:Int),.int .i64 f.result],.agg #[.int .i64 11,.int .i64 (ja:Int),.int .i64 (jb:Int)],I2,.agg #[.int .i64 10,.int .i64 n,.int .i64 a]] w (gO (aj u f ⟨11,(ja:Int),(jb:Int)⟩ st) n a w):=by
 have M4:Hid (∀G4,f.aF++f.aG=G4->aj u f ⟨11,(ja:Int),(jb:Int)⟩ st=if (ja:Int) < (f.code.length:Int) then some ([],[]) else none):=aH (fun G4 h=>by subst h;unfold aj dQ;simp);generalize hsl:f.aF++f.aG=sl at hS;have J4:=aH (M4.out sl hsl);clear hsl M4;obtain ⟨a2,c2,rfl⟩:=hS.co;obtain ⟨a1,c1,rfl⟩:=hS.sh.shape;obtain ⟨a3,c3,rfl⟩:=hS.fu.shape;obtain ⟨a4,c4,L6⟩:∃ao cap,v4=.slice ao u.aB.length cap:=by obtain ⟨ao,cap,h,_⟩:=hS.im;exact ⟨ao,cap,h⟩
 subst L6;obtain ⟨al,cs,rfl⟩:=hS.sl.shape;obtain ⟨at_,ct,rfl⟩:=T0.shape;have M7:=hS.l2;have HS:=aH hS;have J7:=aH T0;have K7:=aH hW;have HB:=aH (lw.new w (.slice a1 u.aA.length c1) (.slice a2 u.aD.length c2) (.slice a3 u.aE.length c3) (.slice a4 u.aB.length c4) v5 (.slice al sl.length cs) (.int .i64 (f.code.length:Int)) (.int .i64 f.result) 11 (ja:Int) (jb:Int) n a);unfold lR at HB;clear hS T0;by_cases hc:(ja:Int) < (f.code.length:Int)
 · have HQ:Hid (aj u f ⟨11,(ja:Int),(jb:Int)⟩ st=some ([],[])):=aH (by rw [J4.out,if_pos hc]);have hd:decide ((ja:Int) < (f.code.length:Int))=true:=by simpa using hc
   go_enter Tryz.func107,Tryz.ntmps107
   go_wp2_with fail
   refine (bP _ _ _ _).mono ?_;rintro e w' ⟨rfl,D0⟩;have hE:=HB.out.go D0;have P3:=hE;obtain ⟨-,R0,s0,s1,s2,s3,s4,s5,s6,s7,i0,i1,i2,y0,y1,y2,r0,r1,z0,z1⟩:=P3;go_wp2_with fail
   rw [cH];obtain ⟨q0,q1⟩:=bq (y0:=.slice none 0 0) (y1:=.slice none 0 0) hE.r0 hE.r1;exact bodyPost_ret (v:=.agg #[.slice none 0 0,.slice none 0 0]) (by simp [results,Tryz.results107,go_sem,q0,q1]) rfl ⟨bJ hE.gr Q5,by rw [HQ.out];exact ⟨_,_,rfl,bn _,bn _⟩⟩
 · have HQ:Hid (aj u f ⟨11,(ja:Int),(jb:Int)⟩ st=none):=aH (by rw [J4.out,if_neg hc]);have hd:decide ((ja:Int) < (f.code.length:Int))=false:=by simpa using hc
   go_enter Tryz.func107,Tryz.ntmps107
   go_wp2_with fail
   refine (bk _ _ _ _).mono ?_;rintro e w' ⟨rfl,D0⟩;exact ⟨rfl,HB.out.gr.trans D0,by rw [HQ.out]⟩
theorem Ac(u:aK)(f:aO)(ja jb:Nat)(J2:ja<=65535)(Y0:jb<=65535)(st:List Int)(v1 v2 v3 v4 v5 vs I2:Value)(n a:Int)(W w:World)(hS:Sc W u (f.aF++f.aG) v1 v2 v3 v4 vs)(hW:Gr W w)(T0:aW w I2 st)(I5:f.code.length<=1000000):
 Calls Tryz.prog 107 #[.agg #[v1,v2,v3,v4,v5,vs,.int .i64 (f.code.length:Int),.int .i64 f.result],.agg #[.int .i64 12,.int .i64 (ja:Int),.int .i64 (jb:Int)],I2,.agg #[.int .i64 10,.int .i64 n,.int .i64 a]] w (gO (aj u f ⟨12,(ja:Int),(jb:Int)⟩ st) n a w):=by
 have M4:Hid (∀G4,f.aF++f.aG=G4->aj u f ⟨12,(ja:Int),(jb:Int)⟩ st=if (ja:Int) < (f.code.length:Int) then some ([0],[]) else none):=aH (fun G4 h=>by subst h;unfold aj dQ;simp);generalize hsl:f.aF++f.aG=sl at hS;have J4:=aH (M4.out sl hsl);clear hsl M4;obtain ⟨a2,c2,rfl⟩:=hS.co;obtain ⟨a1,c1,rfl⟩:=hS.sh.shape;obtain ⟨a3,c3,rfl⟩:=hS.fu.shape;obtain ⟨a4,c4,L6⟩:∃ao cap,v4=.slice ao u.aB.length cap:=by obtain ⟨ao,cap,h,_⟩:=hS.im;exact ⟨ao,cap,h⟩
 subst L6;obtain ⟨al,cs,rfl⟩:=hS.sl.shape;obtain ⟨at_,ct,rfl⟩:=T0.shape;have M7:=hS.l2;have HS:=aH hS;have J7:=aH T0;have K7:=aH hW;have HB:=aH (lw.new w (.slice a1 u.aA.length c1) (.slice a2 u.aD.length c2) (.slice a3 u.aE.length c3) (.slice a4 u.aB.length c4) v5 (.slice al sl.length cs) (.int .i64 (f.code.length:Int)) (.int .i64 f.result) 12 (ja:Int) (jb:Int) n a);unfold lR at HB;clear hS T0;by_cases hc:(ja:Int) < (f.code.length:Int)
 · have HQ:Hid (aj u f ⟨12,(ja:Int),(jb:Int)⟩ st=some ([0],[])):=aH (by rw [J4.out,if_pos hc]);have hd:decide ((ja:Int) < (f.code.length:Int))=true:=by simpa using hc
   go_enter Tryz.func107,Tryz.ntmps107
   go_wp2_with fail
   refine (bP _ _ _ _).mono ?_;rintro e w' ⟨rfl,D0⟩;have hE:=HB.out.go D0;have P3:=hE;obtain ⟨-,R0,s0,s1,s2,s3,s4,s5,s6,s7,i0,i1,i2,y0,y1,y2,r0,r1,z0,z1⟩:=P3;go_wp2_with fail
   refine (a8 _ _).mono ?_;rintro e w2 ⟨rfl,E0⟩;have M6:=E0.cell (bU _ _ _) Q6;have hE:=hE.go (((Gr.refl _).alloc _).trans E0);clear R0 s0 s1 s2 s3 s4 s5 s6 s7 i0 i1 i2 y0 y1 y2 r0 r1 z0 z1;have P3:=hE;obtain ⟨-,R0,s0,s1,s2,s3,s4,s5,s6,s7,i0,i1,i2,y0,y1,y2,r0,r1,z0,z1⟩:=P3;go_wp2_with fail
   rw [cH];obtain ⟨q0,q1⟩:=bq (y0:=.slice (some ⟨w'.heap.size,0,none⟩) 1 1) (y1:=.slice none 0 0) hE.r0 hE.r1;exact bodyPost_ret (v:=.agg #[.slice (some ⟨w'.heap.size,0,none⟩) 1 1,.slice none 0 0]) (by simp [results,Tryz.results107,go_sem,q0,q1]) rfl ⟨bJ hE.gr Q5,by rw [HQ.out];exact ⟨_,_,rfl,bp (w:=w) (by simpa using M6) (by first|omega|(have:=D0.size;simp at this;omega)|(have:=E0.size;simp at this;omega)|(have h1:=D0.size;have h2:=E0.size;simp at h1 h2;omega)),bn _⟩⟩
 · have HQ:Hid (aj u f ⟨12,(ja:Int),(jb:Int)⟩ st=none):=aH (by rw [J4.out,if_neg hc]);have hd:decide ((ja:Int) < (f.code.length:Int))=false:=by simpa using hc
   go_enter Tryz.func107,Tryz.ntmps107
   go_wp2_with fail
   refine (bk _ _ _ _).mono ?_;rintro e w' ⟨rfl,D0⟩;exact ⟨rfl,HB.out.gr.trans D0,by rw [HQ.out]⟩
theorem Ab(u:aK)(f:aO)(ja jb:Nat)(J2:ja<=65535)(Y0:jb<=65535)(st:List Int)(v1 v2 v3 v4 v5 vs I2:Value)(n a:Int)(W w:World)(hS:Sc W u (f.aF++f.aG) v1 v2 v3 v4 vs)(hW:Gr W w)(T0:aW w I2 st)(I5:f.code.length<=1000000):
 Calls Tryz.prog 107 #[.agg #[v1,v2,v3,v4,v5,vs,.int .i64 (f.code.length:Int),.int .i64 f.result],.agg #[.int .i64 13,.int .i64 (ja:Int),.int .i64 (jb:Int)],I2,.agg #[.int .i64 10,.int .i64 n,.int .i64 a]] w (gO (aj u f ⟨13,(ja:Int),(jb:Int)⟩ st) n a w):=by
 have M4:Hid (∀G4,f.aF++f.aG=G4->aj u f ⟨13,(ja:Int),(jb:Int)⟩ st=(mD u ja).map fun p=>(p.1,[p.2])):=aH (fun G4 h=>by subst h;unfold aj dQ;simp;unfold mD;cases u.aE[ja]? with|some g=>simp|none=>cases u.aB[ja - u.aE.length]?<;>simp)
 generalize hsl:f.aF++f.aG=sl at hS;have J4:=aH (M4.out sl hsl);clear hsl M4;obtain ⟨a2,c2,rfl⟩:=hS.co;obtain ⟨a1,c1,rfl⟩:=hS.sh.shape;obtain ⟨a3,c3,rfl⟩:=hS.fu.shape;obtain ⟨a4,c4,L6⟩:∃ao cap,v4=.slice ao u.aB.length cap:=by obtain ⟨ao,cap,h,_⟩:=hS.im;exact ⟨ao,cap,h⟩
 subst L6;obtain ⟨al,cs,rfl⟩:=hS.sl.shape;obtain ⟨at_,ct,rfl⟩:=T0.shape;have M7:=hS.l2;have HS:=aH hS;have J7:=aH T0;have K7:=aH hW;have HB:=aH (lw.new w (.slice a1 u.aA.length c1) (.slice a2 u.aD.length c2) (.slice a3 u.aE.length c3) (.slice a4 u.aB.length c4) v5 (.slice al sl.length cs) (.int .i64 (f.code.length:Int)) (.int .i64 f.result) 13 (ja:Int) (jb:Int) n a);unfold lR at HB;clear hS T0;cases hx:mD u ja with
 | some p=>
  have HX:=aH hx;have HQ:Hid (aj u f ⟨13,(ja:Int),(jb:Int)⟩ st=some (p.1,[p.2])):=aH (by rw [J4.out,hx];rfl);clear hx;go_enter Tryz.func107,Tryz.ntmps107
  go_wp2_with fail
  refine (oc HX.out J2 _ _ _ _ _ _ _ _ _ _ W _ HS.out.fu HS.out.im (K7.out.trans HB.out.gr) HS.out.l3 HS.out.l4).mono ?_;rintro e w' ⟨D0,v,rfl,Tf⟩;obtain ⟨av,cv,rfl⟩:=Tf.shape;have Vm:=aH Tf;clear Tf;have hE:=HB.out.go D0;have P3:=hE;obtain ⟨-,R0,s0,s1,s2,s3,s4,s5,s6,s7,i0,i1,i2,y0,y1,y2,r0,r1,z0,z1⟩:=P3;go_wp2_with fail
  refine (a8 _ _).mono ?_;rintro e w2 ⟨rfl,E0⟩;have M6:=E0.cell (bU _ _ _) Q6;have hE:=hE.go (((Gr.refl _).alloc _).trans E0);clear R0 s0 s1 s2 s3 s4 s5 s6 s7 i0 i1 i2 y0 y1 y2 r0 r1 z0 z1;have P3:=hE;obtain ⟨-,R0,s0,s1,s2,s3,s4,s5,s6,s7,i0,i1,i2,y0,y1,y2,r0,r1,z0,z1⟩:=P3;go_wp2_with fail
  rw [cH];obtain ⟨q0,q1⟩:=bq (y0:=.slice av p.1.length cv) (y1:=.slice (some ⟨w'.heap.size,0,none⟩) 1 1) hE.r0 hE.r1;exact bodyPost_ret (v:=.agg #[.slice av p.1.length cv,.slice (some ⟨w'.heap.size,0,none⟩) 1 1]) (by simp [results,Tryz.results107,go_sem,q0,q1]) rfl ⟨bJ hE.gr Q5,by rw [HQ.out];exact ⟨_,_,rfl,Vm.out.gr (K7.out.trans (bJ hE.gr Q5)),bp (w:=w) (by simpa using M6) (by first|omega|(have:=D0.size;simp at this;omega)|(have:=E0.size;simp at this;omega)|(have h1:=D0.size;have h2:=E0.size;simp at h1 h2;omega))⟩⟩
 | none=>
  have HX:=aH hx;have HQ:Hid (aj u f ⟨13,(ja:Int),(jb:Int)⟩ st=none):=aH (by rw [J4.out,hx];rfl);clear hx;go_enter Tryz.func107,Tryz.ntmps107
  go_wp2_with fail
  refine (rT HX.out J2 _ _ _ _ _ _ _ _ _ _ W _ HS.out.fu HS.out.im (K7.out.trans HB.out.gr) HS.out.l3 HS.out.l4).mono ?_;rintro e w' ⟨D0,rfl⟩;exact ⟨rfl,HB.out.gr.trans D0,by rw [HQ.out]⟩
theorem AJ(u:aK)(f:aO)(ja jb:Nat)(J2:ja<=65535)(Y0:jb<=65535)(st:List Int)(v1 v2 v3 v4 v5 vs I2:Value)(n a:Int)(W w:World)(hS:Sc W u (f.aF++f.aG) v1 v2 v3 v4 vs)(hW:Gr W w)(T0:aW w I2 st)(I5:f.code.length<=1000000):
 Calls Tryz.prog 107 #[.agg #[v1,v2,v3,v4,v5,vs,.int .i64 (f.code.length:Int),.int .i64 f.result],.agg #[.int .i64 14,.int .i64 (ja:Int),.int .i64 (jb:Int)],I2,.agg #[.int .i64 10,.int .i64 n,.int .i64 a]] w (gO (aj u f ⟨14,(ja:Int),(jb:Int)⟩ st) n a w):=by
 have M4:Hid (∀G4,f.aF++f.aG=G4->aj u f ⟨14,(ja:Int),(jb:Int)⟩ st=some ([f.result],[])):=aH (fun G4 h=>by subst h;unfold aj dQ;simp);generalize hsl:f.aF++f.aG=sl at hS;have J4:=aH (M4.out sl hsl);clear hsl M4;obtain ⟨a2,c2,rfl⟩:=hS.co;obtain ⟨a1,c1,rfl⟩:=hS.sh.shape;obtain ⟨a3,c3,rfl⟩:=hS.fu.shape;obtain ⟨a4,c4,L6⟩:∃ao cap,v4=.slice ao u.aB.length cap:=by obtain ⟨ao,cap,h,_⟩:=hS.im;exact ⟨ao,cap,h⟩
 subst L6;obtain ⟨al,cs,rfl⟩:=hS.sl.shape;obtain ⟨at_,ct,rfl⟩:=T0.shape;have M7:=hS.l2;have HS:=aH hS;have J7:=aH T0;have K7:=aH hW;have HB:=aH (lw.new w (.slice a1 u.aA.length c1) (.slice a2 u.aD.length c2) (.slice a3 u.aE.length c3) (.slice a4 u.aB.length c4) v5 (.slice al sl.length cs) (.int .i64 (f.code.length:Int)) (.int .i64 f.result) 14 (ja:Int) (jb:Int) n a);unfold lR at HB;clear hS T0
 · have HQ:Hid (aj u f ⟨14,(ja:Int),(jb:Int)⟩ st=some ([f.result],[])):=aH (by rw [J4.out]);go_enter Tryz.func107,Tryz.ntmps107
   go_wp2_with fail
   refine (a8 _ _).mono ?_;rintro e w2 ⟨rfl,E0⟩;have M6:=E0.cell (bU _ _ _) Q6;have hE:=HB.out.go (((Gr.refl _).alloc _).trans E0);have P3:=hE;obtain ⟨-,R0,s0,s1,s2,s3,s4,s5,s6,s7,i0,i1,i2,y0,y1,y2,r0,r1,z0,z1⟩:=P3;go_wp2_with fail
   rw [cH];obtain ⟨q0,q1⟩:=bq (y0:=.slice (some ⟨w.heap.size+1+1+1+1,0,none⟩) 1 1) (y1:=.slice none 0 0) hE.r0 hE.r1;exact bodyPost_ret (v:=.agg #[.slice (some ⟨w.heap.size+1+1+1+1,0,none⟩) 1 1,.slice none 0 0]) (by simp [results,Tryz.results107,go_sem,q0,q1]) rfl ⟨bJ hE.gr Q5,by rw [HQ.out];exact ⟨_,_,rfl,bp (w:=w) (by simpa using M6) (by first|omega|(have:=D0.size;simp at this;omega)|(have:=E0.size;simp at this;omega)|(have h1:=D0.size;have h2:=E0.size;simp at h1 h2;omega)),bn _⟩⟩
theorem AB(u:aK)(f:aO)(ja jb:Nat)(J2:ja<=65535)(Y0:jb<=65535)(st:List Int)(v1 v2 v3 v4 v5 vs I2:Value)(n a:Int)(W w:World)(hS:Sc W u (f.aF++f.aG) v1 v2 v3 v4 vs)(hW:Gr W w)(T0:aW w I2 st)(I5:f.code.length<=1000000):
 Calls Tryz.prog 107 #[.agg #[v1,v2,v3,v4,v5,vs,.int .i64 (f.code.length:Int),.int .i64 f.result],.agg #[.int .i64 18,.int .i64 (ja:Int),.int .i64 (jb:Int)],I2,.agg #[.int .i64 10,.int .i64 n,.int .i64 a]] w (gO (aj u f ⟨18,(ja:Int),(jb:Int)⟩ st) n a w):=by
 have M4:Hid (∀G4,f.aF++f.aG=G4->aj u f ⟨18,(ja:Int),(jb:Int)⟩ st=(dE u (ja:Int)).map fun s=>([],[(ja:Int)])):=aH (fun G4 h=>by subst h;unfold aj dQ;simp [dE]);generalize hsl:f.aF++f.aG=sl at hS;have J4:=aH (M4.out sl hsl);clear hsl M4;obtain ⟨a2,c2,rfl⟩:=hS.co;obtain ⟨a1,c1,rfl⟩:=hS.sh.shape;obtain ⟨a3,c3,rfl⟩:=hS.fu.shape;obtain ⟨a4,c4,L6⟩:∃ao cap,v4=.slice ao u.aB.length cap:=by obtain ⟨ao,cap,h,_⟩:=hS.im;exact ⟨ao,cap,h⟩
 subst L6;obtain ⟨al,cs,rfl⟩:=hS.sl.shape;obtain ⟨at_,ct,rfl⟩:=T0.shape;have M7:=hS.l2;have HS:=aH hS;have J7:=aH T0;have K7:=aH hW;have HB:=aH (lw.new w (.slice a1 u.aA.length c1) (.slice a2 u.aD.length c2) (.slice a3 u.aE.length c3) (.slice a4 u.aB.length c4) v5 (.slice al sl.length cs) (.int .i64 (f.code.length:Int)) (.int .i64 f.result) 18 (ja:Int) (jb:Int) n a);unfold lR at HB;clear hS T0;cases hx:dE u (ja:Int) with
 | some s=>
  have HX:=aH hx;have HQ:Hid (aj u f ⟨18,(ja:Int),(jb:Int)⟩ st=some ([],[(ja:Int)])):=aH (by rw [J4.out,hx];rfl);clear hx;go_enter Tryz.func107,Tryz.ntmps107
  go_wp2_with fail
  refine (kg HX.out Q5 Q5 _ _ _ _ _ _ _ _ _ _ W _ HS.out.sh (K7.out.trans HB.out.gr)).mono ?_;rintro e w' ⟨D0,v,rfl,Tf⟩;obtain ⟨av,cv,rfl⟩:=Tf.shape;have Vm:=aH Tf;clear Tf;have hE:=HB.out.go D0;have P3:=hE;obtain ⟨-,R0,s0,s1,s2,s3,s4,s5,s6,s7,i0,i1,i2,y0,y1,y2,r0,r1,z0,z1⟩:=P3;go_wp2_with fail
  refine (a8 _ _).mono ?_;rintro e w2 ⟨rfl,E0⟩;have M6:=E0.cell (bU _ _ _) Q6;have hE:=hE.go (((Gr.refl _).alloc _).trans E0);clear R0 s0 s1 s2 s3 s4 s5 s6 s7 i0 i1 i2 y0 y1 y2 r0 r1 z0 z1;have P3:=hE;obtain ⟨-,R0,s0,s1,s2,s3,s4,s5,s6,s7,i0,i1,i2,y0,y1,y2,r0,r1,z0,z1⟩:=P3;go_wp2_with fail
  rw [cH];obtain ⟨q0,q1⟩:=bq (y0:=.slice none 0 0) (y1:=.slice (some ⟨w'.heap.size,0,none⟩) 1 1) hE.r0 hE.r1;exact bodyPost_ret (v:=.agg #[.slice none 0 0,.slice (some ⟨w'.heap.size,0,none⟩) 1 1]) (by simp [results,Tryz.results107,go_sem,q0,q1]) rfl ⟨bJ hE.gr Q5,by rw [HQ.out];exact ⟨_,_,rfl,bn _,bp (w:=w) (by simpa using M6) (by first|omega|(have:=D0.size;simp at this;omega)|(have:=E0.size;simp at this;omega)|(have h1:=D0.size;have h2:=E0.size;simp at h1 h2;omega))⟩⟩
 | none=>
  have HX:=aH hx;have HQ:Hid (aj u f ⟨18,(ja:Int),(jb:Int)⟩ st=none):=aH (by rw [J4.out,hx];rfl);clear hx;go_enter Tryz.func107,Tryz.ntmps107
  go_wp2_with fail
  refine (lu HX.out Q5 Q5 _ _ _ _ _ _ _ _ _ _ W _ HS.out.sh (K7.out.trans HB.out.gr)).mono ?_;rintro e w' ⟨D0,rfl⟩;exact ⟨rfl,HB.out.gr.trans D0,by rw [HQ.out]⟩
theorem Aa(u:aK)(f:aO)(ja jb:Nat)(J2:ja<=65535)(Y0:jb<=65535)(st:List Int)(v1 v2 v3 v4 v5 vs I2:Value)(n a:Int)(W w:World)(hS:Sc W u (f.aF++f.aG) v1 v2 v3 v4 vs)(hW:Gr W w)(T0:aW w I2 st)(I5:f.code.length<=1000000):
 Calls Tryz.prog 107 #[.agg #[v1,v2,v3,v4,v5,vs,.int .i64 (f.code.length:Int),.int .i64 f.result],.agg #[.int .i64 19,.int .i64 (ja:Int),.int .i64 (jb:Int)],I2,.agg #[.int .i64 10,.int .i64 n,.int .i64 a]] w (gO (aj u f ⟨19,(ja:Int),(jb:Int)⟩ st) n a w):=by
 have M4:Hid (∀G4,f.aF++f.aG=G4->aj u f ⟨19,(ja:Int),(jb:Int)⟩ st=(dE u (ja:Int)).map fun s=>([(ja:Int)],[0])):=aH (fun G4 h=>by subst h;unfold aj dQ;simp [dE]);generalize hsl:f.aF++f.aG=sl at hS;have J4:=aH (M4.out sl hsl);clear hsl M4;obtain ⟨a2,c2,rfl⟩:=hS.co;obtain ⟨a1,c1,rfl⟩:=hS.sh.shape;obtain ⟨a3,c3,rfl⟩:=hS.fu.shape;obtain ⟨a4,c4,L6⟩:∃ao cap,v4=.slice ao u.aB.length cap:=by obtain ⟨ao,cap,h,_⟩:=hS.im;exact ⟨ao,cap,h⟩
 subst L6;obtain ⟨al,cs,rfl⟩:=hS.sl.shape;obtain ⟨at_,ct,rfl⟩:=T0.shape;have M7:=hS.l2;have HS:=aH hS;have J7:=aH T0;have K7:=aH hW;have HB:=aH (lw.new w (.slice a1 u.aA.length c1) (.slice a2 u.aD.length c2) (.slice a3 u.aE.length c3) (.slice a4 u.aB.length c4) v5 (.slice al sl.length cs) (.int .i64 (f.code.length:Int)) (.int .i64 f.result) 19 (ja:Int) (jb:Int) n a);unfold lR at HB;clear hS T0;cases hx:dE u (ja:Int) with
 | some s=>
  have HX:=aH hx;have HQ:Hid (aj u f ⟨19,(ja:Int),(jb:Int)⟩ st=some ([(ja:Int)],[0])):=aH (by rw [J4.out,hx];rfl);clear hx;go_enter Tryz.func107,Tryz.ntmps107
  go_wp2_with fail
  refine (kg HX.out Q5 Q5 _ _ _ _ _ _ _ _ _ _ W _ HS.out.sh (K7.out.trans HB.out.gr)).mono ?_;rintro e w' ⟨D0,v,rfl,Tf⟩;obtain ⟨av,cv,rfl⟩:=Tf.shape;have Vm:=aH Tf;clear Tf;have hE:=HB.out.go D0;have P3:=hE;obtain ⟨-,R0,s0,s1,s2,s3,s4,s5,s6,s7,i0,i1,i2,y0,y1,y2,r0,r1,z0,z1⟩:=P3;go_wp2_with fail
  refine (a8 _ _).mono ?_;rintro e w2 ⟨rfl,E0⟩;have M6:=E0.cell (bU _ _ _) Q6;have hE:=hE.go (((Gr.refl _).alloc _).trans E0);clear R0 s0 s1 s2 s3 s4 s5 s6 s7 i0 i1 i2 y0 y1 y2 r0 r1 z0 z1;have P3:=hE;obtain ⟨-,R0,s0,s1,s2,s3,s4,s5,s6,s7,i0,i1,i2,y0,y1,y2,r0,r1,z0,z1⟩:=P3;go_wp2_with fail
  refine (a8 _ _).mono ?_;rintro e w3 ⟨rfl,P0⟩;have Lb:=P0.cell ((World.grownBy_alloc _ _ none).cell M6 Q6) Q6;have Ti:=P0.cell (bU _ _ _) Q6;have hE:=hE.go (((Gr.refl _).alloc _).trans P0);clear R0 s0 s1 s2 s3 s4 s5 s6 s7 i0 i1 i2 y0 y1 y2 r0 r1 z0 z1;have P3:=hE;obtain ⟨-,R0,s0,s1,s2,s3,s4,s5,s6,s7,i0,i1,i2,y0,y1,y2,r0,r1,z0,z1⟩:=P3;go_wp2_with fail
  rw [cH];obtain ⟨q0,q1⟩:=bq (y0:=.slice (some ⟨w'.heap.size,0,none⟩) 1 1) (y1:=.slice (some ⟨w2.heap.size,0,none⟩) 1 1) hE.r0 hE.r1;exact bodyPost_ret (v:=.agg #[.slice (some ⟨w'.heap.size,0,none⟩) 1 1,.slice (some ⟨w2.heap.size,0,none⟩) 1 1]) (by simp [results,Tryz.results107,go_sem,q0,q1]) rfl ⟨bJ hE.gr Q5,by rw [HQ.out];exact ⟨_,_,rfl,bp (w:=w) (by simpa using Lb) (by first|omega|(have:=D0.size;simp at this;omega)|(have:=E0.size;simp at this;omega)|(have h1:=D0.size;have h2:=E0.size;simp at h1 h2;omega)),bp (w:=w) (by simpa using Ti) (by first|omega|(have:=D0.size;simp at this;omega)|(have:=E0.size;simp at this;omega)|(have h1:=D0.size;have h2:=E0.size;simp at h1 h2;omega))⟩⟩
 | none=>
  have HX:=aH hx;have HQ:Hid (aj u f ⟨19,(ja:Int),(jb:Int)⟩ st=none):=aH (by rw [J4.out,hx];rfl);clear hx;go_enter Tryz.func107,Tryz.ntmps107
  go_wp2_with fail
  refine (lu HX.out Q5 Q5 _ _ _ _ _ _ _ _ _ _ W _ HS.out.sh (K7.out.trans HB.out.gr)).mono ?_;rintro e w' ⟨D0,rfl⟩;exact ⟨rfl,HB.out.gr.trans D0,by rw [HQ.out]⟩
theorem An(u:aK)(f:aO)(ja jb:Nat)(J2:ja<=65535)(Y0:jb<=65535)(st:List Int)(v1 v2 v3 v4 v5 vs I2:Value)(n a:Int)(W w:World)(hS:Sc W u (f.aF++f.aG) v1 v2 v3 v4 vs)(hW:Gr W w)(T0:aW w I2 st)(I5:f.code.length<=1000000):
 Calls Tryz.prog 107 #[.agg #[v1,v2,v3,v4,v5,vs,.int .i64 (f.code.length:Int),.int .i64 f.result],.agg #[.int .i64 20,.int .i64 (ja:Int),.int .i64 (jb:Int)],I2,.agg #[.int .i64 10,.int .i64 n,.int .i64 a]] w (gO (aj u f ⟨20,(ja:Int),(jb:Int)⟩ st) n a w):=by
 have M4:Hid (∀G4,f.aF++f.aG=G4->aj u f ⟨20,(ja:Int),(jb:Int)⟩ st=some ([0],[])):=aH (fun G4 h=>by subst h;unfold aj dQ;simp);generalize hsl:f.aF++f.aG=sl at hS;have J4:=aH (M4.out sl hsl);clear hsl M4;obtain ⟨a2,c2,rfl⟩:=hS.co;obtain ⟨a1,c1,rfl⟩:=hS.sh.shape;obtain ⟨a3,c3,rfl⟩:=hS.fu.shape;obtain ⟨a4,c4,L6⟩:∃ao cap,v4=.slice ao u.aB.length cap:=by obtain ⟨ao,cap,h,_⟩:=hS.im;exact ⟨ao,cap,h⟩
 subst L6;obtain ⟨al,cs,rfl⟩:=hS.sl.shape;obtain ⟨at_,ct,rfl⟩:=T0.shape;have M7:=hS.l2;have HS:=aH hS;have J7:=aH T0;have K7:=aH hW;have HB:=aH (lw.new w (.slice a1 u.aA.length c1) (.slice a2 u.aD.length c2) (.slice a3 u.aE.length c3) (.slice a4 u.aB.length c4) v5 (.slice al sl.length cs) (.int .i64 (f.code.length:Int)) (.int .i64 f.result) 20 (ja:Int) (jb:Int) n a);unfold lR at HB;clear hS T0
 · have HQ:Hid (aj u f ⟨20,(ja:Int),(jb:Int)⟩ st=some ([0],[])):=aH (by rw [J4.out]);go_enter Tryz.func107,Tryz.ntmps107
   go_wp2_with fail
   refine (a8 _ _).mono ?_;rintro e w2 ⟨rfl,E0⟩;have M6:=E0.cell (bU _ _ _) Q6;have hE:=HB.out.go (((Gr.refl _).alloc _).trans E0);have P3:=hE;obtain ⟨-,R0,s0,s1,s2,s3,s4,s5,s6,s7,i0,i1,i2,y0,y1,y2,r0,r1,z0,z1⟩:=P3;go_wp2_with fail
   rw [cH];obtain ⟨q0,q1⟩:=bq (y0:=.slice (some ⟨w.heap.size+1+1+1+1,0,none⟩) 1 1) (y1:=.slice none 0 0) hE.r0 hE.r1;exact bodyPost_ret (v:=.agg #[.slice (some ⟨w.heap.size+1+1+1+1,0,none⟩) 1 1,.slice none 0 0]) (by simp [results,Tryz.results107,go_sem,q0,q1]) rfl ⟨bJ hE.gr Q5,by rw [HQ.out];exact ⟨_,_,rfl,bp (w:=w) (by simpa using M6) (by first|omega|(have:=D0.size;simp at this;omega)|(have:=E0.size;simp at this;omega)|(have h1:=D0.size;have h2:=E0.size;simp at h1 h2;omega)),bn _⟩⟩
end Go.Proofs.YtkgncijcnlfhiabGreat
