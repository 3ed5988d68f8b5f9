import Derived.Test.YtkgncijcnlfhiaaGreatZ6
namespace Go.Proofs.YtkgncijcnlfhiaaGreat
set_option maxRecDepth 100000
set_option maxHeartbeats 2000000
set_option linter.unusedVariables false
set_option linter.unusedSimpArgs false
open Go.RowKit
attribute [local go_sem ↓] Go.wp_at_zero Go.wp_at_succ
def fd(o:Option (List Int×List Int))(n a:Int)(w:World)(x:Ending)(w':World):Prop:=Gr w w'∧match o with
 | none=>x=.panicked (jM 10 n a)
 | some (ts,ps)=>∃vt vp,x=.returned (.agg #[vt,vp])∧aX w' vt ts∧aX w' vp ps
structure Sc(W:World)(u:aK)(sl:List Int)(v1 v2 v3 v4 vs:Value):Prop where
 sh:bG W v1 u.aA
 co:∃ao cap,v2=.slice ao u.aD.length cap
 fu:cG W v3 u.aE
 im:bK W v4 u.aB
 sl:aX W vs sl
 l2:u.aD.length≤1000000
 l3:u.aE.length≤1000000
 l4:u.aB.length≤1000000
theorem d_{w w1:World}{g o:Nat}{v:Value}(h:Gr w w1)(hg:w.heap.size≤g):Gr w (w1.setCell ⟨g,o,none⟩ v):=
 ⟨h.os,h.tape,h.output,by simpa using h.size,fun i hi hne=>by rw [Below.heap_setCell _ _ _ _ (by show i≠g;omega)];exact h.block i hi hne⟩
def put2(w:World)(g:Nat)(y0 y1:Value):World:=(w.setCell ⟨g,0,none⟩ y0).setCell ⟨g,1,none⟩ y1
theorem cE(w:World)(g:Nat)(y0 y1:Value):(w.setCell ⟨g,0,none⟩ y0).setCell ⟨g,1,none⟩ y1=put2 w g y0 y1:=rfl
theorem bP{w w1:World}{g:Nat}{y0 y1:Value}(h:Gr w w1)(hg:w.heap.size≤g):Gr w (put2 w1 g y0 y1):=d_ (d_ h hg) hg
theorem bo{w:World}{g:Nat}{x0 x1 y0 y1:Value}(h0:w.cell? ⟨g,0,none⟩=some x0)(h1:w.cell? ⟨g,1,none⟩=some x1):(put2 w g y0 y1).cell? ⟨g,0,none⟩=some y0∧(put2 w g y0 y1).cell? ⟨g,1,none⟩=some y1:=by
 unfold put2;refine ⟨?_,World.cell?_setCell_same _ _ _ (u:=x1) ?_⟩
 · rw [World.cell?_setCell_other _ _ _ _ (by intro e;simp at e)];exact World.cell?_setCell_same _ _ _ h0
 · rw [World.cell?_setCell_other _ _ _ _ (by intro e;simp at e)];exact h1
theorem bR{w:World}{g b o:Nat}{y0 y1:Value}(h:¬b=g):(put2 w g y0 y1).cell? ⟨b,o,none⟩=w.cell? ⟨b,o,none⟩:=by
 unfold put2;rw [World.cell?_setCell_other _ _ _ _ (by intro e;simp only [Addr.mk.injEq] at e;exact h e.1.symm),World.cell?_setCell_other _ _ _ _ (by intro e;simp only [Addr.mk.injEq] at e;exact h e.1.symm)]
theorem bl(w:World):aX w (.slice none 0 0) []:=⟨none,0,rfl,by decide,fun i h=>by simp at h⟩
theorem tz{w:World}{b:Nat}{y:Int}(h:w.cell? ⟨b,0,none⟩=some (.int .i64 y)):aX w (.slice (some ⟨b,0,none⟩) 1 1) [y]:=
 ⟨some ⟨b,0,none⟩,1,rfl,by simp [maxLen],fun i hi=>⟨b,0,rfl,by
  obtain rfl:i=0:=by simp at hi;omega
  simpa using h⟩⟩
theorem sq{w:World}{b:Nat}{y z:Int}(h:w.cell? ⟨b,0,none⟩=some (.int .i64 y))(k:w.cell? ⟨b,1,none⟩=some (.int .i64 z)):aX w (.slice (some ⟨b,0,none⟩) 2 2) [y,z]:=
 ⟨some ⟨b,0,none⟩,2,rfl,by simp [maxLen],fun i hi=>⟨b,0,rfl,by
  rcases (show i=0∨i=1 by simp at hi;omega) with rfl|rfl
  · simpa using h
  · simpa using k⟩⟩
def kR(w:World)(x0 x1 x2 x3 x4 x5 x6 x7:Value)(op ia ib n a:Int):World:=(((w.alloc (.cells #[x0,x1,x2,x3,x4,x5,x6,x7] 69)).alloc (.cells #[.int .i64 op,.int .i64 ia,.int .i64 ib] 26)).alloc (.cells #[.int .i64 10,.int .i64 n,.int .i64 a] 58)).alloc (.cells #[.slice none 0 0,.slice none 0 0] 142)
structure ku(w w1:World)(x0 x1 x2 x3 x4 x5 x6 x7:Value)(op ia ib n a:Int):Prop where
 gr:Gr w w1
 sz:w.heap.size+4≤w1.heap.size
 s0:w1.cell? ⟨w.heap.size,0,none⟩=some x0
 s1:w1.cell? ⟨w.heap.size,1,none⟩=some x1
 s2:w1.cell? ⟨w.heap.size,2,none⟩=some x2
 s3:w1.cell? ⟨w.heap.size,3,none⟩=some x3
 s4:w1.cell? ⟨w.heap.size,4,none⟩=some x4
 s5:w1.cell? ⟨w.heap.size,5,none⟩=some x5
 s6:w1.cell? ⟨w.heap.size,6,none⟩=some x6
 s7:w1.cell? ⟨w.heap.size,7,none⟩=some x7
 i0:w1.cell? ⟨w.heap.size+1,0,none⟩=some (.int .i64 op)
 i1:w1.cell? ⟨w.heap.size+1,1,none⟩=some (.int .i64 ia)
 i2:w1.cell? ⟨w.heap.size+1,2,none⟩=some (.int .i64 ib)
 y0:w1.cell? ⟨w.heap.size+1+1,0,none⟩=some (.int .i64 10)
 y1:w1.cell? ⟨w.heap.size+1+1,1,none⟩=some (.int .i64 n)
 y2:w1.cell? ⟨w.heap.size+1+1,2,none⟩=some (.int .i64 a)
 r0:w1.cell? ⟨w.heap.size+1+1+1,0,none⟩=some (.slice none 0 0)
 r1:w1.cell? ⟨w.heap.size+1+1+1,1,none⟩=some (.slice none 0 0)
 z0:w1.frozen? ⟨w.heap.size+1+1+1,0,none⟩=false
 z1:w1.frozen? ⟨w.heap.size+1+1+1,1,none⟩=false
theorem ku.new(w:World)(x0 x1 x2 x3 x4 x5 x6 x7:Value)(op ia ib n a:Int):ku w (kR w x0 x1 x2 x3 x4 x5 x6 x7 op ia ib n a) x0 x1 x2 x3 x4 x5 x6 x7 op ia ib n a:=by
 refine ⟨((((Gr.refl w).alloc _).alloc _).alloc _).alloc _,by simp [kR],?_,?_,?_,?_,?_,?_,?_,?_,?_,?_,?_,?_,?_,?_,?_,?_,?_,?_⟩<;>simp [kR,go_sem]
theorem ku.go{w w1 w2:World}{x0 x1 x2 x3 x4 x5 x6 x7:Value}{op ia ib n a:Int}(h:ku w w1 x0 x1 x2 x3 x4 x5 x6 x7 op ia ib n a)(g:Gr w1 w2):ku w w2 x0 x1 x2 x3 x4 x5 x6 x7 op ia ib n a:=by
 have hf:∀{p:Addr} {x:Value},w1.cell? p=some x→w1.frozen? p=false→w2.frozen? p=false:=fun {p x} hx hz=>(World.frozen?_of_block (g.block p.block (World.block_lt_of_cell? w1 p hx) (by simp))).trans hz
 exact ⟨h.gr.trans g,Nat.le_trans h.sz g.size,g.cell h.s0 (by simp),g.cell h.s1 (by simp),g.cell h.s2 (by simp),g.cell h.s3 (by simp),g.cell h.s4 (by simp),g.cell h.s5 (by simp),g.cell h.s6 (by simp),g.cell h.s7 (by simp),g.cell h.i0 (by simp),g.cell h.i1 (by simp),g.cell h.i2 (by simp),g.cell h.y0 (by simp),g.cell h.y1 (by simp),g.cell h.y2 (by simp),g.cell h.r0 (by simp),g.cell h.r1 (by simp),hf h.r0 h.z0,hf h.r1 h.z1⟩
theorem a8(v:Value)(w:World):Calls Tryz.prog 116 #[v] w fun x w'=>x=.returned v∧Gr w w':=
 (rH v w).mono fun x w' h=>⟨h.1,by rw [h.2];exact Gr.refl _⟩
theorem ad(w:World)(y:Int)(t:TypeId):(w.alloc (.cells #[.int .i64 y] t)).cell? ⟨w.heap.size,0,none⟩=some (.int .i64 y):=by simp [go_sem]
theorem aW(w:World)(y z:Int)(t:TypeId):(w.alloc (.cells #[.int .i64 y,.int .i64 z] t)).cell? ⟨w.heap.size,0,none⟩=some (.int .i64 y)∧(w.alloc (.cells #[.int .i64 y,.int .i64 z] t)).cell? ⟨w.heap.size,1,none⟩=some (.int .i64 z):=by
 constructor<;>simp [go_sem]
theorem pk{sl:List Int}{k:Nat}{y:Int}(h:sl[k]? =some y)(x0 x1 x2 x3 x4 vs x6 x7:Value)(n a:Int)(w:World)(hR:aX w vs sl):
 Calls Tryz.prog 117 #[.agg #[x0,x1,x2,x3,x4,vs,x6,x7],.int .i64 (k:Int),.agg #[.int .i64 10,.int .i64 n,.int .i64 a]] w fun x w'=>x=.returned (.int .i64 y)∧Gr w w':=by
 have:=qA sl k x0 x1 x2 x3 x4 vs x6 x7 n a w hR
 rw [h] at this;exact this
theorem rr{sl:List Int}{k:Nat}(h:sl[k]? =none)(x0 x1 x2 x3 x4 vs x6 x7:Value)(n a:Int)(w:World)(hR:aX w vs sl):
 Calls Tryz.prog 117 #[.agg #[x0,x1,x2,x3,x4,vs,x6,x7],.int .i64 (k:Int),.agg #[.int .i64 10,.int .i64 n,.int .i64 a]] w fun x w'=>x=.panicked (jM 10 n a)∧Gr w w':=by
 have:=qA sl k x0 x1 x2 x3 x4 vs x6 x7 n a w hR
 rw [h] at this;exact this
theorem sH{s:List Int}{y:Int}(h:s.getLast? =some y)(v:Value)(n a:Int)(w:World)(hR:aX w v s):
 Calls Tryz.prog 118 #[v,.agg #[.int .i64 10,.int .i64 n,.int .i64 a]] w fun x w'=>x=.returned (.int .i64 y)∧Gr w w':=by
 have:=sB s v n a w hR
 rw [h] at this;exact this
theorem vQ{s:List Int}(h:s.getLast? =none)(v:Value)(n a:Int)(w:World)(hR:aX w v s):
 Calls Tryz.prog 118 #[v,.agg #[.int .i64 10,.int .i64 n,.int .i64 a]] w fun x w'=>x=.panicked (jM 10 n a)∧Gr w w':=by
 have:=sB s v n a w hR
 rw [h] at this;exact this
theorem nH{u:aK}{i:aw}{y:Int}(h:f9 u i=some y)(ha0:0≤i.a)(ha1:i.a≤65535)(hb0:0≤i.b)(hb1:i.b≤65535)(v1 x1 x2 x3 x4 x5 x6 x7:Value)(n a:Int)(W w:World)(hR:bG W v1 u.aA)(hW:Gr W w):
 Calls Tryz.prog 121 #[.agg #[v1,x1,x2,x3,x4,x5,x6,x7],.agg #[.int .i64 i.op,.int .i64 i.a,.int .i64 i.b],.agg #[.int .i64 10,.int .i64 n,.int .i64 a]] w fun x w'=>x=.returned (.int .i64 y)∧Gr w w':=by
 have:=nM u i ha0 ha1 hb0 hb1 v1 x1 x2 x3 x4 x5 x6 x7 n a W w hR hW
 rw [h] at this;exact this
theorem pT{u:aK}{i:aw}(h:f9 u i=none)(ha0:0≤i.a)(ha1:i.a≤65535)(hb0:0≤i.b)(hb1:i.b≤65535)(v1 x1 x2 x3 x4 x5 x6 x7:Value)(n a:Int)(W w:World)(hR:bG W v1 u.aA)(hW:Gr W w):
 Calls Tryz.prog 121 #[.agg #[v1,x1,x2,x3,x4,x5,x6,x7],.agg #[.int .i64 i.op,.int .i64 i.a,.int .i64 i.b],.agg #[.int .i64 10,.int .i64 n,.int .i64 a]] w fun x w'=>x=.panicked (jM 10 n a)∧Gr w w':=by
 have:=nM u i ha0 ha1 hb0 hb1 v1 x1 x2 x3 x4 x5 x6 x7 n a W w hR hW
 rw [h] at this;exact this
theorem jg{u:aK}{k:Int}{s:List Int}(h:cq u k=some s)(hk0:0≤k)(hk1:k≤65535)(v1 x1 x2 x3 x4 x5 x6 x7:Value)(n a:Int)(W w:World)(hR:bG W v1 u.aA)(hW:Gr W w):
 Calls Tryz.prog 120 #[.agg #[v1,x1,x2,x3,x4,x5,x6,x7],.int .i64 k,.agg #[.int .i64 10,.int .i64 n,.int .i64 a]] w fun x w'=>Gr w w'∧∃v,x=.returned v∧aX W v s:=by
 have:=jh u k hk0 hk1 v1 x1 x2 x3 x4 x5 x6 x7 n a W w hR hW
 rw [h] at this;exact this
theorem kW{u:aK}{k:Int}(h:cq u k=none)(hk0:0≤k)(hk1:k≤65535)(v1 x1 x2 x3 x4 x5 x6 x7:Value)(n a:Int)(W w:World)(hR:bG W v1 u.aA)(hW:Gr W w):
 Calls Tryz.prog 120 #[.agg #[v1,x1,x2,x3,x4,x5,x6,x7],.int .i64 k,.agg #[.int .i64 10,.int .i64 n,.int .i64 a]] w fun x w'=>Gr w w'∧x=.panicked (jM 10 n a):=by
 have:=jh u k hk0 hk1 v1 x1 x2 x3 x4 x5 x6 x7 n a W w hR hW
 rw [h] at this;exact this
theorem oI{u:aK}{k:Nat}{l:List Int}{r:Int}(h:lD u k=some (l,r))(hk1:k≤65535)(x0 x1 v3 v4 x4 x5 x6 x7:Value)(n a:Int)(W w:World)(hF:cG W v3 u.aE)(hI:bK W v4 u.aB)(hW:Gr W w)(hfl:u.aE.length≤1000000)(hil:u.aB.length≤1000000):
 Calls Tryz.prog 119 #[.agg #[x0,x1,v3,v4,x4,x5,x6,x7],.int .i64 (k:Int),.agg #[.int .i64 10,.int .i64 n,.int .i64 a]] w fun x w'=>Gr w w'∧∃v,x=.returned (.tuple #[v,.int .i64 r])∧aX W v l:=by
 have:=kC u k hk1 x0 x1 v3 v4 x4 x5 x6 x7 n a W w hF hI hW hfl hil
 rw [h] at this;exact this
theorem pg{u:aK}{k:Nat}(h:lD u k=none)(hk1:k≤65535)(x0 x1 v3 v4 x4 x5 x6 x7:Value)(n a:Int)(W w:World)(hF:cG W v3 u.aE)(hI:bK W v4 u.aB)(hW:Gr W w)(hfl:u.aE.length≤1000000)(hil:u.aB.length≤1000000):
 Calls Tryz.prog 119 #[.agg #[x0,x1,v3,v4,x4,x5,x6,x7],.int .i64 (k:Int),.agg #[.int .i64 10,.int .i64 n,.int .i64 a]] w fun x w'=>Gr w w'∧x=.panicked (jM 10 n a):=by
 have:=kC u k hk1 x0 x1 v3 v4 x4 x5 x6 x7 n a W w hF hI hW hfl hil
 rw [h] at this;exact this
theorem bn{w w2:World}{g h:Nat}{y:Int}{y0 y1:Value}(hc:w2.cell? ⟨h,0,none⟩=some (.int .i64 y))(hn:¬h=g):aX (put2 w2 g y0 y1) (.slice (some ⟨h,0,none⟩) 1 1) [y]:=tz (by rw [bR hn];exact hc)
theorem eH{w w2:World}{g h:Nat}{y z:Int}{y0 y1:Value}(hc:w2.cell? ⟨h,0,none⟩=some (.int .i64 y))(hd:w2.cell? ⟨h,1,none⟩=some (.int .i64 z))(hn:¬h=g):aX (put2 w2 g y0 y1) (.slice (some ⟨h,0,none⟩) 2 2) [y,z]:=sq (by rw [bR hn];exact hc) (by rw [bR hn];exact hd)
theorem zb(u:aK)(f:aO)(ja jb:Nat)(ha1:ja≤65535)(hb1:jb≤65535)(st:List Int)(v1 v2 v3 v4 v5 vs vst:Value)(n a:Int)(W w:World)(hS:Sc W u (f.aF++f.aG) v1 v2 v3 v4 vs)(hW:Gr W w)(hst:aX w vst st)(hcl:f.code.length≤1000000):
 Calls Tryz.prog 80 #[.agg #[v1,v2,v3,v4,v5,vs,.int .i64 (f.code.length:Int),.int .i64 f.result],.agg #[.int .i64 0,.int .i64 (ja:Int),.int .i64 (jb:Int)],vst,.agg #[.int .i64 10,.int .i64 n,.int .i64 a]] w (fd (A3 u f ⟨0,(ja:Int),(jb:Int)⟩ st) n a w):=by
 have HQ0:Hid (∀sl',f.aF++f.aG=sl'→A3 u f ⟨0,(ja:Int),(jb:Int)⟩ st=if (ja:Int) < (u.aD.length:Int) then some ([],[0]) else none):=aH (fun sl' h=>by subst h;unfold A3 dJ;simp);generalize hsl:f.aF++f.aG=sl at hS;have HQ1:=aH (HQ0.out sl hsl);clear hsl HQ0;obtain ⟨a2,c2,rfl⟩:=hS.co;obtain ⟨a1,c1,rfl⟩:=hS.sh.shape;obtain ⟨a3,c3,rfl⟩:=hS.fu.shape;obtain ⟨a4,c4,hv4⟩:∃ao cap,v4=.slice ao u.aB.length cap:=by obtain ⟨ao,cap,h,_⟩:=hS.im;exact ⟨ao,cap,h⟩
 subst hv4;obtain ⟨al,cs,rfl⟩:=hS.sl.shape;obtain ⟨at_,ct,rfl⟩:=hst.shape;have hl2:=hS.l2;have HS:=aH hS;have HST:=aH hst;have HWW:=aH hW;have HB:=aH (ku.new w (.slice a1 u.aA.length c1) (.slice a2 u.aD.length c2) (.slice a3 u.aE.length c3) (.slice a4 u.aB.length c4) v5 (.slice al sl.length cs) (.int .i64 (f.code.length:Int)) (.int .i64 f.result) 0 (ja:Int) (jb:Int) n a);unfold kR at HB;clear hS hst;by_cases hc:(ja:Int) < (u.aD.length:Int)
 · have HQ:Hid (A3 u f ⟨0,(ja:Int),(jb:Int)⟩ st=some ([],[0])):=aH (by rw [HQ1.out,if_pos hc]);have hd:decide ((ja:Int) < (u.aD.length:Int))=true:=by simpa using hc
   go_enter Tryz.func80,Tryz.ntmps80
   go_wp2_with fail
   refine (bU _ _ _ _).mono ?_;rintro e w' ⟨rfl,hg'⟩;have hE:=HB.out.go hg';have hE':=hE;obtain ⟨-,hsz,s0,s1,s2,s3,s4,s5,s6,s7,i0,i1,i2,y0,y1,y2,r0,r1,z0,z1⟩:=hE';go_wp2_with fail
   refine (a8 _ _).mono ?_;rintro e w2 ⟨rfl,hg2⟩;have hk1:=hg2.cell (ad _ _ _) (by simp);have hE:=hE.go (((Gr.refl _).alloc _).trans hg2);clear hsz s0 s1 s2 s3 s4 s5 s6 s7 i0 i1 i2 y0 y1 y2 r0 r1 z0 z1;have hE':=hE;obtain ⟨-,hsz,s0,s1,s2,s3,s4,s5,s6,s7,i0,i1,i2,y0,y1,y2,r0,r1,z0,z1⟩:=hE';go_wp2_with fail
   rw [cE];obtain ⟨q0,q1⟩:=bo (y0:=.slice none 0 0) (y1:=.slice (some ⟨w'.heap.size,0,none⟩) 1 1) hE.r0 hE.r1;exact bodyPost_ret (v:=.agg #[.slice none 0 0,.slice (some ⟨w'.heap.size,0,none⟩) 1 1]) (by simp [results,Tryz.results80,go_sem,q0,q1]) rfl ⟨bP hE.gr (by omega),by rw [HQ.out];exact ⟨_,_,rfl,bl _,bn (w:=w) (by simpa using hk1) (by first|omega|(have:=hg'.size;simp at this;omega)|(have:=hg2.size;simp at this;omega)|(have h1:=hg'.size;have h2:=hg2.size;simp at h1 h2;omega))⟩⟩
 · have HQ:Hid (A3 u f ⟨0,(ja:Int),(jb:Int)⟩ st=none):=aH (by rw [HQ1.out,if_neg hc]);have hd:decide ((ja:Int) < (u.aD.length:Int))=false:=by simpa using hc
   go_enter Tryz.func80,Tryz.ntmps80
   go_wp2_with fail
   refine (bk _ _ _ _).mono ?_;rintro e w' ⟨rfl,hg'⟩;exact ⟨rfl,HB.out.gr.trans hg',by rw [HQ.out]⟩
theorem zn(u:aK)(f:aO)(ia ib:Int)(st:List Int)(v1 v2 v3 v4 v5 vs vst:Value)(n a:Int)(W w:World)(hS:Sc W u (f.aF++f.aG) v1 v2 v3 v4 vs)(hW:Gr W w)(hst:aX w vst st)(hcl:f.code.length≤1000000):
 Calls Tryz.prog 80 #[.agg #[v1,v2,v3,v4,v5,vs,.int .i64 (f.code.length:Int),.int .i64 f.result],.agg #[.int .i64 1,.int .i64 ia,.int .i64 ib],vst,.agg #[.int .i64 10,.int .i64 n,.int .i64 a]] w (fd (A3 u f ⟨1,ia,ib⟩ st) n a w):=by
 have HQ0:Hid (∀sl',f.aF++f.aG=sl'→A3 u f ⟨1,ia,ib⟩ st=some ([],[0])):=aH (fun sl' h=>by subst h;unfold A3 dJ;simp);generalize hsl:f.aF++f.aG=sl at hS;have HQ1:=aH (HQ0.out sl hsl);clear hsl HQ0;obtain ⟨a2,c2,rfl⟩:=hS.co;obtain ⟨a1,c1,rfl⟩:=hS.sh.shape;obtain ⟨a3,c3,rfl⟩:=hS.fu.shape;obtain ⟨a4,c4,hv4⟩:∃ao cap,v4=.slice ao u.aB.length cap:=by obtain ⟨ao,cap,h,_⟩:=hS.im;exact ⟨ao,cap,h⟩
 subst hv4;obtain ⟨al,cs,rfl⟩:=hS.sl.shape;obtain ⟨at_,ct,rfl⟩:=hst.shape;have hl2:=hS.l2;have HS:=aH hS;have HST:=aH hst;have HWW:=aH hW;have HB:=aH (ku.new w (.slice a1 u.aA.length c1) (.slice a2 u.aD.length c2) (.slice a3 u.aE.length c3) (.slice a4 u.aB.length c4) v5 (.slice al sl.length cs) (.int .i64 (f.code.length:Int)) (.int .i64 f.result) 1 ia ib n a);unfold kR at HB;clear hS hst
 · have HQ:Hid (A3 u f ⟨1,ia,ib⟩ st=some ([],[0])):=aH (by rw [HQ1.out]);go_enter Tryz.func80,Tryz.ntmps80
   go_wp2_with fail
   refine (a8 _ _).mono ?_;rintro e w2 ⟨rfl,hg2⟩;have hk1:=hg2.cell (ad _ _ _) (by simp);have hE:=HB.out.go (((Gr.refl _).alloc _).trans hg2);have hE':=hE;obtain ⟨-,hsz,s0,s1,s2,s3,s4,s5,s6,s7,i0,i1,i2,y0,y1,y2,r0,r1,z0,z1⟩:=hE';go_wp2_with fail
   rw [cE];obtain ⟨q0,q1⟩:=bo (y0:=.slice none 0 0) (y1:=.slice (some ⟨w.heap.size+1+1+1+1,0,none⟩) 1 1) hE.r0 hE.r1;exact bodyPost_ret (v:=.agg #[.slice none 0 0,.slice (some ⟨w.heap.size+1+1+1+1,0,none⟩) 1 1]) (by simp [results,Tryz.results80,go_sem,q0,q1]) rfl ⟨bP hE.gr (by omega),by rw [HQ.out];exact ⟨_,_,rfl,bl _,bn (w:=w) (by simpa using hk1) (by first|omega|(have:=hg'.size;simp at this;omega)|(have:=hg2.size;simp at this;omega)|(have h1:=hg'.size;have h2:=hg2.size;simp at h1 h2;omega))⟩⟩
theorem zm(u:aK)(f:aO)(ja jb:Nat)(ha1:ja≤65535)(hb1:jb≤65535)(st:List Int)(v1 v2 v3 v4 v5 vs vst:Value)(n a:Int)(W w:World)(hS:Sc W u (f.aF++f.aG) v1 v2 v3 v4 vs)(hW:Gr W w)(hst:aX w vst st)(hcl:f.code.length≤1000000):
 Calls Tryz.prog 80 #[.agg #[v1,v2,v3,v4,v5,vs,.int .i64 (f.code.length:Int),.int .i64 f.result],.agg #[.int .i64 2,.int .i64 (ja:Int),.int .i64 (jb:Int)],vst,.agg #[.int .i64 10,.int .i64 n,.int .i64 a]] w (fd (A3 u f ⟨2,(ja:Int),(jb:Int)⟩ st) n a w):=by
 have HQ0:Hid (∀sl',f.aF++f.aG=sl'→A3 u f ⟨2,(ja:Int),(jb:Int)⟩ st=(sl'[ja]?).map fun y=>([],[y])):=aH (fun sl' h=>by subst h;unfold A3 dJ;simp);generalize hsl:f.aF++f.aG=sl at hS;have HQ1:=aH (HQ0.out sl hsl);clear hsl HQ0;obtain ⟨a2,c2,rfl⟩:=hS.co;obtain ⟨a1,c1,rfl⟩:=hS.sh.shape;obtain ⟨a3,c3,rfl⟩:=hS.fu.shape;obtain ⟨a4,c4,hv4⟩:∃ao cap,v4=.slice ao u.aB.length cap:=by obtain ⟨ao,cap,h,_⟩:=hS.im;exact ⟨ao,cap,h⟩
 subst hv4;obtain ⟨al,cs,rfl⟩:=hS.sl.shape;obtain ⟨at_,ct,rfl⟩:=hst.shape;have hl2:=hS.l2;have HS:=aH hS;have HST:=aH hst;have HWW:=aH hW;have HB:=aH (ku.new w (.slice a1 u.aA.length c1) (.slice a2 u.aD.length c2) (.slice a3 u.aE.length c3) (.slice a4 u.aB.length c4) v5 (.slice al sl.length cs) (.int .i64 (f.code.length:Int)) (.int .i64 f.result) 2 (ja:Int) (jb:Int) n a);unfold kR at HB;clear hS hst;cases hx:sl[ja]? with
 | some y=>
  have HX:=aH hx;have HQ:Hid (A3 u f ⟨2,(ja:Int),(jb:Int)⟩ st=some ([],[y])):=aH (by rw [HQ1.out,hx];rfl);clear hx;go_enter Tryz.func80,Tryz.ntmps80
  go_wp2_with fail
  refine (pk HX.out _ _ _ _ _ _ _ _ _ _ _ (HS.out.sl.gr (HWW.out.trans HB.out.gr))).mono ?_;rintro e w' ⟨rfl,hg'⟩;have hE:=HB.out.go hg';have hE':=hE;obtain ⟨-,hsz,s0,s1,s2,s3,s4,s5,s6,s7,i0,i1,i2,y0,y1,y2,r0,r1,z0,z1⟩:=hE';go_wp2_with fail
  refine (a8 _ _).mono ?_;rintro e w2 ⟨rfl,hg2⟩;have hk1:=hg2.cell (ad _ _ _) (by simp);have hE:=hE.go (((Gr.refl _).alloc _).trans hg2);clear hsz s0 s1 s2 s3 s4 s5 s6 s7 i0 i1 i2 y0 y1 y2 r0 r1 z0 z1;have hE':=hE;obtain ⟨-,hsz,s0,s1,s2,s3,s4,s5,s6,s7,i0,i1,i2,y0,y1,y2,r0,r1,z0,z1⟩:=hE';go_wp2_with fail
  rw [cE];obtain ⟨q0,q1⟩:=bo (y0:=.slice none 0 0) (y1:=.slice (some ⟨w'.heap.size,0,none⟩) 1 1) hE.r0 hE.r1;exact bodyPost_ret (v:=.agg #[.slice none 0 0,.slice (some ⟨w'.heap.size,0,none⟩) 1 1]) (by simp [results,Tryz.results80,go_sem,q0,q1]) rfl ⟨bP hE.gr (by omega),by rw [HQ.out];exact ⟨_,_,rfl,bl _,bn (w:=w) (by simpa using hk1) (by first|omega|(have:=hg'.size;simp at this;omega)|(have:=hg2.size;simp at this;omega)|(have h1:=hg'.size;have h2:=hg2.size;simp at h1 h2;omega))⟩⟩
 | none=>
  have HX:=aH hx;have HQ:Hid (A3 u f ⟨2,(ja:Int),(jb:Int)⟩ st=none):=aH (by rw [HQ1.out,hx];rfl);clear hx;go_enter Tryz.func80,Tryz.ntmps80
  go_wp2_with fail
  refine (rr HX.out _ _ _ _ _ _ _ _ _ _ _ (HS.out.sl.gr (HWW.out.trans HB.out.gr))).mono ?_;rintro e w' ⟨rfl,hg'⟩;exact ⟨rfl,HB.out.gr.trans hg',by rw [HQ.out]⟩
theorem AL(u:aK)(f:aO)(ja jb:Nat)(ha1:ja≤65535)(hb1:jb≤65535)(st:List Int)(v1 v2 v3 v4 v5 vs vst:Value)(n a:Int)(W w:World)(hS:Sc W u (f.aF++f.aG) v1 v2 v3 v4 vs)(hW:Gr W w)(hst:aX w vst st)(hcl:f.code.length≤1000000):
 Calls Tryz.prog 80 #[.agg #[v1,v2,v3,v4,v5,vs,.int .i64 (f.code.length:Int),.int .i64 f.result],.agg #[.int .i64 3,.int .i64 (ja:Int),.int .i64 (jb:Int)],vst,.agg #[.int .i64 10,.int .i64 n,.int .i64 a]] w (fd (A3 u f ⟨3,(ja:Int),(jb:Int)⟩ st) n a w):=by
 have HQ0:Hid (∀sl',f.aF++f.aG=sl'→A3 u f ⟨3,(ja:Int),(jb:Int)⟩ st=(sl'[ja]?).map fun y=>([y],[])):=aH (fun sl' h=>by subst h;unfold A3 dJ;simp);generalize hsl:f.aF++f.aG=sl at hS;have HQ1:=aH (HQ0.out sl hsl);clear hsl HQ0;obtain ⟨a2,c2,rfl⟩:=hS.co;obtain ⟨a1,c1,rfl⟩:=hS.sh.shape;obtain ⟨a3,c3,rfl⟩:=hS.fu.shape;obtain ⟨a4,c4,hv4⟩:∃ao cap,v4=.slice ao u.aB.length cap:=by obtain ⟨ao,cap,h,_⟩:=hS.im;exact ⟨ao,cap,h⟩
 subst hv4;obtain ⟨al,cs,rfl⟩:=hS.sl.shape;obtain ⟨at_,ct,rfl⟩:=hst.shape;have hl2:=hS.l2;have HS:=aH hS;have HST:=aH hst;have HWW:=aH hW;have HB:=aH (ku.new w (.slice a1 u.aA.length c1) (.slice a2 u.aD.length c2) (.slice a3 u.aE.length c3) (.slice a4 u.aB.length c4) v5 (.slice al sl.length cs) (.int .i64 (f.code.length:Int)) (.int .i64 f.result) 3 (ja:Int) (jb:Int) n a);unfold kR at HB;clear hS hst;cases hx:sl[ja]? with
 | some y=>
  have HX:=aH hx;have HQ:Hid (A3 u f ⟨3,(ja:Int),(jb:Int)⟩ st=some ([y],[])):=aH (by rw [HQ1.out,hx];rfl);clear hx;go_enter Tryz.func80,Tryz.ntmps80
  go_wp2_with fail
  refine (pk HX.out _ _ _ _ _ _ _ _ _ _ _ (HS.out.sl.gr (HWW.out.trans HB.out.gr))).mono ?_;rintro e w' ⟨rfl,hg'⟩;have hE:=HB.out.go hg';have hE':=hE;obtain ⟨-,hsz,s0,s1,s2,s3,s4,s5,s6,s7,i0,i1,i2,y0,y1,y2,r0,r1,z0,z1⟩:=hE';go_wp2_with fail
  refine (a8 _ _).mono ?_;rintro e w2 ⟨rfl,hg2⟩;have hk1:=hg2.cell (ad _ _ _) (by simp);have hE:=hE.go (((Gr.refl _).alloc _).trans hg2);clear hsz s0 s1 s2 s3 s4 s5 s6 s7 i0 i1 i2 y0 y1 y2 r0 r1 z0 z1;have hE':=hE;obtain ⟨-,hsz,s0,s1,s2,s3,s4,s5,s6,s7,i0,i1,i2,y0,y1,y2,r0,r1,z0,z1⟩:=hE';go_wp2_with fail
  rw [cE];obtain ⟨q0,q1⟩:=bo (y0:=.slice (some ⟨w'.heap.size,0,none⟩) 1 1) (y1:=.slice none 0 0) hE.r0 hE.r1;exact bodyPost_ret (v:=.agg #[.slice (some ⟨w'.heap.size,0,none⟩) 1 1,.slice none 0 0]) (by simp [results,Tryz.results80,go_sem,q0,q1]) rfl ⟨bP hE.gr (by omega),by rw [HQ.out];exact ⟨_,_,rfl,bn (w:=w) (by simpa using hk1) (by first|omega|(have:=hg'.size;simp at this;omega)|(have:=hg2.size;simp at this;omega)|(have h1:=hg'.size;have h2:=hg2.size;simp at h1 h2;omega)),bl _⟩⟩
 | none=>
  have HX:=aH hx;have HQ:Hid (A3 u f ⟨3,(ja:Int),(jb:Int)⟩ st=none):=aH (by rw [HQ1.out,hx];rfl);clear hx;go_enter Tryz.func80,Tryz.ntmps80
  go_wp2_with fail
  refine (rr HX.out _ _ _ _ _ _ _ _ _ _ _ (HS.out.sl.gr (HWW.out.trans HB.out.gr))).mono ?_;rintro e w' ⟨rfl,hg'⟩;exact ⟨rfl,HB.out.gr.trans hg',by rw [HQ.out]⟩
theorem zJ(u:aK)(f:aO)(ja jb:Nat)(ha1:ja≤65535)(hb1:jb≤65535)(st:List Int)(v1 v2 v3 v4 v5 vs vst:Value)(n a:Int)(W w:World)(hS:Sc W u (f.aF++f.aG) v1 v2 v3 v4 vs)(hW:Gr W w)(hst:aX w vst st)(hcl:f.code.length≤1000000):
 Calls Tryz.prog 80 #[.agg #[v1,v2,v3,v4,v5,vs,.int .i64 (f.code.length:Int),.int .i64 f.result],.agg #[.int .i64 4,.int .i64 (ja:Int),.int .i64 (jb:Int)],vst,.agg #[.int .i64 10,.int .i64 n,.int .i64 a]] w (fd (A3 u f ⟨4,(ja:Int),(jb:Int)⟩ st) n a w):=by
 have HQ0:Hid (∀sl',f.aF++f.aG=sl'→A3 u f ⟨4,(ja:Int),(jb:Int)⟩ st=(st.getLast?).map fun y=>([y],[])):=aH (fun sl' h=>by subst h;unfold A3 dJ;simp);generalize hsl:f.aF++f.aG=sl at hS;have HQ1:=aH (HQ0.out sl hsl);clear hsl HQ0;obtain ⟨a2,c2,rfl⟩:=hS.co;obtain ⟨a1,c1,rfl⟩:=hS.sh.shape;obtain ⟨a3,c3,rfl⟩:=hS.fu.shape;obtain ⟨a4,c4,hv4⟩:∃ao cap,v4=.slice ao u.aB.length cap:=by obtain ⟨ao,cap,h,_⟩:=hS.im;exact ⟨ao,cap,h⟩
 subst hv4;obtain ⟨al,cs,rfl⟩:=hS.sl.shape;obtain ⟨at_,ct,rfl⟩:=hst.shape;have hl2:=hS.l2;have HS:=aH hS;have HST:=aH hst;have HWW:=aH hW;have HB:=aH (ku.new w (.slice a1 u.aA.length c1) (.slice a2 u.aD.length c2) (.slice a3 u.aE.length c3) (.slice a4 u.aB.length c4) v5 (.slice al sl.length cs) (.int .i64 (f.code.length:Int)) (.int .i64 f.result) 4 (ja:Int) (jb:Int) n a);unfold kR at HB;clear hS hst;cases hx:st.getLast? with
 | some y=>
  have HX:=aH hx;have HQ:Hid (A3 u f ⟨4,(ja:Int),(jb:Int)⟩ st=some ([y],[])):=aH (by rw [HQ1.out,hx];rfl);clear hx;go_enter Tryz.func80,Tryz.ntmps80
  go_wp2_with fail
  refine (sH HX.out _ _ _ _ (HST.out.gr HB.out.gr)).mono ?_;rintro e w' ⟨rfl,hg'⟩;have hE:=HB.out.go hg';have hE':=hE;obtain ⟨-,hsz,s0,s1,s2,s3,s4,s5,s6,s7,i0,i1,i2,y0,y1,y2,r0,r1,z0,z1⟩:=hE';go_wp2_with fail
  refine (a8 _ _).mono ?_;rintro e w2 ⟨rfl,hg2⟩;have hk1:=hg2.cell (ad _ _ _) (by simp);have hE:=hE.go (((Gr.refl _).alloc _).trans hg2);clear hsz s0 s1 s2 s3 s4 s5 s6 s7 i0 i1 i2 y0 y1 y2 r0 r1 z0 z1;have hE':=hE;obtain ⟨-,hsz,s0,s1,s2,s3,s4,s5,s6,s7,i0,i1,i2,y0,y1,y2,r0,r1,z0,z1⟩:=hE';go_wp2_with fail
  rw [cE];obtain ⟨q0,q1⟩:=bo (y0:=.slice (some ⟨w'.heap.size,0,none⟩) 1 1) (y1:=.slice none 0 0) hE.r0 hE.r1;exact bodyPost_ret (v:=.agg #[.slice (some ⟨w'.heap.size,0,none⟩) 1 1,.slice none 0 0]) (by simp [results,Tryz.results80,go_sem,q0,q1]) rfl ⟨bP hE.gr (by omega),by rw [HQ.out];exact ⟨_,_,rfl,bn (w:=w) (by simpa using hk1) (by first|omega|(have:=hg'.size;simp at this;omega)|(have:=hg2.size;simp at this;omega)|(have h1:=hg'.size;have h2:=hg2.size;simp at h1 h2;omega)),bl _⟩⟩
 | none=>
  have HX:=aH hx;have HQ:Hid (A3 u f ⟨4,(ja:Int),(jb:Int)⟩ st=none):=aH (by rw [HQ1.out,hx];rfl);clear hx;go_enter Tryz.func80,Tryz.ntmps80
  go_wp2_with fail
  refine (vQ HX.out _ _ _ _ (HST.out.gr HB.out.gr)).mono ?_;rintro e w' ⟨rfl,hg'⟩;exact ⟨rfl,HB.out.gr.trans hg',by rw [HQ.out]⟩
theorem AG(u:aK)(f:aO)(ja jb:Nat)(ha1:ja≤65535)(hb1:jb≤65535)(st:List Int)(v1 v2 v3 v4 v5 vs vst:Value)(n a:Int)(W w:World)(hS:Sc W u (f.aF++f.aG) v1 v2 v3 v4 vs)(hW:Gr W w)(hst:aX w vst st)(hcl:f.code.length≤1000000):
 Calls Tryz.prog 80 #[.agg #[v1,v2,v3,v4,v5,vs,.int .i64 (f.code.length:Int),.int .i64 f.result],.agg #[.int .i64 5,.int .i64 (ja:Int),.int .i64 (jb:Int)],vst,.agg #[.int .i64 10,.int .i64 n,.int .i64 a]] w (fd (A3 u f ⟨5,(ja:Int),(jb:Int)⟩ st) n a w):=by
 have HQ0:Hid (∀sl',f.aF++f.aG=sl'→A3 u f ⟨5,(ja:Int),(jb:Int)⟩ st=(st.getLast?).map fun y=>([y],[y,y])):=aH (fun sl' h=>by subst h;unfold A3 dJ;simp);generalize hsl:f.aF++f.aG=sl at hS;have HQ1:=aH (HQ0.out sl hsl);clear hsl HQ0;obtain ⟨a2,c2,rfl⟩:=hS.co;obtain ⟨a1,c1,rfl⟩:=hS.sh.shape;obtain ⟨a3,c3,rfl⟩:=hS.fu.shape;obtain ⟨a4,c4,hv4⟩:∃ao cap,v4=.slice ao u.aB.length cap:=by obtain ⟨ao,cap,h,_⟩:=hS.im;exact ⟨ao,cap,h⟩
 subst hv4;obtain ⟨al,cs,rfl⟩:=hS.sl.shape;obtain ⟨at_,ct,rfl⟩:=hst.shape;have hl2:=hS.l2;have HS:=aH hS;have HST:=aH hst;have HWW:=aH hW;have HB:=aH (ku.new w (.slice a1 u.aA.length c1) (.slice a2 u.aD.length c2) (.slice a3 u.aE.length c3) (.slice a4 u.aB.length c4) v5 (.slice al sl.length cs) (.int .i64 (f.code.length:Int)) (.int .i64 f.result) 5 (ja:Int) (jb:Int) n a);unfold kR at HB;clear hS hst;cases hx:st.getLast? with
 | some y=>
  have HX:=aH hx;have HQ:Hid (A3 u f ⟨5,(ja:Int),(jb:Int)⟩ st=some ([y],[y,y])):=aH (by rw [HQ1.out,hx];rfl);clear hx;go_enter Tryz.func80,Tryz.ntmps80
  go_wp2_with fail
  refine (sH HX.out _ _ _ _ (HST.out.gr HB.out.gr)).mono ?_;rintro e w' ⟨rfl,hg'⟩;have hE:=HB.out.go hg';have hE':=hE;obtain ⟨-,hsz,s0,s1,s2,s3,s4,s5,s6,s7,i0,i1,i2,y0,y1,y2,r0,r1,z0,z1⟩:=hE';go_wp2_with fail
  refine (a8 _ _).mono ?_;rintro e w2 ⟨rfl,hg2⟩;have hk1:=hg2.cell (ad _ _ _) (by simp);have hE:=hE.go (((Gr.refl _).alloc _).trans hg2);clear hsz s0 s1 s2 s3 s4 s5 s6 s7 i0 i1 i2 y0 y1 y2 r0 r1 z0 z1;have hE':=hE;obtain ⟨-,hsz,s0,s1,s2,s3,s4,s5,s6,s7,i0,i1,i2,y0,y1,y2,r0,r1,z0,z1⟩:=hE';go_wp2_with fail
  refine (a8 _ _).mono ?_;rintro e w3 ⟨rfl,hg3⟩;have hj1:=hg3.cell ((World.grownBy_alloc _ _ none).cell hk1 (by simp)) (by simp);have hk3:=hg3.cell (aW _ _ _ _).1 (by simp);have hk4:=hg3.cell (aW _ _ _ _).2 (by simp);have hE:=hE.go (((Gr.refl _).alloc _).trans hg3);clear hsz s0 s1 s2 s3 s4 s5 s6 s7 i0 i1 i2 y0 y1 y2 r0 r1 z0 z1;have hE':=hE;obtain ⟨-,hsz,s0,s1,s2,s3,s4,s5,s6,s7,i0,i1,i2,y0,y1,y2,r0,r1,z0,z1⟩:=hE';go_wp2_with fail
  rw [cE];obtain ⟨q0,q1⟩:=bo (y0:=.slice (some ⟨w'.heap.size,0,none⟩) 1 1) (y1:=.slice (some ⟨w2.heap.size,0,none⟩) 2 2) hE.r0 hE.r1;exact bodyPost_ret (v:=.agg #[.slice (some ⟨w'.heap.size,0,none⟩) 1 1,.slice (some ⟨w2.heap.size,0,none⟩) 2 2]) (by simp [results,Tryz.results80,go_sem,q0,q1]) rfl ⟨bP hE.gr (by omega),by rw [HQ.out];exact ⟨_,_,rfl,bn (w:=w) (by simpa using hj1) (by first|omega|(have:=hg'.size;simp at this;omega)|(have:=hg2.size;simp at this;omega)|(have h1:=hg'.size;have h2:=hg2.size;simp at h1 h2;omega)),eH (w:=w) (by simpa using hk3) (by simpa using hk4) (by first|omega|(have:=hg'.size;simp at this;omega)|(have:=hg2.size;simp at this;omega)|(have h1:=hg'.size;have h2:=hg2.size;simp at h1 h2;omega))⟩⟩
 | none=>
  have HX:=aH hx;have HQ:Hid (A3 u f ⟨5,(ja:Int),(jb:Int)⟩ st=none):=aH (by rw [HQ1.out,hx];rfl);clear hx;go_enter Tryz.func80,Tryz.ntmps80
  go_wp2_with fail
  refine (vQ HX.out _ _ _ _ (HST.out.gr HB.out.gr)).mono ?_;rintro e w' ⟨rfl,hg'⟩;exact ⟨rfl,HB.out.gr.trans hg',by rw [HQ.out]⟩
theorem zR(u:aK)(f:aO)(ja jb:Nat)(ha1:ja≤65535)(hb1:jb≤65535)(st:List Int)(v1 v2 v3 v4 v5 vs vst:Value)(n a:Int)(W w:World)(hS:Sc W u (f.aF++f.aG) v1 v2 v3 v4 vs)(hW:Gr W w)(hst:aX w vst st)(hcl:f.code.length≤1000000):
 Calls Tryz.prog 80 #[.agg #[v1,v2,v3,v4,v5,vs,.int .i64 (f.code.length:Int),.int .i64 f.result],.agg #[.int .i64 6,.int .i64 (ja:Int),.int .i64 (jb:Int)],vst,.agg #[.int .i64 10,.int .i64 n,.int .i64 a]] w (fd (A3 u f ⟨6,(ja:Int),(jb:Int)⟩ st) n a w):=by
 have HQ0:Hid (∀sl',f.aF++f.aG=sl'→A3 u f ⟨6,(ja:Int),(jb:Int)⟩ st=some ([0,0],[0])):=aH (fun sl' h=>by subst h;unfold A3 dJ;simp);generalize hsl:f.aF++f.aG=sl at hS;have HQ1:=aH (HQ0.out sl hsl);clear hsl HQ0;obtain ⟨a2,c2,rfl⟩:=hS.co;obtain ⟨a1,c1,rfl⟩:=hS.sh.shape;obtain ⟨a3,c3,rfl⟩:=hS.fu.shape;obtain ⟨a4,c4,hv4⟩:∃ao cap,v4=.slice ao u.aB.length cap:=by obtain ⟨ao,cap,h,_⟩:=hS.im;exact ⟨ao,cap,h⟩
 subst hv4;obtain ⟨al,cs,rfl⟩:=hS.sl.shape;obtain ⟨at_,ct,rfl⟩:=hst.shape;have hl2:=hS.l2;have HS:=aH hS;have HST:=aH hst;have HWW:=aH hW;have HB:=aH (ku.new w (.slice a1 u.aA.length c1) (.slice a2 u.aD.length c2) (.slice a3 u.aE.length c3) (.slice a4 u.aB.length c4) v5 (.slice al sl.length cs) (.int .i64 (f.code.length:Int)) (.int .i64 f.result) 6 (ja:Int) (jb:Int) n a);unfold kR at HB;clear hS hst
 · have HQ:Hid (A3 u f ⟨6,(ja:Int),(jb:Int)⟩ st=some ([0,0],[0])):=aH (by rw [HQ1.out]);go_enter Tryz.func80,Tryz.ntmps80
   go_wp2_with fail
   refine (a8 _ _).mono ?_;rintro e w2 ⟨rfl,hg2⟩;have hk1:=hg2.cell (aW _ _ _ _).1 (by simp);have hk2:=hg2.cell (aW _ _ _ _).2 (by simp);have hE:=HB.out.go (((Gr.refl _).alloc _).trans hg2);have hE':=hE;obtain ⟨-,hsz,s0,s1,s2,s3,s4,s5,s6,s7,i0,i1,i2,y0,y1,y2,r0,r1,z0,z1⟩:=hE';go_wp2_with fail
   refine (a8 _ _).mono ?_;rintro e w3 ⟨rfl,hg3⟩;have hj1:=hg3.cell ((World.grownBy_alloc _ _ none).cell hk1 (by simp)) (by simp);have hj2:=hg3.cell ((World.grownBy_alloc _ _ none).cell hk2 (by simp)) (by simp);have hk3:=hg3.cell (ad _ _ _) (by simp);have hE:=hE.go (((Gr.refl _).alloc _).trans hg3);clear hsz s0 s1 s2 s3 s4 s5 s6 s7 i0 i1 i2 y0 y1 y2 r0 r1 z0 z1;have hE':=hE;obtain ⟨-,hsz,s0,s1,s2,s3,s4,s5,s6,s7,i0,i1,i2,y0,y1,y2,r0,r1,z0,z1⟩:=hE';go_wp2_with fail
   rw [cE];obtain ⟨q0,q1⟩:=bo (y0:=.slice (some ⟨w.heap.size+1+1+1+1,0,none⟩) 2 2) (y1:=.slice (some ⟨w2.heap.size,0,none⟩) 1 1) hE.r0 hE.r1;exact bodyPost_ret (v:=.agg #[.slice (some ⟨w.heap.size+1+1+1+1,0,none⟩) 2 2,.slice (some ⟨w2.heap.size,0,none⟩) 1 1]) (by simp [results,Tryz.results80,go_sem,q0,q1]) rfl ⟨bP hE.gr (by omega),by rw [HQ.out];exact ⟨_,_,rfl,eH (w:=w) (by simpa using hj1) (by simpa using hj2) (by first|omega|(have:=hg'.size;simp at this;omega)|(have:=hg2.size;simp at this;omega)|(have h1:=hg'.size;have h2:=hg2.size;simp at h1 h2;omega)),bn (w:=w) (by simpa using hk3) (by first|omega|(have:=hg'.size;simp at this;omega)|(have:=hg2.size;simp at this;omega)|(have h1:=hg'.size;have h2:=hg2.size;simp at h1 h2;omega))⟩⟩
theorem zj(u:aK)(f:aO)(ja jb:Nat)(ha1:ja≤65535)(hb1:jb≤65535)(st:List Int)(v1 v2 v3 v4 v5 vs vst:Value)(n a:Int)(W w:World)(hS:Sc W u (f.aF++f.aG) v1 v2 v3 v4 vs)(hW:Gr W w)(hst:aX w vst st)(hcl:f.code.length≤1000000):
 Calls Tryz.prog 80 #[.agg #[v1,v2,v3,v4,v5,vs,.int .i64 (f.code.length:Int),.int .i64 f.result],.agg #[.int .i64 7,.int .i64 (ja:Int),.int .i64 (jb:Int)],vst,.agg #[.int .i64 10,.int .i64 n,.int .i64 a]] w (fd (A3 u f ⟨7,(ja:Int),(jb:Int)⟩ st) n a w):=by
 have HQ0:Hid (∀sl',f.aF++f.aG=sl'→A3 u f ⟨7,(ja:Int),(jb:Int)⟩ st=some ([0,0],[0])):=aH (fun sl' h=>by subst h;unfold A3 dJ;simp);generalize hsl:f.aF++f.aG=sl at hS;have HQ1:=aH (HQ0.out sl hsl);clear hsl HQ0;obtain ⟨a2,c2,rfl⟩:=hS.co;obtain ⟨a1,c1,rfl⟩:=hS.sh.shape;obtain ⟨a3,c3,rfl⟩:=hS.fu.shape;obtain ⟨a4,c4,hv4⟩:∃ao cap,v4=.slice ao u.aB.length cap:=by obtain ⟨ao,cap,h,_⟩:=hS.im;exact ⟨ao,cap,h⟩
 subst hv4;obtain ⟨al,cs,rfl⟩:=hS.sl.shape;obtain ⟨at_,ct,rfl⟩:=hst.shape;have hl2:=hS.l2;have HS:=aH hS;have HST:=aH hst;have HWW:=aH hW;have HB:=aH (ku.new w (.slice a1 u.aA.length c1) (.slice a2 u.aD.length c2) (.slice a3 u.aE.length c3) (.slice a4 u.aB.length c4) v5 (.slice al sl.length cs) (.int .i64 (f.code.length:Int)) (.int .i64 f.result) 7 (ja:Int) (jb:Int) n a);unfold kR at HB;clear hS hst
 · have HQ:Hid (A3 u f ⟨7,(ja:Int),(jb:Int)⟩ st=some ([0,0],[0])):=aH (by rw [HQ1.out]);go_enter Tryz.func80,Tryz.ntmps80
   go_wp2_with fail
   refine (a8 _ _).mono ?_;rintro e w2 ⟨rfl,hg2⟩;have hk1:=hg2.cell (aW _ _ _ _).1 (by simp);have hk2:=hg2.cell (aW _ _ _ _).2 (by simp);have hE:=HB.out.go (((Gr.refl _).alloc _).trans hg2);have hE':=hE;obtain ⟨-,hsz,s0,s1,s2,s3,s4,s5,s6,s7,i0,i1,i2,y0,y1,y2,r0,r1,z0,z1⟩:=hE';go_wp2_with fail
   refine (a8 _ _).mono ?_;rintro e w3 ⟨rfl,hg3⟩;have hj1:=hg3.cell ((World.grownBy_alloc _ _ none).cell hk1 (by simp)) (by simp);have hj2:=hg3.cell ((World.grownBy_alloc _ _ none).cell hk2 (by simp)) (by simp);have hk3:=hg3.cell (ad _ _ _) (by simp);have hE:=hE.go (((Gr.refl _).alloc _).trans hg3);clear hsz s0 s1 s2 s3 s4 s5 s6 s7 i0 i1 i2 y0 y1 y2 r0 r1 z0 z1;have hE':=hE;obtain ⟨-,hsz,s0,s1,s2,s3,s4,s5,s6,s7,i0,i1,i2,y0,y1,y2,r0,r1,z0,z1⟩:=hE';go_wp2_with fail
   rw [cE];obtain ⟨q0,q1⟩:=bo (y0:=.slice (some ⟨w.heap.size+1+1+1+1,0,none⟩) 2 2) (y1:=.slice (some ⟨w2.heap.size,0,none⟩) 1 1) hE.r0 hE.r1;exact bodyPost_ret (v:=.agg #[.slice (some ⟨w.heap.size+1+1+1+1,0,none⟩) 2 2,.slice (some ⟨w2.heap.size,0,none⟩) 1 1]) (by simp [results,Tryz.results80,go_sem,q0,q1]) rfl ⟨bP hE.gr (by omega),by rw [HQ.out];exact ⟨_,_,rfl,eH (w:=w) (by simpa using hj1) (by simpa using hj2) (by first|omega|(have:=hg'.size;simp at this;omega)|(have:=hg2.size;simp at this;omega)|(have h1:=hg'.size;have h2:=hg2.size;simp at h1 h2;omega)),bn (w:=w) (by simpa using hk3) (by first|omega|(have:=hg'.size;simp at this;omega)|(have:=hg2.size;simp at this;omega)|(have h1:=hg'.size;have h2:=hg2.size;simp at h1 h2;omega))⟩⟩
theorem AB(u:aK)(f:aO)(ja jb:Nat)(ha1:ja≤65535)(hb1:jb≤65535)(st:List Int)(v1 v2 v3 v4 v5 vs vst:Value)(n a:Int)(W w:World)(hS:Sc W u (f.aF++f.aG) v1 v2 v3 v4 vs)(hW:Gr W w)(hst:aX w vst st)(hcl:f.code.length≤1000000):
 Calls Tryz.prog 80 #[.agg #[v1,v2,v3,v4,v5,vs,.int .i64 (f.code.length:Int),.int .i64 f.result],.agg #[.int .i64 8,.int .i64 (ja:Int),.int .i64 (jb:Int)],vst,.agg #[.int .i64 10,.int .i64 n,.int .i64 a]] w (fd (A3 u f ⟨8,(ja:Int),(jb:Int)⟩ st) n a w):=by
 have HQ0:Hid (∀sl',f.aF++f.aG=sl'→A3 u f ⟨8,(ja:Int),(jb:Int)⟩ st=some ([0,0],[0])):=aH (fun sl' h=>by subst h;unfold A3 dJ;simp);generalize hsl:f.aF++f.aG=sl at hS;have HQ1:=aH (HQ0.out sl hsl);clear hsl HQ0;obtain ⟨a2,c2,rfl⟩:=hS.co;obtain ⟨a1,c1,rfl⟩:=hS.sh.shape;obtain ⟨a3,c3,rfl⟩:=hS.fu.shape;obtain ⟨a4,c4,hv4⟩:∃ao cap,v4=.slice ao u.aB.length cap:=by obtain ⟨ao,cap,h,_⟩:=hS.im;exact ⟨ao,cap,h⟩
 subst hv4;obtain ⟨al,cs,rfl⟩:=hS.sl.shape;obtain ⟨at_,ct,rfl⟩:=hst.shape;have hl2:=hS.l2;have HS:=aH hS;have HST:=aH hst;have HWW:=aH hW;have HB:=aH (ku.new w (.slice a1 u.aA.length c1) (.slice a2 u.aD.length c2) (.slice a3 u.aE.length c3) (.slice a4 u.aB.length c4) v5 (.slice al sl.length cs) (.int .i64 (f.code.length:Int)) (.int .i64 f.result) 8 (ja:Int) (jb:Int) n a);unfold kR at HB;clear hS hst
 · have HQ:Hid (A3 u f ⟨8,(ja:Int),(jb:Int)⟩ st=some ([0,0],[0])):=aH (by rw [HQ1.out]);go_enter Tryz.func80,Tryz.ntmps80
   go_wp2_with fail
   refine (a8 _ _).mono ?_;rintro e w2 ⟨rfl,hg2⟩;have hk1:=hg2.cell (aW _ _ _ _).1 (by simp);have hk2:=hg2.cell (aW _ _ _ _).2 (by simp);have hE:=HB.out.go (((Gr.refl _).alloc _).trans hg2);have hE':=hE;obtain ⟨-,hsz,s0,s1,s2,s3,s4,s5,s6,s7,i0,i1,i2,y0,y1,y2,r0,r1,z0,z1⟩:=hE';go_wp2_with fail
   refine (a8 _ _).mono ?_;rintro e w3 ⟨rfl,hg3⟩;have hj1:=hg3.cell ((World.grownBy_alloc _ _ none).cell hk1 (by simp)) (by simp);have hj2:=hg3.cell ((World.grownBy_alloc _ _ none).cell hk2 (by simp)) (by simp);have hk3:=hg3.cell (ad _ _ _) (by simp);have hE:=hE.go (((Gr.refl _).alloc _).trans hg3);clear hsz s0 s1 s2 s3 s4 s5 s6 s7 i0 i1 i2 y0 y1 y2 r0 r1 z0 z1;have hE':=hE;obtain ⟨-,hsz,s0,s1,s2,s3,s4,s5,s6,s7,i0,i1,i2,y0,y1,y2,r0,r1,z0,z1⟩:=hE';go_wp2_with fail
   rw [cE];obtain ⟨q0,q1⟩:=bo (y0:=.slice (some ⟨w.heap.size+1+1+1+1,0,none⟩) 2 2) (y1:=.slice (some ⟨w2.heap.size,0,none⟩) 1 1) hE.r0 hE.r1;exact bodyPost_ret (v:=.agg #[.slice (some ⟨w.heap.size+1+1+1+1,0,none⟩) 2 2,.slice (some ⟨w2.heap.size,0,none⟩) 1 1]) (by simp [results,Tryz.results80,go_sem,q0,q1]) rfl ⟨bP hE.gr (by omega),by rw [HQ.out];exact ⟨_,_,rfl,eH (w:=w) (by simpa using hj1) (by simpa using hj2) (by first|omega|(have:=hg'.size;simp at this;omega)|(have:=hg2.size;simp at this;omega)|(have h1:=hg'.size;have h2:=hg2.size;simp at h1 h2;omega)),bn (w:=w) (by simpa using hk3) (by first|omega|(have:=hg'.size;simp at this;omega)|(have:=hg2.size;simp at this;omega)|(have h1:=hg'.size;have h2:=hg2.size;simp at h1 h2;omega))⟩⟩
theorem zX(u:aK)(f:aO)(ja jb:Nat)(ha1:ja≤65535)(hb1:jb≤65535)(st:List Int)(v1 v2 v3 v4 v5 vs vst:Value)(n a:Int)(W w:World)(hS:Sc W u (f.aF++f.aG) v1 v2 v3 v4 vs)(hW:Gr W w)(hst:aX w vst st)(hcl:f.code.length≤1000000):
 Calls Tryz.prog 80 #[.agg #[v1,v2,v3,v4,v5,vs,.int .i64 (f.code.length:Int),.int .i64 f.result],.agg #[.int .i64 9,.int .i64 (ja:Int),.int .i64 (jb:Int)],vst,.agg #[.int .i64 10,.int .i64 n,.int .i64 a]] w (fd (A3 u f ⟨9,(ja:Int),(jb:Int)⟩ st) n a w):=by
 have HQ0:Hid (∀sl',f.aF++f.aG=sl'→A3 u f ⟨9,(ja:Int),(jb:Int)⟩ st=some ([0,0],[0])):=aH (fun sl' h=>by subst h;unfold A3 dJ;simp);generalize hsl:f.aF++f.aG=sl at hS;have HQ1:=aH (HQ0.out sl hsl);clear hsl HQ0;obtain ⟨a2,c2,rfl⟩:=hS.co;obtain ⟨a1,c1,rfl⟩:=hS.sh.shape;obtain ⟨a3,c3,rfl⟩:=hS.fu.shape;obtain ⟨a4,c4,hv4⟩:∃ao cap,v4=.slice ao u.aB.length cap:=by obtain ⟨ao,cap,h,_⟩:=hS.im;exact ⟨ao,cap,h⟩
 subst hv4;obtain ⟨al,cs,rfl⟩:=hS.sl.shape;obtain ⟨at_,ct,rfl⟩:=hst.shape;have hl2:=hS.l2;have HS:=aH hS;have HST:=aH hst;have HWW:=aH hW;have HB:=aH (ku.new w (.slice a1 u.aA.length c1) (.slice a2 u.aD.length c2) (.slice a3 u.aE.length c3) (.slice a4 u.aB.length c4) v5 (.slice al sl.length cs) (.int .i64 (f.code.length:Int)) (.int .i64 f.result) 9 (ja:Int) (jb:Int) n a);unfold kR at HB;clear hS hst
 · have HQ:Hid (A3 u f ⟨9,(ja:Int),(jb:Int)⟩ st=some ([0,0],[0])):=aH (by rw [HQ1.out]);go_enter Tryz.func80,Tryz.ntmps80
   go_wp2_with fail
   refine (a8 _ _).mono ?_;rintro e w2 ⟨rfl,hg2⟩;have hk1:=hg2.cell (aW _ _ _ _).1 (by simp);have hk2:=hg2.cell (aW _ _ _ _).2 (by simp);have hE:=HB.out.go (((Gr.refl _).alloc _).trans hg2);have hE':=hE;obtain ⟨-,hsz,s0,s1,s2,s3,s4,s5,s6,s7,i0,i1,i2,y0,y1,y2,r0,r1,z0,z1⟩:=hE';go_wp2_with fail
   refine (a8 _ _).mono ?_;rintro e w3 ⟨rfl,hg3⟩;have hj1:=hg3.cell ((World.grownBy_alloc _ _ none).cell hk1 (by simp)) (by simp);have hj2:=hg3.cell ((World.grownBy_alloc _ _ none).cell hk2 (by simp)) (by simp);have hk3:=hg3.cell (ad _ _ _) (by simp);have hE:=hE.go (((Gr.refl _).alloc _).trans hg3);clear hsz s0 s1 s2 s3 s4 s5 s6 s7 i0 i1 i2 y0 y1 y2 r0 r1 z0 z1;have hE':=hE;obtain ⟨-,hsz,s0,s1,s2,s3,s4,s5,s6,s7,i0,i1,i2,y0,y1,y2,r0,r1,z0,z1⟩:=hE';go_wp2_with fail
   rw [cE];obtain ⟨q0,q1⟩:=bo (y0:=.slice (some ⟨w.heap.size+1+1+1+1,0,none⟩) 2 2) (y1:=.slice (some ⟨w2.heap.size,0,none⟩) 1 1) hE.r0 hE.r1;exact bodyPost_ret (v:=.agg #[.slice (some ⟨w.heap.size+1+1+1+1,0,none⟩) 2 2,.slice (some ⟨w2.heap.size,0,none⟩) 1 1]) (by simp [results,Tryz.results80,go_sem,q0,q1]) rfl ⟨bP hE.gr (by omega),by rw [HQ.out];exact ⟨_,_,rfl,eH (w:=w) (by simpa using hj1) (by simpa using hj2) (by first|omega|(have:=hg'.size;simp at this;omega)|(have:=hg2.size;simp at this;omega)|(have h1:=hg'.size;have h2:=hg2.size;simp at h1 h2;omega)),bn (w:=w) (by simpa using hk3) (by first|omega|(have:=hg'.size;simp at this;omega)|(have:=hg2.size;simp at this;omega)|(have h1:=hg'.size;have h2:=hg2.size;simp at h1 h2;omega))⟩⟩
theorem yk(u:aK)(f:aO)(ja jb:Nat)(ha1:ja≤65535)(hb1:jb≤65535)(st:List Int)(v1 v2 v3 v4 v5 vs vst:Value)(n a:Int)(W w:World)(hS:Sc W u (f.aF++f.aG) v1 v2 v3 v4 vs)(hW:Gr W w)(hst:aX w vst st)(hcl:f.code.length≤1000000):
 Calls Tryz.prog 80 #[.agg #[v1,v2,v3,v4,v5,vs,.int .i64 (f.code.length:Int),.int .i64 f.result],.agg #[.int .i64 10,.int .i64 (ja:Int),.int .i64 (jb:Int)],vst,.agg #[.int .i64 10,.int .i64 n,.int .i64 a]] w (fd (A3 u f ⟨10,(ja:Int),(jb:Int)⟩ st) n a w):=by
 have HQ0:Hid (∀sl',f.aF++f.aG=sl'→A3 u f ⟨10,(ja:Int),(jb:Int)⟩ st=some ([0,0],[0])):=aH (fun sl' h=>by subst h;unfold A3 dJ;simp);generalize hsl:f.aF++f.aG=sl at hS;have HQ1:=aH (HQ0.out sl hsl);clear hsl HQ0;obtain ⟨a2,c2,rfl⟩:=hS.co;obtain ⟨a1,c1,rfl⟩:=hS.sh.shape;obtain ⟨a3,c3,rfl⟩:=hS.fu.shape;obtain ⟨a4,c4,hv4⟩:∃ao cap,v4=.slice ao u.aB.length cap:=by obtain ⟨ao,cap,h,_⟩:=hS.im;exact ⟨ao,cap,h⟩
 subst hv4;obtain ⟨al,cs,rfl⟩:=hS.sl.shape;obtain ⟨at_,ct,rfl⟩:=hst.shape;have hl2:=hS.l2;have HS:=aH hS;have HST:=aH hst;have HWW:=aH hW;have HB:=aH (ku.new w (.slice a1 u.aA.length c1) (.slice a2 u.aD.length c2) (.slice a3 u.aE.length c3) (.slice a4 u.aB.length c4) v5 (.slice al sl.length cs) (.int .i64 (f.code.length:Int)) (.int .i64 f.result) 10 (ja:Int) (jb:Int) n a);unfold kR at HB;clear hS hst
 · have HQ:Hid (A3 u f ⟨10,(ja:Int),(jb:Int)⟩ st=some ([0,0],[0])):=aH (by rw [HQ1.out]);go_enter Tryz.func80,Tryz.ntmps80
   go_wp2_with fail
   refine (a8 _ _).mono ?_;rintro e w2 ⟨rfl,hg2⟩;have hk1:=hg2.cell (aW _ _ _ _).1 (by simp);have hk2:=hg2.cell (aW _ _ _ _).2 (by simp);have hE:=HB.out.go (((Gr.refl _).alloc _).trans hg2);have hE':=hE;obtain ⟨-,hsz,s0,s1,s2,s3,s4,s5,s6,s7,i0,i1,i2,y0,y1,y2,r0,r1,z0,z1⟩:=hE';go_wp2_with fail
   refine (a8 _ _).mono ?_;rintro e w3 ⟨rfl,hg3⟩;have hj1:=hg3.cell ((World.grownBy_alloc _ _ none).cell hk1 (by simp)) (by simp);have hj2:=hg3.cell ((World.grownBy_alloc _ _ none).cell hk2 (by simp)) (by simp);have hk3:=hg3.cell (ad _ _ _) (by simp);have hE:=hE.go (((Gr.refl _).alloc _).trans hg3);clear hsz s0 s1 s2 s3 s4 s5 s6 s7 i0 i1 i2 y0 y1 y2 r0 r1 z0 z1;have hE':=hE;obtain ⟨-,hsz,s0,s1,s2,s3,s4,s5,s6,s7,i0,i1,i2,y0,y1,y2,r0,r1,z0,z1⟩:=hE';go_wp2_with fail
   rw [cE];obtain ⟨q0,q1⟩:=bo (y0:=.slice (some ⟨w.heap.size+1+1+1+1,0,none⟩) 2 2) (y1:=.slice (some ⟨w2.heap.size,0,none⟩) 1 1) hE.r0 hE.r1;exact bodyPost_ret (v:=.agg #[.slice (some ⟨w.heap.size+1+1+1+1,0,none⟩) 2 2,.slice (some ⟨w2.heap.size,0,none⟩) 1 1]) (by simp [results,Tryz.results80,go_sem,q0,q1]) rfl ⟨bP hE.gr (by omega),by rw [HQ.out];exact ⟨_,_,rfl,eH (w:=w) (by simpa using hj1) (by simpa using hj2) (by first|omega|(have:=hg'.size;simp at this;omega)|(have:=hg2.size;simp at this;omega)|(have h1:=hg'.size;have h2:=hg2.size;simp at h1 h2;omega)),bn (w:=w) (by simpa using hk3) (by first|omega|(have:=hg'.size;simp at this;omega)|(have:=hg2.size;simp at this;omega)|(have h1:=hg'.size;have h2:=hg2.size;simp at h1 h2;omega))⟩⟩
theorem yv(u:aK)(f:aO)(ja jb:Nat)(ha1:ja≤65535)(hb1:jb≤65535)(st:List Int)(v1 v2 v3 v4 v5 vs vst:Value)(n a:Int)(W w:World)(hS:Sc W u (f.aF++f.aG) v1 v2 v3 v4 vs)(hW:Gr W w)(hst:aX w vst st)(hcl:f.code.length≤1000000):
 Calls Tryz.prog 80 #[.agg #[v1,v2,v3,v4,v5,vs,.int .i64 (f.code.length:Int),.int .i64 f.result],.agg #[.int .i64 11,.int .i64 (ja:Int),.int .i64 (jb:Int)],vst,.agg #[.int .i64 10,.int .i64 n,.int .i64 a]] w (fd (A3 u f ⟨11,(ja:Int),(jb:Int)⟩ st) n a w):=by
 have HQ0:Hid (∀sl',f.aF++f.aG=sl'→A3 u f ⟨11,(ja:Int),(jb:Int)⟩ st=if (ja:Int) < (f.code.length:Int) then some ([],[]) else none):=aH (fun sl' h=>by subst h;unfold A3 dJ;simp);generalize hsl:f.aF++f.aG=sl at hS;have HQ1:=aH (HQ0.out sl hsl);clear hsl HQ0;obtain ⟨a2,c2,rfl⟩:=hS.co;obtain ⟨a1,c1,rfl⟩:=hS.sh.shape;obtain ⟨a3,c3,rfl⟩:=hS.fu.shape;obtain ⟨a4,c4,hv4⟩:∃ao cap,v4=.slice ao u.aB.length cap:=by obtain ⟨ao,cap,h,_⟩:=hS.im;exact ⟨ao,cap,h⟩
 subst hv4;obtain ⟨al,cs,rfl⟩:=hS.sl.shape;obtain ⟨at_,ct,rfl⟩:=hst.shape;have hl2:=hS.l2;have HS:=aH hS;have HST:=aH hst;have HWW:=aH hW;have HB:=aH (ku.new w (.slice a1 u.aA.length c1) (.slice a2 u.aD.length c2) (.slice a3 u.aE.length c3) (.slice a4 u.aB.length c4) v5 (.slice al sl.length cs) (.int .i64 (f.code.length:Int)) (.int .i64 f.result) 11 (ja:Int) (jb:Int) n a);unfold kR at HB;clear hS hst;by_cases hc:(ja:Int) < (f.code.length:Int)
 · have HQ:Hid (A3 u f ⟨11,(ja:Int),(jb:Int)⟩ st=some ([],[])):=aH (by rw [HQ1.out,if_pos hc]);have hd:decide ((ja:Int) < (f.code.length:Int))=true:=by simpa using hc
   go_enter Tryz.func80,Tryz.ntmps80
   go_wp2_with fail
   refine (bU _ _ _ _).mono ?_;rintro e w' ⟨rfl,hg'⟩;have hE:=HB.out.go hg';have hE':=hE;obtain ⟨-,hsz,s0,s1,s2,s3,s4,s5,s6,s7,i0,i1,i2,y0,y1,y2,r0,r1,z0,z1⟩:=hE';go_wp2_with fail
   rw [cE];obtain ⟨q0,q1⟩:=bo (y0:=.slice none 0 0) (y1:=.slice none 0 0) hE.r0 hE.r1;exact bodyPost_ret (v:=.agg #[.slice none 0 0,.slice none 0 0]) (by simp [results,Tryz.results80,go_sem,q0,q1]) rfl ⟨bP hE.gr (by omega),by rw [HQ.out];exact ⟨_,_,rfl,bl _,bl _⟩⟩
 · have HQ:Hid (A3 u f ⟨11,(ja:Int),(jb:Int)⟩ st=none):=aH (by rw [HQ1.out,if_neg hc]);have hd:decide ((ja:Int) < (f.code.length:Int))=false:=by simpa using hc
   go_enter Tryz.func80,Tryz.ntmps80
   go_wp2_with fail
   refine (bk _ _ _ _).mono ?_;rintro e w' ⟨rfl,hg'⟩;exact ⟨rfl,HB.out.gr.trans hg',by rw [HQ.out]⟩
theorem yT(u:aK)(f:aO)(ja jb:Nat)(ha1:ja≤65535)(hb1:jb≤65535)(st:List Int)(v1 v2 v3 v4 v5 vs vst:Value)(n a:Int)(W w:World)(hS:Sc W u (f.aF++f.aG) v1 v2 v3 v4 vs)(hW:Gr W w)(hst:aX w vst st)(hcl:f.code.length≤1000000):
 Calls Tryz.prog 80 #[.agg #[v1,v2,v3,v4,v5,vs,.int .i64 (f.code.length:Int),.int .i64 f.result],.agg #[.int .i64 12,.int .i64 (ja:Int),.int .i64 (jb:Int)],vst,.agg #[.int .i64 10,.int .i64 n,.int .i64 a]] w (fd (A3 u f ⟨12,(ja:Int),(jb:Int)⟩ st) n a w):=by
 have HQ0:Hid (∀sl',f.aF++f.aG=sl'→A3 u f ⟨12,(ja:Int),(jb:Int)⟩ st=if (ja:Int) < (f.code.length:Int) then some ([0],[]) else none):=aH (fun sl' h=>by subst h;unfold A3 dJ;simp);generalize hsl:f.aF++f.aG=sl at hS;have HQ1:=aH (HQ0.out sl hsl);clear hsl HQ0;obtain ⟨a2,c2,rfl⟩:=hS.co;obtain ⟨a1,c1,rfl⟩:=hS.sh.shape;obtain ⟨a3,c3,rfl⟩:=hS.fu.shape;obtain ⟨a4,c4,hv4⟩:∃ao cap,v4=.slice ao u.aB.length cap:=by obtain ⟨ao,cap,h,_⟩:=hS.im;exact ⟨ao,cap,h⟩
 subst hv4;obtain ⟨al,cs,rfl⟩:=hS.sl.shape;obtain ⟨at_,ct,rfl⟩:=hst.shape;have hl2:=hS.l2;have HS:=aH hS;have HST:=aH hst;have HWW:=aH hW;have HB:=aH (ku.new w (.slice a1 u.aA.length c1) (.slice a2 u.aD.length c2) (.slice a3 u.aE.length c3) (.slice a4 u.aB.length c4) v5 (.slice al sl.length cs) (.int .i64 (f.code.length:Int)) (.int .i64 f.result) 12 (ja:Int) (jb:Int) n a);unfold kR at HB;clear hS hst;by_cases hc:(ja:Int) < (f.code.length:Int)
 · have HQ:Hid (A3 u f ⟨12,(ja:Int),(jb:Int)⟩ st=some ([0],[])):=aH (by rw [HQ1.out,if_pos hc]);have hd:decide ((ja:Int) < (f.code.length:Int))=true:=by simpa using hc
   go_enter Tryz.func80,Tryz.ntmps80
   go_wp2_with fail
   refine (bU _ _ _ _).mono ?_;rintro e w' ⟨rfl,hg'⟩;have hE:=HB.out.go hg';have hE':=hE;obtain ⟨-,hsz,s0,s1,s2,s3,s4,s5,s6,s7,i0,i1,i2,y0,y1,y2,r0,r1,z0,z1⟩:=hE';go_wp2_with fail
   refine (a8 _ _).mono ?_;rintro e w2 ⟨rfl,hg2⟩;have hk1:=hg2.cell (ad _ _ _) (by simp);have hE:=hE.go (((Gr.refl _).alloc _).trans hg2);clear hsz s0 s1 s2 s3 s4 s5 s6 s7 i0 i1 i2 y0 y1 y2 r0 r1 z0 z1;have hE':=hE;obtain ⟨-,hsz,s0,s1,s2,s3,s4,s5,s6,s7,i0,i1,i2,y0,y1,y2,r0,r1,z0,z1⟩:=hE';go_wp2_with fail
   rw [cE];obtain ⟨q0,q1⟩:=bo (y0:=.slice (some ⟨w'.heap.size,0,none⟩) 1 1) (y1:=.slice none 0 0) hE.r0 hE.r1;exact bodyPost_ret (v:=.agg #[.slice (some ⟨w'.heap.size,0,none⟩) 1 1,.slice none 0 0]) (by simp [results,Tryz.results80,go_sem,q0,q1]) rfl ⟨bP hE.gr (by omega),by rw [HQ.out];exact ⟨_,_,rfl,bn (w:=w) (by simpa using hk1) (by first|omega|(have:=hg'.size;simp at this;omega)|(have:=hg2.size;simp at this;omega)|(have h1:=hg'.size;have h2:=hg2.size;simp at h1 h2;omega)),bl _⟩⟩
 · have HQ:Hid (A3 u f ⟨12,(ja:Int),(jb:Int)⟩ st=none):=aH (by rw [HQ1.out,if_neg hc]);have hd:decide ((ja:Int) < (f.code.length:Int))=false:=by simpa using hc
   go_enter Tryz.func80,Tryz.ntmps80
   go_wp2_with fail
   refine (bk _ _ _ _).mono ?_;rintro e w' ⟨rfl,hg'⟩;exact ⟨rfl,HB.out.gr.trans hg',by rw [HQ.out]⟩
theorem zD(u:aK)(f:aO)(ja jb:Nat)(ha1:ja≤65535)(hb1:jb≤65535)(st:List Int)(v1 v2 v3 v4 v5 vs vst:Value)(n a:Int)(W w:World)(hS:Sc W u (f.aF++f.aG) v1 v2 v3 v4 vs)(hW:Gr W w)(hst:aX w vst st)(hcl:f.code.length≤1000000):
 Calls Tryz.prog 80 #[.agg #[v1,v2,v3,v4,v5,vs,.int .i64 (f.code.length:Int),.int .i64 f.result],.agg #[.int .i64 13,.int .i64 (ja:Int),.int .i64 (jb:Int)],vst,.agg #[.int .i64 10,.int .i64 n,.int .i64 a]] w (fd (A3 u f ⟨13,(ja:Int),(jb:Int)⟩ st) n a w):=by
 have HQ0:Hid (∀sl',f.aF++f.aG=sl'→A3 u f ⟨13,(ja:Int),(jb:Int)⟩ st=(lD u ja).map fun p=>(p.1,[p.2])):=aH (fun sl' h=>by subst h;unfold A3 dJ;simp;unfold lD;cases u.aE[ja]? with|some g=>simp|none=>cases u.aB[ja - u.aE.length]?<;>simp)
 generalize hsl:f.aF++f.aG=sl at hS;have HQ1:=aH (HQ0.out sl hsl);clear hsl HQ0;obtain ⟨a2,c2,rfl⟩:=hS.co;obtain ⟨a1,c1,rfl⟩:=hS.sh.shape;obtain ⟨a3,c3,rfl⟩:=hS.fu.shape;obtain ⟨a4,c4,hv4⟩:∃ao cap,v4=.slice ao u.aB.length cap:=by obtain ⟨ao,cap,h,_⟩:=hS.im;exact ⟨ao,cap,h⟩
 subst hv4;obtain ⟨al,cs,rfl⟩:=hS.sl.shape;obtain ⟨at_,ct,rfl⟩:=hst.shape;have hl2:=hS.l2;have HS:=aH hS;have HST:=aH hst;have HWW:=aH hW;have HB:=aH (ku.new w (.slice a1 u.aA.length c1) (.slice a2 u.aD.length c2) (.slice a3 u.aE.length c3) (.slice a4 u.aB.length c4) v5 (.slice al sl.length cs) (.int .i64 (f.code.length:Int)) (.int .i64 f.result) 13 (ja:Int) (jb:Int) n a);unfold kR at HB;clear hS hst;cases hx:lD u ja with
 | some p=>
  have HX:=aH hx;have HQ:Hid (A3 u f ⟨13,(ja:Int),(jb:Int)⟩ st=some (p.1,[p.2])):=aH (by rw [HQ1.out,hx];rfl);clear hx;go_enter Tryz.func80,Tryz.ntmps80
  go_wp2_with fail
  refine (oI HX.out ha1 _ _ _ _ _ _ _ _ _ _ W _ HS.out.fu HS.out.im (HWW.out.trans HB.out.gr) HS.out.l3 HS.out.l4).mono ?_;rintro e w' ⟨hg',v,rfl,hrv⟩;obtain ⟨av,cv,rfl⟩:=hrv.shape;have HRV:=aH hrv;clear hrv;have hE:=HB.out.go hg';have hE':=hE;obtain ⟨-,hsz,s0,s1,s2,s3,s4,s5,s6,s7,i0,i1,i2,y0,y1,y2,r0,r1,z0,z1⟩:=hE';go_wp2_with fail
  refine (a8 _ _).mono ?_;rintro e w2 ⟨rfl,hg2⟩;have hk1:=hg2.cell (ad _ _ _) (by simp);have hE:=hE.go (((Gr.refl _).alloc _).trans hg2);clear hsz s0 s1 s2 s3 s4 s5 s6 s7 i0 i1 i2 y0 y1 y2 r0 r1 z0 z1;have hE':=hE;obtain ⟨-,hsz,s0,s1,s2,s3,s4,s5,s6,s7,i0,i1,i2,y0,y1,y2,r0,r1,z0,z1⟩:=hE';go_wp2_with fail
  rw [cE];obtain ⟨q0,q1⟩:=bo (y0:=.slice av p.1.length cv) (y1:=.slice (some ⟨w'.heap.size,0,none⟩) 1 1) hE.r0 hE.r1;exact bodyPost_ret (v:=.agg #[.slice av p.1.length cv,.slice (some ⟨w'.heap.size,0,none⟩) 1 1]) (by simp [results,Tryz.results80,go_sem,q0,q1]) rfl ⟨bP hE.gr (by omega),by rw [HQ.out];exact ⟨_,_,rfl,HRV.out.gr (HWW.out.trans (bP hE.gr (by omega))),bn (w:=w) (by simpa using hk1) (by first|omega|(have:=hg'.size;simp at this;omega)|(have:=hg2.size;simp at this;omega)|(have h1:=hg'.size;have h2:=hg2.size;simp at h1 h2;omega))⟩⟩
 | none=>
  have HX:=aH hx;have HQ:Hid (A3 u f ⟨13,(ja:Int),(jb:Int)⟩ st=none):=aH (by rw [HQ1.out,hx];rfl);clear hx;go_enter Tryz.func80,Tryz.ntmps80
  go_wp2_with fail
  refine (pg HX.out ha1 _ _ _ _ _ _ _ _ _ _ W _ HS.out.fu HS.out.im (HWW.out.trans HB.out.gr) HS.out.l3 HS.out.l4).mono ?_;rintro e w' ⟨hg',rfl⟩;exact ⟨rfl,HB.out.gr.trans hg',by rw [HQ.out]⟩
theorem yo(u:aK)(f:aO)(ja jb:Nat)(ha1:ja≤65535)(hb1:jb≤65535)(st:List Int)(v1 v2 v3 v4 v5 vs vst:Value)(n a:Int)(W w:World)(hS:Sc W u (f.aF++f.aG) v1 v2 v3 v4 vs)(hW:Gr W w)(hst:aX w vst st)(hcl:f.code.length≤1000000):
 Calls Tryz.prog 80 #[.agg #[v1,v2,v3,v4,v5,vs,.int .i64 (f.code.length:Int),.int .i64 f.result],.agg #[.int .i64 14,.int .i64 (ja:Int),.int .i64 (jb:Int)],vst,.agg #[.int .i64 10,.int .i64 n,.int .i64 a]] w (fd (A3 u f ⟨14,(ja:Int),(jb:Int)⟩ st) n a w):=by
 have HQ0:Hid (∀sl',f.aF++f.aG=sl'→A3 u f ⟨14,(ja:Int),(jb:Int)⟩ st=some ([f.result],[])):=aH (fun sl' h=>by subst h;unfold A3 dJ;simp);generalize hsl:f.aF++f.aG=sl at hS;have HQ1:=aH (HQ0.out sl hsl);clear hsl HQ0;obtain ⟨a2,c2,rfl⟩:=hS.co;obtain ⟨a1,c1,rfl⟩:=hS.sh.shape;obtain ⟨a3,c3,rfl⟩:=hS.fu.shape;obtain ⟨a4,c4,hv4⟩:∃ao cap,v4=.slice ao u.aB.length cap:=by obtain ⟨ao,cap,h,_⟩:=hS.im;exact ⟨ao,cap,h⟩
 subst hv4;obtain ⟨al,cs,rfl⟩:=hS.sl.shape;obtain ⟨at_,ct,rfl⟩:=hst.shape;have hl2:=hS.l2;have HS:=aH hS;have HST:=aH hst;have HWW:=aH hW;have HB:=aH (ku.new w (.slice a1 u.aA.length c1) (.slice a2 u.aD.length c2) (.slice a3 u.aE.length c3) (.slice a4 u.aB.length c4) v5 (.slice al sl.length cs) (.int .i64 (f.code.length:Int)) (.int .i64 f.result) 14 (ja:Int) (jb:Int) n a);unfold kR at HB;clear hS hst
 · have HQ:Hid (A3 u f ⟨14,(ja:Int),(jb:Int)⟩ st=some ([f.result],[])):=aH (by rw [HQ1.out]);go_enter Tryz.func80,Tryz.ntmps80
   go_wp2_with fail
   refine (a8 _ _).mono ?_;rintro e w2 ⟨rfl,hg2⟩;have hk1:=hg2.cell (ad _ _ _) (by simp);have hE:=HB.out.go (((Gr.refl _).alloc _).trans hg2);have hE':=hE;obtain ⟨-,hsz,s0,s1,s2,s3,s4,s5,s6,s7,i0,i1,i2,y0,y1,y2,r0,r1,z0,z1⟩:=hE';go_wp2_with fail
   rw [cE];obtain ⟨q0,q1⟩:=bo (y0:=.slice (some ⟨w.heap.size+1+1+1+1,0,none⟩) 1 1) (y1:=.slice none 0 0) hE.r0 hE.r1;exact bodyPost_ret (v:=.agg #[.slice (some ⟨w.heap.size+1+1+1+1,0,none⟩) 1 1,.slice none 0 0]) (by simp [results,Tryz.results80,go_sem,q0,q1]) rfl ⟨bP hE.gr (by omega),by rw [HQ.out];exact ⟨_,_,rfl,bn (w:=w) (by simpa using hk1) (by first|omega|(have:=hg'.size;simp at this;omega)|(have:=hg2.size;simp at this;omega)|(have h1:=hg'.size;have h2:=hg2.size;simp at h1 h2;omega)),bl _⟩⟩
theorem zF(u:aK)(f:aO)(ja jb:Nat)(ha1:ja≤65535)(hb1:jb≤65535)(st:List Int)(v1 v2 v3 v4 v5 vs vst:Value)(n a:Int)(W w:World)(hS:Sc W u (f.aF++f.aG) v1 v2 v3 v4 vs)(hW:Gr W w)(hst:aX w vst st)(hcl:f.code.length≤1000000):
 Calls Tryz.prog 80 #[.agg #[v1,v2,v3,v4,v5,vs,.int .i64 (f.code.length:Int),.int .i64 f.result],.agg #[.int .i64 18,.int .i64 (ja:Int),.int .i64 (jb:Int)],vst,.agg #[.int .i64 10,.int .i64 n,.int .i64 a]] w (fd (A3 u f ⟨18,(ja:Int),(jb:Int)⟩ st) n a w):=by
 have HQ0:Hid (∀sl',f.aF++f.aG=sl'→A3 u f ⟨18,(ja:Int),(jb:Int)⟩ st=(cq u (ja:Int)).map fun s=>([],[(ja:Int)])):=aH (fun sl' h=>by subst h;unfold A3 dJ;simp [cq]);generalize hsl:f.aF++f.aG=sl at hS;have HQ1:=aH (HQ0.out sl hsl);clear hsl HQ0;obtain ⟨a2,c2,rfl⟩:=hS.co;obtain ⟨a1,c1,rfl⟩:=hS.sh.shape;obtain ⟨a3,c3,rfl⟩:=hS.fu.shape;obtain ⟨a4,c4,hv4⟩:∃ao cap,v4=.slice ao u.aB.length cap:=by obtain ⟨ao,cap,h,_⟩:=hS.im;exact ⟨ao,cap,h⟩
 subst hv4;obtain ⟨al,cs,rfl⟩:=hS.sl.shape;obtain ⟨at_,ct,rfl⟩:=hst.shape;have hl2:=hS.l2;have HS:=aH hS;have HST:=aH hst;have HWW:=aH hW;have HB:=aH (ku.new w (.slice a1 u.aA.length c1) (.slice a2 u.aD.length c2) (.slice a3 u.aE.length c3) (.slice a4 u.aB.length c4) v5 (.slice al sl.length cs) (.int .i64 (f.code.length:Int)) (.int .i64 f.result) 18 (ja:Int) (jb:Int) n a);unfold kR at HB;clear hS hst;cases hx:cq u (ja:Int) with
 | some s=>
  have HX:=aH hx;have HQ:Hid (A3 u f ⟨18,(ja:Int),(jb:Int)⟩ st=some ([],[(ja:Int)])):=aH (by rw [HQ1.out,hx];rfl);clear hx;go_enter Tryz.func80,Tryz.ntmps80
  go_wp2_with fail
  refine (jg HX.out (by omega) (by omega) _ _ _ _ _ _ _ _ _ _ W _ HS.out.sh (HWW.out.trans HB.out.gr)).mono ?_;rintro e w' ⟨hg',v,rfl,hrv⟩;obtain ⟨av,cv,rfl⟩:=hrv.shape;have HRV:=aH hrv;clear hrv;have hE:=HB.out.go hg';have hE':=hE;obtain ⟨-,hsz,s0,s1,s2,s3,s4,s5,s6,s7,i0,i1,i2,y0,y1,y2,r0,r1,z0,z1⟩:=hE';go_wp2_with fail
  refine (a8 _ _).mono ?_;rintro e w2 ⟨rfl,hg2⟩;have hk1:=hg2.cell (ad _ _ _) (by simp);have hE:=hE.go (((Gr.refl _).alloc _).trans hg2);clear hsz s0 s1 s2 s3 s4 s5 s6 s7 i0 i1 i2 y0 y1 y2 r0 r1 z0 z1;have hE':=hE;obtain ⟨-,hsz,s0,s1,s2,s3,s4,s5,s6,s7,i0,i1,i2,y0,y1,y2,r0,r1,z0,z1⟩:=hE';go_wp2_with fail
  rw [cE];obtain ⟨q0,q1⟩:=bo (y0:=.slice none 0 0) (y1:=.slice (some ⟨w'.heap.size,0,none⟩) 1 1) hE.r0 hE.r1;exact bodyPost_ret (v:=.agg #[.slice none 0 0,.slice (some ⟨w'.heap.size,0,none⟩) 1 1]) (by simp [results,Tryz.results80,go_sem,q0,q1]) rfl ⟨bP hE.gr (by omega),by rw [HQ.out];exact ⟨_,_,rfl,bl _,bn (w:=w) (by simpa using hk1) (by first|omega|(have:=hg'.size;simp at this;omega)|(have:=hg2.size;simp at this;omega)|(have h1:=hg'.size;have h2:=hg2.size;simp at h1 h2;omega))⟩⟩
 | none=>
  have HX:=aH hx;have HQ:Hid (A3 u f ⟨18,(ja:Int),(jb:Int)⟩ st=none):=aH (by rw [HQ1.out,hx];rfl);clear hx;go_enter Tryz.func80,Tryz.ntmps80
  go_wp2_with fail
  refine (kW HX.out (by omega) (by omega) _ _ _ _ _ _ _ _ _ _ W _ HS.out.sh (HWW.out.trans HB.out.gr)).mono ?_;rintro e w' ⟨hg',rfl⟩;exact ⟨rfl,HB.out.gr.trans hg',by rw [HQ.out]⟩
theorem yS(u:aK)(f:aO)(ja jb:Nat)(ha1:ja≤65535)(hb1:jb≤65535)(st:List Int)(v1 v2 v3 v4 v5 vs vst:Value)(n a:Int)(W w:World)(hS:Sc W u (f.aF++f.aG) v1 v2 v3 v4 vs)(hW:Gr W w)(hst:aX w vst st)(hcl:f.code.length≤1000000):
 Calls Tryz.prog 80 #[.agg #[v1,v2,v3,v4,v5,vs,.int .i64 (f.code.length:Int),.int .i64 f.result],.agg #[.int .i64 19,.int .i64 (ja:Int),.int .i64 (jb:Int)],vst,.agg #[.int .i64 10,.int .i64 n,.int .i64 a]] w (fd (A3 u f ⟨19,(ja:Int),(jb:Int)⟩ st) n a w):=by
 have HQ0:Hid (∀sl',f.aF++f.aG=sl'→A3 u f ⟨19,(ja:Int),(jb:Int)⟩ st=(cq u (ja:Int)).map fun s=>([(ja:Int)],[0])):=aH (fun sl' h=>by subst h;unfold A3 dJ;simp [cq]);generalize hsl:f.aF++f.aG=sl at hS;have HQ1:=aH (HQ0.out sl hsl);clear hsl HQ0;obtain ⟨a2,c2,rfl⟩:=hS.co;obtain ⟨a1,c1,rfl⟩:=hS.sh.shape;obtain ⟨a3,c3,rfl⟩:=hS.fu.shape;obtain ⟨a4,c4,hv4⟩:∃ao cap,v4=.slice ao u.aB.length cap:=by obtain ⟨ao,cap,h,_⟩:=hS.im;exact ⟨ao,cap,h⟩
 subst hv4;obtain ⟨al,cs,rfl⟩:=hS.sl.shape;obtain ⟨at_,ct,rfl⟩:=hst.shape;have hl2:=hS.l2;have HS:=aH hS;have HST:=aH hst;have HWW:=aH hW;have HB:=aH (ku.new w (.slice a1 u.aA.length c1) (.slice a2 u.aD.length c2) (.slice a3 u.aE.length c3) (.slice a4 u.aB.length c4) v5 (.slice al sl.length cs) (.int .i64 (f.code.length:Int)) (.int .i64 f.result) 19 (ja:Int) (jb:Int) n a);unfold kR at HB;clear hS hst;cases hx:cq u (ja:Int) with
 | some s=>
  have HX:=aH hx;have HQ:Hid (A3 u f ⟨19,(ja:Int),(jb:Int)⟩ st=some ([(ja:Int)],[0])):=aH (by rw [HQ1.out,hx];rfl);clear hx;go_enter Tryz.func80,Tryz.ntmps80
  go_wp2_with fail
  refine (jg HX.out (by omega) (by omega) _ _ _ _ _ _ _ _ _ _ W _ HS.out.sh (HWW.out.trans HB.out.gr)).mono ?_;rintro e w' ⟨hg',v,rfl,hrv⟩;obtain ⟨av,cv,rfl⟩:=hrv.shape;have HRV:=aH hrv;clear hrv;have hE:=HB.out.go hg';have hE':=hE;obtain ⟨-,hsz,s0,s1,s2,s3,s4,s5,s6,s7,i0,i1,i2,y0,y1,y2,r0,r1,z0,z1⟩:=hE';go_wp2_with fail
  refine (a8 _ _).mono ?_;rintro e w2 ⟨rfl,hg2⟩;have hk1:=hg2.cell (ad _ _ _) (by simp);have hE:=hE.go (((Gr.refl _).alloc _).trans hg2);clear hsz s0 s1 s2 s3 s4 s5 s6 s7 i0 i1 i2 y0 y1 y2 r0 r1 z0 z1;have hE':=hE;obtain ⟨-,hsz,s0,s1,s2,s3,s4,s5,s6,s7,i0,i1,i2,y0,y1,y2,r0,r1,z0,z1⟩:=hE';go_wp2_with fail
  refine (a8 _ _).mono ?_;rintro e w3 ⟨rfl,hg3⟩;have hj1:=hg3.cell ((World.grownBy_alloc _ _ none).cell hk1 (by simp)) (by simp);have hk3:=hg3.cell (ad _ _ _) (by simp);have hE:=hE.go (((Gr.refl _).alloc _).trans hg3);clear hsz s0 s1 s2 s3 s4 s5 s6 s7 i0 i1 i2 y0 y1 y2 r0 r1 z0 z1;have hE':=hE;obtain ⟨-,hsz,s0,s1,s2,s3,s4,s5,s6,s7,i0,i1,i2,y0,y1,y2,r0,r1,z0,z1⟩:=hE';go_wp2_with fail
  rw [cE];obtain ⟨q0,q1⟩:=bo (y0:=.slice (some ⟨w'.heap.size,0,none⟩) 1 1) (y1:=.slice (some ⟨w2.heap.size,0,none⟩) 1 1) hE.r0 hE.r1;exact bodyPost_ret (v:=.agg #[.slice (some ⟨w'.heap.size,0,none⟩) 1 1,.slice (some ⟨w2.heap.size,0,none⟩) 1 1]) (by simp [results,Tryz.results80,go_sem,q0,q1]) rfl ⟨bP hE.gr (by omega),by rw [HQ.out];exact ⟨_,_,rfl,bn (w:=w) (by simpa using hj1) (by first|omega|(have:=hg'.size;simp at this;omega)|(have:=hg2.size;simp at this;omega)|(have h1:=hg'.size;have h2:=hg2.size;simp at h1 h2;omega)),bn (w:=w) (by simpa using hk3) (by first|omega|(have:=hg'.size;simp at this;omega)|(have:=hg2.size;simp at this;omega)|(have h1:=hg'.size;have h2:=hg2.size;simp at h1 h2;omega))⟩⟩
 | none=>
  have HX:=aH hx;have HQ:Hid (A3 u f ⟨19,(ja:Int),(jb:Int)⟩ st=none):=aH (by rw [HQ1.out,hx];rfl);clear hx;go_enter Tryz.func80,Tryz.ntmps80
  go_wp2_with fail
  refine (kW HX.out (by omega) (by omega) _ _ _ _ _ _ _ _ _ _ W _ HS.out.sh (HWW.out.trans HB.out.gr)).mono ?_;rintro e w' ⟨hg',rfl⟩;exact ⟨rfl,HB.out.gr.trans hg',by rw [HQ.out]⟩
theorem yj(u:aK)(f:aO)(ja jb:Nat)(ha1:ja≤65535)(hb1:jb≤65535)(st:List Int)(v1 v2 v3 v4 v5 vs vst:Value)(n a:Int)(W w:World)(hS:Sc W u (f.aF++f.aG) v1 v2 v3 v4 vs)(hW:Gr W w)(hst:aX w vst st)(hcl:f.code.length≤1000000):
 Calls Tryz.prog 80 #[.agg #[v1,v2,v3,v4,v5,vs,.int .i64 (f.code.length:Int),.int .i64 f.result],.agg #[.int .i64 20,.int .i64 (ja:Int),.int .i64 (jb:Int)],vst,.agg #[.int .i64 10,.int .i64 n,.int .i64 a]] w (fd (A3 u f ⟨20,(ja:Int),(jb:Int)⟩ st) n a w):=by
 have HQ0:Hid (∀sl',f.aF++f.aG=sl'→A3 u f ⟨20,(ja:Int),(jb:Int)⟩ st=some ([0],[])):=aH (fun sl' h=>by subst h;unfold A3 dJ;simp);generalize hsl:f.aF++f.aG=sl at hS;have HQ1:=aH (HQ0.out sl hsl);clear hsl HQ0;obtain ⟨a2,c2,rfl⟩:=hS.co;obtain ⟨a1,c1,rfl⟩:=hS.sh.shape;obtain ⟨a3,c3,rfl⟩:=hS.fu.shape;obtain ⟨a4,c4,hv4⟩:∃ao cap,v4=.slice ao u.aB.length cap:=by obtain ⟨ao,cap,h,_⟩:=hS.im;exact ⟨ao,cap,h⟩
 subst hv4;obtain ⟨al,cs,rfl⟩:=hS.sl.shape;obtain ⟨at_,ct,rfl⟩:=hst.shape;have hl2:=hS.l2;have HS:=aH hS;have HST:=aH hst;have HWW:=aH hW;have HB:=aH (ku.new w (.slice a1 u.aA.length c1) (.slice a2 u.aD.length c2) (.slice a3 u.aE.length c3) (.slice a4 u.aB.length c4) v5 (.slice al sl.length cs) (.int .i64 (f.code.length:Int)) (.int .i64 f.result) 20 (ja:Int) (jb:Int) n a);unfold kR at HB;clear hS hst
 · have HQ:Hid (A3 u f ⟨20,(ja:Int),(jb:Int)⟩ st=some ([0],[])):=aH (by rw [HQ1.out]);go_enter Tryz.func80,Tryz.ntmps80
   go_wp2_with fail
   refine (a8 _ _).mono ?_;rintro e w2 ⟨rfl,hg2⟩;have hk1:=hg2.cell (ad _ _ _) (by simp);have hE:=HB.out.go (((Gr.refl _).alloc _).trans hg2);have hE':=hE;obtain ⟨-,hsz,s0,s1,s2,s3,s4,s5,s6,s7,i0,i1,i2,y0,y1,y2,r0,r1,z0,z1⟩:=hE';go_wp2_with fail
   rw [cE];obtain ⟨q0,q1⟩:=bo (y0:=.slice (some ⟨w.heap.size+1+1+1+1,0,none⟩) 1 1) (y1:=.slice none 0 0) hE.r0 hE.r1;exact bodyPost_ret (v:=.agg #[.slice (some ⟨w.heap.size+1+1+1+1,0,none⟩) 1 1,.slice none 0 0]) (by simp [results,Tryz.results80,go_sem,q0,q1]) rfl ⟨bP hE.gr (by omega),by rw [HQ.out];exact ⟨_,_,rfl,bn (w:=w) (by simpa using hk1) (by first|omega|(have:=hg'.size;simp at this;omega)|(have:=hg2.size;simp at this;omega)|(have h1:=hg'.size;have h2:=hg2.size;simp at h1 h2;omega)),bl _⟩⟩
end Go.Proofs.YtkgncijcnlfhiaaGreat
