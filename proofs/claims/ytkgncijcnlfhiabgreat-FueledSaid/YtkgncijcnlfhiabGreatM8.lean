import Derived.Deep.AppendLies
import Derived.Test.YtkgncijcnlfhiabGreatM5
import Derived.Deep.RegionLaw
namespace Go.Proofs.YtkgncijcnlfhiabGreat
set_option linter.unusedVariables false
set_option linter.unusedSimpArgs false
open Go.RowKit
attribute [local go_sem ↓] Go.wp_at_zero Go.wp_at_succ
theorem xD(w:World)(q:Nat)(hq:q < 256):(convert 88 9 (.slice (some ⟨w.heap.size,0,none⟩) 1 1)).run Tryz.prog (w.alloc (.cells #[.int .u8 (q:Int)] 5))=.ok (.string ⟨#[UInt8.ofNat q]⟩) (w.alloc (.cells #[.int .u8 (q:Int)] 5)):=by
 have h:=run_convert_bytes_back (P:=Tryz.prog) (w.alloc (.cells #[.int .u8 (q:Int)] 5)) 88 9 5 ⟨w.heap.size,0,none⟩ 1 [UInt8.ofNat q] Tryz.underlying88 Tryz.underlying5 Tryz.underlying9 (by
  intro j hj;have Ny:j=0:=by simp at hj;omega
  subst Ny;have e:(⟨w.heap.size,0,none⟩:Addr).add 0=⟨w.heap.size,0,none⟩:=by simp [Addr.add]
  rw [e];have e2:(UInt8.ofNat q).toNat=q:=by rw [UInt8.toNat_ofNat'];exact Nat.mod_eq_of_lt hq
  simp [go_sem];try omega)
 exact h
set_option maxRecDepth 100000 in
set_option maxHeartbeats 2000000 in
theorem uY(mb:Nat)(r:List Int)(w:World)(h:dL w mb r):
 Calls Tryz.prog 23 #[.pointer (some ⟨mb,0,none⟩)] w fun x w'=>∃s:ByteArray,x=.returned (.string s)/\(1<=s.size/\s.size<=4)/\(∃r',dL w' mb r')/\Gc mb w w':=by
 have HM:=aH h;have hq:=ce (r:=r) (n:=3) Q9;have HN:∀V:World,Hid (dL V mb r->Calls Tryz.prog 19 #[.pointer (some ⟨mb,0,none⟩),.int .i64 3] V fun x w'=>x=.returned (.int .i64 (an r 3))/\dL w' mb r.tail/\Gc mb V w'):=fun V=>aH (cB mb r _ Q9 Q9 V)
 generalize an r 3=q at hq HN;have Xj:=ce (r:=r.tail) (n:=256) Q9;have G':∀V:World,Hid (dL V mb r.tail->Calls Tryz.prog 19 #[.pointer (some ⟨mb,0,none⟩),.int .i64 256] V fun x w'=>x=.returned (.int .i64 (an r.tail 256))/\dL w' mb r.tail.tail/\Gc mb V w'):=fun V=>aH (cB mb r.tail _ Q9 Q9 V)
 obtain ⟨y,hy⟩:∃y:Nat,an r.tail 256=y:=⟨(an r.tail 256).toNat,Q5⟩;rw [hy] at Xj G';have FM:y < 256:=Q5
 clear h hy;have hw8:IntKind.u8.wrap (y:Int)=(y:Int):=by rw [IntKind.wrap_u8];omega
 have R':=fun V:World=>xD V y FM
 have GM:q=0\/q=1\/q=2:=Q5
 rcases GM with rfl|rfl|rfl
 all_goals
  go_enter Tryz.func23,Tryz.ntmps23
  go_wp2_with fail
  refine ((HN w).out HM.out).mono ?_;rintro x w1 ⟨rfl,P5,hg1⟩;have V9:=aH P5;have I1:=aH hg1;clear P5 hg1;go_wp2_with fail
  go_region_with (first|(go_at_call 19;refine ((G' _).out (by exact V9.out)).mono ?_;rintro x w2 ⟨rfl,O4,E0⟩))
  all_goals go_wp2_with fail
  all_goals go_ret
  all_goals exact ⟨_,rfl,⟨Nat.le_of_ble_eq_true rfl,Nat.le_of_ble_eq_true rfl⟩,⟨_,O4.gr ((Gr.refl _).alloc _)⟩,Gc.trans_ I1.out (Gc.trans_ (Gr.drew (Gr.refl w1)).toGc (Gc.trans_ E0 ((Gr.refl w2).alloc _).toGc))⟩
open Go.RowKit
theorem qI:∀(k:Nat) (n:Nat) (r:List Int),(fH k ((n:Int)+1) r).1.length=k/\(fH k ((n:Int)+1) r).1.all (gD n)=true
 | 0,n,r=>by simp [fH]
 | k+1,n,r=>by
  obtain ⟨h1,h2⟩:=qI k n r.tail;have h3:=ce (r:=r) (n:=(n:Int)+1) Q5;refine ⟨by simp [fH,h1],?_⟩;simp only [fH,List.all_cons,h2,Bool.and_true,gD,wB,decide_eq_true_eq];omega
theorem yw(l:List Int):ic l=l.flatMap fI:=by
 induction l with
 | nil=>rfl
 | cons a l ih=>simp only [ic,List.map_cons,List.flatMap_cons,fI] at ih |-;rw [ih];rfl
theorem rq(mb:Nat)(r:List Int)(least most aA:Nat)(Xy:least<=most)(YS:most<=100)(Ff:aA<=100)(w:World)(h:dL w mb r):
 Calls Tryz.prog 20 #[.pointer (some ⟨mb,0,none⟩),.int .i64 least,.int .i64 most,.int .i64 aA] w fun x w'=>
  ∃(v:Value) (l:List Int),x=.returned v/\w'.ownsRow w.heap.size 3 1 v l.length (l.flatMap fI)/\(least<=l.length/\l.length<=most/\l.all (gD aA)=true)/\(∃r',dL w' mb r')/\Gc mb w w':=by
 refine (sp mb r least most aA Xy YS Ff w h).mono ?_;rintro x w' ⟨v,hx,ho,hm,hg⟩;have hq:=ce (r:=r) (n:=(most:Int) - least+1) Q5;obtain ⟨h1,h2⟩:=qI ((least:Int)+an r ((most:Int) - least+1)).toNat aA r.tail;refine ⟨v,(lm least most aA r).1,hx,by rw [<-yw];exact ho,⟨?_,?_,h2⟩,⟨_,hm⟩,hg⟩
 · show least<=(fH _ _ _).1.length;rw [h1];omega
 · show (fH _ _ _).1.length<=most;rw [h1];omega
abbrev cD:Value:=.slice none 0 0
def UB(w:World)(mb:Nat)(wr:World)(v1 v2 v3 v4 v5:Value):Prop:=
 cI wr w.heap.size (.slice none 0 0) (.slice none 0 0) (.slice none 0 0) (.slice none 0 0) (.slice none 0 0)/\cI wr (w.heap.size+1) v1 v2 v3 v4 v5/\(∃r,dL wr mb r)/\Gc mb w wr/\w.heap.size+2<=wr.heap.size/\mb < w.heap.size
theorem UB.gc{w wr w2:World}{mb:Nat}{v1 v2 v3 v4 v5:Value}(h:UB w mb wr v1 v2 v3 v4 v5)(g:Gc mb wr w2)(hm:∃r,dL w2 mb r):UB w mb w2 v1 v2 v3 v4 v5:=by
 obtain ⟨h1,h2,h3,h4,h5,h6⟩:=h;exact ⟨h1.gc g Q5,h2.gc g Q5,hm,h4.trans g,Nat.le_trans h5 g.size,h6⟩
theorem UB.gr{w wr w2:World}{mb:Nat}{v1 v2 v3 v4 v5:Value}(h:UB w mb wr v1 v2 v3 v4 v5)(g:Gr wr w2):UB w mb w2 v1 v2 v3 v4 v5:=by
 obtain ⟨r,hr⟩:=h.2.2.1;exact h.gc g.toGc ⟨r,hr.gr g⟩
theorem UB.grown{w wr w2:World}{mb:Nat}{v1 v2 v3 v4 v5:Value}{o:Option Nat}(h:UB w mb wr v1 v2 v3 v4 v5)(g:wr.grownBy w2 o)(ho:∀k,o=some k->w.heap.size+2<=k):UB w mb w2 v1 v2 v3 v4 v5:=by
 obtain ⟨h1,h2,⟨r,hr⟩,h4,h5,h6⟩:=h;have hb:∀b,b < w.heap.size+2->w2.heap[b]? =wr.heap[b]? :=fun b hb=>g.block b Q5 (fun e=>by have:=ho b e.symm;omega)
 have N3:∀{b:Nat} {x0 x1 x2 x3 x4:Value},b < w.heap.size+2->cI wr b x0 x1 x2 x3 x4->cI w2 b x0 x1 x2 x3 x4:=by
  intro b x0 x1 x2 x3 x4 J0 hx;obtain ⟨k0,k1,k2,k3,k4,z0,z1,z2,z3,z4⟩:=hx;have hc:∀o,w2.cell? ⟨b,o,none⟩=wr.cell? ⟨b,o,none⟩:=fun o=>World.cell?_of_block (a:=⟨b,o,none⟩) (hb b J0)
  have hf:∀o,w2.frozen? ⟨b,o,none⟩=wr.frozen? ⟨b,o,none⟩:=fun o=>World.frozen?_of_block (a:=⟨b,o,none⟩) (hb b J0)
  exact ⟨(hc 0).trans k0,(hc 1).trans k1,(hc 2).trans k2,(hc 3).trans k3,(hc 4).trans k4,(hf 0).trans z0,(hf 1).trans z1,(hf 2).trans z2,(hf 3).trans z3,(hf 4).trans z4⟩
 exact ⟨N3 Q5 h1,N3 Q5 h2,⟨r,hr.low fun k hk=>hb k Q5⟩,rJ h4 g (fun k e=>by have:=ho k e;omega),Nat.le_trans h5 g.size,h6⟩
theorem UB.set0{w wr:World}{mb:Nat}{v1 v2 v3 v4 v5:Value}(v:Value)(h:UB w mb wr v1 v2 v3 v4 v5):UB w mb (wr.setCell ⟨w.heap.size+1,0,none⟩ v) v v2 v3 v4 v5:=by
 obtain ⟨h1,h2,⟨r,hr⟩,h4,h5,h6⟩:=h;exact ⟨h1.other Q5,h2.set0 v,⟨r,hr.set Q5⟩,aT h4 Q5,by simpa using h5,h6⟩
theorem UB.set1{w wr:World}{mb:Nat}{v1 v2 v3 v4 v5:Value}(v:Value)(h:UB w mb wr v1 v2 v3 v4 v5):UB w mb (wr.setCell ⟨w.heap.size+1,1,none⟩ v) v1 v v3 v4 v5:=by
 obtain ⟨h1,h2,⟨r,hr⟩,h4,h5,h6⟩:=h;exact ⟨h1.other Q5,h2.set1 v,⟨r,hr.set Q5⟩,aT h4 Q5,by simpa using h5,h6⟩
theorem UB.set2{w wr:World}{mb:Nat}{v1 v2 v3 v4 v5:Value}(v:Value)(h:UB w mb wr v1 v2 v3 v4 v5):UB w mb (wr.setCell ⟨w.heap.size+1,2,none⟩ v) v1 v2 v v4 v5:=by
 obtain ⟨h1,h2,⟨r,hr⟩,h4,h5,h6⟩:=h;exact ⟨h1.other Q5,h2.set2 v,⟨r,hr.set Q5⟩,aT h4 Q5,by simpa using h5,h6⟩
theorem UB.set3{w wr:World}{mb:Nat}{v1 v2 v3 v4 v5:Value}(v:Value)(h:UB w mb wr v1 v2 v3 v4 v5):UB w mb (wr.setCell ⟨w.heap.size+1,3,none⟩ v) v1 v2 v3 v v5:=by
 obtain ⟨h1,h2,⟨r,hr⟩,h4,h5,h6⟩:=h;exact ⟨h1.other Q5,h2.set3 v,⟨r,hr.set Q5⟩,aT h4 Q5,by simpa using h5,h6⟩
theorem UB.set4{w wr:World}{mb:Nat}{v1 v2 v3 v4 v5:Value}(v:Value)(h:UB w mb wr v1 v2 v3 v4 v5):UB w mb (wr.setCell ⟨w.heap.size+1,4,none⟩ v) v1 v2 v3 v4 v:=by
 obtain ⟨h1,h2,⟨r,hr⟩,h4,h5,h6⟩:=h;exact ⟨h1.other Q5,h2.set4 v,⟨r,hr.set Q5⟩,aT h4 Q5,by simpa using h5,h6⟩
theorem UB.new(w:World)(mb:Nat)(r:List Int)(h:dL w mb r):UB w mb ((w.alloc (.cells #[.slice none 0 0,.slice none 0 0,.slice none 0 0,.slice none 0 0,.slice none 0 0] 29)).alloc (.cells #[.slice none 0 0,.slice none 0 0,.slice none 0 0,.slice none 0 0,.slice none 0 0] 29)) cD cD cD cD cD:=by
 have g0:=Gr.alloc (Gr.refl w) (.cells #[.slice none 0 0,.slice none 0 0,.slice none 0 0,.slice none 0 0,.slice none 0 0] 29);have g1:=Gr.alloc (Gr.refl (w.alloc (.cells #[.slice none 0 0,.slice none 0 0,.slice none 0 0,.slice none 0 0,.slice none 0 0] 29))) (.cells #[.slice none 0 0,.slice none 0 0,.slice none 0 0,.slice none 0 0,.slice none 0 0] 29);have hb:=cI.new (w.alloc (.cells #[.slice none 0 0,.slice none 0 0,.slice none 0 0,.slice none 0 0,.slice none 0 0] 29)) 29 (.slice none 0 0) (.slice none 0 0) (.slice none 0 0) (.slice none 0 0) (.slice none 0 0);rw [show (w.alloc (.cells #[.slice none 0 0,.slice none 0 0,.slice none 0 0,.slice none 0 0,.slice none 0 0] 29)).heap.size=w.heap.size+1 by simp] at hb;exact ⟨(cI.new w 29 _ _ _ _ _).gr g1,hb,⟨r,h.gr (g0.trans g1)⟩,(g0.trans g1).toGc,Q6,h.lt⟩
def Fin(P:Nat->Prop)(w:World)(v1 v2 v3 v4:Value)(u:aK):Prop:=
 ii P w v1 u.aA/\dN P w v2 u.aD/\j5 P w v3 u.aE/\gi P w v4 u.aB
theorem Fin.stay{P P':Nat->Prop}{w w':World}{v1 v2 v3 v4:Value}{u:aK}(h:Fin P w v1 v2 v3 v4 u)(g:cE P P' w w'):Fin P' w' v1 v2 v3 v4 u:=
 ⟨h.1.stay g,h.2.1.stay g,h.2.2.1.stay g,h.2.2.2.stay g⟩
theorem yG(P:Nat->Prop)(w:World):dN P w cD []:=⟨none,0,rfl,by decide,fun i x hi=>by simp at hi⟩
theorem oE(P:Nat->Prop)(w:World):j5 P w cD []:=⟨none,0,rfl,by decide,fun i x hi=>by simp at hi⟩
theorem nE(P:Nat->Prop)(w:World):gi P w cD []:=⟨none,0,rfl,by decide,fun i x hi=>by simp at hi⟩
structure zx(N:Nat)(u:aK):Prop where
 n:N<=3
 s1:u.aA.length<=3
 s2:∀s∈u.aA,(1<=s.length/\s.length<=4)/\s.all (gD N)=true
 c1:u.aD.length<=4
 c2:∀x∈u.aD,gM x
 f1:u.aE.length<=3
 f2:∀f∈u.aE,(f.aF.length<=4/\f.aF.all (gD N)=true)/\gD N f.result=true/\(f.aG.length<=4/\f.aG.all (gD N)=true)/\(1<=f.code.length/\f.code.length<=12)/\f.code.all a_=true
 i1:u.aB.length<=3
 i2:∀i∈u.aB,(1<=i.name.length/\i.name.length<=4)/\(i.aF.length<=4/\i.aF.all (gD N)=true)/\gD N i.result=true
 e1:u.aC.length<=3
 e2:∀e∈u.aC,(1<=e.name.length/\e.name.length<=4)/\wB e.func 0 ((u.aE.length:Int) - 1)=true
theorem m_{w:World}{B:Nat}{e:TypeId}{n len:Nat}{v:Value}{xs:List Value}(h:w.ownsRow B e n v len xs):∀k,v.ownBlock=some k->k < w.heap.size:=fun k hk=>(h.lt k hk).2
theorem jO{w w':World}{B:Nat}{e:TypeId}{n len:Nat}{v:Value}{xs:List Value}(h:w.ownsRow B e n v len xs)(g:∀b,v.ownBlock=some b->w'.heap[b]? =w.heap[b]?):w'.ownsRow B e n v len xs:=by
 refine ⟨h.1,?_⟩;rcases h.2 with h'|⟨b,cap,cur,rfl,h1,h2,h3⟩
 · exact .inl h'
 · exact .inr ⟨b,cap,cur,rfl,h1,(g b rfl).trans h2,h3⟩
theorem gE{w w':World}{B mb:Nat}{e:TypeId}{n len:Nat}{v:Value}{xs:List Value}(h:w.ownsRow B e n v len xs)(g:Gc mb w w')(hm:mb < B):w'.ownsRow B e n v len xs:=
 jO h fun b hb=>g.block b (m_ h b hb) (by intro e;simp only [Option.some.injEq] at e;have:=fW h b hb;omega)
theorem iz{w:World}{B g o:Nat}{u:Value}{e:TypeId}{n len:Nat}{v:Value}{xs:List Value}(h:w.ownsRow B e n v len xs)(hg:¬v.ownBlock=some g):(w.setCell ⟨g,o,none⟩ u).ownsRow B e n v len xs:=
 jO h fun b hb=>Below.heap_setCell _ _ _ _ (by intro e;exact hg (by rw [hb,e]))
theorem uZ{w:World}{B:Nat}{o:Obj}{e:TypeId}{n len:Nat}{v:Value}{xs:List Value}(h:w.ownsRow B e n v len xs):(w.alloc o).ownsRow B e n v len xs:=
 jO h fun b hb=>Below.heap_alloc _ _ _ (m_ h b hb)
theorem s_{w:World}{B H:Nat}{e:TypeId}{n len:Nat}{v:Value}{xs:List Value}(h:w.ownsRow B e n v len xs)(hH:w.heap.size<=H)(hB:B<=H):∀b,H<=b->Bt B v b:=fun b hb=>⟨Q5,fun e=>by have:=m_ h b e;omega⟩
open Go.RowKit
theorem ix(mb:Nat)(n:Int)(hn:0 < n)(T6:n<=9223372036854775807)(w:World)(h:∃r,dL w mb r):
 Calls Tryz.prog 19 #[.pointer (some ⟨mb,0,none⟩),.int .i64 n] w fun x w'=>∃q:Nat,x=.returned (.int .i64 (q:Int))/\(q:Int) < n/\(∃r,dL w' mb r)/\Gc mb w w':=by
 obtain ⟨r,hr⟩:=h;refine (cB mb r n hn T6 w hr).mono ?_;rintro x w' ⟨rfl,hm,hg⟩;have hq:=ce (r:=r) (n:=n) hn;exact ⟨(an r n).toNat,by rw [show ((an r n).toNat:Int)=an r n by omega],Q5,⟨_,hm⟩,hg⟩
theorem Be(mb:Nat)(w:World)(h:∃r,dL w mb r):
 Calls Tryz.prog 21 #[.pointer (some ⟨mb,0,none⟩)] w fun x w'=>∃q:Int,x=.returned (.int .i64 q)/\gM q/\(∃r,dL w' mb r)/\Gc mb w w':=by
 obtain ⟨r,hr⟩:=h;refine (tV mb r w hr).mono ?_;rintro x w' ⟨rfl,hm,hg⟩;exact ⟨_,rfl,hr.fits,⟨_,hm⟩,hg⟩
theorem mH(mb:Nat)(least most aA:Nat)(Xy:least<=most)(YS:most<=100)(Ff:aA<=100)(w:World)(h:∃r,dL w mb r):
 Calls Tryz.prog 20 #[.pointer (some ⟨mb,0,none⟩),.int .i64 least,.int .i64 most,.int .i64 aA] w fun x w'=>
  ∃(v:Value) (l:List Int),x=.returned v/\w'.ownsRow w.heap.size 3 1 v l.length (l.flatMap fI)/\(least<=l.length/\l.length<=most/\l.all (gD aA)=true)/\(∃r',dL w' mb r')/\Gc mb w w':=by
 obtain ⟨r,hr⟩:=h;exact rq mb r least most aA Xy YS Ff w hr
theorem BN(mb:Nat)(w:World)(h:∃r,dL w mb r):Calls Tryz.prog 22 #[.pointer (some ⟨mb,0,none⟩)] w (jm mb w):=by
 obtain ⟨r,hr⟩:=h;exact yn mb r w hr
theorem yK(mb:Nat)(w:World)(h:∃r,dL w mb r):
 Calls Tryz.prog 23 #[.pointer (some ⟨mb,0,none⟩)] w fun x w'=>∃s:ByteArray,x=.returned (.string s)/\(1<=s.size/\s.size<=4)/\(∃r',dL w' mb r')/\Gc mb w w':=by
 obtain ⟨r,hr⟩:=h;exact uY mb r w hr
theorem cE.refl{P:Nat->Prop}{w:World}:cE P P w w:=fun _ hb _=>⟨rfl,hb⟩
theorem iV{ops:Array Oper}{o:Oper}{a:Act}{K:Act->World->Prop}{Q:Exit->Act->World->Prop}{E:Prop}(w:World)(Z':o.guard=none)(s x:Operand)(t e:TypeId)(n bytes:Nat)(zero:Value)(inf:(Tryz.prog.info? e).map (fun i=>(i.zero,i.size,i.bytes))=some (some zero,n,bytes))(ht:Tryz.prog.underlying t=some (.slice e))(Zn:zero.cells.size=n)(hn:0 < n)(Pj:bytes<=1000)
 (ho:o.op=.call { callee:=.builtin .append,args:=#[s,x],argTypes:=#[t,t] })
 (base:Nat) (v:Value) (len:Nat) (xs:List Value) (hs:a.eval s=v) (C1:w.ownsRow base e n v len xs) (ys:Array Value) (hys:ys.size=n) (h1:∀u∈ys.toList,u.oneCell'=true)
 (H:Nat) (hx:a.eval x=.slice (some ⟨H,0,none⟩) 1 1) (hH:w.heap.size=H) (hlen:len<=1000000) (C_:base<=w.heap.size)
 (h:∀ao cap w',Ap base e n w v w' (.slice ao (len+1) cap) (len+1) (xs++ys.toList)->K (a.put o.dst (.slice ao (len+1) cap)) w'):
 if Region.wanted o (yielded ops a.tmps)=true then Oper.wp Tryz.prog o a (w.alloc (.cells ys e)) K Q else E:=by
 subst hH;obtain ⟨i0,hi,O6,N5,D5⟩:=info_parts inf;refine step_append_lies (w.alloc (.cells ys e)) Z' s x t ho base e i0 zero n bytes ht hi O6 N5 D5 Zn hn v len xs hs (C1.alloc _) ⟨w.heap.size,0,none⟩ 1 1 ys.toList hx (by rw [Array.length_toList,hys,Nat.one_mul]) (oC _ _ _) h1 Q9 (by unfold maxLen;omega) (Nat.le_trans (Nat.mul_le_mul (Nat.add_le_add_right hlen 1) Pj) Q9) gS _ rfl ?_;intro g cap w' k1 k2 k3 _;refine h (some ⟨g,0,none⟩) cap w' ⟨k1,(World.grownBy_alloc w _ _).trans k2,fun k hk=>?_⟩;simp only [Value.ownBlock,Option.some.injEq] at hk;subst hk;rcases k3 with e|e
 · exact .inl e
 · right;simp at e;omega
theorem mq{ops:Array Oper}{o:Oper}{a:Act}{K:Act->World->Prop}{Q:Exit->Act->World->Prop}{E:Prop}{w:World}(Z':o.guard=none)(f:FuncId)(args:Array Operand)(Ws:Array TypeId)
 (ho:o.op=.call { callee:=.value (.func f),args:=args,argTypes:=Ws }) (M0:Array Value) (hv:args.map a.eval=M0) (Yh:(callFunc f M0).run Tryz.prog w=.ok (.enter f M0) w) (h:Calls Tryz.prog f M0 w (fun x w'=>∃v,x=.returned v/\K (a.put o.dst v) w')):
 if Region.wanted o (yielded ops a.tmps)=true then Oper.wp Tryz.prog o a w K Q else E:=by
 have hw:Region.wanted o (yielded ops a.tmps)=true:=by simp [Region.wanted,Z']
 rw [if_pos hw];unfold Oper.wp;have he:(execOp a.eval o).run Tryz.prog w=.ok (.enter f M0) w:=by
  subst hv;simp [execOp,ho,resolve,invoke,Act.eval,go_sem]
  exact Yh
 rw [he,Oper.upon_enter];refine h.mono ?_;rintro x w' ⟨v,rfl,hk⟩;exact hk
theorem Tryz.callNext(M0:Array Value)(w:World):(callFunc 19 M0).run Tryz.prog w=.ok (.enter 19 M0) w:=Q7
theorem nq{P:Nat->Prop}{w:World}{g:Nat}{y0 y1 y2 y3 y4:Value}(h:∀b,P b->¬b=g):cE P P w (put5 w g y0 y1 y2 y3 y4):=by
 intro b hb _;refine ⟨?_,hb⟩;unfold put5;rw [Below.heap_setCell _ _ _ _ (h b hb),Below.heap_setCell _ _ _ _ (h b hb),Below.heap_setCell _ _ _ _ (h b hb),Below.heap_setCell _ _ _ _ (h b hb),Below.heap_setCell _ _ _ _ (h b hb)]
theorem t8{w w1:World}{mb b:Nat}{y0 y1 y2 y3 y4:Value}(h:Gc mb w w1)(hb:w.heap.size<=b):Gc mb w (put5 w1 b y0 y1 y2 y3 y4):=aT (aT (aT (aT (aT h hb) hb) hb) hb) hb
theorem tK(s:ByteArray)(h:s.size<=4):ei (.string s) s.data.toList:=⟨s,rfl,rfl,by unfold maxLen;omega⟩
theorem Tryz.infoSlice:(Tryz.prog.info? 24).map (fun i=>(i.zero,i.size,i.bytes))=some (some (.slice none 0 0),1,24):=Q7
theorem Tryz.infoIns:(Tryz.prog.info? 42).map (fun i=>(i.zero,i.size,i.bytes))=some (some (.agg #[.int .i64 0,.int .i64 0,.int .i64 0]),3,24):=Q7
theorem Tryz.infoFunc:(Tryz.prog.info? 47).map (fun i=>(i.zero,i.size,i.bytes))=some (some (.agg #[.slice none 0 0,.int .i64 0,.slice none 0 0,.slice none 0 0]),4,80):=Q7
theorem Tryz.infoImp:(Tryz.prog.info? 71).map (fun i=>(i.zero,i.size,i.bytes))=some (some (.agg #[.string ⟨#[]⟩,.slice none 0 0,.int .i64 0]),3,48):=Q7
theorem Tryz.infoExp:(Tryz.prog.info? 60).map (fun i=>(i.zero,i.size,i.bytes))=some (some (.agg #[.string ⟨#[]⟩,.int .i64 0]),2,24):=Q7
theorem lX{w:World}{B g:Nat}{e:TypeId}{n len:Nat}{v:Value}{xs:List Value}(h:w.ownsRow B e n v len xs)(hg:g < B):¬v.ownBlock=some g:=fun e=>by have:=fW h g e;omega
theorem AV{B:Nat}{v:Value}:∀b,Bt B v b->Bt B cD b:=fun b hb=>⟨hb.1,by simp [cD,Value.ownBlock]⟩
theorem lS{B:Nat}:∀b,B<=b->Bt B cD b:=fun b hb=>⟨hb,by simp [cD,Value.ownBlock]⟩
theorem eA{B:Nat}{v:Value}{w:World}:cE (Bt B v) (Bt B cD) w w:=fun b hb _=>⟨rfl,AV b hb⟩
theorem ik{w:World}{B:Nat}{e:TypeId}{n:Nat}{v:Value}{α:Type}{f:α->List Value}{es:List α}{x:α}{ys:Array Value}(h:w.ownsRow B e n v (es.length+1) (es.flatMap f++ys.toList))(hx:f x=ys.toList):w.ownsRow B e n v (es++ [x]).length ((es++ [x]).flatMap f):=by
 rw [List.length_append,List.flatMap_append,List.flatMap_cons,List.flatMap_nil,List.append_nil,hx];exact h
theorem jI{α:Type}{Q:α->Prop}{es:List α}{x:α}(h:∀e∈es,Q e)(hx:Q x):∀e∈es++ [x],Q e:=by
 intro e he;rcases List.mem_append.1 he with h1|h1
 · exact h e h1
 · rw [List.mem_singleton.1 h1];exact hx
def zy(N:Nat)(f:aO):Prop:=(f.aF.length<=4/\f.aF.all (gD N)=true)/\gD N f.result=true/\(f.aG.length<=4/\f.aG.all (gD N)=true)/\(1<=f.code.length/\f.code.length<=12)/\f.code.all a_=true
def Bn(N:Nat)(i:fK):Prop:=(1<=i.name.length/\i.name.length<=4)/\(i.aF.length<=4/\i.aF.all (gD N)=true)/\gD N i.result=true
def vq(mb:Nat)(w:World)(x:Ending)(w':World):Prop:=∃(v:Value) (u:aK) (N:Nat),x=.returned v/\dX w.heap.size w' v u/\zx N u/\u.aA.length=N/\Gc mb w w'
def Bu(m:Nat)(e:dq):Prop:=(1<=e.name.length/\e.name.length<=4)/\wB e.func 0 ((m:Int) - 1)=true
def ye(P:Nat->Prop)(w:World)(e:BF):Prop:=dN P w e.vp e.f.aF/\dN P w e.vl e.f.aG/\kO P w e.vc e.f.code
theorem ye.stay{P P':Nat->Prop}{w w':World}{e:BF}(h:ye P w e)(g:cE P P' w w'):ye P' w' e:=⟨h.1.stay g,h.2.1.stay g,h.2.2.stay g⟩
def yd(H mb fb:Nat)(w w':World):Prop:=∀b,b < H->¬b=mb->¬b=fb->w'.heap[b]? =w.heap[b]?
theorem yd.gc{H mb fb:Nat}{w w' w2:World}(h:yd H mb fb w w')(g:Gc mb w' w2)(hs:H<=w'.heap.size):yd H mb fb w w2:=fun b hb h1 h2=>(g.block b Q5 (by intro e;simp only [Option.some.injEq] at e;exact h1 e)).trans (h b hb h1 h2)
theorem yd.grown{H mb fb:Nat}{w w' w2:World}{o:Option Nat}(h:yd H mb fb w w')(g:w'.grownBy w2 o)(hs:H<=w'.heap.size)(ho:∀k,o=some k->H<=k):yd H mb fb w w2:=fun b hb h1 h2=>(g.block b Q5 (fun e=>by have:=ho b e.symm;omega)).trans (h b hb h1 h2)
theorem yd.set{H mb fb o:Nat}{u:Value}{w w':World}(h:yd H mb fb w w'):yd H mb fb w (w'.setCell ⟨fb,o,none⟩ u):=fun b hb h1 h2=>(Below.heap_setCell _ _ _ _ h2).trans (h b hb h1 h2)
theorem eo.gr{w w':World}{b:Nat}{x0 x1 x2 x3:Value}(h:eo w b x0 x1 x2 x3)(g:Gr w w'):eo w' b x0 x1 x2 x3:=h.gc (cb:=b+1) g.toGc Q5
theorem eo.grown{w w':World}{b:Nat}{o:Option Nat}{x0 x1 x2 x3:Value}(h:eo w b x0 x1 x2 x3)(g:w.grownBy w' o)(hb:¬o=some b):eo w' b x0 x1 x2 x3:=by
 have hl:b < w.heap.size:=World.block_lt_of_cell? w _ h.1;have Er:=g.block b hl (fun e=>hb e.symm);have hc:∀q,w'.cell? ⟨b,q,none⟩=w.cell? ⟨b,q,none⟩:=fun q=>World.cell?_of_block (a:=⟨b,q,none⟩) Er
 have hf:∀q,w'.frozen? ⟨b,q,none⟩=w.frozen? ⟨b,q,none⟩:=fun q=>World.frozen?_of_block (a:=⟨b,q,none⟩) Er
 obtain ⟨h0,h1,h2,h3,z0,z1,z2,z3⟩:=h;exact ⟨(hc 0).trans h0,(hc 1).trans h1,(hc 2).trans h2,(hc 3).trans h3,(hf 0).trans z0,(hf 1).trans z1,(hf 2).trans z2,(hf 3).trans z3⟩
theorem UB.other{w wr:World}{mb g o:Nat}{v1 v2 v3 v4 v5 u:Value}(h:UB w mb wr v1 v2 v3 v4 v5)(hg:w.heap.size+2<=g):UB w mb (wr.setCell ⟨g,o,none⟩ u) v1 v2 v3 v4 v5:=by
 obtain ⟨h1,h2,⟨r,hr⟩,h4,h5,h6⟩:=h;exact ⟨h1.other Q5,h2.other Q5,⟨r,hr.set Q5⟩,aT h4 Q5,by simpa using h5,h6⟩
end Go.Proofs.YtkgncijcnlfhiabGreat
