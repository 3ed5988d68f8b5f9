import Derived.Test.YtkgncijcnlfhiaaGreatQ3
import Derived.Test.YtkgncijcnlfhiaaGreatNs
import Derived.Test.YtkgncijcnlfhiaaGreatZq
import Derived.Test.YtkgncijcnlfhiaaGreatZ3
namespace Go.Proofs.YtkgncijcnlfhiaaGreat
set_option maxRecDepth 100000
set_option maxHeartbeats 2000000
set_option linter.unusedVariables false
set_option linter.unusedSimpArgs false
def uM{α:Type}(f:List UInt8→Option (α×List UInt8))(g:α→List UInt8)(Q:α→Prop):Prop:=∀y r,Q y→f (g y++r)=some (y,r)
theorem sr{x:Int}:gu (oL x)=x:=by
 unfold gu oL;split
 · rw [if_pos (by omega)];omega
 · rw [if_neg (by omega)];omega
def At(x:Int):Prop:=-9223372036854775808≤x∧x≤9223372036854775807
def mC(x:Int):Prop:=0≤x∧x≤9223372036854775807
theorem ly:uM ag A' At:=by
 intro y r h;unfold ag A';rw [kP r (qe h.1 h.2)];simp [sr]
theorem em:uM aq b9 mC:=by
 intro y r h;unfold aq b9;have h1:=h.1;have h2:=h.2;rw [kP r (by omega)];simp only;rw [if_pos (by omega)];simp;omega
theorem pn:uM dt b6 (fun s=>s.length < 18446744073709551616):=by
 intro y r h;unfold dt b6;rw [List.append_assoc,kP _ h];exact od y r
theorem ru{α:Type}{f:List UInt8→Option (α×List UInt8)}{g:α→List UInt8}{Q:α→Prop}(hf:uM f g Q):∀(ys:List α) (r:List UInt8),(∀y∈ys,Q y)→ew f ys.length (ys.flatMap g++r)=some (ys,r)
 | [],r,_=>rfl
 | y :: ys,r,h=>by
  have h1:=hf y (ys.flatMap g++r) (h y List.mem_cons_self);have h2:=ru hf ys r (fun z hz=>h z (List.mem_cons_of_mem _ hz));simp only [List.flatMap_cons,List.length_cons,List.append_assoc];unfold ew;rw [h1];simp only [h2]
theorem rj{α:Type}{g:α→List UInt8}(hg:∀y,1≤(g y).length):∀ys:List α,ys.length≤(ys.flatMap g).length
 | []=>by simp
 | y :: ys=>by
  have:=rj hg ys
  have:=hg y
  simp only [List.flatMap_cons,List.length_cons,List.length_append];omega
theorem gJ{α:Type}{f:List UInt8→Option (α×List UInt8)}{g:α→List UInt8}{Q:α→Prop}(hf:uM f g Q)(hg:∀y,1≤(g y).length):uM (aM f) (dY g) (fun ys=>ys.length < 18446744073709551616∧∀y∈ys,Q y):=by
 intro ys r h;unfold aM dY;rw [List.append_assoc,kP _ h.1];simp only;rw [if_pos (by have:=rj hg ys;simp only [List.length_append];omega)];exact ru hf ys r h.2
theorem nS(n:Nat):1≤(num n).length:=(ix 10 n).2
theorem jD:uM ar bE (fun ys=>ys.length < 18446744073709551616∧∀y∈ys,mC y):=gJ em (fun y=>nS _)
theorem xr:uM cJ dR (fun i=>i.name.length < 18446744073709551616∧(i.aF.length < 18446744073709551616∧∀y∈i.aF,mC y)∧mC i.result):=by
 intro y r h;unfold cJ dR;rw [List.append_assoc,pn _ _ h.1];simp only;rw [List.append_assoc,jD _ _ h.2.1];simp only;have:=em y.result r h.2.2
 unfold b9 at this;rw [this]
theorem xn:uM cP dT (fun e=>e.name.length < 18446744073709551616∧mC e.func):=by
 intro y r h;unfold cP dT;rw [List.append_assoc,pn _ _ h.1];simp only;have:=em y.func r h.2
 unfold b9 at this;rw [this]
theorem ww:uM cM bh (fun i=>bH i=true):=by
 intro y r h;unfold bH at h;simp only [Bool.and_eq_true] at h;obtain ⟨h1,h2,h3⟩:=h;have h1':0≤y.op∧y.op≤20:=by simpa [wB] using h1
 have hb:(((UInt8.ofNat y.op.toNat).toNat:Nat):Int)=y.op:=(j9 h1'.1 h1'.2).symm;unfold cM bh;simp only [List.cons_append,cZ,hb];rw [if_pos h1];by_cases e1:y.op=1
 · rw [if_pos e1,if_pos e1];rw [if_pos e1] at h2;have h2':-2147483648≤y.a∧y.a≤2147483647:=by simpa [wB] using h2
   have hN:ah y.op=1:=by rw [e1];decide
   have h3':y.b=0:=by rw [hN] at h3;simpa [a9] using h3
   have hs:=ly y.a r ⟨by omega,by omega⟩;unfold A' at hs;rw [hs];simp only;rw [←h3']
 · rw [if_neg e1,if_neg e1];rw [if_neg e1] at h2;rcases eF y.op with hN|hN|hN
   · rw [if_pos hN];have h2':y.a=0:=by rw [hN] at h2;simpa [a9] using h2
     have h3':y.b=0:=by rw [hN] at h3;simpa [a9] using h3
     simp only [hN];simp
     cases y;simp_all
   · rw [if_neg (by omega)];have h2':0≤y.a∧y.a≤65535:=by rw [hN] at h2;simpa [a9,wB] using h2
     have h3':y.b=0:=by rw [hN] at h3;simpa [a9] using h3
     have hs:=em y.a r ⟨by omega,by omega⟩;unfold b9 at hs;simp only [hN];simp only [show (1:Int)≤1 by decide,show ¬(2:Int)≤1 by decide,if_true,if_false,List.append_nil,hs];rw [←h3']
   · rw [if_neg (by omega)];have h2':0≤y.a∧y.a≤65535:=by rw [hN] at h2;simpa [a9,wB] using h2
     have h3':0≤y.b∧y.b≤65535:=by rw [hN] at h3;simpa [a9,wB] using h3
     have hs:=em y.a (num y.b.toNat++r) ⟨by omega,by omega⟩;have hs2:=em y.b r ⟨by omega,by omega⟩;unfold b9 at hs hs2;simp only [hN];simp only [show (1:Int)≤2 by decide,show (2:Int)≤2 by decide,if_true,List.append_assoc,hs,show ¬(2:Int)=1 by decide,if_false,hs2]
theorem kV{n:Int}(hn:n≤1000000){x:Int}(h:jT n x=true):mC x:=by
 have:0≤x∧x≤n:=by simpa [jT,wB] using h
 exact ⟨this.1,by omega⟩
theorem jI{n:Int}(hn:n≤1000000){l:List Int}(h:l.all (jT n)=true):∀y∈l,mC y:=fun y hy=>kV hn (List.all_eq_true.1 h y hy)
theorem BJ{n l m:Int}(h:wB n l m=true):l≤n∧n≤m:=by simpa [wB] using h
theorem uj{n:Int}(hn:n≤1000000):uM bN bq (fun f=>c_ n f=true):=by
 intro y r h;unfold c_ fG gI at h;simp only [Bool.and_eq_true] at h;obtain ⟨⟨p1,p2,p3⟩,l1,l2,c1,c2⟩:=h;have q1:=BJ p1;have q2:=BJ l1;have q3:=BJ c1;unfold bN bq;rw [List.append_assoc,jD _ _ ⟨by omega,jI hn p2⟩];simp only;rw [List.append_assoc,jD _ _ ⟨by omega,jI hn l2⟩];simp only;have hs:=em y.result (dY bh y.code++r) (kV hn p3);unfold b9 at hs;rw [List.append_assoc,hs];simp only;rw [gJ ww (fun i=>by unfold bh;simp) y.code r ⟨by omega,fun i hi=>List.all_eq_true.1 c2 i hi⟩]
theorem ij{α:Type}{f:List UInt8→Option (List α×List UInt8)}{g:List α→List UInt8}{Q:List α→Prop}(hf:uM f g Q){y:List α}(hy:Q y):a_ f (g y)=some y:=by
 have h:=hf y [] hy;rw [List.append_nil] at h;unfold a_;rw [h]
theorem lx{u:aK}(h:ak u=true):A9 u.aA=true∧dE u.aD=true∧cL u.aE u.aA.length=true∧bm u.aB u.aA.length=true∧b_ u.aC u.aE.length=true:=by
 unfold ak at h;simp only [Bool.and_eq_true] at h;obtain ⟨h1,h2,h3,h4,h5⟩:=h;exact ⟨h1,h2,h3,h4,h5⟩
structure yW(u:aK):Prop where
 b1:a_ (aM ar) (fH u)=some u.aA
 b2:a_ (aM ag) (fL u)=some u.aD
 b3:a_ (aM bN) (fN u)=some u.aE
 b4:a_ (aM cJ) (fO u)=some u.aB
 b5:a_ (aM cP) (fZ u)=some u.aC
theorem oS{u:aK}(h:ak u=true)(hF:mf u):yW u:=by
 obtain ⟨h1,h2,h3,h4,h5⟩:=lx h;have k2:=BJ h2;unfold A9 at h1;unfold cL at h3;unfold bm at h4;unfold b_ at h5;simp only [Bool.and_eq_true] at h1 h3 h4 h5;have k1:=BJ h1.1;have k3:=BJ h3.1;have k4:=BJ h4.1;have k5:=BJ h5.1;refine ⟨?_,?_,?_,?_,?_⟩
 · refine ij (gJ jD (fun y=>by unfold bE;exact dX)) ⟨by omega,fun y hy=>?_⟩;have h:=List.all_eq_true.1 h1.2 y hy;unfold dj at h;simp only [Bool.and_eq_true] at h;have:=BJ h.1
   exact ⟨by omega,jI (by omega) h.2⟩
 · exact ij (gJ ly (fun y=>nS _)) ⟨by omega,fun y hy=>hF y hy⟩
 · refine ij (gJ (uj (n:=u.aA.length) (by omega)) (fun y=>?_)) ⟨by omega,fun y hy=>List.all_eq_true.1 h3.2 y hy⟩;unfold bq;have:1≤(bE y.aF).length:=by unfold bE;exact dX
   simp only [List.length_append];omega
 · refine ij (gJ xr (fun y=>?_)) ⟨by omega,fun y hy=>?_⟩
   · unfold dR b6;have:=nS y.name.length;simp only [List.length_append];omega
   · have h:=List.all_eq_true.1 h4.2 y hy;unfold gQ fB fG at h;simp only [Bool.and_eq_true] at h;have q1:=BJ h.1;have q2:=BJ h.2.1;exact ⟨by omega,⟨by omega,jI (by omega) h.2.2.1⟩,kV (by omega) h.2.2.2⟩
 · refine ij (gJ xn (fun y=>?_)) ⟨by omega,fun y hy=>?_⟩
   · unfold dT b6;have:=nS y.name.length;simp only [List.length_append];omega
   · have h:=List.all_eq_true.1 h5.2 y hy;unfold gi fB at h;simp only [Bool.and_eq_true] at h;have q1:=BJ h.1;have q2:=BJ h.2;exact ⟨by omega,⟨by omega,by omega⟩⟩
theorem eE(n:Nat)(b:List UInt8):b.length≤(cS n b).length:=by unfold cS;simp only [List.length_append];omega
theorem um{u:aK}(h:ak u=true)(hF:mf u)(z:List UInt8)(hl:(enc u++z).length≤20000):dec (enc u++z)=if z= [] then .inl u else .inr (2,(enc u).length):=by
 obtain ⟨b1,b2,b3,b4,b5⟩:=oS h hF;obtain ⟨o1,o2,o3,o4,o5⟩:=lx h;have e:enc u++z=dW++(cS 1 (fH u)++(cS 2 (fL u)++(cS 3 (fN u)++(cS 4 (fO u)++(cS 5 (fZ u)++z))))):=by
  unfold enc iV lG lV mY;simp only [List.append_assoc]
 have l1:=eE 1 (fH u);have l2:=eE 2 (fL u);have l3:=eE 3 (fN u);have l4:=eE 4 (fO u);have l5:=eE 5 (fZ u);have hl':=hl;rw [e] at hl';simp only [List.length_append] at hl';have hp:pl (enc u++z) z=(enc u).length:=by unfold pl;simp
 have hd:(enc u++z).drop 5=cS 1 (fH u)++(cS 2 (fL u)++(cS 3 (fN u)++(cS 4 (fO u)++(cS 5 (fZ u)++z)))):=by rw [e];rfl
 have ht:(enc u++z).take 5=dW:=by rw [e];rfl
 unfold dec;rw [if_neg (by omega),if_neg (by rw [ht];simp),hd,ic (by decide) (by omega) b1];simp only [o1];rw [if_neg (by decide),ic (by decide) (by omega) b2];simp only [o2];rw [if_neg (by decide),ic (by decide) (by omega) b3];simp only [o3];rw [if_neg (by decide),ic (by decide) (by omega) b4];simp only [o4];rw [if_neg (by decide),ic (by decide) (by omega) b5];simp only [o5];rw [if_neg (by decide),hp]
open Go.RowKit
attribute [local go_sem ↓] Go.wp_at_zero Go.wp_at_succ
theorem oB(o a:Int)(w:World):Calls Tryz.prog 9 #[.int .i64 o,.int .i64 a] w fun x w'=>x=.returned (.agg #[.int .i64 o,.int .i64 a,.int .i64 0])∧Gr w w':=by
 go_enter Tryz.func9,Tryz.ntmps9
 go_wp2_with fail
 exact bodyPost_ret (v:=.agg #[.int .i64 o,.int .i64 a,.int .i64 0]) (by simp [results,Tryz.results9,go_sem]) rfl ⟨rfl,(Gr.refl _).alloc _⟩
def ms:Value:=.string ⟨#[109,97,105,110]⟩
def Ad(vs vl vc:Value)(w:World)(x:Ending)(w':World):Prop:=∃fb eb,x=.returned (.agg #[vs,.slice none 0 0,.slice (some ⟨fb,0,none⟩) 1 1,.slice none 0 0,.slice (some ⟨eb,0,none⟩) 1 1])∧w'.heap[fb]? =some (.cells #[.slice none 0 0,.int .i64 0,vl,vc] 48 (0,0))∧w'.heap[eb]? =some (.cells #[ms,.int .i64 0] 50 (0,0))∧w.heap.size≤fb∧w.heap.size≤eb∧Gr w w'
theorem lA(sa la ca:Option Addr)(sn ln cn sc lc cc:Nat)(w:World):Calls Tryz.prog 10 #[.slice sa sn sc,.slice la ln lc,.slice ca cn cc] w (Ad (.slice sa sn sc) (.slice la ln lc) (.slice ca cn cc) w):=by
 go_enter Tryz.func10,Tryz.ntmps10
 go_wp2_with fail
 have h0:=heap_alloc_new (w.alloc (.cells #[.slice sa sn sc,.slice none 0 0,.slice (some ⟨w.heap.size+1,0,none⟩) 1 1,.slice none 0 0,.slice (some ⟨w.heap.size+1+1,0,none⟩) 1 1] 33)) (.cells #[.slice none 0 0,.int .i64 0,.slice la ln lc,.slice ca cn cc] 48);have h1:=heap_alloc_new ((w.alloc (.cells #[.slice sa sn sc,.slice none 0 0,.slice (some ⟨w.heap.size+1,0,none⟩) 1 1,.slice none 0 0,.slice (some ⟨w.heap.size+1+1,0,none⟩) 1 1] 33)).alloc (.cells #[.slice none 0 0,.int .i64 0,.slice la ln lc,.slice ca cn cc] 48)) (.cells #[ms,.int .i64 0] 50);have s1:(w.alloc (.cells #[.slice sa sn sc,.slice none 0 0,.slice (some ⟨w.heap.size+1,0,none⟩) 1 1,.slice none 0 0,.slice (some ⟨w.heap.size+1+1,0,none⟩) 1 1] 33)).heap.size=w.heap.size+1:=by simp
 have s2:((w.alloc (.cells #[.slice sa sn sc,.slice none 0 0,.slice (some ⟨w.heap.size+1,0,none⟩) 1 1,.slice none 0 0,.slice (some ⟨w.heap.size+1+1,0,none⟩) 1 1] 33)).alloc (.cells #[.slice none 0 0,.int .i64 0,.slice la ln lc,.slice ca cn cc] 48)).heap.size=w.heap.size+1+1:=by simp
 rw [s1] at h0;rw [s2] at h1;refine bodyPost_ret (v:=.agg #[.slice sa sn sc,.slice none 0 0,.slice (some ⟨w.heap.size+1,0,none⟩) 1 1,.slice none 0 0,.slice (some ⟨w.heap.size+1+1,0,none⟩) 1 1]) (by simp [results,Tryz.results10,go_sem]) rfl ?_;exact ⟨w.heap.size+1,w.heap.size+1+1,rfl,(((Gr.refl _).alloc _:Gr _ _).block _ (by rw [s2];omega) (by simp)).trans h0,h1,by omega,by omega,(((Gr.refl w).alloc _).alloc _).alloc _⟩
theorem tj{w:World}{B:Nat}{e:TypeId}{v:Value}{es:List ByteArray}(h:w.ownsRow B e 1 v es.length (es.map fun s=>Value.string s))(hs:∀s∈es,s.size≤maxLen):wo w v (es.map fun s=>s.data.toList):=by
 obtain ⟨ao,cap,rfl⟩:=aL h;refine ⟨ao,cap,by simp,by simpa using gd h,fun i x hi=>?_⟩;simp only [List.getElem?_map,Option.map_eq_some_iff] at hi;obtain ⟨s,he,rfl⟩:=hi;have hl:i < es.length:=(List.getElem?_eq_some_iff.1 he).1;obtain ⟨b,cp,e1,e2⟩:=dN h (j:=i) (by omega);simp only [Value.slice.injEq,true_and] at e1;exact ⟨b,0,s,e1.1,by rw [Nat.zero_add,e2];simp [he],rfl,hs s (List.mem_of_getElem? he)⟩
theorem Tryz.infTx:(Tryz.prog.info? 9).map (fun i=>(i.zero,i.size,i.bytes))=some (some (.string ⟨#[]⟩),1,16):=by kernel_rfl
theorem Tryz.uTx:Tryz.prog.underlying 61=some (.slice 9):=by kernel_rfl
structure qH(u:aK):Prop where
 ok:ak u=true
 fit:mf u
 len:(enc u).length≤20000
theorem qH.dec{u:aK}(h:qH u):dec (enc u)=.inl u∧40≤(enc u).length:=by
 have hd:=um h.ok h.fit [] (by simp;exact h.len);rw [List.append_nil,if_pos rfl] at hd;exact ⟨hd,(yc hd).2.2.2.2⟩
theorem qH.all{l:List aK}(h:∀u∈l,qH u):∀k,dS k (l.map enc)=.inl l:=by
 induction l with
 | nil=>intro k;rfl
 | cons u l ih=>
  intro k;rw [List.map_cons,dS,(h u List.mem_cons_self).dec.1,ih (fun v hv=>h v (List.mem_cons_of_mem _ hv)) (k+1)]
def pW(u:aK):ByteArray:=⟨(enc u).toArray⟩
theorem mn(u:aK):(pW u).size=(enc u).length:=by show (enc u).toArray.size=_;simp
def AE(W:World)(o:i4)(x:Ending)(w':World):Prop:=∃vo,x=.returned (.tuple #[vo,.bool true])∧rn W.heap.size w' vo o∧Gr W w'
theorem pu(M:aK→i4)(fuel heap:Int)(l:List aK)(vl:Value)(W:World)(hR:dh W vl l)(hw:∀u∈l,qH u)(hM:uY M fuel heap l)(hll:l.length≤1000):
 Calls Tryz.prog 12 #[vl,.int .i64 fuel,.int .i64 heap] W (AE W (js M (l.map enc) fuel heap)):=by
 obtain ⟨ao,cap,rfl,hm,hc⟩:=hR;have HC:=aH hc;have HW:=aH hw;have HM:=aH hM;have HB0:=aH (heap_alloc_new W (.cells #[.int .i64 0,.int .i64 0,.int .i64 0,.int .i64 0,.int .i64 0,.slice none 0 0,.int .i64 0] 39));have HGV:Hid (Gr W (W.alloc (.cells #[.int .i64 0,.int .i64 0,.int .i64 0,.int .i64 0,.int .i64 0,.slice none 0 0,.int .i64 0] 39))):=aH ((Gr.refl W).alloc _);have HSV:Hid ((W.alloc (.cells #[.int .i64 0,.int .i64 0,.int .i64 0,.int .i64 0,.int .i64 0,.slice none 0 0,.int .i64 0] 39)).heap.size=W.heap.size+1):=aH (by simp);clear hc hw hM hm;go_enter Tryz.func12,Tryz.ntmps12
 go_wp2_with fail
 generalize (W.alloc (.cells #[.int .i64 0,.int .i64 0,.int .i64 0,.int .i64 0,.int .i64 0,.slice none 0 0,.int .i64 0] 39))=V at HB0 HGV HSV ⊢;go_loopw [8,9] (fun vb i wr=>∃k:Nat,i=.int .i64 (k:Int)∧k≤l.length∧wr.ownsRow V.heap.size 9 1 vb ((l.take k).map pW).length (((l.take k).map pW).map fun s=>Value.string s)∧Gr V wr) (fun _ i _=>l.length - (intOf i).toNat)
 case atStart=>exact ⟨0,rfl,Nat.zero_le _,World.ownsRow_nil _ _ _ _,Gr.refl _⟩
 case round=>
  obtain ⟨k,rfl,hk,hown,hgr⟩:=hrel;have HOW:=aH hown;have HGR:=aH hgr;obtain ⟨bao,bcp,rfl⟩:=aL hown;clear hown hgr;generalize hnb:((l.take k).map pW).length=nb at HOW ⊢;have HNB:=aH hnb;clear hnb;by_cases hlt:k < l.length
  · obtain ⟨u,hu⟩:=aY hlt;obtain ⟨b,off,v1,v2,v3,v4,v5,rfl,k1,k2,k3,k4,k5,hru⟩:=HC.out k u hu;have hgW:=HGV.out.trans HGR.out;have k1:=hgW.cell k1 (by simp);have k2:=hgW.cell k2 (by simp);have k3:=hgW.cell k3 (by simp);have k4:=hgW.cell k4 (by simp);have k5:=hgW.cell k5 (by simp);have hwt:=HW.out u (List.mem_of_getElem? hu);have e1:en u=0:=by unfold en;rw [hwt.ok,if_pos rfl,if_pos hwt.len]
    have e2:eW u=enc u:=by unfold eW;rw [hwt.ok,if_pos rfl,if_pos hwt.len]
    have HEN:=aH (qo u _ wr (hru.gr hgW) hwt.fit);rw [e1,e2] at HEN;have hge:=hwt.dec.2;have hle:=hwt.len;obtain ⟨S,hS⟩:∃S:ByteArray,S=⟨(enc u).toArray⟩:=⟨_,rfl⟩;rw [←hS] at HEN;have hSz:S.size=(enc u).length:=by rw [hS];exact mn u
    have hS40:¬(S.size:Int) < 40:=by omega
    have hd40:decide ((S.size:Int) < 40)=false:=by simpa using hS40
    have hS40n:¬S.size < 40:=by omega
    have hki:(k:Int) < (l.length:Int):=by omega
    have hw1:IntKind.i64.wrap ((k:Int)+1)=(k:Int)+1:=Go.IntWalk.i64_in _ (by omega);have HTK:Hid ((l.take (k+1)).map pW=(l.take k).map pW++ [S]):=aH (by
     obtain ⟨hk',rfl⟩:=List.getElem?_eq_some_iff.1 hu;rw [List.take_succ_eq_append_getElem hk',List.map_append,hS];rfl)
    obtain ⟨⟨a1,c1,rfl⟩,⟨a2,c2,rfl⟩,⟨a3,c3,rfl⟩,⟨a4,c4,rfl⟩,⟨a5,c5,rfl⟩⟩:=hru.slices;have hbl:nb≤1000:=by have:=HNB.out;simp at this;omega
    clear hu hru hwt e1 e2 hge hle hS hSz hgW;go_wp2_with fail
    refine HEN.out.mono ?_;rintro x w2 ⟨rfl,hb2⟩;have hg2:=lq hb2;have gA:=hg2.alloc (.cells #[.string S] 9);obtain ⟨v6,w6,hr6,ho6,hg6,hl6⟩:=dC (ty:=61) 61 9 _ Tryz.infTx Tryz.uTx rfl (by decide) (by decide) (cY HOW.out gA) (eD w2 #[.string S] 9 1) rfl (by intro q hq;simp at hq;subst hq;rfl) (by omega) (by have:=HGR.out.size;have:=gA.size;omega);obtain ⟨bao6,bcp6,rfl⟩:=aL ho6;have hgn:Gr V w6:=⟨hg6.os.trans (HGR.out.trans gA).os,hg6.tape.trans (HGR.out.trans gA).tape,hg6.output.trans (HGR.out.trans gA).output,Nat.le_trans (HGR.out.trans gA).size hg6.size,fun i hi hne=>(hg6.block i (Nat.lt_of_lt_of_le hi (HGR.out.trans gA).size) (fun e=>by have:=(HOW.out.lt i e.symm).1;omega)).trans ((HGR.out.trans gA).block i hi hne)⟩;have HR6:=aH hr6;have HO6:=aH ho6;have HGN:=aH hgn;clear hb2 hg2 gA hr6 ho6 hg6 hl6 hgn HEN k1 k2 k3 k4 k5;go_wp2_with (at_builtin;refine Lib.wpList_append_run _ rfl _ _ _ _ rfl _ _ rfl rfl _ _ HR6.out ?_)
    refine ⟨⟨k+1,by simp,hlt,?_,HGN.out⟩,by simp [intOf];omega⟩;rw [HTK.out,List.length_append,List.map_append,HNB.out];exact HO6.out
  · have hkk:k=l.length:=by omega
    subst hkk;have HRT:=aH (tj (es:=(l.take l.length).map pW) (by rw [HNB.out];exact HOW.out) (fun s hs=>by
     simp only [List.mem_map] at hs;obtain ⟨u,hu,rfl⟩:=hs;have:=(HW.out u (List.mem_of_mem_take hu)).len
     rw [mn];unfold maxLen;omega))
    rw [List.take_length] at HRT;have e:(l.map pW).map (fun s=>s.data.toList)=l.map enc:=by rw [List.map_map];rfl
    rw [e] at HRT;have HRN:=aH (xe M fuel heap (l.map enc) _ wr (fun u=>pE u) HRT.out (fun us h=>by rw [qH.all HW.out 0] at h;obtain rfl:=Sum.inl.inj h;exact HM.out) (by simp;omega));clear hlt hk e;go_wp2_with fail
    refine HRN.out.mono ?_;rintro x w2 ⟨vo,rfl,⟨vt,rfl,hvt⟩,hg2⟩;obtain ⟨ta,tc,rfl⟩:=hvt.shape;generalize hoo:js M (l.map enc) fuel heap=o at hvt HRN ⊢;have HOO:=aH hoo;clear hoo;have gA:=(Gr.refl w2).alloc (.cells #[.int .i64 o.why,.int .i64 o.unit,.int .i64 o.at_,.int .i64 o.e,.int .i64 o.result,.slice ta o.told.length tc,.int .i64 o.steps] 39);have HGF:=aH (HGR.out.trans (hg2.trans gA));have hbk:=(HGF.out.block W.heap.size (by have:=HSV.out;omega) (by simp)).trans HB0.out;have HBK:=aH hbk;have HVT:=aH (hvt.kp (B:=wr.heap.size) gA.kp);have HXB:=aH (heap_alloc_new w2 (.cells #[.int .i64 o.why,.int .i64 o.unit,.int .i64 o.at_,.int .i64 o.e,.int .i64 o.result,.slice ta o.told.length tc,.int .i64 o.steps] 39));obtain ⟨⟨o0,o1,o2,o3,o4,o5,o6⟩,f0,f1,f2,f3,f4,f5,f6⟩:=fh hbk;have hlt2:W.heap.size < w2.heap.size:=by have:=HSV.out;have:=HGR.out.size;have:=hg2.size;omega
    have hnw:¬W.heap.size=w2.heap.size:=by omega
    clear hvt hg2 gA HRN;go_upto_region 10 with fail
    generalize w2.alloc (.cells #[.int .i64 o.why,.int .i64 o.unit,.int .i64 o.at_,.int .i64 o.e,.int .i64 o.result,.slice ta o.told.length tc,.int .i64 o.steps] 39)=wE at HGF HBK HVT HXB hbk o0 o1 o2 o3 o4 o5 o6 f0 f1 f2 f3 f4 f5 f6 ⊢;have x0:wE.cell? ⟨w2.heap.size,0,none⟩=some (.int .i64 o.why):=by rw [aI HXB.out];rfl
    have x1:wE.cell? ⟨w2.heap.size,1,none⟩=some (.int .i64 o.unit):=by rw [aI HXB.out];rfl
    have x2:wE.cell? ⟨w2.heap.size,2,none⟩=some (.int .i64 o.at_):=by rw [aI HXB.out];rfl
    have x3:wE.cell? ⟨w2.heap.size,3,none⟩=some (.int .i64 o.e):=by rw [aI HXB.out];rfl
    have x4:wE.cell? ⟨w2.heap.size,4,none⟩=some (.int .i64 o.result):=by rw [aI HXB.out];rfl
    have x5:wE.cell? ⟨w2.heap.size,5,none⟩=some (.slice ta o.told.length tc):=by rw [aI HXB.out];rfl
    have x6:wE.cell? ⟨w2.heap.size,6,none⟩=some (.int .i64 o.steps):=by rw [aI HXB.out];rfl
    clear hbk;go_wp2_with fail
    rw [BO];have hwb:=BE (y0:=.int .i64 o.why) (y1:=.int .i64 o.unit) (y2:=.int .i64 o.at_) (y3:=.int .i64 o.e) (y4:=.int .i64 o.result) (y5:=.slice ta o.told.length tc) (y6:=.int .i64 o.steps) HBK.out;have hwf:∀q,¬q=W.heap.size→(eg wE W.heap.size (.int .i64 o.why) (.int .i64 o.unit) (.int .i64 o.at_) (.int .i64 o.e) (.int .i64 o.result) (.slice ta o.told.length tc) (.int .i64 o.steps)).heap[q]? =wE.heap[q]? :=fun q hq=>ev hq
    have hws:(eg wE W.heap.size (.int .i64 o.why) (.int .i64 o.unit) (.int .i64 o.at_) (.int .i64 o.e) (.int .i64 o.result) (.slice ta o.told.length tc) (.int .i64 o.steps)).heap.size=wE.heap.size:=ff;have hWEe:=kZ wE W.heap.size (.int .i64 o.why) (.int .i64 o.unit) (.int .i64 o.at_) (.int .i64 o.e) (.int .i64 o.result) (.slice ta o.told.length tc) (.int .i64 o.steps);generalize eg wE W.heap.size (.int .i64 o.why) (.int .i64 o.unit) (.int .i64 o.at_) (.int .i64 o.e) (.int .i64 o.result) (.slice ta o.told.length tc) (.int .i64 o.steps)=WE at hwb hwf hws hWEe ⊢;have t0:WE.cell? ⟨W.heap.size,0,none⟩=some (.int .i64 o.why):=by rw [aI hwb];rfl
    have t1:WE.cell? ⟨W.heap.size,1,none⟩=some (.int .i64 o.unit):=by rw [aI hwb];rfl
    have t2:WE.cell? ⟨W.heap.size,2,none⟩=some (.int .i64 o.at_):=by rw [aI hwb];rfl
    have t3:WE.cell? ⟨W.heap.size,3,none⟩=some (.int .i64 o.e):=by rw [aI hwb];rfl
    have t4:WE.cell? ⟨W.heap.size,4,none⟩=some (.int .i64 o.result):=by rw [aI hwb];rfl
    have t5:WE.cell? ⟨W.heap.size,5,none⟩=some (.slice ta o.told.length tc):=by rw [aI hwb];rfl
    have t6:WE.cell? ⟨W.heap.size,6,none⟩=some (.int .i64 o.steps):=by rw [aI hwb];rfl
    refine bodyPost_ret (v:=.tuple #[.agg #[.int .i64 o.why,.int .i64 o.unit,.int .i64 o.at_,.int .i64 o.e,.int .i64 o.result,.slice ta o.told.length tc,.int .i64 o.steps],.bool true]) (by simp [results,Tryz.results12,go_sem,t0,t1,t2,t3,t4,t5,t6]) rfl ?_;have hgf:=HGV.out.trans HGF.out;rw [HOO.out];exact ⟨_,rfl,⟨_,rfl,(HVT.out.kp (fun q hq _=>hwf q (by have:=HGR.out.size;have:=HSV.out;omega))).mono (B:=W.heap.size) (by have:=HGR.out.size;have:=HSV.out;omega)⟩,⟨hWEe.1.trans hgf.os,hWEe.2.1.trans hgf.tape,hWEe.2.2.trans hgf.output,by rw [hws];exact hgf.size,fun i hi hne=>(hwf i (by omega)).trans (hgf.block i hi hne)⟩⟩
def rB(u:aK)(f:aO)(T:Nat→Option (List Int))(q:Nat)(s:List Int):Prop:=∃i s',f.code[q]? =some i∧gE u f i s=some s'∧∀t∈eA f q i,∃t',t=some t'∧T t'=some s'
structure yG(u:aK)(f:aO)(T:Nat→Option (List Int)):Prop where
 zero:T 0=some []
 step:∀q s,T q=some s→rB u f T q s
theorem jp{s:List Int}{q:Nat}:∀(l:List (Option Nat)) (st st':Nat→Option (List Int)),bz s q l st=.inr st'→∀t∈l,∃t',t=some t'∧st' t'=some s
 | [],st,st',h,t,ht=>by cases ht
 | none :: l,st,st',h,t,ht=>by simp [bz] at h
 | some x :: l,st,st',h,t,ht=>by
  rw [bz] at h;cases hx:st x with
  | none=>
   rw [hx] at h;simp only at h;rcases List.mem_cons.1 ht with rfl|ht
   · refine ⟨x,rfl,?_⟩;have:=fI l _ _ h x (by simp)
     rw [this];simp
   · exact jp l _ _ h t ht
  | some s0=>
   rw [hx] at h;simp only at h;by_cases e:s0=s
   · rw [if_pos e] at h;rcases List.mem_cons.1 ht with rfl|ht
     · refine ⟨x,rfl,?_⟩;have:=fI l _ _ h x (by rw [hx];rfl)
       rw [this,hx,e]
     · exact jp l _ _ h t ht
   · rw [if_neg e] at h;cases h
theorem jm{s:List Int}{q:Nat}:∀(l:List (Option Nat)) (st st':Nat→Option (List Int)),bz s q l st=.inr st'→∀k,(st' k).isSome=true→(st k).isSome=true∨some k∈l
 | [],st,st',h,k,hk=>by simp [bz] at h;subst h;exact .inl hk
 | none :: l,st,st',h,k,hk=>by simp [bz] at h
 | some x :: l,st,st',h,k,hk=>by
  rw [bz] at h;cases hx:st x with
  | none=>
   rw [hx] at h;simp only at h;rcases jm l _ _ h k hk with h1|h1
   · by_cases e:k=x
     · exact .inr (by rw [e];exact List.mem_cons_self)
     · simp only [if_neg e] at h1;exact .inl h1
   · exact .inr (List.mem_cons_of_mem _ h1)
  | some s0=>
   rw [hx] at h;simp only at h;by_cases e:s0=s
   · rw [if_pos e] at h;rcases jm l _ _ h k hk with h1|h1
     · exact .inl h1
     · exact .inr (List.mem_cons_of_mem _ h1)
   · rw [if_neg e] at h;cases h
theorem wO{u:aK}{f:aO}{i:aw}{s s':List Int}(h:gE u f i s=some s'):∃ts ps,dJ u f i=some (ts,ps):=by
 unfold gE at h;cases he:dJ u f i with
 | none=>rw [he] at h;cases h
 | some p=>exact ⟨p.1,p.2,rfl⟩
theorem xy{u:aK}{f:aO}{i:aw}{s s':List Int}{q t:Nat}(hd:gE u f i s=some s')(hi:f.code[q]? =some i)(ht:some t∈eA f q i):t < f.code.length:=by
 have hq:q < f.code.length:=(List.getElem?_eq_some_iff.1 hi).1;obtain ⟨ts,ps,he⟩:=wO hd;unfold eA at ht;by_cases h11:i.op=11
 · rw [if_pos h11] at ht;simp only [List.mem_singleton,Option.some.injEq] at ht;have:i.a < (f.code.length:Int):=by
    unfold dJ at he;simp only [h11] at he;simp at he
    exact he.1
   omega
 · rw [if_neg h11] at ht;by_cases h14:i.op=14
   · rw [if_pos h14] at ht;cases ht
   · rw [if_neg h14] at ht;by_cases h12:i.op=12
     · rw [if_pos h12] at ht;simp only [List.mem_cons,List.not_mem_nil,or_false] at ht;rcases ht with ht|ht
       · split at ht
         · simp only [Option.some.injEq] at ht;omega
         · cases ht
       · simp only [Option.some.injEq] at ht;have:i.a < (f.code.length:Int):=by
          unfold dJ at he;simp only [h12] at he;simp at he
          exact he.1
         omega
     · rw [if_neg h12] at ht;simp only [List.mem_singleton] at ht;split at ht
       · simp only [Option.some.injEq] at ht;omega
       · cases ht
theorem rB.mono{u:aK}{f:aO}{T T':Nat→Option (List Int)}{q:Nat}{s:List Int}(h:rB u f T q s)(hm:∀k,(T k).isSome=true→T' k=T k):rB u f T' q s:=by
 obtain ⟨i,s',h1,h2,h3⟩:=h;refine ⟨i,s',h1,h2,fun t ht=>?_⟩;obtain ⟨t',e,h4⟩:=h3 t ht;exact ⟨t',e,by rw [hm t' (by rw [h4];rfl),h4]⟩
theorem pt(u:aK)(f:aO):∀(k:Nat) (st:Nat→Option (List Int)) (dn:Nat→Bool),cV f.code.length dn < k→(∀q,(st q).isSome=true→q < f.code.length)→(∀q,dn q=true→∃s,st q=some s∧rB u f st q s)→iO u f k st dn=none→
 ∃T,(∀q,(st q).isSome=true→T q=st q)∧∀q s,T q=some s→rB u f T q s
 | 0,st,dn,h,_,_,_=>by omega
 | k+1,st,dn,h,hlt,hdn,hl=>by
  cases hp:gl f.code.length st dn with
  | none=>
   refine ⟨st,fun _ _=>rfl,fun q s hq=>?_⟩;have:=(kz.1 hp) q (hlt q (by rw [hq];rfl))
   rw [hq] at this;simp at this
   obtain ⟨s2,h1,h2⟩:=hdn q this;rw [hq] at h1;cases h1
   exact h2
  | some q=>
   obtain ⟨hqn,hq1,_⟩:=lC.1 hp;simp only [Bool.and_eq_true,Bool.not_eq_true'] at hq1;obtain ⟨i,hi⟩:∃i,f.code[q]? =some i:=⟨_,List.getElem?_eq_getElem hqn⟩;obtain ⟨s,hs⟩:=Option.isSome_iff_exists.1 hq1.1;rw [iO,hp] at hl;simp only [hi,hs] at hl;cases hd:gE u f i s with
   | none=>rw [hd] at hl;cases hl
   | some s'=>
    rw [hd] at hl;simp only at hl;cases hc:bz s' q (eA f q i) st with
    | inl t=>rw [hc] at hl;cases hl
    | inr st'=>
     rw [hc] at hl;simp only at hl;have hkeep:=fI (eA f q i) st st' hc;have hok:rB u f st' q s:=⟨i,s',hi,hd,jp _ _ _ hc⟩;have hun:=gP f.code.length q dn hqn hq1.2;obtain ⟨T,h1,h2⟩:=pt u f k st' (fun j=>decide (j=q) || dn j) (by omega) (fun j hj=>by
      rcases jm _ _ _ hc j hj with h|h
      · exact hlt j h
      · exact xy hd hi h) (fun j hj=>by
      by_cases e:j=q
      · subst e;exact ⟨s,by rw [hkeep j hq1.1,hs],hok⟩
      · simp only [e,decide_false,Bool.false_or] at hj;obtain ⟨s2,h1,h2⟩:=hdn j hj;exact ⟨s2,by rw [hkeep j (by rw [h1];rfl),h1],h2.mono hkeep⟩) hl
     exact ⟨T,fun j hj=>by rw [h1 j (by rw [hkeep j hj];exact hj),hkeep j hj],h2⟩
theorem tf{u:aK}{f:aO}(hf:1≤f.code.length)(h:et u f=none):∃T,yG u f T:=by
 obtain ⟨T,h1,h2⟩:=pt u f (f.code.length+1) _ _ (by have:=mq f.code.length (fun _=>false);omega) (fun q hq=>by
  by_cases e:q=0
  · omega
  · simp [e] at hq) (fun q hq=>by cases hq) h
 exact ⟨T,by rw [h1 0 (by simp)];simp,h2⟩
theorem rP{u:aK}(hu:ak u=true)(h:aa u=(0,0,0)):∀f∈u.aE,∃T,yG u f T:=by
 have hf:∀(l:List aO) (k:Nat),fU u k l=(0,0,0)→∀f∈l,et u f=none:=by
  intro l
  induction l with
  | nil=>intro k _ f hf;cases hf
  | cons g l ih=>
   intro k h f hf;rw [fU] at h;cases hw:et u g with
   | some q=>rw [hw] at h;simp at h
   | none=>
    rw [hw] at h;rcases List.mem_cons.1 hf with rfl|hf
    · exact hw
    · exact ih _ h f hf
 unfold aa at h;rw [if_pos hu] at h;intro f hm;refine tf ?_ (hf _ _ h f hm);unfold ak cL at hu;simp only [Bool.and_eq_true] at hu;have:=List.all_eq_true.1 hu.2.2.1.2 f hm
 unfold c_ gI at this;simp only [wB,Bool.and_eq_true,decide_eq_true_eq] at this;omega
end Go.Proofs.YtkgncijcnlfhiaaGreat
