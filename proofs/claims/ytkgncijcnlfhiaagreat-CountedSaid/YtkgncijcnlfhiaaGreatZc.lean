import Derived.Test.YtkgncijcnlfhiaaGreatZ3
namespace Go.Proofs.YtkgncijcnlfhiaaGreat
set_option maxRecDepth 100000
set_option maxHeartbeats 4000000
set_option linter.unusedVariables false
set_option linter.unusedSimpArgs false
open Go.RowKit
attribute [local go_sem ↓] Go.wp_at_zero Go.wp_at_succ
theorem iC(ao:Option Addr)(n cap:Nat)(w:World):Calls Tryz.prog 49 #[.slice ao n cap] w fun x w'=>x=.returned (.int .i64 (n:Int))∧w'=w:=by
 go_enter Tryz.func49,Tryz.ntmps49
 go_wp2
 go_ret
 exact ⟨rfl,rfl⟩
theorem qj(B g cap i j:Nat)(l:List Int)(w:World)(h:ce w B (.slice (some ⟨g,0,none⟩) l.length cap) l)(hi:i < l.length)(hj:j < l.length):
 Calls Tryz.prog 160 #[.slice (some ⟨g,0,none⟩) l.length cap,.int .i64 (i:Int),.int .i64 (j:Int)] w fun x w'=>x=.returned (.bool (decide (bZ l i < bZ l j)))∧Gr w w':=by
 obtain ⟨g',cap',he,_,_,hc,_⟩:=h.at (by omega);simp only [Value.slice.injEq,Option.some.injEq,Addr.mk.injEq,and_true,true_and] at he;obtain ⟨rfl,rfl⟩:=he;have h1:=hc i hi;have h2:=hc j hj;clear hc h;generalize bZ l i=x at h1 ⊢;generalize bZ l j=y at h2 ⊢;generalize l.length=n at hi hj;have hb1:(i:Int) < (n:Int):=by omega
 have hb2:(j:Int) < (n:Int):=by omega
 go_enter Tryz.func160,Tryz.ntmps160
 go_wp2_with fail
 go_quiet (fail)
 go_wp2_with fail
 go_ret
 exact ⟨rfl,⟨rfl,rfl,rfl,Nat.le_refl _,fun _ _ _=>rfl⟩⟩
theorem ce.swap{w:World}{B g cap:Nat}{l:List Int}(h:ce w B (.slice (some ⟨g,0,none⟩) l.length cap) l)(i j:Nat):ce ((w.setCell ⟨g,i,none⟩ (.int .i64 (bZ l j))).setCell ⟨g,j,none⟩ (.int .i64 (bZ l i))) B (.slice (some ⟨g,0,none⟩) l.length cap) (eS l i j):=by
 have h1:=h.set i (bZ l j);have hl:(l.set i (bZ l j)).length=l.length:=by simp
 rw [←hl] at h1;have h2:=h1.set j (bZ l i);rw [hl] at h2;exact h2
theorem r9{w:World}{g o:Nat}{v:Value}:w.grownBy (w.setCell ⟨g,o,none⟩ v) (some g):=⟨rfl,rfl,rfl,by simp,fun k _ hk=>Below.heap_setCell _ _ _ _ (fun e=>hk (by rw [e]))⟩
theorem f_{g:Nat}{a b c:World}(h:a.grownBy b (some g))(k:b.grownBy c (some g)):a.grownBy c (some g):=⟨k.os.trans h.os,k.tape.trans h.tape,k.output.trans h.output,Nat.le_trans h.size k.size,fun i hi hne=>(k.block i (Nat.lt_of_lt_of_le hi h.size) hne).trans (h.block i hi hne)⟩
theorem qh(B g cap i j:Nat)(l:List Int)(w:World)(h:ce w B (.slice (some ⟨g,0,none⟩) l.length cap) l)(hi:i < l.length)(hj:j < l.length):
 Calls Tryz.prog 162 #[.slice (some ⟨g,0,none⟩) l.length cap,.int .i64 (i:Int),.int .i64 (j:Int)] w fun x w'=>x=.returned (.tuple #[])∧ce w' B (.slice (some ⟨g,0,none⟩) l.length cap) (eS l i j)∧w.grownBy w' (some g):=by
 have HH:=aH h;obtain ⟨g',cap',he,_,_,hc,hz⟩:=h.at (by omega);simp only [Value.slice.injEq,Option.some.injEq,Addr.mk.injEq,and_true,true_and] at he;obtain ⟨rfl,rfl⟩:=he;have h1:=hc i hi;have h2:=hc j hj;have z1:=hz i;have z2:=hz j;clear hc hz h;have HSW:=aH (HH.out.swap i j);generalize bZ l i=x at h1 HSW;generalize bZ l j=y at h2 HSW;have k1:(w.setCell ⟨g,i,none⟩ (.int .i64 y)).cell? ⟨g,j,none⟩=some (.int .i64 y):=by
  by_cases e:i=j
  · subst e;exact World.cell?_setCell_same _ _ _ h1
  · rw [World.cell?_setCell_other _ _ _ _ (by intro h;simp only [Addr.mk.injEq,true_and,and_true] at h;exact e h)];exact h2
 generalize hn:l.length=n at hi hj;have hb1:(i:Int) < (n:Int):=by omega
 have hb2:(j:Int) < (n:Int):=by omega
 go_enter Tryz.func162,Tryz.ntmps162
 go_wp2_with fail
 go_region
 all_goals go_wp2_with fail
 all_goals go_end0
 all_goals exact ⟨rfl,(by subst hn;exact HSW.out),by first|exact f_ r9 r9|(have hx:w.grownBy ((w.setCell ⟨g,i,none⟩ (.int .i64 y)).setCell ⟨g,j,none⟩ (.int .i64 x)) (some g):=f_ r9 r9;exact ⟨hx.os,hx.tape,hx.output,hx.size,hx.block⟩)⟩
open Go.RowKit
attribute [local go_sem ↓] Go.wp_at_zero Go.wp_at_succ
theorem yI(w:World)(lb lo:Nat)(v:Value)(h:w.cell? ⟨lb,lo,none⟩=some v)(hv:∃a n c,v=.slice a n c):(method 345 101 (.pointer (some ⟨lb,lo,none⟩)) "Len").run Tryz.prog w=.ok (49,v) w:=by
 have e:(method 345 101 (.pointer (some ⟨lb,lo,none⟩)) "Len").run Tryz.prog w=(do let x←loadVar 72 ⟨lb,lo,none⟩;pure (49,x):Sem (FuncId×Value)).run Tryz.prog w:=by kernel_rfl
 obtain ⟨a,n,c,rfl⟩:=hv;rw [e];simp [go_sem,h]
theorem lR(w:World)(lb lo:Nat)(v:Value)(h:w.cell? ⟨lb,lo,none⟩=some v)(hv:∃a n c,v=.slice a n c):(method 345 101 (.pointer (some ⟨lb,lo,none⟩)) "Less").run Tryz.prog w=.ok (160,v) w:=by
 have e:(method 345 101 (.pointer (some ⟨lb,lo,none⟩)) "Less").run Tryz.prog w=(do let x←loadVar 72 ⟨lb,lo,none⟩;pure (160,x):Sem (FuncId×Value)).run Tryz.prog w:=by kernel_rfl
 obtain ⟨a,n,c,rfl⟩:=hv;rw [e];simp [go_sem,h]
theorem lv(w:World)(lb lo:Nat)(v:Value)(h:w.cell? ⟨lb,lo,none⟩=some v)(hv:∃a n c,v=.slice a n c):(method 345 101 (.pointer (some ⟨lb,lo,none⟩)) "Swap").run Tryz.prog w=.ok (162,v) w:=by
 have e:(method 345 101 (.pointer (some ⟨lb,lo,none⟩)) "Swap").run Tryz.prog w=(do let x←loadVar 72 ⟨lb,lo,none⟩;pure (162,x):Sem (FuncId×Value)).run Tryz.prog w:=by kernel_rfl
 obtain ⟨a,n,c,rfl⟩:=hv;rw [e];simp [go_sem,h]
theorem yf(w:World)(lb lo:Nat):(method 345 101 (.pointer (some ⟨lb,lo,none⟩)) "Push").run Tryz.prog w=.ok (164,.pointer (some ⟨lb,lo,none⟩)) w:=by kernel_rfl
theorem za(w:World)(lb lo:Nat):(method 345 101 (.pointer (some ⟨lb,lo,none⟩)) "Pop").run Tryz.prog w=.ok (163,.pointer (some ⟨lb,lo,none⟩)) w:=by kernel_rfl
structure iP(w:World)(lb lo B g cap n:Nat)(l:List Int):Prop where
 cell:w.cell? ⟨lb,lo,none⟩=some (.slice (some ⟨g,0,none⟩) n cap)
 len:l.length=n
 row:ce w B (.slice (some ⟨g,0,none⟩) n cap) l
 lb:lb < B
 small:n≤1000000
theorem iP.ge{w:World}{lb lo B g cap n:Nat}{l:List Int}(h:iP w lb lo B g cap n l):B≤g:=(World.ownsRow.lt h.row g rfl).1
theorem iP.gr{w w':World}{lb lo B g cap n:Nat}{l:List Int}(h:iP w lb lo B g cap n l)(k:Gr w w'):iP w' lb lo B g cap n l:=
 ⟨k.cell h.cell (by simp),h.len,h.row.keep fun b hb=>k.block b (World.ownsRow.lt h.row b hb).2 (by simp),h.lb,h.small⟩
theorem iP.swap{w w':World}{lb lo B g cap n:Nat}{l l':List Int}(h:iP w lb lo B g cap n l)(k:w.grownBy w' (some g))(hr:ce w' B (.slice (some ⟨g,0,none⟩) n cap) l')(hl:l'.length=l.length):iP w' lb lo B g cap n l':=
 ⟨k.cell h.cell (by have:=h.ge;have:=h.lb;simp;omega),hl.trans h.len,hr,h.lb,h.small⟩
theorem pU{g:Nat}{a b c:World}(h:a.grownBy b (some g))(k:Gr b c):a.grownBy c (some g):=⟨k.os.trans h.os,k.tape.trans h.tape,k.output.trans h.output,Nat.le_trans h.size k.size,fun i hi hne=>(k.block i (Nat.lt_of_lt_of_le hi h.size) (by simp)).trans (h.block i hi hne)⟩
theorem rY(g:Nat)(a:World):a.grownBy a (some g):=⟨rfl,rfl,rfl,Nat.le_refl _,fun _ _ _=>rfl⟩
theorem iZ{B g cap n i j:Nat}{l:List Int}{w:World}(hn:l.length=n)(h:ce w B (.slice (some ⟨g,0,none⟩) n cap) l)(hi:i < n)(hj:j < n):
 Calls Tryz.prog 160 #[.slice (some ⟨g,0,none⟩) n cap,.int .i64 (i:Int),.int .i64 (j:Int)] w fun x w'=>x=.returned (.bool (decide (bZ l i < bZ l j)))∧Gr w w':=by
 subst hn;exact qj B g cap i j l w h hi hj
theorem iq{B g cap n i j:Nat}{l:List Int}{w:World}(hn:l.length=n)(h:ce w B (.slice (some ⟨g,0,none⟩) n cap) l)(hi:i < n)(hj:j < n):
 Calls Tryz.prog 162 #[.slice (some ⟨g,0,none⟩) n cap,.int .i64 (i:Int),.int .i64 (j:Int)] w fun x w'=>x=.returned (.tuple #[])∧ce w' B (.slice (some ⟨g,0,none⟩) n cap) (eS l i j)∧w.grownBy w' (some g):=by
 subst hn;exact qh B g cap i j l w h hi hj
def yg(w:World)(lb lo B g cap n:Nat)(l:List Int)(w':World):Prop:=∃l',iP w' lb lo B g cap n l'∧Hp (bZ l') n∧fX (bZ l) (bZ l') n∧w.grownBy w' (some g)
theorem yt(lb lo B g cap n j:Nat)(l:List Int)(w:World)(h:iP w lb lo B g cap n l)(hj:j < n)(hu:CF (bZ l) n j):
 Calls Tryz.prog 115 #[.iface 101 (.pointer (some ⟨lb,lo,none⟩)),.int .i64 (j:Int)] w fun x w'=>x=.returned (.tuple #[])∧yg w lb lo B g cap n l w':=by
 have HH:=aH h;have HU:=aH hu;have hsm:=h.small;clear h hu;go_enter Tryz.func115,Tryz.ntmps115
 go_wp2_with fail
 go_loopw [1] (fun i wr=>∃(k:Nat) (l':List Int),i=.int .i64 (k:Int)∧k < n∧iP wr lb lo B g cap n l'∧CF (bZ l') n k∧fX (bZ l) (bZ l') n∧w.grownBy wr (some g)) (fun i _=>(intOf i).toNat)
 case atStart=>exact ⟨j,l,rfl,hj,HH.out,HU.out,fX.refl _ _,rY _ _⟩
 case round=>
  obtain ⟨k,l',rfl,hk,h1,h2,h3,h4⟩:=hrel;have H1:=aH h1;have H2:=aH h2;have H3:=aH h3;have H4:=aH h4;have hc:=h1.cell;clear h1 h2 h3 h4 HH HU;have hnot:∀(x:Bool) (w:World),(Op.unary .not (.bool x)).run Tryz.prog w=.ok (.bool (!x)) w:=fun _ _=>rfl
  by_cases hk0:0 < k
  · obtain ⟨p1,hp1⟩:∃p1:Nat,p1+1=k:=⟨k - 1,by omega⟩;obtain ⟨q,hq⟩:∃q:Nat,p1 / 2=q:=⟨_,rfl⟩;have hw1:IntKind.i64.wrap ((k:Int) - 1)=(p1:Int):=by rw [Go.IntWalk.i64_in _ (by omega)];omega
    have hw2:IntKind.i64.wrap ((p1:Int) / 2)=(q:Int):=by rw [Go.IntWalk.i64_in _ (by omega)];omega
    have hw3:wrap64 ((p1:Int) / 2)=(q:Int):=by rw [Go.IntWalk.wrap64_in _ (by omega)];omega
    have hne:¬q=k:=by omega
    have hne1:¬(q:Int)=(k:Int):=by omega
    have hne2:((q:Int) == (k:Int))=false:=by rw [beq_eq_false_iff_ne];omega
    have hne3:(q == k)=false:=by rw [beq_eq_false_iff_ne];omega
    have hqk:q=(k - 1) / 2:=by omega
    have HQK:=aH hqk;have hqn:q < n:=by omega
    clear hqk hp1 hq;have hm1:=lR wr lb lo _ hc ⟨_,_,_,rfl⟩;go_wp2_with fail
    refine (iZ H1.out.len H1.out.row hk hqn).mono ?_;rintro x w2 ⟨rfl,hg2⟩;have HA2:=aH (H1.out.gr hg2);have HG2:=aH (pU H4.out hg2);have hc2:=HA2.out.cell;have hm2:=lv w2 lb lo _ hc2 ⟨_,_,_,rfl⟩;clear hm1 hc hg2;by_cases hlt:bZ l' k < bZ l' q
    · have hd:decide (bZ l' k < bZ l' q)=true:=by simpa using hlt
      rw [hd];have HLT:=aH hlt;clear hd hlt;go_wp2_with fail
      refine (iq HA2.out.len HA2.out.row hqn hk).mono ?_;rintro x w3 ⟨rfl,hr3,hg3⟩;have HA3:=aH (HA2.out.swap hg3 hr3 (hO _ _ _));have HG3:=aH (f_ HG2.out hg3);clear hr3 hg3 hm2 hc2;go_wp2_with fail
      have e1:bZ (eS l' q k)=jN (bZ l') q k:=ik (by rw [HA2.out.len];exact hqn) (by rw [HA2.out.len];exact hk);have hst:=H2.out.step hk hk0 (by have:=HLT.out;rw [HQK.out] at this;exact this);rw [←HQK.out,←e1] at hst;have hsm2:fX (bZ l') (bZ (eS l' q k)) n:=by rw [e1];exact kI hqn hk
      refine ⟨⟨q,_,rfl,hqn,HA3.out,hst,H3.out.trans hsm2,HG3.out⟩,?_⟩;have:=HQK.out
      simp [intOf];omega
    · have hd:decide (bZ l' k < bZ l' q)=false:=by simpa using hlt
      rw [hd];have HLT:=aH hlt;clear hd hlt hm2 hc2;go_wp2_with fail
      go_end0
      exact ⟨rfl,l',HA2.out,H2.out.stop (.inr (by have:=HLT.out;rw [HQK.out] at this;omega)),H3.out,HG2.out⟩
  · obtain rfl:k=0:=by omega
    have hw1:IntKind.i64.wrap (((0:Nat):Int) - 1)=-1:=by decide
    have hw2:IntKind.i64.wrap ((-1:Int).tdiv 2)=0:=by decide
    go_wp2_with fail
    go_end0
    exact ⟨rfl,l',H1.out,H2.out.stop (.inl rfl),H3.out,H4.out⟩
open Go.RowKit
attribute [local go_sem ↓] Go.wp_at_zero Go.wp_at_succ
def AD(P:World→Prop)(x:Ending)(w':World):Prop:=∃b,x=.returned (.bool b)∧P w'
def xi(w:World)(lb lo B g cap N n:Nat)(l:List Int)(w':World):Prop:=∃l',iP w' lb lo B g cap N l'∧Hp (bZ l') n∧fX (bZ l) (bZ l') n∧bZ l' n=bZ l n∧w.grownBy w' (some g)
theorem vF(lb lo B g cap N n:Nat)(l:List Int)(w:World)(h:iP w lb lo B g cap N l)(hN:n < N)(hu:pI (bZ l) n 0):
 Calls Tryz.prog 81 #[.iface 101 (.pointer (some ⟨lb,lo,none⟩)),.int .i64 0,.int .i64 (n:Int)] w (AD (xi w lb lo B g cap N n l)):=by
 have HH:=aH h;have HU:=aH hu;have hsm:=h.small;clear h hu;go_enter Tryz.func81,Tryz.ntmps81
 go_wp2_with fail
 go_loopw [7] (fun i wr=>∃(k:Nat) (l':List Int),i=.int .i64 (k:Int)∧k < N∧iP wr lb lo B g cap N l'∧pI (bZ l') n k∧fX (bZ l) (bZ l') n∧bZ l' n=bZ l n∧w.grownBy wr (some g)) (fun i _=>N - (intOf i).toNat)
 case atStart=>exact ⟨0,l,rfl,by omega,HH.out,HU.out,fX.refl _ _,rfl,rY _ _⟩
 case round=>
  obtain ⟨k,l',rfl,hk,h1,h2,h3,h5,h4⟩:=hrel;have H1:=aH h1;have H2:=aH h2;have H3:=aH h3;have H4:=aH h4;have H5:=aH h5;have hc:=h1.cell;clear h1 h2 h3 h4 h5 HH HU;have hnot:∀(x:Bool) (w:World),(Op.unary .not (.bool x)).run Tryz.prog w=.ok (.bool (!x)) w:=fun _ _=>rfl
  obtain ⟨m,hm⟩:∃m:Nat,2 * k=m:=⟨_,rfl⟩;obtain ⟨j1,hj1⟩:∃j1:Nat,m+1=j1:=⟨_,rfl⟩;obtain ⟨j2,hj2⟩:∃j2:Nat,j1+1=j2:=⟨_,rfl⟩;have hw1:IntKind.i64.wrap (2 * (k:Int))=(m:Int):=by rw [Go.IntWalk.i64_in _ (by omega)];omega
  have hw2:IntKind.i64.wrap ((m:Int)+1)=(j1:Int):=by rw [Go.IntWalk.i64_in _ (by omega)];omega
  have hw3:IntKind.i64.wrap ((j1:Int)+1)=(j2:Int):=by rw [Go.IntWalk.i64_in _ (by omega)];omega
  have hv1:wrap64 (2 * (k:Int))=(m:Int):=by rw [Go.IntWalk.wrap64_in _ (by omega)];omega
  have hv2:wrap64 ((m:Int)+1)=(j1:Int):=by rw [Go.IntWalk.wrap64_in _ (by omega)];omega
  have hv3:wrap64 ((j1:Int)+1)=(j2:Int):=by rw [Go.IntWalk.wrap64_in _ (by omega)];omega
  have HWS:=aH (And.intro hw1 (And.intro hw2 (And.intro hw3 (And.intro hv1 (And.intro hv2 hv3)))));clear hw1 hw2 hw3 hv1 hv2 hv3;have HJ:Hid (j1=2 * k+1∧j2=2 * k+2):=aH ⟨by omega,by omega⟩;have hjj:j1=2 * k+1∧j2=2 * k+2:=HJ.out;obtain ⟨ej1,ej2⟩:=hjj;have hneg:¬(j1:Int) < 0:=by omega
  clear hm hj1 hj2;by_cases hge:n≤j1
  · have hgi:(n:Int)≤(j1:Int):=by omega
    clear ej1 ej2;obtain ⟨hw1,hw2,hw3,hv1,hv2,hv3⟩:=HWS.out;go_wp2_with fail
    clear hw1 hw2 hw3 hv1 hv2 hv3;go_ret
    exact ⟨_,rfl,l',H1.out,H2.out.stop (fun d h1 h2 h3=>by have:=HJ.out;omega),H3.out,H5.out,H4.out⟩
  · have hgi:¬(n:Int)≤(j1:Int):=by omega
    by_cases hlt2:j2 < n
    · have hli:(j2:Int) < (n:Int):=by omega
      have hm0:=lR wr lb lo _ hc ⟨_,_,_,rfl⟩;have hj1N:j1 < N:=by omega
      have hj2N:j2 < N:=by omega
      clear ej1 ej2;obtain ⟨hw1,hw2,hw3,hv1,hv2,hv3⟩:=HWS.out;go_wp2_with fail
      clear hw1 hw2 hw3 hv1 hv2 hv3;refine (iZ H1.out.len H1.out.row hj2N hj1N).mono ?_;rintro x w2 ⟨rfl,hg2⟩;have HA2:=aH (H1.out.gr hg2);have HG2:=aH (pU H4.out hg2);clear hm0 hg2 hc;by_cases hl2:bZ l' j2 < bZ l' j1
      · have hd2:decide (bZ l' j2 < bZ l' j1)=true:=by simpa using hl2
        rw [hd2];have HL2:=aH hl2;clear hd2 hl2;have hm1:=lR w2 lb lo _ HA2.out.cell ⟨_,_,_,rfl⟩;obtain ⟨hw1,hw2,hw3,hv1,hv2,hv3⟩:=HWS.out;go_wp2_with fail
        clear hw1 hw2 hw3 hv1 hv2 hv3;refine (iZ HA2.out.len HA2.out.row (show j2 < N by have:=HJ.out;omega) (show k < N by have:=HJ.out;omega)).mono ?_;rintro x wl ⟨rfl,hgl⟩;have HAl:=aH (HA2.out.gr hgl);have HGl:=aH (pU HG2.out hgl);have hm2:=lv wl lb lo _ HAl.out.cell ⟨_,_,_,rfl⟩;clear hm1 hgl;by_cases hlt:bZ l' j2 < bZ l' k
        · have hd:decide (bZ l' j2 < bZ l' k)=true:=by simpa using hlt
          rw [hd];have HLT:=aH hlt;clear hd hlt;obtain ⟨hw1,hw2,hw3,hv1,hv2,hv3⟩:=HWS.out;go_wp2_with fail
          clear hw1 hw2 hw3 hv1 hv2 hv3;refine (iq HAl.out.len HAl.out.row (show k < N by have:=HJ.out;omega) (show j2 < N by have:=HJ.out;omega)).mono ?_;rintro x ws ⟨rfl,hrs,hgs⟩;have HAs:=aH (HAl.out.swap hgs hrs (hO _ _ _));have HGs:=aH (f_ HGl.out hgs);clear hrs hgs hm2;obtain ⟨hw1,hw2,hw3,hv1,hv2,hv3⟩:=HWS.out;go_wp2_with fail
          clear hw1 hw2 hw3 hv1 hv2 hv3;have e1:bZ (eS l' k j2)=jN (bZ l') k j2:=ik (by rw [HAl.out.len];have:=HJ.out;omega) (by rw [HAl.out.len];have:=HJ.out;omega);have hst:=H2.out.step (c:=j2) (by have:=HJ.out;omega) (by have:=HJ.out;omega) (by have:=HJ.out;omega) HLT.out (fun d h1 h2 h3=>by rcases (show d=j1∨d=j2 by have:=HJ.out;omega) with rfl|rfl<;>(have:=HL2.out;omega))
          rw [←e1] at hst;have hsm2:fX (bZ l') (bZ (eS l' k j2)) n:=by rw [e1];exact kI (by have:=HJ.out;omega) (by have:=HJ.out;omega)
          have hlast:bZ (eS l' k j2) n=bZ l' n:=by rw [e1];unfold jN;rw [if_neg (by have:=HJ.out;omega),if_neg (by have:=HJ.out;omega)]
          exact ⟨⟨j2,_,rfl,by have:=HJ.out;omega,HAs.out,hst,H3.out.trans hsm2,hlast.trans H5.out,HGs.out⟩,by have:=HJ.out;simp [intOf];omega⟩
        · have hd:decide (bZ l' j2 < bZ l' k)=false:=by simpa using hlt
          rw [hd];have HLT:=aH hlt;clear hd hlt hm2;obtain ⟨hw1,hw2,hw3,hv1,hv2,hv3⟩:=HWS.out;go_wp2_with fail
          clear hw1 hw2 hw3 hv1 hv2 hv3;go_ret
          have hmin:∀d,0 < d→d < n→(d - 1) / 2=k→bZ l' j2≤bZ l' d:=fun d h1 h2 h3=>by rcases (show d=j1∨d=j2 by have:=HJ.out;omega) with rfl|rfl<;>(have:=HL2.out;omega)
          exact ⟨_,rfl,l',HAl.out,H2.out.stop (fun d h1 h2 h3=>by have:=hmin d h1 h2 h3;have:=HLT.out;omega),H3.out,H5.out,HGl.out⟩
      · have hd2:decide (bZ l' j2 < bZ l' j1)=false:=by simpa using hl2
        rw [hd2];have HL2:=aH hl2;clear hd2 hl2;have hm1:=lR w2 lb lo _ HA2.out.cell ⟨_,_,_,rfl⟩;obtain ⟨hw1,hw2,hw3,hv1,hv2,hv3⟩:=HWS.out;go_wp2_with fail
        clear hw1 hw2 hw3 hv1 hv2 hv3;refine (iZ HA2.out.len HA2.out.row (show j1 < N by have:=HJ.out;omega) (show k < N by have:=HJ.out;omega)).mono ?_;rintro x wl ⟨rfl,hgl⟩;have HAl:=aH (HA2.out.gr hgl);have HGl:=aH (pU HG2.out hgl);have hm2:=lv wl lb lo _ HAl.out.cell ⟨_,_,_,rfl⟩;clear hm1 hgl;by_cases hlt:bZ l' j1 < bZ l' k
        · have hd:decide (bZ l' j1 < bZ l' k)=true:=by simpa using hlt
          rw [hd];have HLT:=aH hlt;clear hd hlt;obtain ⟨hw1,hw2,hw3,hv1,hv2,hv3⟩:=HWS.out;go_wp2_with fail
          clear hw1 hw2 hw3 hv1 hv2 hv3;refine (iq HAl.out.len HAl.out.row (show k < N by have:=HJ.out;omega) (show j1 < N by have:=HJ.out;omega)).mono ?_;rintro x ws ⟨rfl,hrs,hgs⟩;have HAs:=aH (HAl.out.swap hgs hrs (hO _ _ _));have HGs:=aH (f_ HGl.out hgs);clear hrs hgs hm2;obtain ⟨hw1,hw2,hw3,hv1,hv2,hv3⟩:=HWS.out;go_wp2_with fail
          clear hw1 hw2 hw3 hv1 hv2 hv3;have e1:bZ (eS l' k j1)=jN (bZ l') k j1:=ik (by rw [HAl.out.len];have:=HJ.out;omega) (by rw [HAl.out.len];have:=HJ.out;omega);have hst:=H2.out.step (c:=j1) (by have:=HJ.out;omega) (by have:=HJ.out;omega) (by have:=HJ.out;omega) HLT.out (fun d h1 h2 h3=>by rcases (show d=j1∨d=j2 by have:=HJ.out;omega) with rfl|rfl<;>(have:=HL2.out;omega))
          rw [←e1] at hst;have hsm2:fX (bZ l') (bZ (eS l' k j1)) n:=by rw [e1];exact kI (by have:=HJ.out;omega) (by have:=HJ.out;omega)
          have hlast:bZ (eS l' k j1) n=bZ l' n:=by rw [e1];unfold jN;rw [if_neg (by have:=HJ.out;omega),if_neg (by have:=HJ.out;omega)]
          exact ⟨⟨j1,_,rfl,by have:=HJ.out;omega,HAs.out,hst,H3.out.trans hsm2,hlast.trans H5.out,HGs.out⟩,by have:=HJ.out;simp [intOf];omega⟩
        · have hd:decide (bZ l' j1 < bZ l' k)=false:=by simpa using hlt
          rw [hd];have HLT:=aH hlt;clear hd hlt hm2;obtain ⟨hw1,hw2,hw3,hv1,hv2,hv3⟩:=HWS.out;go_wp2_with fail
          clear hw1 hw2 hw3 hv1 hv2 hv3;go_ret
          have hmin:∀d,0 < d→d < n→(d - 1) / 2=k→bZ l' j1≤bZ l' d:=fun d h1 h2 h3=>by rcases (show d=j1∨d=j2 by have:=HJ.out;omega) with rfl|rfl<;>(have:=HL2.out;omega)
          exact ⟨_,rfl,l',HAl.out,H2.out.stop (fun d h1 h2 h3=>by have:=hmin d h1 h2 h3;have:=HLT.out;omega),H3.out,H5.out,HGl.out⟩
    · have hli:¬(j2:Int) < (n:Int):=by omega
      have HLE:=aH hlt2;clear ej1 ej2;have hm1:=lR wr lb lo _ H1.out.cell ⟨_,_,_,rfl⟩;obtain ⟨hw1,hw2,hw3,hv1,hv2,hv3⟩:=HWS.out;go_wp2_with fail
      clear hw1 hw2 hw3 hv1 hv2 hv3;refine (iZ H1.out.len H1.out.row (show j1 < N by have:=HJ.out;omega) (show k < N by have:=HJ.out;omega)).mono ?_;rintro x wl ⟨rfl,hgl⟩;have HAl:=aH (H1.out.gr hgl);have HGl:=aH (pU H4.out hgl);have hm2:=lv wl lb lo _ HAl.out.cell ⟨_,_,_,rfl⟩;clear hm1 hgl;by_cases hlt:bZ l' j1 < bZ l' k
      · have hd:decide (bZ l' j1 < bZ l' k)=true:=by simpa using hlt
        rw [hd];have HLT:=aH hlt;clear hd hlt;obtain ⟨hw1,hw2,hw3,hv1,hv2,hv3⟩:=HWS.out;go_wp2_with fail
        clear hw1 hw2 hw3 hv1 hv2 hv3;refine (iq HAl.out.len HAl.out.row (show k < N by have:=HJ.out;omega) (show j1 < N by have:=HJ.out;omega)).mono ?_;rintro x ws ⟨rfl,hrs,hgs⟩;have HAs:=aH (HAl.out.swap hgs hrs (hO _ _ _));have HGs:=aH (f_ HGl.out hgs);clear hrs hgs hm2;obtain ⟨hw1,hw2,hw3,hv1,hv2,hv3⟩:=HWS.out;go_wp2_with fail
        clear hw1 hw2 hw3 hv1 hv2 hv3;have e1:bZ (eS l' k j1)=jN (bZ l') k j1:=ik (by rw [HAl.out.len];have:=HJ.out;omega) (by rw [HAl.out.len];have:=HJ.out;omega);have hst:=H2.out.step (c:=j1) (by have:=HJ.out;omega) (by have:=HJ.out;omega) (by have:=HJ.out;omega) HLT.out (fun d h1 h2 h3=>Int.le_of_eq (congrArg (bZ l') (show j1=d by have:=HJ.out;have:=HLE.out;omega)));rw [←e1] at hst;have hsm2:fX (bZ l') (bZ (eS l' k j1)) n:=by rw [e1];exact kI (by have:=HJ.out;omega) (by have:=HJ.out;omega)
        have hlast:bZ (eS l' k j1) n=bZ l' n:=by rw [e1];unfold jN;rw [if_neg (by have:=HJ.out;omega),if_neg (by have:=HJ.out;omega)]
        exact ⟨⟨j1,_,rfl,by have:=HJ.out;omega,HAs.out,hst,H3.out.trans hsm2,hlast.trans H5.out,HGs.out⟩,by have:=HJ.out;simp [intOf];omega⟩
      · have hd:decide (bZ l' j1 < bZ l' k)=false:=by simpa using hlt
        rw [hd];have HLT:=aH hlt;clear hd hlt hm2;obtain ⟨hw1,hw2,hw3,hv1,hv2,hv3⟩:=HWS.out;go_wp2_with fail
        clear hw1 hw2 hw3 hv1 hv2 hv3;go_ret
        have hmin:∀d,0 < d→d < n→(d - 1) / 2=k→bZ l' j1≤bZ l' d:=fun d h1 h2 h3=>Int.le_of_eq (congrArg (bZ l') (show j1=d by have:=HJ.out;have:=HLE.out;omega))
        exact ⟨_,rfl,l',HAl.out,H2.out.stop (fun d h1 h2 h3=>by have:=hmin d h1 h2 h3;have:=HLT.out;omega),H3.out,H5.out,HGl.out⟩
end Go.Proofs.YtkgncijcnlfhiaaGreat
