import Derived.Test.YtkgncijcnlfhiabGreatZ3
namespace Go.Proofs.YtkgncijcnlfhiabGreat
set_option maxRecDepth 100000
set_option maxHeartbeats 4000000
set_option linter.unusedVariables false
set_option linter.unusedSimpArgs false
open Go.RowKit
attribute [local go_sem ↓] Go.wp_at_zero Go.wp_at_succ
theorem ie(ao:Option Addr)(n cap:Nat)(w:World):Calls Tryz.prog 59 #[.slice ao n cap] w fun x w'=>x=.returned (.int .i64 (n:Int))/\w'=w:=by
 go_enter Tryz.func59,Tryz.ntmps59
 go_wp2
 go_ret
 exact ⟨rfl,rfl⟩
theorem sm(B g cap i j:Nat)(l:List Int)(w:World)(h:cr w B (.slice (some ⟨g,0,none⟩) l.length cap) l)(hi:i < l.length)(hj:j < l.length):
 Calls Tryz.prog 164 #[.slice (some ⟨g,0,none⟩) l.length cap,.int .i64 (i:Int),.int .i64 (j:Int)] w fun x w'=>x=.returned (.bool (decide (bW l i < bW l j)))/\Gr w w':=by
 obtain ⟨g',Se,he,_,_,hc,_⟩:=h.at Q5;simp only [Value.slice.injEq,Option.some.injEq,Addr.mk.injEq,and_true,true_and] at he;obtain ⟨rfl,rfl⟩:=he;have h1:=hc i hi;have h2:=hc j hj;clear hc h;generalize bW l i=x at h1 |-;generalize bW l j=y at h2 |-;generalize l.length=n at hi hj;have Y0:(i:Int) < (n:Int):=Q5
 have E5:(j:Int) < (n:Int):=Q5
 go_enter Tryz.func164,Tryz.ntmps164
 go_wp2_with fail
 go_quiet (fail)
 go_wp2_with fail
 go_ret
 exact ⟨rfl,⟨rfl,rfl,rfl,Nat.le_refl _,fun _ _ _=>rfl⟩⟩
theorem cr.swap{w:World}{B g cap:Nat}{l:List Int}(h:cr w B (.slice (some ⟨g,0,none⟩) l.length cap) l)(i j:Nat):cr ((w.setCell ⟨g,i,none⟩ (.int .i64 (bW l j))).setCell ⟨g,j,none⟩ (.int .i64 (bW l i))) B (.slice (some ⟨g,0,none⟩) l.length cap) (ek l i j):=by
 have h1:=h.set i (bW l j);have hl:(l.set i (bW l j)).length=l.length:=Q6
 rw [<-hl] at h1;have h2:=h1.set j (bW l i);rw [hl] at h2;exact h2
theorem oO{w:World}{g o:Nat}{v:Value}:w.grownBy (w.setCell ⟨g,o,none⟩ v) (some g):=⟨rfl,rfl,rfl,Q6,fun k _ hk=>Below.heap_setCell _ _ _ _ (fun e=>hk (by rw [e]))⟩
theorem gq{g:Nat}{a b c:World}(h:a.grownBy b (some g))(k:b.grownBy c (some g)):a.grownBy c (some g):=⟨k.os.trans h.os,k.tape.trans h.tape,k.output.trans h.output,Nat.le_trans h.size k.size,fun i hi hne=>(k.block i (Nat.lt_of_lt_of_le hi h.size) hne).trans (h.block i hi hne)⟩
theorem se(B g cap i j:Nat)(l:List Int)(w:World)(h:cr w B (.slice (some ⟨g,0,none⟩) l.length cap) l)(hi:i < l.length)(hj:j < l.length):
 Calls Tryz.prog 166 #[.slice (some ⟨g,0,none⟩) l.length cap,.int .i64 (i:Int),.int .i64 (j:Int)] w fun x w'=>x=.returned (.tuple #[])/\cr w' B (.slice (some ⟨g,0,none⟩) l.length cap) (ek l i j)/\w.grownBy w' (some g):=by
 have HH:=aH h;obtain ⟨g',Se,he,_,_,hc,hz⟩:=h.at Q5;simp only [Value.slice.injEq,Option.some.injEq,Addr.mk.injEq,and_true,true_and] at he;obtain ⟨rfl,rfl⟩:=he;have h1:=hc i hi;have h2:=hc j hj;have z1:=hz i;have z2:=hz j;clear hc hz h;have YY:=aH (HH.out.swap i j);generalize bW l i=x at h1 YY;generalize bW l j=y at h2 YY;have k1:(w.setCell ⟨g,i,none⟩ (.int .i64 y)).cell? ⟨g,j,none⟩=some (.int .i64 y):=by
  by_cases e:i=j
  · subst e;exact World.cell?_setCell_same _ _ _ h1
  · rw [World.cell?_setCell_other _ _ _ _ (by intro h;simp only [Addr.mk.injEq,true_and,and_true] at h;exact e h)];exact h2
 generalize hn:l.length=n at hi hj;have Y0:(i:Int) < (n:Int):=Q5
 have E5:(j:Int) < (n:Int):=Q5
 go_enter Tryz.func166,Tryz.ntmps166
 go_wp2_with fail
 go_region
 all_goals go_wp2_with fail
 all_goals go_end0
 all_goals exact ⟨rfl,(by subst hn;exact YY.out),by first|exact gq oO oO|(have hx:w.grownBy ((w.setCell ⟨g,i,none⟩ (.int .i64 y)).setCell ⟨g,j,none⟩ (.int .i64 x)) (some g):=gq oO oO;exact ⟨hx.os,hx.tape,hx.output,hx.size,hx.block⟩)⟩
open Go.RowKit
attribute [local go_sem ↓] Go.wp_at_zero Go.wp_at_succ
theorem zw(w:World)(lb lo:Nat)(v:Value)(h:w.cell? ⟨lb,lo,none⟩=some v)(hv:∃a n c,v=.slice a n c):(method 352 123 (.pointer (some ⟨lb,lo,none⟩)) "Len").run Tryz.prog w=.ok (59,v) w:=by
 have e:(method 352 123 (.pointer (some ⟨lb,lo,none⟩)) "Len").run Tryz.prog w=(do let x←loadVar 83 ⟨lb,lo,none⟩;pure (59,x):Sem (FuncId×Value)).run Tryz.prog w:=Q7
 obtain ⟨a,n,c,rfl⟩:=hv;rw [e];simp [go_sem,h]
theorem mZ(w:World)(lb lo:Nat)(v:Value)(h:w.cell? ⟨lb,lo,none⟩=some v)(hv:∃a n c,v=.slice a n c):(method 352 123 (.pointer (some ⟨lb,lo,none⟩)) "Less").run Tryz.prog w=.ok (164,v) w:=by
 have e:(method 352 123 (.pointer (some ⟨lb,lo,none⟩)) "Less").run Tryz.prog w=(do let x←loadVar 83 ⟨lb,lo,none⟩;pure (164,x):Sem (FuncId×Value)).run Tryz.prog w:=Q7
 obtain ⟨a,n,c,rfl⟩:=hv;rw [e];simp [go_sem,h]
theorem nC(w:World)(lb lo:Nat)(v:Value)(h:w.cell? ⟨lb,lo,none⟩=some v)(hv:∃a n c,v=.slice a n c):(method 352 123 (.pointer (some ⟨lb,lo,none⟩)) "Swap").run Tryz.prog w=.ok (166,v) w:=by
 have e:(method 352 123 (.pointer (some ⟨lb,lo,none⟩)) "Swap").run Tryz.prog w=(do let x←loadVar 83 ⟨lb,lo,none⟩;pure (166,x):Sem (FuncId×Value)).run Tryz.prog w:=Q7
 obtain ⟨a,n,c,rfl⟩:=hv;rw [e];simp [go_sem,h]
theorem z'(w:World)(lb lo:Nat):(method 352 123 (.pointer (some ⟨lb,lo,none⟩)) "Push").run Tryz.prog w=.ok (168,.pointer (some ⟨lb,lo,none⟩)) w:=Q7
theorem Bc(w:World)(lb lo:Nat):(method 352 123 (.pointer (some ⟨lb,lo,none⟩)) "Pop").run Tryz.prog w=.ok (167,.pointer (some ⟨lb,lo,none⟩)) w:=Q7
structure i_(w:World)(lb lo B g cap n:Nat)(l:List Int):Prop where
 cell:w.cell? ⟨lb,lo,none⟩=some (.slice (some ⟨g,0,none⟩) n cap)
 len:l.length=n
 row:cr w B (.slice (some ⟨g,0,none⟩) n cap) l
 lb:lb < B
 small:n<=1000000
theorem i_.ge{w:World}{lb lo B g cap n:Nat}{l:List Int}(h:i_ w lb lo B g cap n l):B<=g:=(World.ownsRow.lt h.row g rfl).1
theorem i_.gr{w w':World}{lb lo B g cap n:Nat}{l:List Int}(h:i_ w lb lo B g cap n l)(k:Gr w w'):i_ w' lb lo B g cap n l:=
 ⟨k.cell h.cell Q6,h.len,h.row.keep fun b hb=>k.block b (World.ownsRow.lt h.row b hb).2 Q6,h.lb,h.small⟩
theorem i_.swap{w w':World}{lb lo B g cap n:Nat}{l l':List Int}(h:i_ w lb lo B g cap n l)(k:w.grownBy w' (some g))(hr:cr w' B (.slice (some ⟨g,0,none⟩) n cap) l')(hl:l'.length=l.length):i_ w' lb lo B g cap n l':=
 ⟨k.cell h.cell (by have:=h.ge;have:=h.lb;simp;omega),hl.trans h.len,hr,h.lb,h.small⟩
theorem qJ{g:Nat}{a b c:World}(h:a.grownBy b (some g))(k:Gr b c):a.grownBy c (some g):=⟨k.os.trans h.os,k.tape.trans h.tape,k.output.trans h.output,Nat.le_trans h.size k.size,fun i hi hne=>(k.block i (Nat.lt_of_lt_of_le hi h.size) Q6).trans (h.block i hi hne)⟩
theorem te(g:Nat)(a:World):a.grownBy a (some g):=⟨rfl,rfl,rfl,Nat.le_refl _,fun _ _ _=>rfl⟩
theorem jP{B g cap n i j:Nat}{l:List Int}{w:World}(hn:l.length=n)(h:cr w B (.slice (some ⟨g,0,none⟩) n cap) l)(hi:i < n)(hj:j < n):
 Calls Tryz.prog 164 #[.slice (some ⟨g,0,none⟩) n cap,.int .i64 (i:Int),.int .i64 (j:Int)] w fun x w'=>x=.returned (.bool (decide (bW l i < bW l j)))/\Gr w w':=by
 subst hn;exact sm B g cap i j l w h hi hj
theorem jY{B g cap n i j:Nat}{l:List Int}{w:World}(hn:l.length=n)(h:cr w B (.slice (some ⟨g,0,none⟩) n cap) l)(hi:i < n)(hj:j < n):
 Calls Tryz.prog 166 #[.slice (some ⟨g,0,none⟩) n cap,.int .i64 (i:Int),.int .i64 (j:Int)] w fun x w'=>x=.returned (.tuple #[])/\cr w' B (.slice (some ⟨g,0,none⟩) n cap) (ek l i j)/\w.grownBy w' (some g):=by
 subst hn;exact se B g cap i j l w h hi hj
def AF(w:World)(lb lo B g cap n:Nat)(l:List Int)(w':World):Prop:=∃l',i_ w' lb lo B g cap n l'/\Hp (bW l') n/\gH (bW l) (bW l') n/\w.grownBy w' (some g)
theorem z_(lb lo B g cap n j:Nat)(l:List Int)(w:World)(h:i_ w lb lo B g cap n l)(hj:j < n)(hu:rI (bW l) n j):
 Calls Tryz.prog 133 #[.iface 123 (.pointer (some ⟨lb,lo,none⟩)),.int .i64 (j:Int)] w fun x w'=>x=.returned (.tuple #[])/\AF w lb lo B g cap n l w':=by
 have HH:=aH h;have HU:=aH hu;have Ra:=h.small;clear h hu;go_enter Tryz.func133,Tryz.ntmps133
 go_wp2_with fail
 go_loopw [1] (fun i wr=>∃(k:Nat) (l':List Int),i=.int .i64 (k:Int)/\k < n/\i_ wr lb lo B g cap n l'/\rI (bW l') n k/\gH (bW l) (bW l') n/\w.grownBy wr (some g)) (fun i _=>(intOf i).toNat)
 case atStart=>exact ⟨j,l,rfl,hj,HH.out,HU.out,gH.refl _ _,te _ _⟩
 case round=>
  obtain ⟨k,l',rfl,hk,h1,h2,h3,h4⟩:=hrel;have H1:=aH h1;have H2:=aH h2;have H3:=aH h3;have H4:=aH h4;have hc:=h1.cell;clear h1 h2 h3 h4 HH HU;have I8:∀(x:Bool) (w:World),(Op.unary .not (.bool x)).run Tryz.prog w=.ok (.bool (!x)) w:=fun _ _=>rfl
  by_cases Je:0 < k
  · obtain ⟨p1,Mg⟩:∃p1:Nat,p1+1=k:=⟨k - 1,Q5⟩;obtain ⟨q,hq⟩:∃q:Nat,p1 / 2=q:=⟨_,rfl⟩;have D2:IntKind.i64.wrap ((k:Int) - 1)=(p1:Int):=by rw [Q_];omega
    have D3:IntKind.i64.wrap ((p1:Int) / 2)=(q:Int):=by rw [Q_];omega
    have V5:wrap64 ((p1:Int) / 2)=(q:Int):=by rw [Go.IntWalk.wrap64_in _ Q5];omega
    have hne:¬q=k:=Q5
    have ZY:¬(q:Int)=(k:Int):=Q5
    have Qg:((q:Int) == (k:Int))=false:=by rw [beq_eq_false_iff_ne];omega
    have hne3:(q == k)=false:=by rw [beq_eq_false_iff_ne];omega
    have hqk:q=(k - 1) / 2:=Q5
    have WQ:=aH hqk;have Rq:q < n:=Q5
    clear hqk Mg hq;have P5:=mZ wr lb lo _ hc ⟨_,_,_,rfl⟩;go_wp2_with fail
    refine (jP H1.out.len H1.out.row hk Rq).mono ?_;rintro x w2 ⟨rfl,E0⟩;have Fb:=aH (H1.out.gr E0);have O0:=aH (qJ H4.out E0);have S5:=Fb.out.cell;have O4:=nC w2 lb lo _ S5 ⟨_,_,_,rfl⟩;clear P5 hc E0;by_cases J0:bW l' k < bW l' q
    · have hd:decide (bW l' k < bW l' q)=true:=by simpa using J0
      rw [hd];have Si:=aH J0;clear hd J0;go_wp2_with fail
      refine (jY Fb.out.len Fb.out.row Rq hk).mono ?_;rintro x w3 ⟨rfl,Lr,P0⟩;have HA3:=aH (Fb.out.swap P0 Lr (iZ _ _ _));have HG3:=aH (gq O0.out P0);clear Lr P0 O4 S5;go_wp2_with fail
      have e1:bW (ek l' q k)=j7 (bW l') q k:=jQ (by rw [Fb.out.len];exact Rq) (by rw [Fb.out.len];exact hk);have T0:=H2.out.step hk Je (by have:=Si.out;rw [WQ.out] at this;exact this);rw [<-WQ.out,<-e1] at T0;have Nd:gH (bW l') (bW (ek l' q k)) n:=by rw [e1];exact kw Rq hk
      refine ⟨⟨q,_,rfl,Rq,HA3.out,T0,H3.out.trans Nd,HG3.out⟩,?_⟩;have:=WQ.out
      simp [intOf];omega
    · have hd:decide (bW l' k < bW l' q)=false:=by simpa using J0
      rw [hd];have Si:=aH J0;clear hd J0 O4 S5;go_wp2_with fail
      go_end0
      exact ⟨rfl,l',Fb.out,H2.out.stop (.inr (by have:=Si.out;rw [WQ.out] at this;omega)),H3.out,O0.out⟩
  · obtain rfl:k=0:=by omega
    have D2:IntKind.i64.wrap (((0:Nat):Int) - 1)=-1:=by decide
    have D3:IntKind.i64.wrap ((-1:Int).tdiv 2)=0:=by decide
    go_wp2_with fail
    go_end0
    exact ⟨rfl,l',H1.out,H2.out.stop (.inl rfl),H3.out,H4.out⟩
open Go.RowKit
attribute [local go_sem ↓] Go.wp_at_zero Go.wp_at_succ
def Bg(P:World->Prop)(x:Ending)(w':World):Prop:=∃b,x=.returned (.bool b)/\P w'
def yh(w:World)(lb lo B g cap N n:Nat)(l:List Int)(w':World):Prop:=∃l',i_ w' lb lo B g cap N l'/\Hp (bW l') n/\gH (bW l) (bW l') n/\bW l' n=bW l n/\w.grownBy w' (some g)
theorem wg(lb lo B g cap N n:Nat)(l:List Int)(w:World)(h:i_ w lb lo B g cap N l)(hN:n < N)(hu:rV (bW l) n 0):
 Calls Tryz.prog 108 #[.iface 123 (.pointer (some ⟨lb,lo,none⟩)),.int .i64 0,.int .i64 (n:Int)] w (Bg (yh w lb lo B g cap N n l)):=by
 have HH:=aH h;have HU:=aH hu;have Ra:=h.small;clear h hu;go_enter Tryz.func108,Tryz.ntmps108
 go_wp2_with fail
 go_loopw [7] (fun i wr=>∃(k:Nat) (l':List Int),i=.int .i64 (k:Int)/\k < N/\i_ wr lb lo B g cap N l'/\rV (bW l') n k/\gH (bW l) (bW l') n/\bW l' n=bW l n/\w.grownBy wr (some g)) (fun i _=>N - (intOf i).toNat)
 case atStart=>exact ⟨0,l,rfl,Q5,HH.out,HU.out,gH.refl _ _,rfl,te _ _⟩
 case round=>
  obtain ⟨k,l',rfl,hk,h1,h2,h3,h5,h4⟩:=hrel;have H1:=aH h1;have H2:=aH h2;have H3:=aH h3;have H4:=aH h4;have H5:=aH h5;have hc:=h1.cell;clear h1 h2 h3 h4 h5 HH HU;have I8:∀(x:Bool) (w:World),(Op.unary .not (.bool x)).run Tryz.prog w=.ok (.bool (!x)) w:=fun _ _=>rfl
  obtain ⟨m,hm⟩:∃m:Nat,2 * k=m:=⟨_,rfl⟩;obtain ⟨j1,Lb⟩:∃j1:Nat,m+1=j1:=⟨_,rfl⟩;obtain ⟨j2,Fc⟩:∃j2:Nat,j1+1=j2:=⟨_,rfl⟩;have D2:IntKind.i64.wrap (2 * (k:Int))=(m:Int):=by rw [Q_];omega
  have D3:IntKind.i64.wrap ((m:Int)+1)=(j1:Int):=by rw [Q_];omega
  have V5:IntKind.i64.wrap ((j1:Int)+1)=(j2:Int):=by rw [Q_];omega
  have R7:wrap64 (2 * (k:Int))=(m:Int):=by rw [Go.IntWalk.wrap64_in _ Q5];omega
  have I7:wrap64 ((m:Int)+1)=(j1:Int):=by rw [Go.IntWalk.wrap64_in _ Q5];omega
  have N7:wrap64 ((j1:Int)+1)=(j2:Int):=by rw [Go.IntWalk.wrap64_in _ Q5];omega
  have Wj:=aH (And.intro D2 (And.intro D3 (And.intro V5 (And.intro R7 (And.intro I7 N7)))));clear D2 D3 V5 R7 I7 N7;have HJ:Hid (j1=2 * k+1/\j2=2 * k+2):=aH ⟨Q5,Q5⟩;have Xn:j1=2 * k+1/\j2=2 * k+2:=HJ.out;obtain ⟨DZ,EZ⟩:=Xn;have Jt:¬(j1:Int) < 0:=Q5
  clear hm Lb Fc;by_cases Wt:n<=j1
  · have Cz:(n:Int)<=(j1:Int):=by omega
    clear DZ EZ;obtain ⟨D2,D3,V5,R7,I7,N7⟩:=Wj.out;go_wp2_with fail
    clear D2 D3 V5 R7 I7 N7;go_ret
    exact ⟨_,rfl,l',H1.out,H2.out.stop (fun d h1 h2 h3=>by have:=HJ.out;omega),H3.out,H5.out,H4.out⟩
  · have Cz:¬(n:Int)<=(j1:Int):=by omega
    by_cases Ok:j2 < n
    · have XU:(j2:Int) < (n:Int):=by omega
      have LD:=mZ wr lb lo _ hc ⟨_,_,_,rfl⟩;have FZ:j1 < N:=Q5
      have GZ:j2 < N:=Q5
      clear DZ EZ;obtain ⟨D2,D3,V5,R7,I7,N7⟩:=Wj.out;go_wp2_with fail
      clear D2 D3 V5 R7 I7 N7;refine (jP H1.out.len H1.out.row GZ FZ).mono ?_;rintro x w2 ⟨rfl,E0⟩;have Fb:=aH (H1.out.gr E0);have O0:=aH (qJ H4.out E0);clear LD E0 hc;by_cases M7:bW l' j2 < bW l' j1
      · have Lf:decide (bW l' j2 < bW l' j1)=true:=by simpa using M7
        rw [Lf];have Nb:=aH M7;clear Lf M7;have P5:=mZ w2 lb lo _ Fb.out.cell ⟨_,_,_,rfl⟩;obtain ⟨D2,D3,V5,R7,I7,N7⟩:=Wj.out;go_wp2_with fail
        clear D2 D3 V5 R7 I7 N7;refine (jP Fb.out.len Fb.out.row (show j2 < N by have:=HJ.out;omega) (show k < N by have:=HJ.out;omega)).mono ?_;rintro x wl ⟨rfl,Gd⟩;have Jc:=aH (Fb.out.gr Gd);have Iw:=aH (qJ O0.out Gd);have O4:=nC wl lb lo _ Jc.out.cell ⟨_,_,_,rfl⟩;clear P5 Gd;by_cases J0:bW l' j2 < bW l' k
        · have hd:decide (bW l' j2 < bW l' k)=true:=by simpa using J0
          rw [hd];have Si:=aH J0;clear hd J0;obtain ⟨D2,D3,V5,R7,I7,N7⟩:=Wj.out;go_wp2_with fail
          clear D2 D3 V5 R7 I7 N7;refine (jY Jc.out.len Jc.out.row (show k < N by have:=HJ.out;omega) (show j2 < N by have:=HJ.out;omega)).mono ?_;rintro x ws ⟨rfl,Mr,Rg⟩;have XI:=aH (Jc.out.swap Rg Mr (iZ _ _ _));have YI:=aH (gq Iw.out Rg);clear Mr Rg O4;obtain ⟨D2,D3,V5,R7,I7,N7⟩:=Wj.out;go_wp2_with fail
          clear D2 D3 V5 R7 I7 N7;have e1:bW (ek l' k j2)=j7 (bW l') k j2:=jQ (by rw [Jc.out.len];have:=HJ.out;omega) (by rw [Jc.out.len];have:=HJ.out;omega);have T0:=H2.out.step (c:=j2) (by have:=HJ.out;omega) (by have:=HJ.out;omega) (by have:=HJ.out;omega) Si.out (fun d h1 h2 h3=>by rcases (show d=j1\/d=j2 by have:=HJ.out;omega) with rfl|rfl<;>(have:=Nb.out;omega))
          rw [<-e1] at T0;have Nd:gH (bW l') (bW (ek l' k j2)) n:=by rw [e1];exact kw (by have:=HJ.out;omega) (by have:=HJ.out;omega)
          have Tg:bW (ek l' k j2) n=bW l' n:=by rw [e1];unfold j7;rw [if_neg (by have:=HJ.out;omega),if_neg (by have:=HJ.out;omega)]
          exact ⟨⟨j2,_,rfl,by have:=HJ.out;omega,XI.out,T0,H3.out.trans Nd,Tg.trans H5.out,YI.out⟩,by have:=HJ.out;simp [intOf];omega⟩
        · have hd:decide (bW l' j2 < bW l' k)=false:=by simpa using J0
          rw [hd];have Si:=aH J0;clear hd J0 O4;obtain ⟨D2,D3,V5,R7,I7,N7⟩:=Wj.out;go_wp2_with fail
          clear D2 D3 V5 R7 I7 N7;go_ret
          have Gp:∀d,0 < d->d < n->(d - 1) / 2=k->bW l' j2<=bW l' d:=fun d h1 h2 h3=>by rcases (show d=j1\/d=j2 by have:=HJ.out;omega) with rfl|rfl<;>(have:=Nb.out;omega)
          exact ⟨_,rfl,l',Jc.out,H2.out.stop (fun d h1 h2 h3=>by have:=Gp d h1 h2 h3;have:=Si.out;omega),H3.out,H5.out,Iw.out⟩
      · have Lf:decide (bW l' j2 < bW l' j1)=false:=by simpa using M7
        rw [Lf];have Nb:=aH M7;clear Lf M7;have P5:=mZ w2 lb lo _ Fb.out.cell ⟨_,_,_,rfl⟩;obtain ⟨D2,D3,V5,R7,I7,N7⟩:=Wj.out;go_wp2_with fail
        clear D2 D3 V5 R7 I7 N7;refine (jP Fb.out.len Fb.out.row (show j1 < N by have:=HJ.out;omega) (show k < N by have:=HJ.out;omega)).mono ?_;rintro x wl ⟨rfl,Gd⟩;have Jc:=aH (Fb.out.gr Gd);have Iw:=aH (qJ O0.out Gd);have O4:=nC wl lb lo _ Jc.out.cell ⟨_,_,_,rfl⟩;clear P5 Gd;by_cases J0:bW l' j1 < bW l' k
        · have hd:decide (bW l' j1 < bW l' k)=true:=by simpa using J0
          rw [hd];have Si:=aH J0;clear hd J0;obtain ⟨D2,D3,V5,R7,I7,N7⟩:=Wj.out;go_wp2_with fail
          clear D2 D3 V5 R7 I7 N7;refine (jY Jc.out.len Jc.out.row (show k < N by have:=HJ.out;omega) (show j1 < N by have:=HJ.out;omega)).mono ?_;rintro x ws ⟨rfl,Mr,Rg⟩;have XI:=aH (Jc.out.swap Rg Mr (iZ _ _ _));have YI:=aH (gq Iw.out Rg);clear Mr Rg O4;obtain ⟨D2,D3,V5,R7,I7,N7⟩:=Wj.out;go_wp2_with fail
          clear D2 D3 V5 R7 I7 N7;have e1:bW (ek l' k j1)=j7 (bW l') k j1:=jQ (by rw [Jc.out.len];have:=HJ.out;omega) (by rw [Jc.out.len];have:=HJ.out;omega);have T0:=H2.out.step (c:=j1) (by have:=HJ.out;omega) (by have:=HJ.out;omega) (by have:=HJ.out;omega) Si.out (fun d h1 h2 h3=>by rcases (show d=j1\/d=j2 by have:=HJ.out;omega) with rfl|rfl<;>(have:=Nb.out;omega))
          rw [<-e1] at T0;have Nd:gH (bW l') (bW (ek l' k j1)) n:=by rw [e1];exact kw (by have:=HJ.out;omega) (by have:=HJ.out;omega)
          have Tg:bW (ek l' k j1) n=bW l' n:=by rw [e1];unfold j7;rw [if_neg (by have:=HJ.out;omega),if_neg (by have:=HJ.out;omega)]
          exact ⟨⟨j1,_,rfl,by have:=HJ.out;omega,XI.out,T0,H3.out.trans Nd,Tg.trans H5.out,YI.out⟩,by have:=HJ.out;simp [intOf];omega⟩
        · have hd:decide (bW l' j1 < bW l' k)=false:=by simpa using J0
          rw [hd];have Si:=aH J0;clear hd J0 O4;obtain ⟨D2,D3,V5,R7,I7,N7⟩:=Wj.out;go_wp2_with fail
          clear D2 D3 V5 R7 I7 N7;go_ret
          have Gp:∀d,0 < d->d < n->(d - 1) / 2=k->bW l' j1<=bW l' d:=fun d h1 h2 h3=>by rcases (show d=j1\/d=j2 by have:=HJ.out;omega) with rfl|rfl<;>(have:=Nb.out;omega)
          exact ⟨_,rfl,l',Jc.out,H2.out.stop (fun d h1 h2 h3=>by have:=Gp d h1 h2 h3;have:=Si.out;omega),H3.out,H5.out,Iw.out⟩
    · have XU:¬(j2:Int) < (n:Int):=by omega
      have Vk:=aH Ok;clear DZ EZ;have P5:=mZ wr lb lo _ H1.out.cell ⟨_,_,_,rfl⟩;obtain ⟨D2,D3,V5,R7,I7,N7⟩:=Wj.out;go_wp2_with fail
      clear D2 D3 V5 R7 I7 N7;refine (jP H1.out.len H1.out.row (show j1 < N by have:=HJ.out;omega) (show k < N by have:=HJ.out;omega)).mono ?_;rintro x wl ⟨rfl,Gd⟩;have Jc:=aH (H1.out.gr Gd);have Iw:=aH (qJ H4.out Gd);have O4:=nC wl lb lo _ Jc.out.cell ⟨_,_,_,rfl⟩;clear P5 Gd;by_cases J0:bW l' j1 < bW l' k
      · have hd:decide (bW l' j1 < bW l' k)=true:=by simpa using J0
        rw [hd];have Si:=aH J0;clear hd J0;obtain ⟨D2,D3,V5,R7,I7,N7⟩:=Wj.out;go_wp2_with fail
        clear D2 D3 V5 R7 I7 N7;refine (jY Jc.out.len Jc.out.row (show k < N by have:=HJ.out;omega) (show j1 < N by have:=HJ.out;omega)).mono ?_;rintro x ws ⟨rfl,Mr,Rg⟩;have XI:=aH (Jc.out.swap Rg Mr (iZ _ _ _));have YI:=aH (gq Iw.out Rg);clear Mr Rg O4;obtain ⟨D2,D3,V5,R7,I7,N7⟩:=Wj.out;go_wp2_with fail
        clear D2 D3 V5 R7 I7 N7;have e1:bW (ek l' k j1)=j7 (bW l') k j1:=jQ (by rw [Jc.out.len];have:=HJ.out;omega) (by rw [Jc.out.len];have:=HJ.out;omega);have T0:=H2.out.step (c:=j1) (by have:=HJ.out;omega) (by have:=HJ.out;omega) (by have:=HJ.out;omega) Si.out (fun d h1 h2 h3=>Int.le_of_eq (congrArg (bW l') (show j1=d by have:=HJ.out;have:=Vk.out;omega)));rw [<-e1] at T0;have Nd:gH (bW l') (bW (ek l' k j1)) n:=by rw [e1];exact kw (by have:=HJ.out;omega) (by have:=HJ.out;omega)
        have Tg:bW (ek l' k j1) n=bW l' n:=by rw [e1];unfold j7;rw [if_neg (by have:=HJ.out;omega),if_neg (by have:=HJ.out;omega)]
        exact ⟨⟨j1,_,rfl,by have:=HJ.out;omega,XI.out,T0,H3.out.trans Nd,Tg.trans H5.out,YI.out⟩,by have:=HJ.out;simp [intOf];omega⟩
      · have hd:decide (bW l' j1 < bW l' k)=false:=by simpa using J0
        rw [hd];have Si:=aH J0;clear hd J0 O4;obtain ⟨D2,D3,V5,R7,I7,N7⟩:=Wj.out;go_wp2_with fail
        clear D2 D3 V5 R7 I7 N7;go_ret
        have Gp:∀d,0 < d->d < n->(d - 1) / 2=k->bW l' j1<=bW l' d:=fun d h1 h2 h3=>Int.le_of_eq (congrArg (bW l') (show j1=d by have:=HJ.out;have:=Vk.out;omega))
        exact ⟨_,rfl,l',Jc.out,H2.out.stop (fun d h1 h2 h3=>by have:=Gp d h1 h2 h3;have:=Si.out;omega),H3.out,H5.out,Iw.out⟩
end Go.Proofs.YtkgncijcnlfhiabGreat
