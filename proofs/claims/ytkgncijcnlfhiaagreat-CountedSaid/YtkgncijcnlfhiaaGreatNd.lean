import Derived.Lib.AppendZerosOnto
import Derived.Laws.OwnMore
import Derived.Maps.AppendAt
import Derived.Test.YtkgncijcnlfhiaaGreatZ3
import Derived.Test.YtkgncijcnlfhiaaGreatRg2
import Derived.StringKeys
import Derived.Deep.AppendLies
namespace Go.Proofs.YtkgncijcnlfhiaaGreat
set_option maxRecDepth 100000
set_option maxHeartbeats 2000000
set_option linter.unusedVariables false
set_option linter.unusedSimpArgs false
open Go.RowKit
attribute [local go_sem ↓] Go.wp_at_zero Go.wp_at_succ
theorem oT{l m:List Int}(hl:l.length=m.length)(h:∀j,j < l.length→l.getD j 0=m.getD j 0):l=m:=by
 apply List.ext_getElem hl
 intro i h1 h2;have:=h i h1
 rw [List.getD_eq_getElem?_getD,List.getD_eq_getElem?_getD,List.getElem?_eq_getElem h1,List.getElem?_eq_getElem h2] at this;exact this
theorem lT{w w':World}(h:Gr w w')(n:Nat):Gr w (w'.drewN n):=⟨h.os,h.tape,h.output,h.size,h.block⟩
theorem BQ(va vb:Value)(l m:List Int)(w:World)(ha:aX w va l)(hb:aX w vb m):
 Calls Tryz.prog 36 #[va,vb] w fun x w'=>x=.returned (.bool (decide (l=m)))∧Gr w w':=by
 have HA:=aH ha;have HBb:=aH hb;obtain ⟨a1,c1,rfl,hm,_⟩:=ha;obtain ⟨a2,c2,rfl,hm2,_⟩:=hb;unfold maxLen at hm hm2;by_cases hlen:l.length=m.length
 · have hne:((l.length:Int) != (m.length:Int))=false:=by simp [hlen]
   have hM:m.length=l.length:=hlen.symm;have HLen:=aH hlen;rw [hM] at hne ⊢;clear hlen;have HMM:=aH hM;clear hM;go_enter Tryz.func36,Tryz.ntmps36
   go_wp2_with fail
   go_loopw [13] (fun i wr=>∃k:Nat,i=.int .i64 k∧k≤l.length∧(∀j,j < k→l.getD j 0=m.getD j 0)∧Gr w wr) (fun i _=>l.length - (intOf i).toNat)
   case atStart=>exact ⟨0,rfl,Nat.zero_le _,fun j h=>by omega,Gr.refl _⟩
   case round=>
    obtain ⟨k,rfl,hk,hall,hg⟩:=hrel;have HAll:=aH hall;clear hall;by_cases hlt:k < l.length
    · obtain ⟨a1',c1',h1e,_,hc1⟩:=HA.out;obtain ⟨a2',c2',h2e,_,hc2⟩:=HBb.out;rw [HMM.out] at h2e hc2;simp only [Value.slice.injEq,true_and] at h1e h2e;obtain ⟨b1,o1,rfl,hx1⟩:=hc1 k hlt;obtain ⟨b2,o2,rfl,hx2⟩:=hc2 k hlt;obtain ⟨rfl,rfl⟩:=h1e;obtain ⟨rfl,rfl⟩:=h2e;have hy1:=hg.cell hx1 (by simp);have hy2:=hg.cell hx2 (by simp);have HX:∀x y,l.getD k 0=x→m.getD k 0=y→Hid (l.getD k 0=x∧m.getD k 0=y):=fun x y h1 h2=>aH ⟨h1,h2⟩
      obtain ⟨x,hx⟩:∃x,l.getD k 0=x:=⟨_,rfl⟩;obtain ⟨y,hy⟩:∃y,m.getD k 0=y:=⟨_,rfl⟩;have HXY:=HX x y hx hy;rw [hx] at hy1;rw [hy] at hy2;have HG:=aH hg;clear hc1 hc2 hx1 hx2 hg HA HBb HX hx hy;by_cases hxy:x=y
      · have hb1:(x != y)=false:=by simp [hxy]
        have HA2:Hid (∀j,j < k+1→l.getD j 0=m.getD j 0):=aH (fun j hj=>by
         by_cases e:j=k
         · subst e;rw [HXY.out.1,HXY.out.2,hxy]
         · exact HAll.out j (by omega))
        clear hxy;go_wp2_with fail
        go_quiet (fail)
        go_wp2_with fail
        exact ⟨⟨k+1,by simp,hlt,HA2.out,lT HG.out _⟩,by simp [intOf];omega⟩
      · have hb1:(x != y)=true:=by simp [hxy]
        have HD:Hid (decide (l=m)=false):=aH (by
         rw [decide_eq_false_iff_not];intro e;subst e;exact hxy (HXY.out.1.symm.trans HXY.out.2))
        clear hxy;go_wp2_with fail
        go_quiet (fail)
        go_wp2_with fail
        go_ret
        exact ⟨by rw [HD.out];rfl,lT HG.out _⟩
    · have hkk:k=l.length:=by omega
      subst hkk;have HD:Hid (decide (l=m)=true):=aH (by rw [decide_eq_true_eq];exact oT HLen.out HAll.out);have HG:=aH hg;clear hg;go_wp2_with fail
      go_ret
      exact ⟨by rw [HD.out];rfl,HG.out⟩
 · have hne:((l.length:Int) != (m.length:Int))=true:=by rw [bne_iff_ne];omega
   have HD:Hid (decide (l=m)=false):=aH (by rw [decide_eq_false_iff_not];intro e;subst e;exact hlen rfl);clear hlen;go_enter Tryz.func36,Tryz.ntmps36
   go_wp2_with fail
   go_ret
   exact ⟨by rw [HD.out];rfl,Gr.refl _⟩
theorem Tryz.infF:(Tryz.prog.info? 3).map (fun i=>(i.zero,i.size,i.bytes))=some (some (Value.int .i64 0),1,8):=by kernel_rfl
theorem Tryz.uInts:Tryz.prog.underlying 22=some (.slice 3):=by kernel_rfl
theorem Tryz.uIntF:Tryz.prog.underlying 3=some (.int .i64):=by kernel_rfl
def zk(w:World)(e:Ending)(w':World):Prop:=∃v,e=.returned v∧w'.ownsRow w.heap.size 3 1 v 0 []∧Gr w w'
theorem wG(n:Nat)(hn:n≤100000)(w:World):Calls Tryz.prog 77 #[.slice none 0 0,.int .i64 (n:Int)] w (zk w):=by
 have h1:¬((n:Int) < 0):=by omega
 have h3:wrap64 (n:Int)=(n:Int):=by unfold wrap64;omega
 have h3b:IntKind.i64.wrap (n:Int)=(n:Int):=Go.IntWalk.i64_in _ (by omega);by_cases h0:n=0
 · subst h0;go_enter Tryz.func77,Tryz.ntmps77
   go_wp2_with fail
   go_ret
   exact ⟨_,rfl,World.ownsRow_nil _ _ _ _,Gr.refl _⟩
 · have h4:(n:Int) > 0:=by omega
   have h4b:(0:Int) < (n:Int):=by omega
   obtain ⟨i0,hi,hz0,hz1,hz2⟩:=info_parts Tryz.infF;have hrz:=fun ty=>Lib.run_append_grow_zeros w 22 3 ty 3 i0 (.int .i64 0) .i64 .i64 Tryz.uInts Tryz.uIntF hi hz0 none 0 0 [] (run_firstCells_none w.drew i0.size 0 0 0) n (by omega) (by omega) (by omega) (by omega) (by rw [hz2];omega) (growslice_fits (by omega) (by rw [hz2];omega))
   have hGn:0+n≤grownCap w (0+n) 0 3:=grownCap_ge w _ _ _;have hGm:=grownCap_le_maxLen w (0+n) 0 3 (by unfold maxLen;omega);generalize grownCap w (0+n) 0 3=G at hrz hGn hGm;rw [Nat.zero_add] at hrz hGn;have HOW:Hid ((w.alloc (.cells (Builtin.zeroCells #[Value.int .i64 0] n++Builtin.zeroCells #[Value.int .i64 0] (G - n)) 3)).drew.ownsRow w.heap.size 3 1 (.slice (some ⟨w.heap.size,0,none⟩) 0 G) 0 []):=aH (by
    have:=World.ownsRow_made (base:=w.heap.size) (e:=3) (size:=1) w (Builtin.zeroCells #[Value.int .i64 0] n++Builtin.zeroCells #[Value.int .i64 0] (G - n)) G (Nat.le_refl _) hGm (by simp [Builtin.zeroCells];omega)
    exact this)
   have hG63:G≤9223372036854775807:=by unfold maxLen at hGm;omega
   have HGR:Hid (Gr w (w.alloc (.cells (Builtin.zeroCells #[Value.int .i64 0] n++Builtin.zeroCells #[Value.int .i64 0] (G - n)) 3)).drew):=aH (((Gr.refl w).alloc _).drew);have HRZ:=aH hrz;clear hrz hGm;go_enter Tryz.func77,Tryz.ntmps77
   go_wp2_with (at_builtin;refine Lib.wpList_append_run _ rfl _ _ _ _ rfl _ _ rfl rfl _ _ (HRZ.out _) ?_)
   all_goals go_ret
   all_goals exact ⟨.slice (some ⟨w.heap.size,0,none⟩) 0 G,rfl,HOW.out,HGR.out⟩
open Go.RowKit
attribute [local go_sem ↓] Go.wp_at_zero Go.wp_at_succ
def dh(w:World)(v:Value)(l:List aK):Prop:=
 ∃ao cap,v=.slice ao l.length cap∧l.length≤maxLen∧∀i u,l[i]? =some u→∃b off v1 v2 v3 v4 v5,ao=some ⟨b,off,none⟩∧
  w.cell? ⟨b,off+i * 5,none⟩=some v1∧w.cell? ⟨b,off+i * 5+1,none⟩=some v2∧w.cell? ⟨b,off+i * 5+2,none⟩=some v3∧w.cell? ⟨b,off+i * 5+3,none⟩=some v4∧w.cell? ⟨b,off+i * 5+4,none⟩=some v5∧cD w (.agg #[v1,v2,v3,v4,v5]) u
theorem dh.gr{w w':World}{v:Value}{l:List aK}(h:dh w v l)(g:Gr w w'):dh w' v l:=by
 obtain ⟨ao,cap,hv,hm,hc⟩:=h;refine ⟨ao,cap,hv,hm,fun i x hi=>?_⟩;obtain ⟨b,off,v1,v2,v3,v4,v5,h1,k1,k2,k3,k4,k5,hu⟩:=hc i x hi;exact ⟨b,off,v1,v2,v3,v4,v5,h1,g.cell k1 (by simp),g.cell k2 (by simp),g.cell k3 (by simp),g.cell k4 (by simp),g.cell k5 (by simp),hu.gr g⟩
theorem dh.shape{w:World}{v:Value}{l:List aK}(h:dh w v l):∃ao cap,v=.slice ao l.length cap:=by
 obtain ⟨ao,cap,hv,_⟩:=h;exact ⟨ao,cap,hv⟩
theorem cD.slices{w:World}{v1 v2 v3 v4 v5:Value}{u:aK}(h:cD w (.agg #[v1,v2,v3,v4,v5]) u):(∃a c,v1=.slice a u.aA.length c)∧(∃a c,v2=.slice a u.aD.length c)∧(∃a c,v3=.slice a u.aE.length c)∧(∃a c,v4=.slice a u.aB.length c)∧∃a c,v5=.slice a u.aC.length c:=by
 obtain ⟨x1,x2,x3,x4,x5,he,h1,h2,h3,h4,h5⟩:=h;simp only [Value.agg.injEq,Array.mk.injEq,List.cons.injEq,and_true] at he;obtain ⟨rfl,rfl,rfl,rfl,rfl⟩:=he;exact ⟨h1.shape,h2.shape,h3.shape,h4.shape,h5.shape⟩
def zh(e:Int)(I:Nat→World→Prop)(B:World→Prop)(n:Nat)(o:Option Nat)(x:Ending)(w':World):Prop:=match o with
 | none=>x=.returned (.tuple #[])∧I n w'
 | some k=>x=.panicked (dF e (k:Int))∧B w'
def ee(p:Nat→aK→Bool):Nat→List aK→Option Nat
 | _,[]=>none
 | k,u :: l=>if p k u=true then some k else ee p (k+1) l
theorem gq(p:aK→Bool):∀(l:List aK) (k:Nat),ee (fun _=>p) k l=dg p k l
 | [],_=>rfl
 | u :: l,k=>by rw [ee,dg,gq p l (k+1)]
def tV(W:World)(f:FuncId)(first caps:Array Value)(e:Int)(l:List aK)(p:Nat→aK→Bool)(I:Nat→World→Prop)(B:World→Prop):Prop:=
 ∀(k:Nat) (u:aK) (V:World) (vu:Value),l[k]? =some u→I k V→cD W vu u→
  Calls Tryz.prog f (first++(#[vu,.agg #[.int .i64 e,.int .i64 0,.int .i64 (k:Int)]]++caps)) V fun x V'=>(p k u=false∧x=.returned (.tuple #[])∧I (k+1) V')∨(p k u=true∧x=.panicked (dF e (k:Int))∧B V')
theorem iS(f:FuncId)(first caps:Array Value)(hcf:∀(vu vr:Value) (w:World),(callFunc f (first++(#[vu,vr]++caps))).run Tryz.prog w=.ok (.enter f (first++(#[vu,vr]++caps))) w)(e:Int)(l:List aK)(vl:Value)(p:Nat→aK→Bool)(I:Nat→World→Prop)(B:World→Prop)(W w:World)
 (hR:dh W vl l) (hB:∀k V,I k V→Gr W V) (hI:∀k V V',I k V→Gr V V'→I k V') (h0:I 0 w) (hA:tV W f first caps e l p I B) (hlen:l.length≤1000000) (hlw:∃a c,vl=.slice a l.length c):
 Calls Tryz.prog 33 #[vl,.int .i64 e,.func (.func f) first caps] w (zh e I B l.length (ee p 0 l)):=by
 obtain ⟨al,cl,rfl⟩:=hlw;have HR:=aH hR;have HI:=aH hI;have HBs:=aH hB;have HA:=aH hA;have H0:=aH h0;have HCF:=aH hcf;clear hR hI h0 hA hcf hB;go_enter Tryz.func33,Tryz.ntmps33
 go_wp2_with fail
 go_loopw [10] (fun i wr=>∃k:Nat,i=.int .i64 (k:Int)∧k≤l.length∧ee p 0 l=ee p k (l.drop k)∧I k wr) (fun i _=>l.length - (intOf i).toNat)
 case atStart=>exact ⟨0,rfl,Nat.zero_le _,rfl,H0.out⟩
 case round=>
  obtain ⟨k,rfl,hk,hf,hi⟩:=hrel;have HF:=aH hf;have HIk:=aH hi;clear hf hi H0;by_cases hlt:k < l.length
  · obtain ⟨u,hu⟩:=aY hlt;obtain ⟨ao,cap,he,_,hc⟩:=HR.out;obtain ⟨b,off,v1,v2,v3,v4,v5,rfl,k1,k2,k3,k4,k5,hru⟩:=hc k u hu;have hbs:=HBs.out k wr HIk.out;have k1:=hbs.cell k1 (by simp);have k2:=hbs.cell k2 (by simp);have k3:=hbs.cell k3 (by simp);have k4:=hbs.cell k4 (by simp);have k5:=hbs.cell k5 (by simp);simp only [Value.slice.injEq,true_and] at he;obtain ⟨rfl,rfl⟩:=he;obtain ⟨⟨a1,c1,rfl⟩,⟨a2,c2,rfl⟩,⟨a3,c3,rfl⟩,⟨a4,c4,rfl⟩,⟨a5,c5,rfl⟩⟩:=hru.slices;have hki:(k:Int) < (l.length:Int):=by omega
    have hw:IntKind.i64.wrap ((k:Int)+1)=(k:Int)+1:=Go.IntWalk.i64_in _ (by omega);have hga:=Gr.alloc (Gr.refl wr) (.cells #[.slice a1 u.aA.length c1,.slice a2 u.aD.length c2,.slice a3 u.aE.length c3,.slice a4 u.aB.length c4,.slice a5 u.aC.length c5] 33);have HCK:=aH (HA.out k u _ _ hu (HI.out k wr _ HIk.out hga) hru);have HS:Hid (ee p 0 l=if p k u=true then some k else ee p (k+1) (l.drop (k+1))):=aH (by
     rw [HF.out,List.drop_eq_getElem_cons hlt];have:l[k]=u:=by rw [List.getElem?_eq_getElem hlt] at hu;exact Option.some.inj hu
     rw [this,ee])
    clear hc hru hu hga HF hbs;go_wp2_with fail
    rw [HCF.out,Oper.upon_enter];refine HCK.out.mono ?_;rintro x w2 (⟨hp,rfl,hi2⟩|⟨hp,rfl,hb2⟩)
    · have HI2:=aH hi2;have HN:Hid (ee p 0 l=ee p (k+1) (l.drop (k+1))):=aH (by rw [HS.out,hp];rfl);clear hp hi2 HS HCK;go_wp2_with fail
      exact ⟨⟨k+1,by simp,hlt,HN.out,HI2.out⟩,by simp [intOf];omega⟩
    · refine ⟨rfl,?_⟩;rw [HS.out,if_pos hp];exact ⟨rfl,hb2⟩
  · have hkk:k=l.length:=by omega
    subst hkk;have HN:Hid (ee p 0 l=none):=aH (by rw [HF.out,List.drop_length];rfl);clear hlt hk HF;go_wp2_with fail
    go_end0
    rw [HN.out];exact ⟨rfl,HIk.out⟩
open Go.RowKit
attribute [local go_sem ↓] Go.wp_at_zero Go.wp_at_succ
theorem tG{α:Type}{l m:List α}(hl:l.length=m.length)(h:∀j,j < l.length→l[j]? =m[j]?):l=m:=by
 apply List.ext_getElem?
 intro i;by_cases hi:i < l.length
 · exact h i hi
 · rw [List.getElem?_eq_none (by omega),List.getElem?_eq_none (by omega)]
theorem qT(va vb:Value)(l m:List (List Int))(w:World)(ha:bG w va l)(hb:bG w vb m):
 Calls Tryz.prog 35 #[va,vb,.func (.func 36) #[] #[]] w fun x w'=>x=.returned (.bool (decide (l=m)))∧Gr w w':=by
 have hnot:∀(x:Bool) (w:World),(Op.unary .not (.bool x)).run Tryz.prog w=.ok (.bool (!x)) w:=fun _ _=>rfl
 obtain ⟨a1,c1,rfl,hm,hc1⟩:=ha;obtain ⟨a2,c2,rfl,hm2,hc2⟩:=hb;unfold maxLen at hm hm2;have HC1:=aH hc1;have HC2:=aH hc2;clear hc1 hc2;by_cases hlen:l.length=m.length
 · have hne:((l.length:Int) != (m.length:Int))=false:=by simp [hlen]
   have HLen:=aH hlen;clear hlen;go_enter Tryz.func35,Tryz.ntmps35
   go_wp2_with fail
   go_loopw [17] (fun i wr=>∃k:Nat,i=.int .i64 k∧k≤l.length∧(∀j,j < k→l[j]? =m[j]?)∧Gr w wr) (fun i _=>l.length - (intOf i).toNat)
   case atStart=>exact ⟨0,rfl,Nat.zero_le _,fun j h=>by omega,Gr.refl _⟩
   case round=>
    obtain ⟨k,rfl,hk,hall,hg⟩:=hrel;have HAll:=aH hall;have HG:=aH hg;clear hall hg;by_cases hlt:k < l.length
    · obtain ⟨x,hx⟩:=aY hlt;obtain ⟨y,hy⟩:=aY (show k < m.length by have:=HLen.out;omega);obtain ⟨b1,o1,vx,rfl,x1,x2⟩:=HC1.out k x hx;obtain ⟨b2,o2,vy,rfl,y1,y2⟩:=HC2.out k y hy;obtain ⟨p1,q1,rfl⟩:=x2.shape;obtain ⟨p2,q2,rfl⟩:=y2.shape;have x1:=HG.out.cell x1 (by simp);have y1:=HG.out.cell y1 (by simp);have hki:(k:Int) < (l.length:Int):=by omega
      have hki2:(k:Int) < (m.length:Int):=by have:=HLen.out;omega
      have hw:IntKind.i64.wrap ((k:Int)+1)=(k:Int)+1:=Go.IntWalk.i64_in _ (by omega);have HEQ:=aH (BQ _ _ x y wr (x2.gr HG.out) (y2.gr HG.out));have HX:=aH hx;have HY:=aH hy;clear hx hy x2 y2;go_wp2_with fail
      refine HEQ.out.mono ?_;rintro z w2 ⟨rfl,hg2⟩;have HG2:=aH (HG.out.trans hg2);clear hg2 HEQ;by_cases hxy:x=y
      · have hd:decide (x=y)=true:=by simpa using hxy
        rw [hd];have HA2:Hid (∀j,j < k+1→l[j]? =m[j]?):=aH (fun j hj=>by
         by_cases e:j=k
         · subst e;rw [HX.out,HY.out,hxy]
         · exact HAll.out j (by omega))
        clear hd hxy;go_wp2_with fail
        exact ⟨⟨k+1,by simp,hlt,HA2.out,HG2.out⟩,by simp [intOf];omega⟩
      · have hd:decide (x=y)=false:=by simpa using hxy
        rw [hd];have HD:Hid (decide (l=m)=false):=aH (by
         rw [decide_eq_false_iff_not];intro e;subst e;exact hxy (Option.some.inj (HX.out.symm.trans HY.out)))
        clear hd hxy;go_wp2_with fail
        go_ret
        exact ⟨by rw [HD.out];rfl,HG2.out⟩
    · have hkk:k=l.length:=by omega
      subst hkk;have HD:Hid (decide (l=m)=true):=aH (by rw [decide_eq_true_eq];exact tG HLen.out HAll.out);clear hlt hk;go_wp2_with fail
      go_ret
      exact ⟨by rw [HD.out];rfl,HG.out⟩
 · have hne:((l.length:Int) != (m.length:Int))=true:=by rw [bne_iff_ne];omega
   have HD:Hid (decide (l=m)=false):=aH (by rw [decide_eq_false_iff_not];intro e;subst e;exact hlen rfl);clear hlen;go_enter Tryz.func35,Tryz.ntmps35
   go_wp2_with fail
   go_ret
   exact ⟨by rw [HD.out];rfl,Gr.refl _⟩
open Go.RowKit Go.Maps Go.WideMaps Go.WideMaps
theorem Tryz.uMapT:Tryz.prog.underlying 85=some (.map 9 126):=by kernel_rfl
def lM:Value:=.agg #[.slice none 0 0,.int .i64 0,.slice none 0 0,.slice none 0 0,.int .i64 0]
theorem Tryz.zMapT(w:World):(zeroValue 126).run Tryz.prog w=.ok lM w:=by kernel_rfl
theorem Tryz.kStr:Tryz.prog.underlying 9=some .string:=by kernel_rfl
theorem Tryz.keyedS:Keyed Tryz.prog 9:=string_keyed Tryz.kStr
theorem nr(s:ByteArray)(hs:s.size≤maxLen):keyOf Tryz.prog 9 (.string s)=some (.string s.data.toList):=keyOf_string_mk Tryz.kStr hs
structure iH(w:World)(b n:Nat)(m:List UInt8→Option Value):Prop where
 is:∃D:DataW Value,w.ownsMap Tryz.prog 9 zM b n D∧∀k,Maps.has D (.string k)=(m k).isSome∧D.atKey (.string k) (.held lM)=.held ((m k).getD lM)
theorem iH.made(w:World):iH (w.alloc (.map #[] 0)) w.heap.size 0 (fun _=>none):=
 ⟨_,World.ownsMap_made w _ _ _,fun k=>⟨rfl,rfl⟩⟩
theorem iH.empty{w:World}{b:Nat}(h:w.heap[b]? =some (.map #[] 0)):iH w b 0 (fun _=>none):=by
 obtain ⟨D,⟨es,clock,hb,r⟩,h2⟩:=(iH.made w).is;have hb2:(w.alloc (.map #[] 0)).heap[w.heap.size]? =some (.map #[] 0):=by show (w.heap.push _)[w.heap.size]? =_;simp
 rw [hb2] at hb;simp only [Option.some.injEq,Obj.map.injEq] at hb;obtain ⟨rfl,rfl⟩:=hb;exact ⟨D,⟨_,_,h,r⟩,h2⟩
theorem iH.lt{w:World}{b n:Nat}{m:List UInt8→Option Value}(h:iH w b n m):b < w.heap.size:=by
 obtain ⟨D,h1,_⟩:=h.is;exact h1.lt
theorem iH.kept{w w':World}{b n:Nat}{m:List UInt8→Option Value}(h:iH w b n m)(g:w'.heap[b]? =w.heap[b]?):iH w' b n m:=by
 obtain ⟨D,⟨es,clock,hb,r⟩,h2⟩:=h.is;exact ⟨D,⟨es,clock,g.trans hb,r⟩,h2⟩
theorem iH.look{w:World}{b n:Nat}{m:List UInt8→Option Value}(h:iH w b n m)(s:ByteArray)(hs:s.size≤maxLen):(Instr.lookup 85 (.map (some b)) (.string s) true).run Tryz.prog w=.ok (.tuple #[(m s.data.toList).getD lM,.bool (m s.data.toList).isSome]) w:=by
 obtain ⟨D,h1,h2⟩:=h.is;obtain ⟨v,ps,hrun,hv⟩:=h1.look_ok Tryz.keyedS Tryz.uMapT (Tryz.zMapT w) (zd:=.held lM) (zp:= []) rfl (nr s hs);rw [hrun,(h2 _).1];have:=congrArg Prod.fst (Option.some.inj hv)
 simp only [(h2 _).2,DataW.held.injEq] at this;rw [this]
theorem iH.look1{w:World}{b n:Nat}{m:List UInt8→Option Value}(h:iH w b n m)(s:ByteArray)(hs:s.size≤maxLen):(Instr.lookup 85 (.map (some b)) (.string s) false).run Tryz.prog w=.ok ((m s.data.toList).getD lM) w:=by
 obtain ⟨D,h1,h2⟩:=h.is;obtain ⟨v,ps,hrun,hv⟩:=h1.lookup Tryz.keyedS Tryz.uMapT (Tryz.zMapT w) (zd:=.held lM) (zp:= []) rfl (nr s hs);rw [hrun];have:=congrArg Prod.fst (Option.some.inj hv)
 simp only [(h2 _).2,DataW.held.injEq] at this;rw [this]
theorem iH.store{w:World}{b n:Nat}{m:List UInt8→Option Value}(h:iH w b n m)(s:ByteArray)(hs:s.size≤maxLen)(hn:n < 1000000)(v:Value):
 ∃w',(Instr.mapUpdate 85 (.map (some b)) (.string s) v).run Tryz.prog w=.ok () w'∧iH w' b (n+1) (fun j=>if j=s.data.toList then some v else m j)∧w.grownBy w' (some b):=by
 obtain ⟨D,h1,h2⟩:=h.is;obtain ⟨w',hrun,hown,hturn⟩:=h1.store Tryz.keyedS Tryz.uMapT (by unfold maxLen;omega) (nr s hs) (val:=v) (d:=.held v) (ps:= []) rfl;refine ⟨w',hrun,⟨_,hown,fun j=>?_⟩,hturn.grown⟩;by_cases e:j=s.data.toList
 · subst e;rw [has_put_same h1.isMap (by trivial),atKey_put_same h1.isMap (by trivial)];simp
 · have hne:(Lit.string j)≠Lit.string s.data.toList:=fun h=>e (by injection h)
   rw [has_put_other hne,atKey_put_other hne,if_neg e];exact h2 j
open Go.RowKit
attribute [local go_sem ↓] Go.wp_at_zero Go.wp_at_succ
theorem Tryz.callUnl(vals:Array Value)(w:World):(callFunc 32 vals).run Tryz.prog w=.ok (.enter 32 vals) w:=by kernel_rfl
theorem Tryz.callEqF(vals:Array Value)(w:World):(callFunc 35 vals).run Tryz.prog w=.ok (.enter 35 vals) w:=by kernel_rfl
theorem Tryz.callEqI(vals:Array Value)(w:World):(callFunc 36 vals).run Tryz.prog w=.ok (.enter 36 vals) w:=by kernel_rfl
theorem aI{w:World}{b:Nat}{arr:Array Value}{t:TypeId}{o:Nat}{f:Nat×Nat}(h:w.heap[b]? =some (.cells arr t f)):w.cell? ⟨b,o,none⟩=arr[o]? :=by
 simp [World.cell?,h]
theorem vP(W:World)(l:List aK):tV W 25 #[] #[] 1 l (fun _ u=>!ak u) (fun _ V=>Gr W V) (fun V=>Gr W V):=by
 intro k u V vu hu hg hR;refine (jw u vu 1 (k:Int) V (hR.gr hg)).mono ?_;rintro x w' ⟨rfl,hg2⟩;cases h:ak u with
 | true=>exact .inl ⟨by simp [h],by rw [uR],hg.trans hg2⟩
 | false=>exact .inr ⟨by simp [h],by rw [ux],hg.trans hg2⟩
theorem cD.parts{w:World}{v:Value}{u:aK}(h:cD w v u):∃a1 a2 a3 a4 a5 c1 c2 c3 c4 c5,v=.agg #[.slice a1 u.aA.length c1,.slice a2 u.aD.length c2,.slice a3 u.aE.length c3,.slice a4 u.aB.length c4,.slice a5 u.aC.length c5]∧bG w (.slice a1 u.aA.length c1) u.aA∧aX w (.slice a2 u.aD.length c2) u.aD∧cG w (.slice a3 u.aE.length c3) u.aE∧bK w (.slice a4 u.aB.length c4) u.aB∧b8 w (.slice a5 u.aC.length c5) u.aC:=by
 obtain ⟨x1,x2,x3,x4,x5,he,h1,h2,h3,h4,h5⟩:=h;obtain ⟨a1,c1,rfl⟩:=h1.shape;obtain ⟨a2,c2,rfl⟩:=h2.shape;obtain ⟨a3,c3,rfl⟩:=h3.shape;obtain ⟨a4,c4,rfl⟩:=h4.shape;obtain ⟨a5,c5,rfl⟩:=h5.shape;exact ⟨a1,a2,a3,a4,a5,c1,c2,c3,c4,c5,he,h1,h2,h3,h4,h5⟩
structure Aj(W:World)(ub b off n:Nat)(cl:Nat)(a0:Option Addr)(c0:Nat)(sh:List (List Int)):Prop where
 box:W.cell? ⟨ub,0,none⟩=some (.slice (some ⟨b,off,none⟩) n cl)
 cell:W.cell? ⟨b,off,none⟩=some (.slice a0 sh.length c0)
 row:bG W (.slice a0 sh.length c0) sh
 pos:0 < n
theorem qY(W:World)(l:List aK)(ub b off n cl:Nat)(a0:Option Addr)(c0:Nat)(sh:List (List Int))(hF:Aj W ub b off n cl a0 c0 sh):
 tV W 34 #[] #[.pointer (some ⟨ub,0,none⟩)] 5 l (fun _ u=>!decide (u.aA=sh)) (fun _ V=>Gr W V) (fun V=>Gr W V):=by
 intro k u V vu hu hg hR;show Calls Tryz.prog 34 #[vu,.agg #[.int .i64 5,.int .i64 0,.int .i64 (k:Int)],.pointer (some ⟨ub,0,none⟩)] V _
 obtain ⟨a1,a2,a3,a4,a5,c1,c2,c3,c4,c5,rfl,r1,_,_,_,_⟩:=(hR.gr hg).parts;have HG:=aH hg;have HR1:=aH r1;have HF:=aH hF;have hn:(0:Int) < (n:Int):=by have:=hF.pos;omega
 have hn0:0 < n:=hF.pos;clear hg r1 hu hR hF;go_enter Tryz.func34,Tryz.ntmps34
 go_wp2_with fail
 have hgW:Gr V ((V.alloc (.cells #[.slice a1 u.aA.length c1,.slice a2 u.aD.length c2,.slice a3 u.aE.length c3,.slice a4 u.aB.length c4,.slice a5 u.aC.length c5] 33)).alloc (.cells #[.int .i64 5,.int .i64 0,.int .i64 (k:Int)] 58)):=((Gr.refl V).alloc _).alloc _;have hb0:=heap_alloc_new V (.cells #[.slice a1 u.aA.length c1,.slice a2 u.aD.length c2,.slice a3 u.aE.length c3,.slice a4 u.aB.length c4,.slice a5 u.aC.length c5] 33);have hb1:=heap_alloc_new (V.alloc (.cells #[.slice a1 u.aA.length c1,.slice a2 u.aD.length c2,.slice a3 u.aE.length c3,.slice a4 u.aB.length c4,.slice a5 u.aC.length c5] 33)) (.cells #[.int .i64 5,.int .i64 0,.int .i64 (k:Int)] 58);have hg1:Gr (V.alloc (.cells #[.slice a1 u.aA.length c1,.slice a2 u.aD.length c2,.slice a3 u.aE.length c3,.slice a4 u.aB.length c4,.slice a5 u.aC.length c5] 33)) ((V.alloc (.cells #[.slice a1 u.aA.length c1,.slice a2 u.aD.length c2,.slice a3 u.aE.length c3,.slice a4 u.aB.length c4,.slice a5 u.aC.length c5] 33)).alloc (.cells #[.int .i64 5,.int .i64 0,.int .i64 (k:Int)] 58)):=(Gr.refl _).alloc _;have hbb:(V.alloc (.cells #[.slice a1 u.aA.length c1,.slice a2 u.aD.length c2,.slice a3 u.aE.length c3,.slice a4 u.aB.length c4,.slice a5 u.aC.length c5] 33)).heap.size=V.heap.size+1:=by simp
 rw [hbb] at hb1;have KS:Hid (∀w',Gr ((V.alloc (.cells #[.slice a1 u.aA.length c1,.slice a2 u.aD.length c2,.slice a3 u.aE.length c3,.slice a4 u.aB.length c4,.slice a5 u.aC.length c5] 33)).alloc (.cells #[.int .i64 5,.int .i64 0,.int .i64 (k:Int)] 58)) w'→w'.cell? ⟨V.heap.size+1,0,none⟩=some (.int .i64 5)∧w'.cell? ⟨V.heap.size+1,1,none⟩=some (.int .i64 0)∧w'.cell? ⟨V.heap.size+1,2,none⟩=some (.int .i64 (k:Int))∧w'.cell? ⟨V.heap.size,0,none⟩=some (.slice a1 u.aA.length c1)∧w'.cell? ⟨ub,0,none⟩=some (.slice (some ⟨b,off,none⟩) n cl)∧w'.cell? ⟨b,off,none⟩=some (.slice a0 sh.length c0)):=aH (fun w' g=>by
  have g0:=hg1.trans g;have gV:=HG.out.trans (hgW.trans g);have e0:w'.heap[V.heap.size]? =_:=(g0.block V.heap.size (by simp) (by simp)).trans hb0;have e1:w'.heap[V.heap.size+1]? =_:=(g.block (V.heap.size+1) (by simp) (by simp)).trans hb1;exact ⟨by rw [aI e1];rfl,by rw [aI e1];rfl,by rw [aI e1];rfl,by rw [aI e0];rfl,gV.cell HF.out.box (by simp),gV.cell HF.out.cell (by simp)⟩)
 have HGW:=aH hgW;clear hb0 hb1 hg1 hgW hbb;generalize (V.alloc (.cells #[.slice a1 u.aA.length c1,.slice a2 u.aD.length c2,.slice a3 u.aE.length c3,.slice a4 u.aB.length c4,.slice a5 u.aC.length c5] 33)).alloc (.cells #[.int .i64 5,.int .i64 0,.int .i64 (k:Int)] 58)=W1 at KS HGW ⊢;refine wp_region_held_drew (S:=(fun w'=>w'.cell? ⟨V.heap.size+1,0,none⟩=some (.int .i64 5)∧w'.cell? ⟨V.heap.size+1,1,none⟩=some (.int .i64 0)∧w'.cell? ⟨V.heap.size+1,2,none⟩=some (.int .i64 (k:Int))∧w'.cell? ⟨V.heap.size,0,none⟩=some (.slice a1 u.aA.length c1)∧w'.cell? ⟨ub,0,none⟩=some (.slice (some ⟨b,off,none⟩) n cl)∧w'.cell? ⟨b,off,none⟩=some (.slice a0 sh.length c0))) (by kernel_rfl) (KS.out _ (Gr.drew (Gr.refl _))) (fun hH=>?_);refine tL 0 ?_;simp only [Act.put,sA,s0,s1];refine tL 1 ?_;simp only [Act.put,sA,s0,s1];refine tL 2 ?_;simp only [Act.put,sA,s0,s1];refine tL 3 ?_;simp only [Act.put,sA,s0,s1];refine tL 4 ?_;simp only [Act.put,sA,s0,s1];refine tL 5 ?_;simp only [Act.put,sA,s0,s1];refine tL 6 ?_;simp only [Act.put,sA,s0,s1];refine au (i:=7) rfl (by kernel_rfl) (fun K hK=>?_);refine aS rfl 35 _ _ rfl #[.slice a1 u.aA.length c1,.slice a0 sh.length c0,.func (.func 36) #[] #[]] (by simp [Act.eval]) (Tryz.callEqF _ _) ((qT _ _ u.aA sh _ (HR1.out.gr (HGW.out.trans (Gr.drew (Gr.refl _)))) (HF.out.row.gr (HG.out.trans (HGW.out.trans (Gr.drew (Gr.refl _)))))).mono ?_);rintro x w2 ⟨rfl,hg2⟩;have HG2:=aH ((Gr.drew (Gr.refl W1)).trans hg2);clear hg2;refine .inl ⟨_,rfl,?_⟩;refine hK.out _ _ (KS.out _ HG2.out) (fun hH=>?_);clear hK;try simp only [Act.put,sA,s0,s1]
 refine au (i:=8) rfl (by kernel_rfl) (fun K hK=>?_);by_cases hd:u.aA=sh
 · have e:decide (u.aA=sh)=true:=by simpa using hd
   refine aS rfl 32 _ _ rfl #[.agg #[.int .i64 5,.int .i64 0,.int .i64 (k:Int)],.bool true] (by simp [Act.eval,e]) (Tryz.callUnl _ _) ((aP _ _ _).mono ?_);rintro x w3 ⟨rfl,hg3⟩;have HG3:=aH (HG2.out.trans hg3);clear hg3;refine .inl ⟨_,rfl,?_⟩;refine hK.out _ _ (KS.out _ HG3.out) (fun hH=>?_);clear hK;try simp only [Act.put,sA,s0,s1]
   refine wpAnyH_done (by kernel_rfl) ?_ _;go_wp2_with fail
   go_end0
   exact .inl ⟨by simp [hd],rfl,HG.out.trans (HGW.out.trans HG3.out)⟩
 · have e:decide (u.aA=sh)=false:=by simpa using hd
   refine aS rfl 32 _ _ rfl #[.agg #[.int .i64 5,.int .i64 0,.int .i64 (k:Int)],.bool false] (by simp [Act.eval,e]) (Tryz.callUnl _ _) ((aV _ _ _).mono ?_);rintro x w3 ⟨rfl,hg3⟩;refine .inr ⟨_,rfl,?_⟩;exact ⟨rfl,.inr ⟨by simp [hd],rfl,HG.out.trans (HGW.out.trans (HG2.out.trans hg3))⟩⟩
end Go.Proofs.YtkgncijcnlfhiaaGreat
