import Derived.Lib.AppendZerosOnto
import Derived.Laws.OwnMore
import Derived.Maps.AppendAt
import Derived.Test.YtkgncijcnlfhiabGreatZ3
import Derived.Test.YtkgncijcnlfhiabGreatRg2
import Derived.StringKeys
import Derived.Deep.AppendLies
namespace Go.Proofs.YtkgncijcnlfhiabGreat
set_option maxRecDepth 100000
set_option maxHeartbeats 2000000
set_option linter.unusedVariables false
set_option linter.unusedSimpArgs false
open Go.RowKit
attribute [local go_sem ↓] Go.wp_at_zero Go.wp_at_succ
theorem qD{l m:List Int}(hl:l.length=m.length)(h:∀j,j < l.length->l.getD j 0=m.getD j 0):l=m:=by
 apply List.ext_getElem hl
 intro i h1 h2;have:=h i h1
 rw [List.getD_eq_getElem?_getD,List.getD_eq_getElem?_getD,List.getElem?_eq_getElem h1,List.getElem?_eq_getElem h2] at this;exact this
theorem nD{w w':World}(h:Gr w w')(n:Nat):Gr w (w'.drewN n):=⟨h.os,h.tape,h.output,h.size,h.block⟩
theorem j6(va vb:Value)(l m:List Int)(w:World)(ha:aW w va l)(hb:aW w vb m):
 Calls Tryz.prog 83 #[va,vb] w fun x w'=>x=.returned (.bool (decide (l=m)))/\Gr w w':=by
 have HA:=aH ha;have YF:=aH hb;obtain ⟨a1,c1,rfl,hm,_⟩:=ha;obtain ⟨a2,c2,rfl,O4,_⟩:=hb;unfold maxLen at hm O4;by_cases hlen:l.length=m.length
 · have hne:((l.length:Int) != (m.length:Int))=false:=by simp [hlen]
   have hM:m.length=l.length:=hlen.symm;have N6:=aH hlen;rw [hM] at hne |-;clear hlen;have R9:=aH hM;clear hM;go_enter Tryz.func83,Tryz.ntmps83
   go_wp2_with fail
   go_loopw [13] (fun i wr=>∃k:Nat,i=.int .i64 k/\k<=l.length/\(∀j,j < k->l.getD j 0=m.getD j 0)/\Gr w wr) (fun i _=>l.length - (intOf i).toNat)
   case atStart=>exact ⟨0,rfl,Nat.zero_le _,fun j h=>by omega,Gr.refl _⟩
   case round=>
    obtain ⟨k,rfl,hk,C2,hg⟩:=hrel;have Vn:=aH C2;clear C2;by_cases J0:k < l.length
    · obtain ⟨a1',c1',ZF,_,J5⟩:=HA.out;obtain ⟨a2',c2',EC,_,S5⟩:=YF.out;rw [R9.out] at EC S5;simp only [Value.slice.injEq,true_and] at ZF EC;obtain ⟨b1,o1,rfl,hx1⟩:=J5 k J0;obtain ⟨b2,o2,rfl,Gf⟩:=S5 k J0;obtain ⟨rfl,rfl⟩:=ZF;obtain ⟨rfl,rfl⟩:=EC;have Wn:=hg.cell hx1 Q6;have Lk:=hg.cell Gf Q6;have HX:∀x y,l.getD k 0=x->m.getD k 0=y->Hid (l.getD k 0=x/\m.getD k 0=y):=fun x y h1 h2=>aH ⟨h1,h2⟩
      obtain ⟨x,hx⟩:∃x,l.getD k 0=x:=⟨_,rfl⟩;obtain ⟨y,hy⟩:∃y,m.getD k 0=y:=⟨_,rfl⟩;have FC:=HX x y hx hy;rw [hx] at Wn;rw [hy] at Lk;have HG:=aH hg;clear J5 S5 hx1 Gf hg HA YF HX hx hy;by_cases Gh:x=y
      · have Y0:(x != y)=false:=by simp [Gh]
        have Fb:Hid (∀j,j < k+1->l.getD j 0=m.getD j 0):=aH (fun j hj=>by
         by_cases e:j=k
         · subst e;rw [FC.out.1,FC.out.2,Gh]
         · exact Vn.out j Q5)
        clear Gh;go_wp2_with fail
        go_quiet (fail)
        go_wp2_with fail
        exact ⟨⟨k+1,Q6,J0,Fb.out,nD HG.out _⟩,by simp [intOf];omega⟩
      · have Y0:(x != y)=true:=by simp [Gh]
        have HD:Hid (decide (l=m)=false):=aH (by
         rw [decide_eq_false_iff_not];intro e;subst e;exact Gh (FC.out.1.symm.trans FC.out.2))
        clear Gh;go_wp2_with fail
        go_quiet (fail)
        go_wp2_with fail
        go_ret
        exact ⟨by rw [HD.out];rfl,nD HG.out _⟩
    · have L7:k=l.length:=by omega
      subst L7;have HD:Hid (decide (l=m)=true):=aH (by rw [decide_eq_true_eq];exact qD N6.out Vn.out);have HG:=aH hg;clear hg;go_wp2_with fail
      go_ret
      exact ⟨by rw [HD.out];rfl,HG.out⟩
 · have hne:((l.length:Int) != (m.length:Int))=true:=by rw [bne_iff_ne];omega
   have HD:Hid (decide (l=m)=false):=aH (by rw [decide_eq_false_iff_not];intro e;subst e;exact hlen rfl);clear hlen;go_enter Tryz.func83,Tryz.ntmps83
   go_wp2_with fail
   go_ret
   exact ⟨by rw [HD.out];rfl,Gr.refl _⟩
theorem Tryz.infF:(Tryz.prog.info? 3).map (fun i=>(i.zero,i.size,i.bytes))=some (some (Value.int .i64 0),1,8):=Q7
theorem Tryz.uInts:Tryz.prog.underlying 24=some (.slice 3):=Q7
theorem Tryz.uIntF:Tryz.prog.underlying 3=some (.int .i64):=Q7
def BL(w:World)(e:Ending)(w':World):Prop:=∃v,e=.returned v/\w'.ownsRow w.heap.size 3 1 v 0 []/\Gr w w'
theorem wO(n:Nat)(hn:n<=100000)(w:World):Calls Tryz.prog 104 #[.slice none 0 0,.int .i64 (n:Int)] w (BL w):=by
 have h1:¬((n:Int) < 0):=Q5
 have h3:wrap64 (n:Int)=(n:Int):=by unfold wrap64;omega
 have h3b:IntKind.i64.wrap (n:Int)=(n:Int):=Q_;by_cases h0:n=0
 · subst h0;go_enter Tryz.func104,Tryz.ntmps104
   go_wp2_with fail
   go_ret
   exact ⟨_,rfl,World.ownsRow_nil _ _ _ _,Gr.refl _⟩
 · have h4:(n:Int) > 0:=by omega
   have h4b:(0:Int) < (n:Int):=Q5
   obtain ⟨i0,hi,O6,N5,D5⟩:=info_parts Tryz.infF;have DC:=fun ty=>Lib.run_append_grow_zeros w 24 3 ty 3 i0 (.int .i64 0) .i64 .i64 Tryz.uInts Tryz.uIntF hi O6 none 0 0 [] (run_firstCells_none w.drew i0.size 0 0 0) n Q5 Q5 Q5 Q5 (by rw [D5];omega) (growslice_fits Q5 (by rw [D5];omega))
   have hGn:0+n<=grownCap w (0+n) 0 3:=grownCap_ge w _ _ _;have XO:=grownCap_le_maxLen w (0+n) 0 3 (by unfold maxLen;omega);generalize grownCap w (0+n) 0 3=G at DC hGn XO;rw [Nat.zero_add] at DC hGn;have E9:Hid ((w.alloc (.cells (Builtin.zeroCells #[Value.int .i64 0] n++Builtin.zeroCells #[Value.int .i64 0] (G - n)) 3)).drew.ownsRow w.heap.size 3 1 (.slice (some ⟨w.heap.size,0,none⟩) 0 G) 0 []):=aH (by
    have:=World.ownsRow_made (base:=w.heap.size) (e:=3) (size:=1) w (Builtin.zeroCells #[Value.int .i64 0] n++Builtin.zeroCells #[Value.int .i64 0] (G - n)) G (Nat.le_refl _) XO (by simp [Builtin.zeroCells];omega)
    exact this)
   have hG63:G<=9223372036854775807:=by unfold maxLen at XO;omega
   have C6:Hid (Gr w (w.alloc (.cells (Builtin.zeroCells #[Value.int .i64 0] n++Builtin.zeroCells #[Value.int .i64 0] (G - n)) 3)).drew):=aH (((Gr.refl w).alloc _).drew);have HRZ:=aH DC;clear DC XO;go_enter Tryz.func104,Tryz.ntmps104
   go_wp2_with (at_builtin;refine Lib.wpList_append_run _ rfl _ _ _ _ rfl _ _ rfl rfl _ _ (HRZ.out _) ?_)
   all_goals go_ret
   all_goals exact ⟨.slice (some ⟨w.heap.size,0,none⟩) 0 G,rfl,E9.out,C6.out⟩
open Go.RowKit
attribute [local go_sem ↓] Go.wp_at_zero Go.wp_at_succ
def eS(w:World)(v:Value)(l:List aK):Prop:=
 ∃ao cap,v=.slice ao l.length cap/\l.length<=maxLen/\∀i u,l[i]? =some u->∃b off v1 v2 v3 v4 v5,ao=some ⟨b,off,none⟩/\
  w.cell? ⟨b,off+i * 5,none⟩=some v1/\w.cell? ⟨b,off+i * 5+1,none⟩=some v2/\w.cell? ⟨b,off+i * 5+2,none⟩=some v3/\w.cell? ⟨b,off+i * 5+3,none⟩=some v4/\w.cell? ⟨b,off+i * 5+4,none⟩=some v5/\cO w (.agg #[v1,v2,v3,v4,v5]) u
theorem eS.gr{w w':World}{v:Value}{l:List aK}(h:eS w v l)(g:Gr w w'):eS w' v l:=by
 obtain ⟨ao,cap,hv,hm,hc⟩:=h;refine ⟨ao,cap,hv,hm,fun i x hi=>?_⟩;obtain ⟨b,off,v1,v2,v3,v4,v5,h1,k1,k2,k3,k4,k5,hu⟩:=hc i x hi;exact ⟨b,off,v1,v2,v3,v4,v5,h1,g.cell k1 Q6,g.cell k2 Q6,g.cell k3 Q6,g.cell k4 Q6,g.cell k5 Q6,hu.gr g⟩
theorem eS.shape{w:World}{v:Value}{l:List aK}(h:eS w v l):∃ao cap,v=.slice ao l.length cap:=by
 obtain ⟨ao,cap,hv,_⟩:=h;exact ⟨ao,cap,hv⟩
theorem cO.slices{w:World}{v1 v2 v3 v4 v5:Value}{u:aK}(h:cO w (.agg #[v1,v2,v3,v4,v5]) u):(∃a c,v1=.slice a u.aA.length c)/\(∃a c,v2=.slice a u.aD.length c)/\(∃a c,v3=.slice a u.aE.length c)/\(∃a c,v4=.slice a u.aB.length c)/\∃a c,v5=.slice a u.aC.length c:=by
 obtain ⟨x1,x2,x3,x4,x5,he,h1,h2,h3,h4,h5⟩:=h;simp only [Value.agg.injEq,Array.mk.injEq,List.cons.injEq,and_true] at he;obtain ⟨rfl,rfl,rfl,rfl,rfl⟩:=he;exact ⟨h1.shape,h2.shape,h3.shape,h4.shape,h5.shape⟩
def A3(e:Int)(I:Nat->World->Prop)(B:World->Prop)(n:Nat)(o:Option Nat)(x:Ending)(w':World):Prop:=match o with
 | none=>x=.returned (.tuple #[])/\I n w'
 | some k=>x=.panicked (dM e (k:Int))/\B w'
def et(p:Nat->aK->Bool):Nat->List aK->Option Nat
 | _,[]=>none
 | k,u :: l=>if p k u=true then some k else et p (k+1) l
theorem iY(p:aK->Bool):∀(l:List aK) (k:Nat),et (fun _=>p) k l=dm p k l
 | [],_=>rfl
 | u :: l,k=>by rw [et,dm,iY p l (k+1)]
def uq(W:World)(f:FuncId)(first Rb:Array Value)(e:Int)(l:List aK)(p:Nat->aK->Bool)(I:Nat->World->Prop)(B:World->Prop):Prop:=
 ∀(k:Nat) (u:aK) (V:World) (vu:Value),l[k]? =some u->I k V->cO W vu u->
  Calls Tryz.prog f (first++(#[vu,.agg #[.int .i64 e,.int .i64 0,.int .i64 (k:Int)]]++Rb)) V fun x V'=>(p k u=false/\x=.returned (.tuple #[])/\I (k+1) V')\/(p k u=true/\x=.panicked (dM e (k:Int))/\B V')
theorem jd(f:FuncId)(first Rb:Array Value)(Yh:∀(vu vr:Value) (w:World),(callFunc f (first++(#[vu,vr]++Rb))).run Tryz.prog w=.ok (.enter f (first++(#[vu,vr]++Rb))) w)(e:Int)(l:List aK)(vl:Value)(p:Nat->aK->Bool)(I:Nat->World->Prop)(B:World->Prop)(W w:World)
 (hR:eS W vl l) (hB:∀k V,I k V->Gr W V) (hI:∀k V V',I k V->Gr V V'->I k V') (h0:I 0 w) (hA:uq W f first Rb e l p I B) (hlen:l.length<=1000000) (DG:∃a c,vl=.slice a l.length c):
 Calls Tryz.prog 80 #[vl,.int .i64 e,.func (.func f) first Rb] w (A3 e I B l.length (et p 0 l)):=by
 obtain ⟨al,cl,rfl⟩:=DG;have HR:=aH hR;have HI:=aH hI;have HBs:=aH hB;have HA:=aH hA;have H0:=aH h0;have IU:=aH Yh;clear hR hI h0 hA Yh hB;go_enter Tryz.func80,Tryz.ntmps80
 go_wp2_with fail
 go_loopw [10] (fun i wr=>∃k:Nat,i=.int .i64 (k:Int)/\k<=l.length/\et p 0 l=et p k (l.drop k)/\I k wr) (fun i _=>l.length - (intOf i).toNat)
 case atStart=>exact ⟨0,rfl,Nat.zero_le _,rfl,H0.out⟩
 case round=>
  obtain ⟨k,rfl,hk,hf,hi⟩:=hrel;have HF:=aH hf;have JU:=aH hi;clear hf hi H0;by_cases J0:k < l.length
  · obtain ⟨u,hu⟩:=aX J0;obtain ⟨ao,cap,he,_,hc⟩:=HR.out;obtain ⟨b,off,v1,v2,v3,v4,v5,rfl,k1,k2,k3,k4,k5,Nc⟩:=hc k u hu;have Hh:=HBs.out k wr JU.out;have k1:=Hh.cell k1 Q6;have k2:=Hh.cell k2 Q6;have k3:=Hh.cell k3 Q6;have k4:=Hh.cell k4 Q6;have k5:=Hh.cell k5 Q6;simp only [Value.slice.injEq,true_and] at he;obtain ⟨rfl,rfl⟩:=he;obtain ⟨⟨a1,c1,rfl⟩,⟨a2,c2,rfl⟩,⟨a3,c3,rfl⟩,⟨a4,c4,rfl⟩,⟨a5,c5,rfl⟩⟩:=Nc.slices;have Hf:(k:Int) < (l.length:Int):=by omega
    have hw:IntKind.i64.wrap ((k:Int)+1)=(k:Int)+1:=Q_;have hga:=Gr.alloc (Gr.refl wr) (.cells #[.slice a1 u.aA.length c1,.slice a2 u.aD.length c2,.slice a3 u.aE.length c3,.slice a4 u.aB.length c4,.slice a5 u.aC.length c5] 29);have HCK:=aH (HA.out k u _ _ hu (HI.out k wr _ JU.out hga) Nc);have HS:Hid (et p 0 l=if p k u=true then some k else et p (k+1) (l.drop (k+1))):=aH (by
     rw [HF.out,List.drop_eq_getElem_cons J0];have:l[k]=u:=by rw [List.getElem?_eq_getElem J0] at hu;exact Option.some.inj hu
     rw [this,et])
    clear hc Nc hu hga HF Hh;go_wp2_with fail
    rw [IU.out,Oper.upon_enter];refine HCK.out.mono ?_;rintro x w2 (⟨hp,rfl,P8⟩|⟨hp,rfl,E5⟩)
    · have HI2:=aH P8;have HN:Hid (et p 0 l=et p (k+1) (l.drop (k+1))):=aH (by rw [HS.out,hp];rfl);clear hp P8 HS HCK;go_wp2_with fail
      exact ⟨⟨k+1,Q6,J0,HN.out,HI2.out⟩,by simp [intOf];omega⟩
    · refine ⟨rfl,?_⟩;rw [HS.out,if_pos hp];exact ⟨rfl,E5⟩
  · have L7:k=l.length:=by omega
    subst L7;have HN:Hid (et p 0 l=none):=aH (by rw [HF.out,List.drop_length];rfl);clear J0 hk HF;go_wp2_with fail
    go_end0
    rw [HN.out];exact ⟨rfl,JU.out⟩
open Go.RowKit
attribute [local go_sem ↓] Go.wp_at_zero Go.wp_at_succ
theorem vU{α:Type}{l m:List α}(hl:l.length=m.length)(h:∀j,j < l.length->l[j]? =m[j]?):l=m:=by
 apply List.ext_getElem?
 intro i;by_cases hi:i < l.length
 · exact h i hi
 · rw [List.getElem?_eq_none Q5,List.getElem?_eq_none Q5]
theorem sF(va vb:Value)(l m:List (List Int))(w:World)(ha:bM w va l)(hb:bM w vb m):
 Calls Tryz.prog 82 #[va,vb,.func (.func 83) #[] #[]] w fun x w'=>x=.returned (.bool (decide (l=m)))/\Gr w w':=by
 have I8:∀(x:Bool) (w:World),(Op.unary .not (.bool x)).run Tryz.prog w=.ok (.bool (!x)) w:=fun _ _=>rfl
 obtain ⟨a1,c1,rfl,hm,J5⟩:=ha;obtain ⟨a2,c2,rfl,O4,S5⟩:=hb;unfold maxLen at hm O4;have E6:=aH J5;have O3:=aH S5;clear J5 S5;by_cases hlen:l.length=m.length
 · have hne:((l.length:Int) != (m.length:Int))=false:=by simp [hlen]
   have N6:=aH hlen;clear hlen;go_enter Tryz.func82,Tryz.ntmps82
   go_wp2_with fail
   go_loopw [17] (fun i wr=>∃k:Nat,i=.int .i64 k/\k<=l.length/\(∀j,j < k->l[j]? =m[j]?)/\Gr w wr) (fun i _=>l.length - (intOf i).toNat)
   case atStart=>exact ⟨0,rfl,Nat.zero_le _,fun j h=>by omega,Gr.refl _⟩
   case round=>
    obtain ⟨k,rfl,hk,C2,hg⟩:=hrel;have Vn:=aH C2;have HG:=aH hg;clear C2 hg;by_cases J0:k < l.length
    · obtain ⟨x,hx⟩:=aX J0;obtain ⟨y,hy⟩:=aX (show k < m.length by have:=N6.out;omega);obtain ⟨b1,o1,vx,rfl,x1,x2⟩:=E6.out k x hx;obtain ⟨b2,o2,vy,rfl,y1,y2⟩:=O3.out k y hy;obtain ⟨p1,q1,rfl⟩:=x2.shape;obtain ⟨p2,q2,rfl⟩:=y2.shape;have x1:=HG.out.cell x1 Q6;have y1:=HG.out.cell y1 Q6;have Hf:(k:Int) < (l.length:Int):=by omega
      have hki2:(k:Int) < (m.length:Int):=by have:=N6.out;omega
      have hw:IntKind.i64.wrap ((k:Int)+1)=(k:Int)+1:=Q_;have Ih:=aH (j6 _ _ x y wr (x2.gr HG.out) (y2.gr HG.out));have HX:=aH hx;have HY:=aH hy;clear hx hy x2 y2;go_wp2_with fail
      refine Ih.out.mono ?_;rintro z w2 ⟨rfl,E0⟩;have O0:=aH (HG.out.trans E0);clear E0 Ih;by_cases Gh:x=y
      · have hd:decide (x=y)=true:=by simpa using Gh
        rw [hd];have Fb:Hid (∀j,j < k+1->l[j]? =m[j]?):=aH (fun j hj=>by
         by_cases e:j=k
         · subst e;rw [HX.out,HY.out,Gh]
         · exact Vn.out j Q5)
        clear hd Gh;go_wp2_with fail
        exact ⟨⟨k+1,Q6,J0,Fb.out,O0.out⟩,by simp [intOf];omega⟩
      · have hd:decide (x=y)=false:=by simpa using Gh
        rw [hd];have HD:Hid (decide (l=m)=false):=aH (by
         rw [decide_eq_false_iff_not];intro e;subst e;exact Gh (Option.some.inj (HX.out.symm.trans HY.out)))
        clear hd Gh;go_wp2_with fail
        go_ret
        exact ⟨by rw [HD.out];rfl,O0.out⟩
    · have L7:k=l.length:=by omega
      subst L7;have HD:Hid (decide (l=m)=true):=aH (by rw [decide_eq_true_eq];exact vU N6.out Vn.out);clear J0 hk;go_wp2_with fail
      go_ret
      exact ⟨by rw [HD.out];rfl,HG.out⟩
 · have hne:((l.length:Int) != (m.length:Int))=true:=by rw [bne_iff_ne];omega
   have HD:Hid (decide (l=m)=false):=aH (by rw [decide_eq_false_iff_not];intro e;subst e;exact hlen rfl);clear hlen;go_enter Tryz.func82,Tryz.ntmps82
   go_wp2_with fail
   go_ret
   exact ⟨by rw [HD.out];rfl,Gr.refl _⟩
open Go.RowKit Go.Maps Go.WideMaps Go.WideMaps
theorem Tryz.uMapT:Tryz.prog.underlying 155=some (.map 9 205):=Q7
def me:Value:=.agg #[.slice none 0 0,.int .i64 0,.slice none 0 0,.slice none 0 0,.int .i64 0]
theorem Tryz.zMapT(w:World):(zeroValue 205).run Tryz.prog w=.ok me w:=Q7
theorem Tryz.kStr:Tryz.prog.underlying 9=some .string:=Q7
theorem Tryz.keyedS:Keyed Tryz.prog 9:=string_keyed Tryz.kStr
theorem om(s:ByteArray)(hs:s.size<=maxLen):keyOf Tryz.prog 9 (.string s)=some (.string s.data.toList):=keyOf_string_mk Tryz.kStr hs
structure kB(w:World)(b n:Nat)(m:List UInt8->Option Value):Prop where
 is:∃D:DataW Value,w.ownsMap Tryz.prog 9 BT b n D/\∀k,Maps.has D (.string k)=(m k).isSome/\D.atKey (.string k) (.held me)=.held ((m k).getD me)
theorem kB.made(w:World):kB (w.alloc (.map #[] 0)) w.heap.size 0 (fun _=>none):=
 ⟨_,World.ownsMap_made w _ _ _,fun k=>⟨rfl,rfl⟩⟩
theorem kB.lt{w:World}{b n:Nat}{m:List UInt8->Option Value}(h:kB w b n m):b < w.heap.size:=by
 obtain ⟨D,h1,_⟩:=h.is;exact h1.lt
theorem kB.kept{w w':World}{b n:Nat}{m:List UInt8->Option Value}(h:kB w b n m)(g:w'.heap[b]? =w.heap[b]?):kB w' b n m:=by
 obtain ⟨D,⟨es,clock,hb,r⟩,h2⟩:=h.is;exact ⟨D,⟨es,clock,g.trans hb,r⟩,h2⟩
theorem kB.look{w:World}{b n:Nat}{m:List UInt8->Option Value}(h:kB w b n m)(s:ByteArray)(hs:s.size<=maxLen):(Instr.lookup 155 (.map (some b)) (.string s) true).run Tryz.prog w=.ok (.tuple #[(m s.data.toList).getD me,.bool (m s.data.toList).isSome]) w:=by
 obtain ⟨D,h1,h2⟩:=h.is;obtain ⟨v,ps,J9,hv⟩:=h1.look_ok Tryz.keyedS Tryz.uMapT (Tryz.zMapT w) (zd:=.held me) (zp:= []) rfl (om s hs);rw [J9,(h2 _).1];have:=congrArg Prod.fst (Option.some.inj hv)
 simp only [(h2 _).2,DataW.held.injEq] at this;rw [this]
theorem kB.look1{w:World}{b n:Nat}{m:List UInt8->Option Value}(h:kB w b n m)(s:ByteArray)(hs:s.size<=maxLen):(Instr.lookup 155 (.map (some b)) (.string s) false).run Tryz.prog w=.ok ((m s.data.toList).getD me) w:=by
 obtain ⟨D,h1,h2⟩:=h.is;obtain ⟨v,ps,J9,hv⟩:=h1.lookup Tryz.keyedS Tryz.uMapT (Tryz.zMapT w) (zd:=.held me) (zp:= []) rfl (om s hs);rw [J9];have:=congrArg Prod.fst (Option.some.inj hv)
 simp only [(h2 _).2,DataW.held.injEq] at this;rw [this]
theorem kB.store{w:World}{b n:Nat}{m:List UInt8->Option Value}(h:kB w b n m)(s:ByteArray)(hs:s.size<=maxLen)(hn:n < 1000000)(v:Value):
 ∃w',(Instr.mapUpdate 155 (.map (some b)) (.string s) v).run Tryz.prog w=.ok () w'/\kB w' b (n+1) (fun j=>if j=s.data.toList then some v else m j)/\w.grownBy w' (some b):=by
 obtain ⟨D,h1,h2⟩:=h.is;obtain ⟨w',J9,C1,Tn⟩:=h1.store Tryz.keyedS Tryz.uMapT (by unfold maxLen;omega) (om s hs) (val:=v) (d:=.held v) (ps:= []) rfl;refine ⟨w',J9,⟨_,C1,fun j=>?_⟩,Tn.grown⟩;by_cases e:j=s.data.toList
 · subst e;rw [has_put_same h1.isMap (by trivial),atKey_put_same h1.isMap (by trivial)];simp
 · have hne:(Lit.string j)≠Lit.string s.data.toList:=fun h=>e (by injection h)
   rw [has_put_other hne,atKey_put_other hne,if_neg e];exact h2 j
open Go.RowKit
attribute [local go_sem ↓] Go.wp_at_zero Go.wp_at_succ
theorem Tryz.callUnl(M0:Array Value)(w:World):(callFunc 64 M0).run Tryz.prog w=.ok (.enter 64 M0) w:=Q7
theorem Tryz.callEqF(M0:Array Value)(w:World):(callFunc 82 M0).run Tryz.prog w=.ok (.enter 82 M0) w:=Q7
theorem Tryz.callEqI(M0:Array Value)(w:World):(callFunc 83 M0).run Tryz.prog w=.ok (.enter 83 M0) w:=Q7
theorem aJ{w:World}{b:Nat}{arr:Array Value}{t:TypeId}{o:Nat}{f:Nat×Nat}(h:w.heap[b]? =some (.cells arr t f)):w.cell? ⟨b,o,none⟩=arr[o]? :=by
 simp [World.cell?,h]
theorem wM(W:World)(l:List aK):uq W 31 #[] #[] 1 l (fun _ u=>!ai u) (fun _ V=>Gr W V) (fun V=>Gr W V):=by
 intro k u V vu hu hg hR;refine (km u vu 1 (k:Int) V (hR.gr hg)).mono ?_;rintro x w' ⟨rfl,E0⟩;cases h:ai u with
 | true=>exact .inl ⟨by simp [h],by rw [xJ],hg.trans E0⟩
 | false=>exact .inr ⟨by simp [h],by rw [xi],hg.trans E0⟩
theorem cO.parts{w:World}{v:Value}{u:aK}(h:cO w v u):∃a1 a2 a3 a4 a5 c1 c2 c3 c4 c5,v=.agg #[.slice a1 u.aA.length c1,.slice a2 u.aD.length c2,.slice a3 u.aE.length c3,.slice a4 u.aB.length c4,.slice a5 u.aC.length c5]/\bM w (.slice a1 u.aA.length c1) u.aA/\aW w (.slice a2 u.aD.length c2) u.aD/\dH w (.slice a3 u.aE.length c3) u.aE/\bo w (.slice a4 u.aB.length c4) u.aB/\dJ w (.slice a5 u.aC.length c5) u.aC:=by
 obtain ⟨x1,x2,x3,x4,x5,he,h1,h2,h3,h4,h5⟩:=h;obtain ⟨a1,c1,rfl⟩:=h1.shape;obtain ⟨a2,c2,rfl⟩:=h2.shape;obtain ⟨a3,c3,rfl⟩:=h3.shape;obtain ⟨a4,c4,rfl⟩:=h4.shape;obtain ⟨a5,c5,rfl⟩:=h5.shape;exact ⟨a1,a2,a3,a4,a5,c1,c2,c3,c4,c5,he,h1,h2,h3,h4,h5⟩
structure Cb(W:World)(ub b off n:Nat)(cl:Nat)(a0:Option Addr)(c0:Nat)(sh:List (List Int)):Prop where
 box:W.cell? ⟨ub,0,none⟩=some (.slice (some ⟨b,off,none⟩) n cl)
 cell:W.cell? ⟨b,off,none⟩=some (.slice a0 sh.length c0)
 row:bM W (.slice a0 sh.length c0) sh
 pos:0 < n
theorem sT(W:World)(l:List aK)(ub b off n cl:Nat)(a0:Option Addr)(c0:Nat)(sh:List (List Int))(hF:Cb W ub b off n cl a0 c0 sh):
 uq W 81 #[] #[.pointer (some ⟨ub,0,none⟩)] 5 l (fun _ u=>!decide (u.aA=sh)) (fun _ V=>Gr W V) (fun V=>Gr W V):=by
 intro k u V vu hu hg hR;show Calls Tryz.prog 81 #[vu,.agg #[.int .i64 5,.int .i64 0,.int .i64 (k:Int)],.pointer (some ⟨ub,0,none⟩)] V _
 obtain ⟨a1,a2,a3,a4,a5,c1,c2,c3,c4,c5,rfl,r1,_,_,_,_⟩:=(hR.gr hg).parts;have HG:=aH hg;have Gm:=aH r1;have HF:=aH hF;have hn:(0:Int) < (n:Int):=by have:=hF.pos;omega
 have hn0:0 < n:=hF.pos;clear hg r1 hu hR hF;go_enter Tryz.func81,Tryz.ntmps81
 go_wp2_with fail
 have O7:Gr V ((V.alloc (.cells #[.slice a1 u.aA.length c1,.slice a2 u.aD.length c2,.slice a3 u.aE.length c3,.slice a4 u.aB.length c4,.slice a5 u.aC.length c5] 29)).alloc (.cells #[.int .i64 5,.int .i64 0,.int .i64 (k:Int)] 62)):=((Gr.refl V).alloc _).alloc _;have D4:=heap_alloc_new V (.cells #[.slice a1 u.aA.length c1,.slice a2 u.aD.length c2,.slice a3 u.aE.length c3,.slice a4 u.aB.length c4,.slice a5 u.aC.length c5] 29);have Y0:=heap_alloc_new (V.alloc (.cells #[.slice a1 u.aA.length c1,.slice a2 u.aD.length c2,.slice a3 u.aE.length c3,.slice a4 u.aB.length c4,.slice a5 u.aC.length c5] 29)) (.cells #[.int .i64 5,.int .i64 0,.int .i64 (k:Int)] 62);have hg1:Gr (V.alloc (.cells #[.slice a1 u.aA.length c1,.slice a2 u.aD.length c2,.slice a3 u.aE.length c3,.slice a4 u.aB.length c4,.slice a5 u.aC.length c5] 29)) ((V.alloc (.cells #[.slice a1 u.aA.length c1,.slice a2 u.aD.length c2,.slice a3 u.aE.length c3,.slice a4 u.aB.length c4,.slice a5 u.aC.length c5] 29)).alloc (.cells #[.int .i64 5,.int .i64 0,.int .i64 (k:Int)] 62)):=(Gr.refl _).alloc _;have R8:(V.alloc (.cells #[.slice a1 u.aA.length c1,.slice a2 u.aD.length c2,.slice a3 u.aE.length c3,.slice a4 u.aB.length c4,.slice a5 u.aC.length c5] 29)).heap.size=V.heap.size+1:=Q6
 rw [R8] at Y0;have KS:Hid (∀w',Gr ((V.alloc (.cells #[.slice a1 u.aA.length c1,.slice a2 u.aD.length c2,.slice a3 u.aE.length c3,.slice a4 u.aB.length c4,.slice a5 u.aC.length c5] 29)).alloc (.cells #[.int .i64 5,.int .i64 0,.int .i64 (k:Int)] 62)) w'->w'.cell? ⟨V.heap.size+1,0,none⟩=some (.int .i64 5)/\w'.cell? ⟨V.heap.size+1,1,none⟩=some (.int .i64 0)/\w'.cell? ⟨V.heap.size+1,2,none⟩=some (.int .i64 (k:Int))/\w'.cell? ⟨V.heap.size,0,none⟩=some (.slice a1 u.aA.length c1)/\w'.cell? ⟨ub,0,none⟩=some (.slice (some ⟨b,off,none⟩) n cl)/\w'.cell? ⟨b,off,none⟩=some (.slice a0 sh.length c0)):=aH (fun w' g=>by
  have g0:=hg1.trans g;have gV:=HG.out.trans (O7.trans g);have e0:w'.heap[V.heap.size]? =_:=(g0.block V.heap.size Q6 Q6).trans D4;have e1:w'.heap[V.heap.size+1]? =_:=(g.block (V.heap.size+1) Q6 Q6).trans Y0;exact ⟨by rw [aJ e1];rfl,by rw [aJ e1];rfl,by rw [aJ e1];rfl,by rw [aJ e0];rfl,gV.cell HF.out.box Q6,gV.cell HF.out.cell Q6⟩)
 have S8:=aH O7;clear D4 Y0 hg1 O7 R8;generalize (V.alloc (.cells #[.slice a1 u.aA.length c1,.slice a2 u.aD.length c2,.slice a3 u.aE.length c3,.slice a4 u.aB.length c4,.slice a5 u.aC.length c5] 29)).alloc (.cells #[.int .i64 5,.int .i64 0,.int .i64 (k:Int)] 62)=W1 at KS S8 |-;refine wp_region_held_drew (S:=(fun w'=>w'.cell? ⟨V.heap.size+1,0,none⟩=some (.int .i64 5)/\w'.cell? ⟨V.heap.size+1,1,none⟩=some (.int .i64 0)/\w'.cell? ⟨V.heap.size+1,2,none⟩=some (.int .i64 (k:Int))/\w'.cell? ⟨V.heap.size,0,none⟩=some (.slice a1 u.aA.length c1)/\w'.cell? ⟨ub,0,none⟩=some (.slice (some ⟨b,off,none⟩) n cl)/\w'.cell? ⟨b,off,none⟩=some (.slice a0 sh.length c0))) Q7 (KS.out _ (Gr.drew (Gr.refl _))) (fun hH=>?_);refine tL 0 ?_;simp only [Act.put,sA,s0,s1];refine tL 1 ?_;simp only [Act.put,sA,s0,s1];refine tL 2 ?_;simp only [Act.put,sA,s0,s1];refine tL 3 ?_;simp only [Act.put,sA,s0,s1];refine tL 4 ?_;simp only [Act.put,sA,s0,s1];refine tL 5 ?_;simp only [Act.put,sA,s0,s1];refine tL 6 ?_;simp only [Act.put,sA,s0,s1];refine aq (i:=7) rfl Q7 (fun K hK=>?_);refine aQ rfl 82 _ _ rfl #[.slice a1 u.aA.length c1,.slice a0 sh.length c0,.func (.func 83) #[] #[]] fk (Tryz.callEqF _ _) ((sF _ _ u.aA sh _ (Gm.out.gr (S8.out.trans (Gr.drew (Gr.refl _)))) (HF.out.row.gr (HG.out.trans (S8.out.trans (Gr.drew (Gr.refl _)))))).mono ?_);rintro x w2 ⟨rfl,E0⟩;have O0:=aH ((Gr.drew (Gr.refl W1)).trans E0);clear E0;refine .inl ⟨_,rfl,?_⟩;refine hK.out _ _ (KS.out _ O0.out) (fun hH=>?_);clear hK;try simp only [Act.put,sA,s0,s1]
 refine aq (i:=8) rfl Q7 (fun K hK=>?_);by_cases hd:u.aA=sh
 · have e:decide (u.aA=sh)=true:=by simpa using hd
   refine aQ rfl 64 _ _ rfl #[.agg #[.int .i64 5,.int .i64 0,.int .i64 (k:Int)],.bool true] (by simp [Act.eval,e]) (Tryz.callUnl _ _) ((aP _ _ _).mono ?_);rintro x w3 ⟨rfl,P0⟩;have HG3:=aH (O0.out.trans P0);clear P0;refine .inl ⟨_,rfl,?_⟩;refine hK.out _ _ (KS.out _ HG3.out) (fun hH=>?_);clear hK;try simp only [Act.put,sA,s0,s1]
   refine wpAnyH_done Q7 ?_ _;go_wp2_with fail
   go_end0
   exact .inl ⟨by simp [hd],rfl,HG.out.trans (S8.out.trans HG3.out)⟩
 · have e:decide (u.aA=sh)=false:=by simpa using hd
   refine aQ rfl 64 _ _ rfl #[.agg #[.int .i64 5,.int .i64 0,.int .i64 (k:Int)],.bool false] (by simp [Act.eval,e]) (Tryz.callUnl _ _) ((aV _ _ _).mono ?_);rintro x w3 ⟨rfl,P0⟩;refine .inr ⟨_,rfl,?_⟩;exact ⟨rfl,.inr ⟨by simp [hd],rfl,HG.out.trans (S8.out.trans (O0.out.trans P0))⟩⟩
end Go.Proofs.YtkgncijcnlfhiabGreat
