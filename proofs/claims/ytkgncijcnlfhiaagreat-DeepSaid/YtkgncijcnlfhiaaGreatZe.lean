import Derived.Test.YtkgncijcnlfhiaaGreatZb
import Derived.Deep.AppendLies
import Derived.Deep.RegionLaw
namespace Go.Proofs.YtkgncijcnlfhiaaGreat
set_option maxRecDepth 100000
set_option maxHeartbeats 4000000
set_option linter.unusedVariables false
set_option linter.unusedSimpArgs false
open Go.RowKit
attribute [local go_sem ↓] Go.wp_at_zero Go.wp_at_succ
def DownR(P:World→Prop)(x:Ending)(w':World):Prop:=∃b,x=.returned (.bool b)∧P w'
def SiftedD(w:World)(lb lo B g cap N n:Nat)(l:List Int)(w':World):Prop:=∃l',HpAt w' lb lo B g cap N l'∧Hp (fnL l') n∧Same (fnL l) (fnL l') n∧fnL l' n=fnL l n∧w.grownBy w' (some g)
theorem down_any(lb lo B g cap N n:Nat)(l:List Int)(w:World)(h:HpAt w lb lo B g cap N l)(hN:n < N)(hu:HpDn (fnL l) n 0):
 Calls Tryz.prog 81 #[.iface 101 (.pointer (some ⟨lb,lo,none⟩)),.int .i64 0,.int .i64 (n:Int)] w (DownR (SiftedD w lb lo B g cap N n l)):=by
 have HH:=hide h;have HU:=hide hu;have hsm:=h.small;clear h hu;go_enter Tryz.func81,Tryz.ntmps81
 go_wp2_with fail
 go_loopw [7] (fun i wr=>∃(k:Nat) (l':List Int),i=.int .i64 (k:Int)∧k < N∧HpAt wr lb lo B g cap N l'∧HpDn (fnL l') n k∧Same (fnL l) (fnL l') n∧fnL l' n=fnL l n∧w.grownBy wr (some g)) (fun i _=>N - (intOf i).toNat)
 case atStart=>exact ⟨0,l,rfl,by omega,HH.out,HU.out,Same.refl _ _,rfl,gc_refl _ _⟩
 case round=>
  obtain ⟨k,l',rfl,hk,h1,h2,h3,h5,h4⟩:=hrel;have H1:=hide h1;have H2:=hide h2;have H3:=hide h3;have H4:=hide h4;have H5:=hide h5;have hc:=h1.cell;clear h1 h2 h3 h4 h5 HH HU;have hnot:∀(x:Bool) (w:World),(Op.unary .not (.bool x)).run Tryz.prog w=.ok (.bool (!x)) w:=fun _ _=>rfl
  obtain ⟨m,hm⟩:∃m:Nat,2 * k=m:=⟨_,rfl⟩;obtain ⟨j1,hj1⟩:∃j1:Nat,m+1=j1:=⟨_,rfl⟩;obtain ⟨j2,hj2⟩:∃j2:Nat,j1+1=j2:=⟨_,rfl⟩;have hw1:IntKind.i64.wrap (2 * (k:Int))=(m:Int):=by rw [Go.IntWalk.i64_in _ (by omega)];omega
  have hw2:IntKind.i64.wrap ((m:Int)+1)=(j1:Int):=by rw [Go.IntWalk.i64_in _ (by omega)];omega
  have hw3:IntKind.i64.wrap ((j1:Int)+1)=(j2:Int):=by rw [Go.IntWalk.i64_in _ (by omega)];omega
  have hv1:wrap64 (2 * (k:Int))=(m:Int):=by rw [Go.IntWalk.wrap64_in _ (by omega)];omega
  have hv2:wrap64 ((m:Int)+1)=(j1:Int):=by rw [Go.IntWalk.wrap64_in _ (by omega)];omega
  have hv3:wrap64 ((j1:Int)+1)=(j2:Int):=by rw [Go.IntWalk.wrap64_in _ (by omega)];omega
  have HWS:=hide (And.intro hw1 (And.intro hw2 (And.intro hw3 (And.intro hv1 (And.intro hv2 hv3)))));clear hw1 hw2 hw3 hv1 hv2 hv3;have HJ:Hid (j1=2 * k+1∧j2=2 * k+2):=hide ⟨by omega,by omega⟩;have hjj:j1=2 * k+1∧j2=2 * k+2:=HJ.out;obtain ⟨ej1,ej2⟩:=hjj;have hneg:¬(j1:Int) < 0:=by omega
  clear hm hj1 hj2;by_cases hge:n≤j1
  · have hgi:(n:Int)≤(j1:Int):=by omega
    clear ej1 ej2;obtain ⟨hw1,hw2,hw3,hv1,hv2,hv3⟩:=HWS.out;go_wp2_with fail
    clear hw1 hw2 hw3 hv1 hv2 hv3;go_ret
    exact ⟨_,rfl,l',H1.out,H2.out.stop (fun d h1 h2 h3=>by have:=HJ.out;omega),H3.out,H5.out,H4.out⟩
  · have hgi:¬(n:Int)≤(j1:Int):=by omega
    by_cases hlt2:j2 < n
    · have hli:(j2:Int) < (n:Int):=by omega
      have hm0:=m_less wr lb lo _ hc ⟨_,_,_,rfl⟩;have hj1N:j1 < N:=by omega
      have hj2N:j2 < N:=by omega
      clear ej1 ej2;obtain ⟨hw1,hw2,hw3,hv1,hv2,hv3⟩:=HWS.out;go_wp2_with fail
      clear hw1 hw2 hw3 hv1 hv2 hv3;refine (isless_n H1.out.len H1.out.row hj2N hj1N).mono ?_;rintro x w2 ⟨rfl,hg2⟩;have HA2:=hide (H1.out.gr hg2);have HG2:=hide (gc_gr H4.out hg2);clear hm0 hg2 hc;by_cases hl2:fnL l' j2 < fnL l' j1
      · have hd2:decide (fnL l' j2 < fnL l' j1)=true:=by simpa using hl2
        rw [hd2];have HL2:=hide hl2;clear hd2 hl2;have hm1:=m_less w2 lb lo _ HA2.out.cell ⟨_,_,_,rfl⟩;obtain ⟨hw1,hw2,hw3,hv1,hv2,hv3⟩:=HWS.out;go_wp2_with fail
        clear hw1 hw2 hw3 hv1 hv2 hv3;refine (isless_n HA2.out.len HA2.out.row (show j2 < N by have:=HJ.out;omega) (show k < N by have:=HJ.out;omega)).mono ?_;rintro x wl ⟨rfl,hgl⟩;have HAl:=hide (HA2.out.gr hgl);have HGl:=hide (gc_gr HG2.out hgl);have hm2:=m_swap wl lb lo _ HAl.out.cell ⟨_,_,_,rfl⟩;clear hm1 hgl;by_cases hlt:fnL l' j2 < fnL l' k
        · have hd:decide (fnL l' j2 < fnL l' k)=true:=by simpa using hlt
          rw [hd];have HLT:=hide hlt;clear hd hlt;obtain ⟨hw1,hw2,hw3,hv1,hv2,hv3⟩:=HWS.out;go_wp2_with fail
          clear hw1 hw2 hw3 hv1 hv2 hv3;refine (isswap_n HAl.out.len HAl.out.row (show k < N by have:=HJ.out;omega) (show j2 < N by have:=HJ.out;omega)).mono ?_;rintro x ws ⟨rfl,hrs,hgs⟩;have HAs:=hide (HAl.out.swap hgs hrs (swapL_len _ _ _));have HGs:=hide (gc_trans HGl.out hgs);clear hrs hgs hm2;obtain ⟨hw1,hw2,hw3,hv1,hv2,hv3⟩:=HWS.out;go_wp2_with fail
          clear hw1 hw2 hw3 hv1 hv2 hv3;have e1:fnL (swapL l' k j2)=swp (fnL l') k j2:=fnL_swap (by rw [HAl.out.len];have:=HJ.out;omega) (by rw [HAl.out.len];have:=HJ.out;omega);have hst:=H2.out.step (c:=j2) (by have:=HJ.out;omega) (by have:=HJ.out;omega) (by have:=HJ.out;omega) HLT.out (fun d h1 h2 h3=>by rcases (show d=j1∨d=j2 by have:=HJ.out;omega) with rfl|rfl<;>(have:=HL2.out;omega))
          rw [←e1] at hst;have hsm2:Same (fnL l') (fnL (swapL l' k j2)) n:=by rw [e1];exact swp_same (by have:=HJ.out;omega) (by have:=HJ.out;omega)
          have hlast:fnL (swapL l' k j2) n=fnL l' n:=by rw [e1];unfold swp;rw [if_neg (by have:=HJ.out;omega),if_neg (by have:=HJ.out;omega)]
          exact ⟨⟨j2,_,rfl,by have:=HJ.out;omega,HAs.out,hst,H3.out.trans hsm2,hlast.trans H5.out,HGs.out⟩,by have:=HJ.out;simp [intOf];omega⟩
        · have hd:decide (fnL l' j2 < fnL l' k)=false:=by simpa using hlt
          rw [hd];have HLT:=hide hlt;clear hd hlt hm2;obtain ⟨hw1,hw2,hw3,hv1,hv2,hv3⟩:=HWS.out;go_wp2_with fail
          clear hw1 hw2 hw3 hv1 hv2 hv3;go_ret
          have hmin:∀d,0 < d→d < n→(d - 1) / 2=k→fnL l' j2≤fnL l' d:=fun d h1 h2 h3=>by rcases (show d=j1∨d=j2 by have:=HJ.out;omega) with rfl|rfl<;>(have:=HL2.out;omega)
          exact ⟨_,rfl,l',HAl.out,H2.out.stop (fun d h1 h2 h3=>by have:=hmin d h1 h2 h3;have:=HLT.out;omega),H3.out,H5.out,HGl.out⟩
      · have hd2:decide (fnL l' j2 < fnL l' j1)=false:=by simpa using hl2
        rw [hd2];have HL2:=hide hl2;clear hd2 hl2;have hm1:=m_less w2 lb lo _ HA2.out.cell ⟨_,_,_,rfl⟩;obtain ⟨hw1,hw2,hw3,hv1,hv2,hv3⟩:=HWS.out;go_wp2_with fail
        clear hw1 hw2 hw3 hv1 hv2 hv3;refine (isless_n HA2.out.len HA2.out.row (show j1 < N by have:=HJ.out;omega) (show k < N by have:=HJ.out;omega)).mono ?_;rintro x wl ⟨rfl,hgl⟩;have HAl:=hide (HA2.out.gr hgl);have HGl:=hide (gc_gr HG2.out hgl);have hm2:=m_swap wl lb lo _ HAl.out.cell ⟨_,_,_,rfl⟩;clear hm1 hgl;by_cases hlt:fnL l' j1 < fnL l' k
        · have hd:decide (fnL l' j1 < fnL l' k)=true:=by simpa using hlt
          rw [hd];have HLT:=hide hlt;clear hd hlt;obtain ⟨hw1,hw2,hw3,hv1,hv2,hv3⟩:=HWS.out;go_wp2_with fail
          clear hw1 hw2 hw3 hv1 hv2 hv3;refine (isswap_n HAl.out.len HAl.out.row (show k < N by have:=HJ.out;omega) (show j1 < N by have:=HJ.out;omega)).mono ?_;rintro x ws ⟨rfl,hrs,hgs⟩;have HAs:=hide (HAl.out.swap hgs hrs (swapL_len _ _ _));have HGs:=hide (gc_trans HGl.out hgs);clear hrs hgs hm2;obtain ⟨hw1,hw2,hw3,hv1,hv2,hv3⟩:=HWS.out;go_wp2_with fail
          clear hw1 hw2 hw3 hv1 hv2 hv3;have e1:fnL (swapL l' k j1)=swp (fnL l') k j1:=fnL_swap (by rw [HAl.out.len];have:=HJ.out;omega) (by rw [HAl.out.len];have:=HJ.out;omega);have hst:=H2.out.step (c:=j1) (by have:=HJ.out;omega) (by have:=HJ.out;omega) (by have:=HJ.out;omega) HLT.out (fun d h1 h2 h3=>by rcases (show d=j1∨d=j2 by have:=HJ.out;omega) with rfl|rfl<;>(have:=HL2.out;omega))
          rw [←e1] at hst;have hsm2:Same (fnL l') (fnL (swapL l' k j1)) n:=by rw [e1];exact swp_same (by have:=HJ.out;omega) (by have:=HJ.out;omega)
          have hlast:fnL (swapL l' k j1) n=fnL l' n:=by rw [e1];unfold swp;rw [if_neg (by have:=HJ.out;omega),if_neg (by have:=HJ.out;omega)]
          exact ⟨⟨j1,_,rfl,by have:=HJ.out;omega,HAs.out,hst,H3.out.trans hsm2,hlast.trans H5.out,HGs.out⟩,by have:=HJ.out;simp [intOf];omega⟩
        · have hd:decide (fnL l' j1 < fnL l' k)=false:=by simpa using hlt
          rw [hd];have HLT:=hide hlt;clear hd hlt hm2;obtain ⟨hw1,hw2,hw3,hv1,hv2,hv3⟩:=HWS.out;go_wp2_with fail
          clear hw1 hw2 hw3 hv1 hv2 hv3;go_ret
          have hmin:∀d,0 < d→d < n→(d - 1) / 2=k→fnL l' j1≤fnL l' d:=fun d h1 h2 h3=>by rcases (show d=j1∨d=j2 by have:=HJ.out;omega) with rfl|rfl<;>(have:=HL2.out;omega)
          exact ⟨_,rfl,l',HAl.out,H2.out.stop (fun d h1 h2 h3=>by have:=hmin d h1 h2 h3;have:=HLT.out;omega),H3.out,H5.out,HGl.out⟩
    · have hli:¬(j2:Int) < (n:Int):=by omega
      have HLE:=hide hlt2;clear ej1 ej2;have hm1:=m_less wr lb lo _ H1.out.cell ⟨_,_,_,rfl⟩;obtain ⟨hw1,hw2,hw3,hv1,hv2,hv3⟩:=HWS.out;go_wp2_with fail
      clear hw1 hw2 hw3 hv1 hv2 hv3;refine (isless_n H1.out.len H1.out.row (show j1 < N by have:=HJ.out;omega) (show k < N by have:=HJ.out;omega)).mono ?_;rintro x wl ⟨rfl,hgl⟩;have HAl:=hide (H1.out.gr hgl);have HGl:=hide (gc_gr H4.out hgl);have hm2:=m_swap wl lb lo _ HAl.out.cell ⟨_,_,_,rfl⟩;clear hm1 hgl;by_cases hlt:fnL l' j1 < fnL l' k
      · have hd:decide (fnL l' j1 < fnL l' k)=true:=by simpa using hlt
        rw [hd];have HLT:=hide hlt;clear hd hlt;obtain ⟨hw1,hw2,hw3,hv1,hv2,hv3⟩:=HWS.out;go_wp2_with fail
        clear hw1 hw2 hw3 hv1 hv2 hv3;refine (isswap_n HAl.out.len HAl.out.row (show k < N by have:=HJ.out;omega) (show j1 < N by have:=HJ.out;omega)).mono ?_;rintro x ws ⟨rfl,hrs,hgs⟩;have HAs:=hide (HAl.out.swap hgs hrs (swapL_len _ _ _));have HGs:=hide (gc_trans HGl.out hgs);clear hrs hgs hm2;obtain ⟨hw1,hw2,hw3,hv1,hv2,hv3⟩:=HWS.out;go_wp2_with fail
        clear hw1 hw2 hw3 hv1 hv2 hv3;have e1:fnL (swapL l' k j1)=swp (fnL l') k j1:=fnL_swap (by rw [HAl.out.len];have:=HJ.out;omega) (by rw [HAl.out.len];have:=HJ.out;omega);have hst:=H2.out.step (c:=j1) (by have:=HJ.out;omega) (by have:=HJ.out;omega) (by have:=HJ.out;omega) HLT.out (fun d h1 h2 h3=>Int.le_of_eq (congrArg (fnL l') (show j1=d by have:=HJ.out;have:=HLE.out;omega)));rw [←e1] at hst;have hsm2:Same (fnL l') (fnL (swapL l' k j1)) n:=by rw [e1];exact swp_same (by have:=HJ.out;omega) (by have:=HJ.out;omega)
        have hlast:fnL (swapL l' k j1) n=fnL l' n:=by rw [e1];unfold swp;rw [if_neg (by have:=HJ.out;omega),if_neg (by have:=HJ.out;omega)]
        exact ⟨⟨j1,_,rfl,by have:=HJ.out;omega,HAs.out,hst,H3.out.trans hsm2,hlast.trans H5.out,HGs.out⟩,by have:=HJ.out;simp [intOf];omega⟩
      · have hd:decide (fnL l' j1 < fnL l' k)=false:=by simpa using hlt
        rw [hd];have HLT:=hide hlt;clear hd hlt hm2;obtain ⟨hw1,hw2,hw3,hv1,hv2,hv3⟩:=HWS.out;go_wp2_with fail
        clear hw1 hw2 hw3 hv1 hv2 hv3;go_ret
        have hmin:∀d,0 < d→d < n→(d - 1) / 2=k→fnL l' j1≤fnL l' d:=fun d h1 h2 h3=>Int.le_of_eq (congrArg (fnL l') (show j1=d by have:=HJ.out;have:=HLE.out;omega))
        exact ⟨_,rfl,l',HAl.out,H2.out.stop (fun d h1 h2 h3=>by have:=hmin d h1 h2 h3;have:=HLT.out;omega),H3.out,H5.out,HGl.out⟩
open Go.RowKit
attribute [local go_sem ↓] Go.wp_at_zero Go.wp_at_succ
theorem cells_z(w:World)(ys:Array Value)(t:TypeId):∀j u,ys.toList[j]? =some u→(w.alloc (.cells ys t)).cell? ((⟨w.heap.size,0,none⟩:Addr).add j)=some u:=by
 intro j u hj;have e:(⟨w.heap.size,0,none⟩:Addr).add j=⟨w.heap.size,j,none⟩:=by simp [Addr.add];try (intro h;exact h.symm)
 rw [e];have h:=World.cell?_alloc_mark w ys t (0,0) j;exact h.trans (by rw [←Array.getElem?_toList];exact hj)
theorem Tryz.infZ:(Tryz.prog.info? 3).map (fun i=>(i.zero,i.size,i.bytes))=some (some (Value.int .i64 0),1,8):=by kernel_rfl
theorem Tryz.uIs:Tryz.prog.underlying 72=some (.slice 3):=by kernel_rfl
theorem step_append_z{ops:Array Oper}{o:Oper}{a:Act}{K:Act→World→Prop}{Q:Exit→Act→World→Prop}{E:Prop}(w:World)(hgd:o.guard=none)(s x:Operand)
 (ho:o.op=.call { callee:=.builtin .append,args:=#[s,x],argTypes:=#[72,72] })
 (base:Nat) (v:Value) (l:List Int) (y:Int) (hs:a.eval s=v) (hown:HpRow w base v l) (H:Nat) (hx:a.eval x=.slice (some ⟨H,0,none⟩) 1 1) (hH:w.heap.size=H) (hlen:l.length≤1000000) (hbase:base≤w.heap.size)
 (h:∀ao cap w',HpRow w' base (.slice ao (l.length+1) cap) (l++ [y])→w.grownBy w' v.ownBlock→(∀k,(Value.slice ao (l.length+1) cap).ownBlock=some k→v.ownBlock=some k∨w.heap.size≤k)→K (a.put o.dst (.slice ao (l.length+1) cap)) w'):
 if Region.wanted o (yielded ops a.tmps)=true then Oper.wp Tryz.prog o a (w.alloc (.cells #[.int .i64 y] 3)) K Q else E:=by
 subst hH;obtain ⟨i0,hi,hz0,hz1,hz2⟩:=info_parts Tryz.infZ;refine step_append_lies (w.alloc (.cells #[.int .i64 y] 3)) hgd s x 72 ho base 3 i0 (.int .i64 0) 1 8 Tryz.uIs hi hz0 hz1 hz2 rfl (by decide) v l.length (ivL l) hs (World.ownsRow.alloc hown _) ⟨w.heap.size,0,none⟩ 1 1 [.int .i64 y] hx rfl (cells_z _ #[.int .i64 y] _) (by intro u hu;simp at hu;subst hu;rfl) (by decide) (by unfold maxLen;omega) (by omega) (by simp;omega) _ rfl ?_;intro g cap w' k1 k2 k3 _;refine h (some ⟨g,0,none⟩) cap w' ?_ ((World.grownBy_alloc w _ _).trans k2) (fun k hk=>?_)
 · unfold HpRow;have e1:(l++ [y]).length=l.length+1:=by simp
   have e2:ivL (l++ [y])=ivL l++ [.int .i64 y]:=by simp [ivL]
   rw [e1,e2];exact k1
 · simp only [Value.ownBlock,Option.some.injEq] at hk;subst hk;rcases k3 with e|e
   · exact .inl e
   · right;simp at e;omega
structure WtAt(w:World)(lb lo B:Nat)(v:Value)(l:List Int):Prop where
 cell:w.cell? ⟨lb,lo,none⟩=some v
 fz:w.frozen? ⟨lb,lo,none⟩=false
 row:HpRow w B v l
 lb:lb < B
 bs:B≤w.heap.size
 small:l.length≤100000
structure WtFr(w w':World)(lb lo:Nat)(v v':Value):Prop where
 os:w'.os=w.os
 tape:w'.tape=w.tape
 output:w'.output=w.output
 size:w.heap.size≤w'.heap.size
 box:w'.heap[lb]? =(w.setCell ⟨lb,lo,none⟩ v').heap[lb]?
 rest:∀b,b < w.heap.size→¬b=lb→¬v.ownBlock=some b→w'.heap[b]? =w.heap[b]?
 lies:∀b,v'.ownBlock=some b→v.ownBlock=some b∨w.heap.size≤b
theorem set_box{w1 w2:World}{lb lo:Nat}{v:Value}(h:w1.heap[lb]? =w2.heap[lb]?):(w1.setCell ⟨lb,lo,none⟩ v).heap[lb]? =(w2.setCell ⟨lb,lo,none⟩ v).heap[lb]? :=by
 cases hb:w2.heap[lb]? with
 | none=>
  rw [hb] at h;have e1:¬lb < w1.heap.size:=fun hl=>by rw [Array.getElem?_eq_getElem hl] at h;cases h
  have e2:¬lb < w2.heap.size:=fun hl=>by rw [Array.getElem?_eq_getElem hl] at hb;cases hb
  rw [Array.getElem?_eq_none (by simp;omega),Array.getElem?_eq_none (by simp;omega)]
 | some o=>
  rw [hb] at h;unfold World.setCell;simp [Array.getElem?_modify,h,hb]
theorem asInt(v:Value)(w:World):(Instr.typeAssert (.iface 3 v) 20 3 false).run Tryz.prog w=.ok v w:=by kernel_rfl
def PushR(w:World)(lb lo B:Nat)(v:Value)(l:List Int)(x:Int)(e:Ending)(w':World):Prop:=∃v',e=.returned (.tuple #[])∧WtAt w' lb lo B v' (l++ [x])∧WtFr w w' lb lo v v'
theorem wpush_any(lb lo B:Nat)(v:Value)(l:List Int)(x:Int)(w:World)(h:WtAt w lb lo B v l)(hl:l.length < 100000):
 Calls Tryz.prog 164 #[.pointer (some ⟨lb,lo,none⟩),.iface 3 (.int .i64 x)] w (PushR w lb lo B v l x):=by
 have HH:=hide h;obtain ⟨⟨ao,cap,rfl⟩,_⟩:=h.row.form;have hc:=h.cell;have hz:=h.fz;have has:=fun (v:Value) (w:World)=>asInt v w
 have hbs:B≤w.drew.heap.size:=h.bs;have HR:Hid (HpRow w.drew B (.slice ao l.length cap) l):=hide h.row;have hl1:l.length≤1000000:=by omega
 have hne:some lb≠(Value.slice ao l.length cap).ownBlock:=fun e=>by have:=(World.ownsRow.lt h.row lb e.symm).1;have:=h.lb;omega
 have HFz:∀w3:World,w.drew.grownBy w3 (Value.slice ao l.length cap).ownBlock→w3.cell? ⟨lb,lo,none⟩=some (.slice ao l.length cap)∧w3.frozen? ⟨lb,lo,none⟩=false∧w3.heap[lb]? =w.heap[lb]? :=fun w3 hg=>
  ⟨hg.cell (a:=⟨lb,lo,none⟩) hc hne,(World.frozen?_of_block (a:=⟨lb,lo,none⟩) (hg.block lb (World.block_lt_of_cell? w _ hc) hne)).trans hz,hg.block lb (World.block_lt_of_cell? w _ hc) hne⟩
 have HFH:=hide HFz;have hca:(w.alloc (.cells #[.int .i64 x] 3)).cell? ⟨lb,lo,none⟩=some (.slice ao l.length cap):=(World.grownBy_alloc w _ none).cell hc (by simp);clear h HFz;go_enter Tryz.func164,Tryz.ntmps164
 go_wp2_with fail
 go_region_law (refine step_append_z w.drew rfl _ _ rfl B (.slice ao l.length cap) l x rfl HR.out w.heap.size rfl rfl hl1 hbs ?_;intro a3 c3 w3 hr3 hg3 hl3;obtain ⟨hc3,hz3,_⟩:=HFH.out w3 hg3)
 all_goals go_end0
 all_goals
  have hb3:=(HFH.out w3 hg3).2.2;have hlb:=HH.out.lb;have hvne:¬(Value.slice a3 (l.length+1) c3).ownBlock=some lb:=fun e=>by have:=(World.ownsRow.lt hr3 lb e).1;omega
  have hset:∀b,¬b=lb→(w3.setCell ⟨lb,lo,none⟩ (.slice a3 (l.length+1) c3)).heap[b]? =w3.heap[b]? :=fun b hb=>Below.heap_setCell _ _ _ _ hb
  have hbox:(w3.setCell ⟨lb,lo,none⟩ (.slice a3 (l.length+1) c3)).heap[lb]? =(w.setCell ⟨lb,lo,none⟩ (.slice a3 (l.length+1) c3)).heap[lb]? :=set_box hb3;exact ⟨.slice a3 (l.length+1) c3,rfl,⟨World.cell?_setCell_same _ _ _ hc3,by rw [World.frozen?_setCell];exact hz3,hr3.keep (fun b hb=>hset b (fun e=>hvne (e▸hb))),hlb,by have:=hg3.size;have:=HH.out.bs;simp at this ⊢;exact Nat.le_trans HH.out.bs hg3.size,by simp;omega⟩,⟨hg3.os,hg3.tape,hg3.output,by simpa using hg3.size,hbox,fun b hb h1 h2=>(hset b h1).trans (hg3.block b hb (fun e=>h2 e.symm)),hl3⟩⟩
open Go.RowKit
attribute [local go_sem ↓] Go.wp_at_zero Go.wp_at_succ
theorem Hp.congr{a b:Nat→Int}{n:Nat}(h:Hp a n)(e:∀k,k < n→a k=b k):Hp b n:=fun i h0 hi=>by
 rw [←e i hi,←e ((i - 1) / 2) (by omega)];exact h i h0 hi
theorem Same.congr{a b c:Nat→Int}{n:Nat}(h:Same a b n)(e:∀k,k < n→b k=c k):Same a c n:=
 ⟨fun x=>(h.mem x).trans ⟨fun ⟨i,hi,hx⟩=>⟨i,hi,(e i hi).symm.trans hx⟩,fun ⟨i,hi,hx⟩=>⟨i,hi,(e i hi).trans hx⟩⟩,fun hin i j hi hj hx=>h.inj hin i j hi hj (by rw [e i hi,e j hj];exact hx)⟩
def PopR(w:World)(lb lo B:Nat)(v:Value)(l:List Int)(e:Ending)(w':World):Prop:=∃v',e=.returned (.iface 3 (.int .i64 (fnL l (l.length - 1))))∧WtAt w' lb lo B v' (l.take (l.length - 1))∧WtFr w w' lb lo v v'
theorem wpop_any(lb lo B:Nat)(v:Value)(l:List Int)(w:World)(h:WtAt w lb lo B v l)(hl:0 < l.length):
 Calls Tryz.prog 163 #[.pointer (some ⟨lb,lo,none⟩)] w (PopR w lb lo B v l):=by
 have HH:=hide h;obtain ⟨g,cap,rfl,hBg,hgs,hcs,hzs⟩:=h.row.at hl;have hc:=h.cell;have hz:=h.fz;have hsm:=h.small;have hlbB:=h.lb;obtain ⟨n,hn⟩:∃n:Nat,n+1=l.length:=⟨l.length - 1,by omega⟩;have hx:=hcs n (by omega);have HX:Hid (fnL l (l.length - 1)=fnL l n):=hide (by rw [show l.length - 1=n by omega]);have hcap:l.length≤cap:=by
  rcases h.row.2 with ⟨e,_⟩|⟨g',c',cur,e,_,_,h4,_⟩
  · simp at e
  · simp only [Value.slice.injEq,Option.some.injEq,Addr.mk.injEq,and_true,true_and] at e;omega
 generalize fnL l n=y at hx HX;have HRC:=hide (h.row.cut (n:=n) (by omega));have HTK:Hid (l.take (l.length - 1)=l.take n):=hide (by rw [show l.length - 1=n by omega]);have HN:=hide hn;have hw:IntKind.i64.wrap ((l.length:Int) - 1)=(n:Int):=by rw [Go.IntWalk.i64_in _ (by omega)];omega
 have hb1:(n:Int) < (l.length:Int):=by omega
 have hb2:(n:Int)≤(cap:Int):=by omega
 have hb3:n≤cap:=by omega
 clear h hcs hzs hn;go_enter Tryz.func163,Tryz.ntmps163
 go_wp2_with (go_at_call 49;refine (islen_any _ _ _ _).mono ?_;rintro e w' ⟨rfl,hw'⟩;obtain rfl:=hw'.symm)
 go_ret
 have hlb:=HH.out.lb;have hset:∀b,¬b=lb→(w.setCell ⟨lb,lo,none⟩ (.slice (some ⟨g,0,none⟩) n cap)).heap[b]? =w.heap[b]? :=fun b hb=>Below.heap_setCell _ _ _ _ hb
 refine ⟨.slice (some ⟨g,0,none⟩) n cap,by rw [HX.out];rfl,⟨World.cell?_setCell_same _ _ _ hc,by rw [World.frozen?_setCell];exact hz,?_,hlb,by simpa using HH.out.bs,by simp;omega⟩,⟨rfl,rfl,rfl,by simp,rfl,fun b _ h1 _=>hset b h1,fun b hb=>.inl hb⟩⟩;rw [HTK.out];refine HRC.out.keep (fun b hb=>hset b (fun e=>?_));simp only [Value.ownBlock,Option.some.injEq] at hb;omega
def HPushR(w:World)(lb lo B:Nat)(v:Value)(l:List Int)(x:Int)(e:Ending)(w':World):Prop:=∃v' l',e=.returned (.tuple #[])∧WtAt w' lb lo B v' l'∧l'.length=l.length+1∧Hp (fnL l') (l.length+1)∧Same (fun k=>if k=l.length then x else fnL l k) (fnL l') (l.length+1)∧WtFr w w' lb lo v v'
def HPopR(w:World)(lb lo B:Nat)(v:Value)(l:List Int)(n:Nat)(e:Ending)(w':World):Prop:=∃v' l',e=.returned (.iface 3 (.int .i64 (fnL l 0)))∧WtAt w' lb lo B v' l'∧l'.length=n∧Hp (fnL l') n∧Same (swp (fnL l) 0 n) (fnL l') n∧WtFr w w' lb lo v v'
theorem WtAt.hp{w:World}{lb lo B:Nat}{v:Value}{l:List Int}(h:WtAt w lb lo B v l)(hl:0 < l.length):∃g cap,v=.slice (some ⟨g,0,none⟩) l.length cap∧HpAt w lb lo B g cap l.length l:=by
 obtain ⟨g,cap,rfl,_⟩:=h.row.at hl;exact ⟨g,cap,rfl,h.cell,rfl,h.row,h.lb,by have:=h.small;omega⟩
theorem WtFr.row{w w1 w2:World}{lb lo g n cap B:Nat}{v:Value}{l l':List Int}(h:WtFr w w1 lb lo v (.slice (some ⟨g,0,none⟩) n cap))(ha:HpAt w1 lb lo B g cap n l)(k:w1.grownBy w2 (some g)):WtFr w w2 lb lo v (.slice (some ⟨g,0,none⟩) n cap):=by
 have hge:=ha.ge;have hlb:=ha.lb;have hl1:lb < w1.heap.size:=World.block_lt_of_cell? w1 _ ha.cell;refine ⟨k.os.trans h.os,k.tape.trans h.tape,k.output.trans h.output,Nat.le_trans h.size k.size,(k.block lb hl1 (by simp;omega)).trans h.box,fun b hb h1 h2=>(k.block b (Nat.lt_of_lt_of_le hb h.size) (fun e=>?_)).trans (h.rest b hb h1 h2),h.lies⟩;simp only [Option.some.injEq] at e;rcases h.lies g rfl with e2|e2
 · exact h2 (e▸e2)
 · omega
theorem HpAt.wt{w w1:World}{lb lo B g cap n:Nat}{l:List Int}(h:HpAt w1 lb lo B g cap n l)(hz:w1.frozen? ⟨lb,lo,none⟩=false)(hbs:B≤w1.heap.size)(hs:n≤100000):WtAt w1 lb lo B (.slice (some ⟨g,0,none⟩) n cap) l:=
 ⟨h.cell,hz,h.row,h.lb,hbs,by rw [h.len];exact hs⟩
theorem hpush_any(lb lo B:Nat)(v:Value)(l:List Int)(x:Int)(w:World)(h:WtAt w lb lo B v l)(hl:l.length < 100000)(hp:Hp (fnL l) l.length):
 Calls Tryz.prog 79 #[.iface 101 (.pointer (some ⟨lb,lo,none⟩)),.iface 3 (.int .i64 x)] w (HPushR w lb lo B v l x):=by
 have HH:=hide h;have HP:=hide hp;have hm1:=m_push w lb lo;clear h hp;go_enter Tryz.func79,Tryz.ntmps79
 go_wp2_with fail
 refine (wpush_any lb lo B v l x w HH.out hl).mono ?_;rintro e w1 ⟨v1,rfl,ht1,hf1⟩;have hlen:(l++ [x]).length=l.length+1:=by simp
 obtain ⟨g,cap,rfl,ha1⟩:=ht1.hp (by omega);have HT1:=hide ht1;have HF1:=hide hf1;have HA1:=hide ha1;have hm2:=m_len w1 lb lo _ ha1.cell ⟨_,_,_,rfl⟩;clear hm1 ht1 hf1 ha1;rw [hlen] at HA1 hm2 HF1;have hw:IntKind.i64.wrap (((l.length+1:Nat):Int) - 1)=(l.length:Int):=by rw [Go.IntWalk.i64_in _ (by omega)];omega
 have hw2:IntKind.i64.wrap ((l.length:Int)+1 - 1)=(l.length:Int):=by rw [Go.IntWalk.i64_in _ (by omega)];omega
 go_wp2_with (go_at_call 49;refine (islen_any _ _ _ _).mono ?_;rintro e w' ⟨rfl,hw'⟩;obtain rfl:=hw'.symm)
 refine (up_any lb lo B g cap (l.length+1) l.length (l++ [x]) w1 HA1.out (by omega) (by rw [fnL_snoc];exact HP.out.push x)).mono ?_;rintro e w2 ⟨rfl,l2,ha2,hp2,hs2,hg2⟩;rw [fnL_snoc] at hs2;have hz2:w2.frozen? ⟨lb,lo,none⟩=false:=(World.frozen?_of_block (a:=⟨lb,lo,none⟩) (hg2.block lb (World.block_lt_of_cell? w1 _ HA1.out.cell) (by have:=HA1.out.ge;have:=HA1.out.lb;simp;omega))).trans HT1.out.fz;have HR:Hid (HPushR w lb lo B v l x (.returned (.tuple #[])) w2):=hide ⟨_,l2,rfl,ha2.wt (w:=w) hz2 (Nat.le_trans HT1.out.bs hg2.size) (by omega),ha2.len,hp2,hs2,HF1.out.row (l':=l2) HA1.out hg2⟩;clear ha2 hp2 hs2 hg2 hz2 HA1 HT1 HF1 hm2;go_wp2_with fail
 go_end0
 exact HR.out
theorem hpop_any(lb lo B:Nat)(v:Value)(l:List Int)(n:Nat)(w:World)(h:WtAt w lb lo B v l)(hl:l.length=n+1)(hp:Hp (fnL l) (n+1)):
 Calls Tryz.prog 51 #[.iface 101 (.pointer (some ⟨lb,lo,none⟩))] w (HPopR w lb lo B v l n):=by
 have HH:=hide h;have HP:=hide hp;obtain ⟨g,cap,rfl,ha⟩:=h.hp (by omega);rw [hl] at ha;have HA:=hide ha;have hsm:=h.small;have hm1:=m_len w lb lo _ ha.cell ⟨_,_,_,rfl⟩;have hm2:=m_swap w lb lo _ ha.cell ⟨_,_,_,rfl⟩;have HL:=hide hl;have hn:n≤99999:=by omega
 clear h hp ha;rw [hl];clear hl hsm;have hw:IntKind.i64.wrap (((n+1:Nat):Int) - 1)=(n:Int):=by rw [Go.IntWalk.i64_in _ (by omega)];omega
 have hw2:IntKind.i64.wrap ((n:Int)+1 - 1)=(n:Int):=by rw [Go.IntWalk.i64_in _ (by omega)];omega
 have hw3:IntKind.i64.wrap (n:Int)=(n:Int):=Go.IntWalk.i64_in _ (by omega);go_enter Tryz.func51,Tryz.ntmps51
 go_wp2_with (go_at_call 49;refine (islen_any _ _ _ _).mono ?_;rintro e w' ⟨rfl,hw'⟩;obtain rfl:=hw'.symm)
 refine (isswap_n (i:=0) (j:=n) HA.out.len HA.out.row (by omega) (by omega)).mono ?_;rintro e w1 ⟨rfl,hr1,hg1⟩;have e1:fnL (swapL l 0 n)=swp (fnL l) 0 n:=fnL_swap (by rw [HL.out];omega) (by rw [HL.out];omega);have HA1:=hide (HA.out.swap hg1 hr1 (swapL_len _ _ _));have HG1:=hide hg1;clear hr1 hg1 hm1 hm2;go_wp2_with fail
 refine (down_any lb lo B g cap (n+1) n (swapL l 0 n) w1 HA1.out (by omega) (by rw [e1];exact HP.out.pop)).mono ?_;rintro e w2 ⟨b,rfl,l2,ha2,hp2,hs2,hl2,hg2⟩;rw [e1] at hs2 hl2;have HA2:=hide ha2;have HS2:=hide hs2;have HP2:=hide hp2;have HG2:=hide (gc_trans HG1.out hg2);have HL2:Hid (fnL l2 n=fnL l 0):=hide (by
  rw [hl2];unfold swp;by_cases h0:n=0
  · subst h0;simp
  · rw [if_neg h0,if_pos rfl])
 have hm3:=m_pop w2 lb lo;clear ha2 hp2 hs2 hl2 hg2 HG1 HA1;go_wp2_with fail
 have hlbw:lb < w.heap.size:=World.block_lt_of_cell? w _ HH.out.cell;have hgne:some lb≠some g:=by have:=HA.out.ge;have:=HA.out.lb;simp;omega
 have hz2:w2.frozen? ⟨lb,lo,none⟩=false:=(World.frozen?_of_block (a:=⟨lb,lo,none⟩) (HG2.out.block lb hlbw hgne)).trans HH.out.fz;have ht2:WtAt w2 lb lo B (.slice (some ⟨g,0,none⟩) (n+1) cap) l2:=HA2.out.wt (w:=w) hz2 (Nat.le_trans HH.out.bs HG2.out.size) (by omega);refine (wpop_any lb lo B _ l2 w2 ht2 (by rw [HA2.out.len];omega)).mono ?_;rintro e w3 ⟨v3,rfl,ht3,hf3⟩;have hl2n:l2.length=n+1:=HA2.out.len;have HR:Hid (HPopR w lb lo B (.slice (some ⟨g,0,none⟩) (n+1) cap) l n (.returned (.iface 3 (.int .i64 (fnL l 0)))) w3):=hide (by
  rw [show l2.length - 1=n by omega] at ht3;have hk:∀k,k < n→fnL l2 k=fnL (l2.take n) k:=fun k hk=>(fnL_take hk).symm
  refine ⟨v3,l2.take n,rfl,ht3,by rw [List.length_take];omega,HP2.out.congr hk,HS2.out.congr hk,⟨hf3.os.trans HG2.out.os,hf3.tape.trans HG2.out.tape,hf3.output.trans HG2.out.output,Nat.le_trans HG2.out.size hf3.size,hf3.box.trans (set_box (HG2.out.block lb hlbw hgne)),fun b hb h1 h2=>(hf3.rest b (Nat.lt_of_lt_of_le hb HG2.out.size) h1 h2).trans (HG2.out.block b hb (fun e=>h2 e.symm)),fun b hb=>?_⟩⟩;rcases hf3.lies b hb with e|e
  · exact .inl e
  · exact .inr (Nat.le_trans HG2.out.size e))
 have HX:Hid (fnL l2 (l2.length - 1)=fnL l 0):=hide (by rw [show l2.length - 1=n by omega];exact HL2.out);clear ht3 hf3 ht2 hz2 hl2n;go_wp2_with fail
 go_ret
 have h5:=HR.out;rw [←HX.out] at h5;exact h5
end Go.Proofs.YtkgncijcnlfhiaaGreat
