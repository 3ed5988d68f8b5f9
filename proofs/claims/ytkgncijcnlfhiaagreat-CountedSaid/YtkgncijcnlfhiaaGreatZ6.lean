import Derived.Test.YtkgncijcnlfhiaaGreatZi
import Derived.Test.YtkgncijcnlfhiaaGreatZ3
namespace Go.Proofs.YtkgncijcnlfhiaaGreat
set_option maxRecDepth 100000
set_option maxHeartbeats 2000000
set_option linter.unusedVariables false
set_option linter.unusedSimpArgs false
open Go.RowKit
attribute [local go_sem ↓] Go.wp_at_zero Go.wp_at_succ
theorem kS{W0 w:World}(h:Below W0.heap.size W0 w):Gr W0 w:=⟨h.os,h.tape,h.output,h.size,fun k hk _=>h.block k hk⟩
def yM(W0:World)(lb mb B:Nat)(v1 v2 v3 v4 v5 vs:Value)(sl:List Int)(N:Nat)(res:Int)(n:Nat)(vc:Value)(dn:Nat→Bool)(o:Nat ⊕ (Nat→Option (List Int)))(x:Ending)(w':World):Prop:=match o with
 | .inl t=>x=.panicked (jM 10 n t)∧Below W0.heap.size W0 w'
 | .inr st'=>x=.returned (.tuple #[])∧∃vw m l k,jj W0 w' lb mb B v1 v2 v3 v4 v5 vs sl N res n vc vw st' dn m l k
def dz(u:aK)(f:aO)(q:Nat)(i:aw)(s:List Int)(st:Nat→Option (List Int)):Nat ⊕ (Nat→Option (List Int)):=
 match fY u f i s with
 | none=>.inl q
 | some s'=>bz s' q (eA f q i) st
theorem Cv{u:aK}{f:aO}{q:Nat}{i:aw}{s:List Int}{st:Nat→Option (List Int)}(hu:ak u=true)(hf:f∈u.aE):dz u f q i s st=lf u f q i s st:=by
 unfold dz lf;rw [wh s (yQ hu hf)];cases gE u f i s<;>rfl
def yB(W0:World)(lb mb B:Nat)(v1 v2 v3 v4 v5 vs:Value)(sl:List Int)(u:aK)(f:aO)(n:Nat)(vc:Value):Prop:=∀(w:World) (vw:Value) (st:Nat→Option (List Int)) (dn:Nat→Bool) (m:Nat→Option Value) (l:List Int) (k q:Nat) (i:aw) (s:List Int),
 jj W0 w lb mb B v1 v2 v3 v4 v5 vs sl f.code.length f.result n vc vw st dn m l k→f.code[q]? =some i→st q=some s→
 Calls Tryz.prog 50 #[.pointer (some ⟨lb,0,none⟩),.int .i64 (q:Int)] w (yM W0 lb mb B v1 v2 v3 v4 v5 vs sl f.code.length f.result n vc dn (dz u f q i s st))
def yN(W0:World)(n:Nat)(o:Option Nat)(x:Ending)(w':World):Prop:=Below W0.heap.size W0 w'∧match o with
 | some t=>x=.panicked (jM 10 n t)
 | none=>x=.returned (.tuple #[])
theorem gT:∀n,cV n (fun _=>false)=n
 | 0=>rfl
 | n+1=>by rw [cV,gT n];simp
theorem jj.popped{W0 w w':World}{lb mb B:Nat}{v1 v2 v3 v4 v5 vs:Value}{sl:List Int}{N:Nat}{res:Int}{n:Nat}{vc vw vw':Value}{st:Nat→Option (List Int)}{dn:Nat→Bool}{m:Nat→Option Value}{l l':List Int}{k nn q:Nat}(h:jj W0 w lb mb B v1 v2 v3 v4 v5 vs sl N res n vc vw st dn m l k)(hl:l.length=nn+1)(hq:bZ l 0=(q:Int))(hwt:ji w' lb 11 B vw' l')(hl':l'.length=nn)(hp:Hp (bZ l') nn)(hs:fX (jN (bZ l) 0 nn) (bZ l') nn)(hf:oU w w' lb 11 vw vw'):
 jj W0 w' lb mb B v1 v2 v3 v4 v5 vs sl N res n vc vw' st (fun j=>decide (j=q) || dn j) m l' k:=by
 have hlb:=h.lbB;have hbs:=h.bs;have hmb:=h.mbB;have hvw:∀b,vw.ownBlock=some b→B≤b∧b < w.heap.size:=fun b hb=>World.ownsRow.lt h.row b hb
 have hwait:=h.wait;rw [hl] at hwait;refine ⟨?_,hwt.row,hlb,hwt.bs,h.mp.kept (hf.rest mb h.mp.lt h.mbl (fun e=>by have:=(hvw mb e).1;omega)),hmb,h.mbl,fun j s hj=>?_,h.len,h.non,?_,h.bound,h.small,by have:=h.wl;omega,h.slt.mono fun b hb hl=>⟨hf.rest b hl hb.1 (fun e=>by have:=(hvw b e).1;have:=hb.2.2;omega),hb⟩,?_,h.w0l,h.w0m⟩
 · rw [hf.box,heap_setCell_same w lb 11 _ _ vw' h.box];rfl
 · obtain ⟨v,e1,e2⟩:=h.sts j s hj;exact ⟨v,e1,e2.mono fun b hb hlt=>⟨hf.rest b hlt (by have:=hb.1;omega) hb.2,hb.of hlt hf.lies⟩⟩
 · rw [hl'];exact hwait.pop hq hp hs
 · refine ⟨hf.os.trans h.low.os,hf.tape.trans h.low.tape,hf.output.trans h.low.output,by have:=h.low.size;have:=hf.size;omega,fun b hb=>?_⟩;have:=h.w0l
   exact (hf.rest b (by have:=h.low.size;omega) (by omega) (fun e=>by have:=(hvw b e).1;omega)).trans (h.low.block b hb)
theorem qn(W0 w:World)(lb mb B:Nat)(v1 v2 v3 v4 v5 vs:Value)(sl:List Int)(u:aK)(f:aO)(n:Nat)(vc:Value)(HL:yB W0 lb mb B v1 v2 v3 v4 v5 vs sl u f n vc)(hu:ak u=true)(hf:f∈u.aE)(hN:0 < f.code.length)
 (h:jj W0 w lb mb B v1 v2 v3 v4 v5 vs sl f.code.length f.result n vc (.slice none 0 0) (fun _=>none) (fun _=>false) (fun _=>none) [] 0):
 Calls Tryz.prog 27 #[.pointer (some ⟨lb,0,none⟩)] w (yN W0 n (et u f)):=by
 have HH:=aH h;have HLC:=aH HL;have HCM:=aH (kA W0 w lb mb B v1 v2 v3 v4 v5 vs sl f.code.length f.result n vc (.slice none 0 0) (fun _=>none) (fun _=>false) (fun _=>none) [] 0 0 [] (.slice none 0 0) h hN (ld _ _) (by simp));have HW:Hid (et u f=iO u f (cV f.code.length (fun _=>false)+1) (fun j=>if j=0 then some [] else none) (fun _=>false)):=aH (by rw [gT];rfl);clear h HL;go_enter Tryz.func27,Tryz.ntmps27
 go_wp2_with fail
 refine HCM.out.mono ?_;rintro x w1 (⟨s0,e1,_⟩|⟨rfl,vw1,m1,l1,k1,hl1,_⟩)
 · cases e1
 have HL1:=aH hl1;clear hl1 HCM;go_wp2_with fail
 go_loopg [4] (f.code.length+1) (fun gk _ wr=>∃(vw:Value) (st:Nat→Option (List Int)) (dn:Nat→Bool) (m:Nat→Option Value) (l:List Int) (k:Nat),gk=cV f.code.length dn+1∧jj W0 wr lb mb B v1 v2 v3 v4 v5 vs sl f.code.length f.result n vc vw st dn m l k∧et u f=iO u f (cV f.code.length dn+1) st dn)
 case atStart=>exact ⟨vw1,_,_,m1,l1,k1,by rw [gT],HL1.out,HW.out⟩
 case round=>
  obtain ⟨vw,st,dn,m,l,k,rfl,hl,hw⟩:=hrel;have HL2:=aH hl;have HW2:=aH hw;have hN2:=hl.small;obtain ⟨⟨ao,cap,rfl⟩,_⟩:=hl.row.form;have hc:=hl.wt.cell;clear hl hw HL1 HW;have has:=fun (v:Value) (w:World)=>oN v w
  by_cases hl0:l.length=0
  · have hnil:l= []:=List.length_eq_zero_iff.1 hl0;have HNo:Hid (et u f=none):=aH (by
     have hwt:=HL2.out.wait;rw [hl0] at hwt;rw [HW2.out,qK hwt.nothing])
    rw [hl0] at hc;have HLo:=aH HL2.out.low;clear hnil hl0 HL2 HW2;go_wp2_with (go_at_call 49;refine (iC _ _ _ _).mono ?_;rintro e w' ⟨rfl,hw'⟩;obtain rfl:=hw'.symm)
    go_end0
    exact ⟨HLo.out,by rw [HNo.out]⟩
  · obtain ⟨nn,hnn⟩:∃nn,l.length=nn+1:=⟨l.length - 1,by omega⟩;have HWait:=aH HL2.out.wait;obtain ⟨q,hq0,hqN,hsq,hdq,hle⟩:=HWait.out.top (by omega);obtain ⟨s,hsq⟩:=Option.isSome_iff_exists.1 hsq;obtain ⟨i,hiq⟩:=aY hqN;have HPop:=aH (wZ lb 11 B _ l nn wr HL2.out.wt hnn (by have:=HWait.out.hp;rw [hnn] at this;exact this));have HQ:=aH hq0;have HNN:=aH hnn;have HST:=aH hsq;have HI:=aH hiq;have HU:=aH (gP f.code.length q dn hqN hdq);have HSP:Hid (et u f=match lf u f q i s st with| .inl t=>some t| .inr st'=>iO u f (cV f.code.length dn) st' (fun j=>decide (j=q) || dn j)):=aH (by rw [HW2.out,qV hle hiq hsq];cases lf u f q i s st<;>rfl)
    have hpos:(0:Int) < (l.length:Int):=by omega
    clear hl0 hnn hsq hiq hle hdq HW2;go_wp2_with (go_at_call 49;refine (iC _ _ _ _).mono ?_;rintro e w' ⟨rfl,hw'⟩;obtain rfl:=hw'.symm)
    refine HPop.out.mono ?_;rintro x w2 ⟨vw2,l2,rfl,ht2,hl2,hp2,hs2,hf2⟩;rw [HQ.out];have HL3:=aH (HL2.out.popped HNN.out HQ.out ht2 hl2 hp2 hs2 hf2);clear ht2 hl2 hp2 hs2 hf2 HPop hc hq0;go_wp2_with fail
    refine (HLC.out w2 vw2 st _ m l2 k q i s HL3.out HI.out HST.out).mono ?_;intro x w3 h3;unfold yM at h3;rw [Cv hu hf] at h3;generalize hsp:lf u f q i s st=SP at h3 HSP;clear hsp;cases SP with
    | inl t=>
     obtain ⟨rfl,hb⟩:=h3;exact ⟨rfl,hb,by rw [HSP.out]⟩
    | inr st'=>
     obtain ⟨rfl,vw4,m4,l4,k4,hl4⟩:=h3;have HL4:=aH hl4;clear hl4;go_wp2_with fail
     go_roundg (cV f.code.length (fun j=>decide (j=q) || dn j)+1)
     case measure=>have:=HU.out;omega
     case rel=>exact ⟨vw4,st',_,m4,l4,k4,rfl,HL4.out,by rw [HSP.out,HU.out]⟩
open Go.RowKit
attribute [local go_sem ↓] Go.wp_at_zero Go.wp_at_succ
theorem rH(v:Value)(w:World):Calls Tryz.prog 116 #[v] w fun x w'=>x=.returned v∧w'=w:=by
 go_enter Tryz.func116,Tryz.ntmps116
 go_wp2
 go_ret
 exact ⟨rfl,rfl⟩
def qW(w:World)(x0 x1 x2 x3 x4 x5 x6 x7:Value)(n a:Int):World:=(w.alloc (.cells #[x0,x1,x2,x3,x4,x5,x6,x7] 69)).alloc (.cells #[.int .i64 10,.int .i64 n,.int .i64 a] 58)
theorem qP(w:World)(x0 x1 x2 x3 x4 x5 x6 x7:Value)(n a:Int):Gr w (qW w x0 x1 x2 x3 x4 x5 x6 x7 n a):=((Gr.refl w).alloc _).alloc _
theorem qA(sl:List Int)(k:Nat)(x0 x1 x2 x3 x4 vs x6 x7:Value)(n a:Int)(w:World)(hR:aX w vs sl):
 Calls Tryz.prog 117 #[.agg #[x0,x1,x2,x3,x4,vs,x6,x7],.int .i64 (k:Int),.agg #[.int .i64 10,.int .i64 n,.int .i64 a]] w fun x w'=>x=vU sl[k]? n a∧Gr w w':=by
 obtain ⟨ao,cap,rfl,hm,hc⟩:=hR;unfold maxLen at hm;have HC:=aH hc;clear hc;by_cases hl:k < sl.length
 · obtain ⟨b,off,rfl,hcell⟩:=HC.out k hl;have HS:Hid (sl[k]? =some (sl.getD k 0)):=aH (by rw [List.getD_eq_getElem?_getD,List.getElem?_eq_getElem hl];rfl);generalize sl.getD k 0=y at hcell HS;have hd:(k:Int) < (sl.length:Int):=by omega
   have hk:∀w',Gr (qW w x0 x1 x2 x3 x4 (.slice (some ⟨b,off,none⟩) sl.length cap) x6 x7 n a) w'→w'.cell? ⟨b,off+k,none⟩=some (.int .i64 y)∧w'.cell? ⟨w.heap.size,5,none⟩=some (.slice (some ⟨b,off,none⟩) sl.length cap):=fun w' h=>⟨h.cell ((qP w x0 x1 x2 x3 x4 (.slice (some ⟨b,off,none⟩) sl.length cap) x6 x7 n a).cell hcell (by simp)) (by simp),h.cell (by simp [qW,go_sem]) (by simp)⟩
   unfold qW at hk;clear HC hcell;go_enter Tryz.func117,Tryz.ntmps117
   go_wp2_with ((go_at_call 32;refine (bU _ _ _ _).mono ?_;rintro e w' ⟨rfl,hg'⟩);obtain ⟨hc1,hc2⟩:=hk w' hg')
   go_ret
   exact ⟨by rw [HS.out];rfl,(by repeat (first|exact Gr.refl _|assumption|refine Gr.drew ?_|refine Gr.alloc ?_ _|refine Gr.trans ?_ (by assumption)))⟩
 · have HS:Hid (sl[k]? =none):=aH (List.getElem?_eq_none (by omega));have hd:¬(k:Int) < (sl.length:Int):=by omega
   clear HC;go_enter Tryz.func117,Tryz.ntmps117
   go_wp2_with ((go_at_call 32;refine (bk _ _ _ _).mono ?_;rintro e w' ⟨rfl,hg'⟩))
   exact ⟨rfl,by rw [HS.out];rfl,(by repeat (first|exact Gr.refl _|assumption|refine Gr.drew ?_|refine Gr.alloc ?_ _|refine Gr.trans ?_ (by assumption)))⟩
def zo(o:Option (List Int))(n a:Int)(W w:World)(x:Ending)(w':World):Prop:=Gr w w'∧match o with
 | none=>x=.panicked (jM 10 n a)
 | some l=>∃v,x=.returned v∧aX W v l
def cq(u:aK)(k:Int):Option (List Int):=if 1≤k then u.aA[(k - 1).toNat]? else none
theorem jh(u:aK)(k:Int)(hk0:0≤k)(hk1:k≤65535)(v1 x1 x2 x3 x4 x5 x6 x7:Value)(n a:Int)(W w:World)(hR:bG W v1 u.aA)(hW:Gr W w):
 Calls Tryz.prog 120 #[.agg #[v1,x1,x2,x3,x4,x5,x6,x7],.int .i64 k,.agg #[.int .i64 10,.int .i64 n,.int .i64 a]] w (zo (cq u k) n a W w):=by
 obtain ⟨ao,cap,rfl,hm,hc⟩:=hR;unfold maxLen at hm;have HC:=aH hc;clear hc;by_cases h1:1≤k
 · obtain ⟨j,rfl⟩:∃j:Nat,k=(j:Int)+1:=⟨(k - 1).toNat,by omega⟩;have hd1:decide ((1:Int)≤(j:Int)+1)=true:=by simp;omega
   by_cases hl:j < u.aA.length
   · obtain ⟨s,hs⟩:=aY hl;have HS:Hid (cq u ((j:Int)+1)=some s):=aH (by unfold cq;rw [if_pos h1,←hs];congr 1;omega);obtain ⟨b,off,vx,rfl,hcell,hRx⟩:=HC.out j s hs;obtain ⟨ax,cx,rfl⟩:=hRx.shape;have HRx:=aH hRx;have hd2:decide ((j:Int)+1≤(u.aA.length:Int))=true:=by simp;omega
     have hd3:(j:Int) < (u.aA.length:Int):=by omega
     have hw:IntKind.i64.wrap ((j:Int)+1 - 1)=(j:Int):=by rw [Go.IntWalk.i64_in _ (by omega)];omega
     have hk:∀w',Gr (qW w (.slice (some ⟨b,off,none⟩) u.aA.length cap) x1 x2 x3 x4 x5 x6 x7 n a) w'→w'.cell? ⟨b,off+j,none⟩=some (.slice ax s.length cx)∧w'.cell? ⟨w.heap.size,0,none⟩=some (.slice (some ⟨b,off,none⟩) u.aA.length cap):=fun w' h=>⟨h.cell ((qP w (.slice (some ⟨b,off,none⟩) u.aA.length cap) x1 x2 x3 x4 x5 x6 x7 n a).cell (hW.cell hcell (by simp)) (by simp)) (by simp),h.cell (by simp [qW,go_sem]) (by simp)⟩
     unfold qW at hk;clear HC hcell hs hRx;go_enter Tryz.func120,Tryz.ntmps120
     go_wp2_with ((go_at_call 32;refine (bU _ _ _ _).mono ?_;rintro e w' ⟨rfl,hg'⟩);obtain ⟨hc1,hc2⟩:=hk w' hg')
     go_ret
     have HW:=aH hW;clear hW;have hG:Gr w w':=(by repeat (first|exact Gr.refl _|assumption|refine Gr.drew ?_|refine Gr.alloc ?_ _|refine Gr.trans ?_ (by assumption)));exact ⟨hG,by rw [HS.out];exact ⟨_,rfl,HRx.out⟩⟩
   · have HS:Hid (cq u ((j:Int)+1)=none):=aH (by unfold cq;rw [if_pos h1,List.getElem?_eq_none (by omega)]);have hd2:decide ((j:Int)+1≤(u.aA.length:Int))=false:=by simp;omega
     clear HC;go_enter Tryz.func120,Tryz.ntmps120
     go_wp2_with ((go_at_call 32;refine (bk _ _ _ _).mono ?_;rintro e w' ⟨rfl,hg'⟩))
     clear hW;exact ⟨rfl,(by repeat (first|exact Gr.refl _|assumption|refine Gr.drew ?_|refine Gr.alloc ?_ _|refine Gr.trans ?_ (by assumption))),by rw [HS.out]⟩
 · have HS:Hid (cq u k=none):=aH (by unfold cq;rw [if_neg h1]);have hd1:decide ((1:Int)≤k)=false:=by simp;omega
   clear HC;go_enter Tryz.func120,Tryz.ntmps120
   go_wp2_with ((go_at_call 32;refine (bk _ _ _ _).mono ?_;rintro e w' ⟨rfl,hg'⟩))
   clear hW;exact ⟨rfl,(by repeat (first|exact Gr.refl _|assumption|refine Gr.drew ?_|refine Gr.alloc ?_ _|refine Gr.trans ?_ (by assumption))),by rw [HS.out]⟩
open Go.RowKit
attribute [local go_sem ↓] Go.wp_at_zero Go.wp_at_succ
def yd(w:World)(x0 x1 x2 x3 x4 x5 x6 x7:Value)(i:aw)(n a:Int):World:=((w.alloc (.cells #[x0,x1,x2,x3,x4,x5,x6,x7] 69)).alloc (.cells #[.int .i64 i.op,.int .i64 i.a,.int .i64 i.b] 26)).alloc (.cells #[.int .i64 10,.int .i64 n,.int .i64 a] 58)
theorem uf(w:World)(x0 x1 x2 x3 x4 x5 x6 x7:Value)(i:aw)(n a:Int):Gr w (yd w x0 x1 x2 x3 x4 x5 x6 x7 i n a):=(((Gr.refl w).alloc _).alloc _).alloc _
def f9(u:aK)(i:aw):Option Int:=(cq u i.a).bind fun s=>s[i.b.toNat]?
theorem nM(u:aK)(i:aw)(ha0:0≤i.a)(ha1:i.a≤65535)(hb0:0≤i.b)(hb1:i.b≤65535)(v1 x1 x2 x3 x4 x5 x6 x7:Value)(n a:Int)(W w:World)(hR:bG W v1 u.aA)(hW:Gr W w):
 Calls Tryz.prog 121 #[.agg #[v1,x1,x2,x3,x4,x5,x6,x7],.agg #[.int .i64 i.op,.int .i64 i.a,.int .i64 i.b],.agg #[.int .i64 10,.int .i64 n,.int .i64 a]] w fun x w'=>x=vU (f9 u i) n a∧Gr w w':=by
 have HR:=aH hR;obtain ⟨ao,cap,rfl⟩:=hR.shape;have HF:=aH (jh u i.a ha0 ha1 (.slice ao u.aA.length cap) x1 x2 x3 x4 x5 x6 x7 n a W _ HR.out (hW.trans (uf w (.slice ao u.aA.length cap) x1 x2 x3 x4 x5 x6 x7 i n a)));have hk:∀w',Gr (yd w (.slice ao u.aA.length cap) x1 x2 x3 x4 x5 x6 x7 i n a) w'→w'.cell? ⟨w.heap.size+1,2,none⟩=some (.int .i64 i.b)∧w'.cell? ⟨w.heap.size+2,0,none⟩=some (.int .i64 10)∧w'.cell? ⟨w.heap.size+2,1,none⟩=some (.int .i64 n)∧w'.cell? ⟨w.heap.size+2,2,none⟩=some (.int .i64 a):=fun w' h=>⟨h.cell (by simp [yd,go_sem]) (by simp),h.cell (by simp [yd,go_sem]) (by simp),h.cell (by simp [yd,go_sem]) (by simp),h.cell (by simp [yd,go_sem]) (by simp)⟩
 have HG0:=aH (uf w (.slice ao u.aA.length cap) x1 x2 x3 x4 x5 x6 x7 i n a);have HQ:Hid (f9 u i=(cq u i.a).bind fun s=>s[i.b.toNat]?):=aH rfl;generalize hsp:cq u i.a=S at HF HQ;clear hsp hR;unfold yd at HF hk HG0;obtain ⟨j,hj⟩:∃j:Nat,i.b=(j:Int):=⟨i.b.toNat,by omega⟩;rw [hj] at HQ HF hk HG0 ⊢;simp only [Int.toNat_natCast] at HQ;generalize f9 u i=R at HQ ⊢;have hjb:(j:Int)≤65535:=by omega
 clear hj hb0 hb1;cases S with
 | none=>
  go_enter Tryz.func121,Tryz.ntmps121
  go_wp2_with fail
  refine HF.out.mono ?_;rintro x w1 ⟨hg,rfl⟩;exact ⟨rfl,by rw [HQ.out];rfl,HG0.out.trans hg⟩
 | some s=>
  go_enter Tryz.func121,Tryz.ntmps121
  go_wp2_with fail
  refine HF.out.mono ?_;rintro x w1 ⟨hg,v,rfl,hrv⟩;obtain ⟨c2,e0,e1,e2⟩:=hk w1 hg;have hGw:=HG0.out.trans hg;clear HF HG0 hk hg;obtain ⟨ax,cx,rfl,hm,hc⟩:=hrv.gr (hW.trans hGw);clear hrv;unfold maxLen at hm;have HC:=aH hc;clear hc;by_cases hl:j < s.length
  · obtain ⟨b,off,rfl,hcell⟩:=HC.out j hl;have HS:Hid (R=some (s.getD j 0)):=aH (by rw [HQ.out,List.getD_eq_getElem?_getD];simp [List.getElem?_eq_getElem hl]);generalize s.getD j 0=y at hcell HS;have hd:(j:Int) < (s.length:Int):=by omega
    have hk1:∀w',Gr w1 w'→w'.cell? ⟨b,off+j,none⟩=some (.int .i64 y)∧w'.cell? ⟨w.heap.size+1,2,none⟩=some (.int .i64 (j:Int)):=fun w' h=>⟨h.cell hcell (by simp),h.cell c2 (by simp)⟩
    have HGw:=aH hGw;clear HC hcell hGw;go_wp2_with ((go_at_call 32;refine (bU _ _ _ _).mono ?_;rintro e w' ⟨rfl,hg'⟩);obtain ⟨hc1,hc2⟩:=hk1 w' hg')
    go_ret
    exact ⟨by rw [HS.out];rfl,HGw.out.trans hg'⟩
  · have HS:Hid (R=none):=aH (by rw [HQ.out];simp [List.getElem?_eq_none (show s.length≤j by omega)]);have hd:¬(j:Int) < (s.length:Int):=by omega
    have HGw:=aH hGw;clear HC hGw;go_wp2_with ((go_at_call 32;refine (bk _ _ _ _).mono ?_;rintro e w' ⟨rfl,hg'⟩))
    exact ⟨rfl,by rw [HS.out];rfl,HGw.out.trans hg'⟩
theorem mt{w w':World}(h:Gr w w')(n:Nat):Gr w (w'.drewN n):=⟨h.os,h.tape,h.output,h.size,h.block⟩
def lD(u:aK)(k:Nat):Option (List Int×Int):=match u.aE[k]? with
 | some g=>some (g.aF,g.result)
 | none=>u.aB[k - u.aE.length]?.map fun g=>(g.aF,g.result)
def zi(o:Option (List Int×Int))(n a:Int)(W w:World)(x:Ending)(w':World):Prop:=Gr w w'∧match o with
 | none=>x=.panicked (jM 10 n a)
 | some (l,r)=>∃v,x=.returned (.tuple #[v,.int .i64 r])∧aX W v l
theorem kC(u:aK)(k:Nat)(hk1:k≤65535)(x0 x1 v3 v4 x4 x5 x6 x7:Value)(n a:Int)(W w:World)(hF:cG W v3 u.aE)(hI:bK W v4 u.aB)(hW:Gr W w)(hfl:u.aE.length≤1000000)(hil:u.aB.length≤1000000):
 Calls Tryz.prog 119 #[.agg #[x0,x1,v3,v4,x4,x5,x6,x7],.int .i64 (k:Int),.agg #[.int .i64 10,.int .i64 n,.int .i64 a]] w (zi (lD u k) n a W w):=by
 obtain ⟨a3,c3,rfl,hm3,hc3⟩:=hF;obtain ⟨a4,c4,rfl,hm4,hc4⟩:=hI;have HC3:=aH hc3;have HC4:=aH hc4;have HG0:=aH (qP w x0 x1 (.slice a3 u.aE.length c3) (.slice a4 u.aB.length c4) x4 x5 x6 x7 n a);have hk:∀w',Gr (qW w x0 x1 (.slice a3 u.aE.length c3) (.slice a4 u.aB.length c4) x4 x5 x6 x7 n a) w'→w'.cell? ⟨w.heap.size,2,none⟩=some (.slice a3 u.aE.length c3)∧w'.cell? ⟨w.heap.size,3,none⟩=some (.slice a4 u.aB.length c4):=fun w' h=>⟨h.cell (by simp [qW,go_sem]) (by simp),h.cell (by simp [qW,go_sem]) (by simp)⟩
 have hw:IntKind.i64.wrap ((u.aE.length:Int)+(u.aB.length:Int))=(u.aE.length:Int)+(u.aB.length:Int):=Go.IntWalk.i64_in _ (by omega);clear hc3 hc4 hm3 hm4;by_cases h1:k < u.aE.length
 · obtain ⟨f,hf⟩:=aY h1;have HS:Hid (lD u k=some (f.aF,f.result)):=aH (by unfold lD;rw [hf]);obtain ⟨b,off,vp,vl,vc,rfl,f0,f1,_,_,hRp,_,_⟩:=HC3.out k f hf;have HRp:=aH hRp;obtain ⟨ap,cp,rfl⟩:=hRp.shape;have hd:decide ((k:Int) < (u.aE.length:Int)+(u.aB.length:Int))=true:=by simp;omega
   have hd2:decide ((k:Int) < (u.aE.length:Int))=true:=by simp;omega
   have hd3:(k:Int) < (u.aE.length:Int):=by omega
   have hk2:∀w',Gr (qW w x0 x1 (.slice (some ⟨b,off,none⟩) u.aE.length c3) (.slice a4 u.aB.length c4) x4 x5 x6 x7 n a) w'→w'.cell? ⟨b,off+k * 4,none⟩=some (.slice ap f.aF.length cp)∧w'.cell? ⟨b,off+k * 4+1,none⟩=some (.int .i64 f.result):=fun w' h=>⟨h.cell (HG0.out.cell (hW.cell f0 (by simp)) (by simp)) (by simp),h.cell (HG0.out.cell (hW.cell f1 (by simp)) (by simp)) (by simp)⟩
   unfold qW at hk hk2 HG0;clear HC3 HC4 f0 f1 hf hRp;go_enter Tryz.func119,Tryz.ntmps119
   go_wp2_with ((go_at_call 32;refine (bU _ _ _ _).mono ?_;rintro e w' ⟨rfl,hg'⟩);obtain ⟨hc1,hc2⟩:=hk w' hg';obtain ⟨hc3,hc4⟩:=hk2 w' hg')
   go_quiet (fail)
   go_wp2_with fail
   go_ret2
   exact ⟨by first|exact HG0.out.trans hg'|exact mt (HG0.out.trans hg') _,by rw [HS.out];exact ⟨_,rfl,HRp.out⟩⟩
 · have hd2:decide ((k:Int) < (u.aE.length:Int))=false:=by simp;omega
   have hfn:u.aE[k]? =none:=List.getElem?_eq_none (by omega);by_cases h2:k - u.aE.length < u.aB.length
   · obtain ⟨j,rfl⟩:∃j,k=u.aE.length+j:=⟨k - u.aE.length,by omega⟩;have h3:j < u.aB.length:=by omega
     obtain ⟨f,hf⟩:=aY h3;have HS:Hid (lD u (u.aE.length+j)=some (f.aF,f.result)):=aH (by unfold lD;rw [hfn];simp only;rw [show u.aE.length+j - u.aE.length=j by omega,hf];rfl);obtain ⟨b,off,vs,vp,rfl,f0,f1,f2,hRs,hRp⟩:=HC4.out j f hf;have HRp:=aH hRp;obtain ⟨ap,cp,rfl⟩:=hRp.shape;obtain ⟨ns,rfl,_,_⟩:=hRs;have hcast:((u.aE.length+j:Nat):Int)=(u.aE.length:Int)+(j:Int):=by omega
     have hd:decide ((u.aE.length:Int)+(j:Int) < (u.aE.length:Int)+(u.aB.length:Int))=true:=by simp;omega
     rw [hcast] at hd2 ⊢;have hw2:IntKind.i64.wrap ((u.aE.length:Int)+(j:Int) - (u.aE.length:Int))=(j:Int):=by rw [Go.IntWalk.i64_in _ (by omega)];omega
     have hd3:(j:Int) < (u.aB.length:Int):=by omega
     have hk2:∀w',Gr (qW w x0 x1 (.slice a3 u.aE.length c3) (.slice (some ⟨b,off,none⟩) u.aB.length c4) x4 x5 x6 x7 n a) w'→w'.cell? ⟨b,off+j * 3,none⟩=some (.string ns)∧w'.cell? ⟨b,off+j * 3+1,none⟩=some (.slice ap f.aF.length cp)∧w'.cell? ⟨b,off+j * 3+2,none⟩=some (.int .i64 f.result):=fun w' h=>⟨h.cell (HG0.out.cell (hW.cell f0 (by simp)) (by simp)) (by simp),h.cell (HG0.out.cell (hW.cell f1 (by simp)) (by simp)) (by simp),h.cell (HG0.out.cell (hW.cell f2 (by simp)) (by simp)) (by simp)⟩
     unfold qW at hk hk2 HG0;clear HC3 HC4 f0 f1 f2 hf hRp hcast hfn h1 h2 h3 hk1;go_enter Tryz.func119,Tryz.ntmps119
     go_wp2_with ((go_at_call 32;refine (bU _ _ _ _).mono ?_;rintro e w' ⟨rfl,hg'⟩);obtain ⟨hc1,hc2⟩:=hk w' hg';obtain ⟨hc3,hc4,hc5⟩:=hk2 w' hg')
     go_quiet (fail)
     go_wp2_with fail
     go_ret2
     have hG1:=Gr.alloc (HG0.out.trans hg') (.cells #[.string ns,.slice ap f.aF.length cp,.int .i64 f.result] 53);exact ⟨by first|exact hG1|exact mt hG1 _,by rw [HS.out];exact ⟨_,rfl,HRp.out⟩⟩
   · have HS:Hid (lD u k=none):=aH (by unfold lD;rw [hfn];simp only;rw [List.getElem?_eq_none (by omega)];rfl);have hd:decide ((k:Int) < (u.aE.length:Int)+(u.aB.length:Int))=false:=by simp;omega
     unfold qW at HG0;clear HC3 HC4 hk hfn;go_enter Tryz.func119,Tryz.ntmps119
     go_wp2_with ((go_at_call 32;refine (bk _ _ _ _).mono ?_;rintro e w' ⟨rfl,hg'⟩))
     exact ⟨rfl,HG0.out.trans hg',by rw [HS.out]⟩
end Go.Proofs.YtkgncijcnlfhiaaGreat
