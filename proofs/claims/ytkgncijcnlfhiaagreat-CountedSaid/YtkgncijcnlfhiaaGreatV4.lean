import Derived.Test.YtkgncijcnlfhiaaGreatV1
import Derived.Test.YtkgncijcnlfhiaaGreatT1
namespace Go.Proofs.YtkgncijcnlfhiaaGreat
set_option maxRecDepth 100000
set_option maxHeartbeats 2000000
set_option linter.unusedVariables false
set_option linter.unusedSimpArgs false
open Go.RowKit
attribute [local go_sem ↓] Go.wp_at_zero Go.wp_at_succ
theorem Tryz.rinfo_rlist_shape:(Tryz.prog.info? 22).map (fun i=>(i.zero,i.size,i.bytes))=some (some (Value.slice none 0 0),1,24):=by kernel_rfl
theorem qC(cb B:Nat)(r:List UInt8)(e a:Int)(w:World)(hc:iA w cb r e a)(hb:cb < B)(hB:B≤w.heap.size):
 Calls Tryz.prog 124 #[.pointer (some ⟨cb,0,none⟩),.func (.func 90) #[] #[]] w (mT cb e a w (fun w' v (y:List (List Int))=>cR B w' v y) (aM ar r)):=by
 have HC:=aH hc;clear hc;go_enter Tryz.func124,Tryz.ntmps124
 go_wp2_with fail
 refine (cg cb r e a _ HC.out).mono ?_;intro x w1 h;cases hn:bA 0 0 r with
 | none=>
  obtain ⟨rfl,hg⟩:=h.none_ hn;exact ⟨rfl,by unfold aM;rw [hn];exact ⟨rfl,hg⟩⟩
 | some p=>
  obtain ⟨n,r1⟩:=p;obtain ⟨v,rfl,rfl,hcur,hg⟩:=h.some_ hn;have HG1:=aH hg;have HC1:=aH hcur;obtain ⟨⟨s,h0,hs⟩,hl,h1,h2,hz,hj⟩:=hcur;have hsz:s.size=r1.length:=by rw [←hs,Array.length_toList];rfl
  have hss:s.size≤1000000:=by omega
  have hwr:IntKind.u64.wrap (s.size:Int)=s.size:=Go.IntWalk.u64_in _ (by omega);by_cases hle:n≤r1.length
  · have HE:Hid (aM ar r=ew ar n r1):=aH (by unfold aM;rw [hn];simp only [if_pos hle]);have hd:(n:Int)≤(s.size:Int):=by omega
    have hn6:n≤1000000:=by omega
    clear h hg hn hs hl hz hsz hle;go_wp2
    go_region_held3 (fun w'=>w'.cell? ⟨cb,0,none⟩=some (.string s)∧w'.cell? ⟨cb,1,none⟩=some (.int .i64 e)∧w'.cell? ⟨cb,3,none⟩=some (.int .i64 a)∧w'.cell? ⟨cb,2,none⟩=some (.int .i64 0)) (first|go_keep|(refine ⟨?_,?_,?_,?_⟩<;>exact hg'.cell (by assumption) (by simp))) (first|(go_at_call 32;refine (aP _ _ _).mono ?_;rintro e w' ⟨rfl,hg'⟩))
    have HC2:=aH (HC1.out.gr (Gr.trans (Gr.drew (Gr.refl w1)) hg'));have HG2:=aH (HG1.out.trans (Gr.trans (Gr.drew (Gr.refl w1)) hg').toGc);clear hg' h0 h1 h2 hj HC1 HG1 hss hwr hd;obtain ⟨i0,hi,hz0,hz1,hz2⟩:=info_parts Tryz.rinfo_rlist_shape;obtain ⟨M,hM⟩:∃M,M=madeCells (Value.slice none 0 0).cells ((n:Int).toNat * i0.size):=⟨_,rfl⟩;have hMs:M.size=n * 1:=by rw [hM,size_madeCells,hz1];simp
    have hmk:∀V:World,(Instr.makeSlice 28 (.int .u64 (n:Int)) (.int .u64 (n:Int))).run Tryz.prog V=.ok (.slice (some ⟨V.heap.size,0,none⟩) n n) (V.alloc (.cells M 22)):=by
     intro V;have h:=run_make (P:=Tryz.prog) V 28 22 i0 (Value.slice none 0 0) Tryz.underlying28 hi hz0 .u64 .u64 (n:Int) (n:Int) (by omega) (by omega) (by rw [hz2];omega) (by omega);rw [←hM] at h;simpa using h
    have HM:=aH hMs;clear hM hMs hi hz0 hz1 hz2;go_wp2
    have hgB:B≤w'.heap.size:=Nat.le_trans hB HG2.out.size;have hgW:w.heap.size≤w'.heap.size:=HG2.out.size;go_loopw [27] (fun i wr=>∃(k:Nat) (ys:List (List Int)) (rk:List UInt8),k≤n∧i=.int .i64 k∧ys.length=k∧iA wr cb rk e a∧Gc cb w wr∧ew ar n r1=gj ys (ew ar (n - k) rk)∧w'.heap.size < wr.heap.size∧(∀j,j < n * 1→(∃x,wr.cell? ⟨w'.heap.size,j,none⟩=some x)∧wr.frozen? ⟨w'.heap.size,j,none⟩=false)∧∀j y,ys[j]? =some y→∃vx,wr.cell? ⟨w'.heap.size,j,none⟩=some vx∧bY (w'.heap.size+1) wr vx y) (fun i _=>n - (intOf i).toNat)
    case atStart=>
     refine ⟨0,[],r1,Nat.zero_le _,rfl,rfl,HC2.out.gr ((Gr.refl _).alloc _),HG2.out.trans ((Gr.refl _).alloc _).toGc,by rw [fq];rfl,by simp,fun j hj=>?_,fun j y hy=>by simp at hy⟩;exact iI w' M 22 j (by rw [HM.out];exact hj)
    case round=>
     obtain ⟨k,ys,rk,hk,rfl,hyl,hcur,hgc,hrd,hsz,hrow,hel⟩:=hrel;have HN:=aH hrd;have HEl:=aH hel;have HRow:=aH hrow;have HG3:=aH hgc;have HC3:=aH hcur;have hYL:=aH hyl;clear hrd hel hrow hgc hcur HC2 HG2 hyl hmk;by_cases hlt:k < n
     · obtain ⟨m,hm⟩:∃m,n - k=m+1:=⟨n - k - 1,by omega⟩;have HMM:=aH hm;clear hm;go_wp2_with fail
       refine (iF cb (w'.heap.size+1) rk e a _ HC3.out (by omega) (by omega)).mono ?_;intro x w4 h;cases hf:ar rk with
       | none=>
        obtain ⟨rfl,hg⟩:=h.none_ hf;exact ⟨rfl,by rw [HE.out,HN.out,HMM.out,BC hf];exact ⟨rfl,HG3.out.trans hg⟩⟩
       | some p=>
        obtain ⟨y,r4⟩:=p;obtain ⟨v,rfl,hy,hcur,hg⟩:=h.some_ hf;have HN2:Hid (ew ar n r1=gj (ys++ [y]) (ew ar (n - (k+1)) r4)):=aH (by rw [HN.out,HMM.out,fD hf,show n - (k+1)=m by have:=HMM.out;omega]);have hkp:Kp (w'.heap.size) wr w4:=hg.kp (by omega);have hsz4:w'.heap.size < w4.heap.size:=Nat.lt_of_lt_of_le hsz hg.size;have HRow4:Hid (∀j,j < n * 1→(∃x,w4.cell? ⟨w'.heap.size,j,none⟩=some x)∧w4.frozen? ⟨w'.heap.size,j,none⟩=false):=aH (fo HRow.out hkp hsz);have HC4:=aH hcur;have HG4:=aH (HG3.out.trans hg);have HKP:=aH hkp;have HY:=aH hy;clear h hf hcur hkp;obtain ⟨av,cv,hv⟩:=HY.out.shape;subst hv;obtain ⟨⟨x0,hx0⟩,hz0⟩:=HRow4.out k (by omega);have hkn:(0:Int)≤(k:Int):=by omega
        have hkn2:(k:Int) < (n:Int):=by omega
        clear hg hy;go_wp2
        go_roundw
        case rel=>
         have hyl:=hYL.out;refine ⟨k+1,ys++ [y],r4,by omega,by go_num,by simp [hyl],af HC4.out (by omega),am HG4.out hgW,HN2.out,by simpa using hsz4,dQ HRow4.out,fun j z hj=>?_⟩;rcases iL hj with ⟨h1,h2⟩|⟨h1,h2⟩
         · obtain ⟨vx,q1,q2⟩:=HEl.out j z h1;exact ⟨vx,by rw [aJ (by omega)];exact HKP.out.cell (Nat.le_refl _) q1,(q2.kp (HKP.out.mono (by omega))).kp (Kp.set _ (by omega))⟩
         · subst h1;subst h2;rw [hyl];exact ⟨_,World.cell?_setCell_same _ _ _ hx0,HY.out.kp (Kp.set _ (by omega))⟩
        case measure=>simp [intOf];omega
     · have hk2:k=n:=by omega
       subst hk2;have HFin:Hid (aM ar r=some (ys,rk)):=aH (by rw [HE.out,HN.out,Nat.sub_self,gH]);go_wp2
       go_ret
       rw [HFin.out];refine ⟨_,rfl,?_,HC3.out,HG3.out⟩;have hyl:=hYL.out;show cR B wr (.slice (some ⟨w'.heap.size,0,none⟩) k k) ys
       refine ⟨some ⟨w'.heap.size,0,none⟩,k,by rw [hyl],by unfold maxLen;omega,fun i y hi=>?_⟩;have hq:=HEl.out i y hi;obtain ⟨vx,q1,q2⟩:=hq;exact ⟨w'.heap.size,0,vx,rfl,hgB,by rw [Nat.zero_add];exact q1,q2.mono (by omega)⟩
  · have HE:Hid (aM ar r=none):=aH (by unfold aM;rw [hn];simp only [if_neg hle]);have hd:decide (n≤s.size)=false:=by rw [decide_eq_false_iff_not];omega
    clear h hg hn hs hl hz hsz hle;go_wp2
    go_region_with (first|(go_at_call 32;refine (aV _ _ _).mono ?_;rintro e w' ⟨rfl,hg'⟩;refine aQ ?_))
    all_goals exact ⟨rfl,by rw [HE.out];exact ⟨rfl,HG1.out.trans (Gr.trans (Gr.drew (Gr.refl w1)) hg').toGc⟩⟩
open Go.RowKit
theorem bG.below{W w:World}{v:Value}{l:List (List Int)}(h:bG W v l)(g:Below W.heap.size W w):bG w v l:=by
 obtain ⟨ao,cap,hv,hm,hc⟩:=h;refine ⟨ao,cap,hv,hm,fun i x hi=>?_⟩;obtain ⟨b,off,vx,h1,h2,h3⟩:=hc i x hi;exact ⟨b,off,vx,h1,aT g h2,h3.below g⟩
theorem dM.below{W w:World}{v:Value}{l:List aw}(h:dM W v l)(g:Below W.heap.size W w):dM w v l:=by
 obtain ⟨ao,cap,hv,hm,hc⟩:=h;refine ⟨ao,cap,hv,hm,fun i x hi=>?_⟩;obtain ⟨b,off,h1,h2,h3,h4⟩:=hc i x hi;exact ⟨b,off,h1,aT g h2,aT g h3,aT g h4⟩
theorem cG.below{W w:World}{v:Value}{l:List aO}(h:cG W v l)(g:Below W.heap.size W w):cG w v l:=by
 obtain ⟨ao,cap,hv,hm,hc⟩:=h;refine ⟨ao,cap,hv,hm,fun i x hi=>?_⟩;obtain ⟨b,off,vp,vl,vc,h1,h2,h3,h4,h5,h6,h7,h8⟩:=hc i x hi;exact ⟨b,off,vp,vl,vc,h1,aT g h2,aT g h3,aT g h4,aT g h5,h6.below g,h7.below g,h8.below g⟩
theorem bK.below{W w:World}{v:Value}{l:List fQ}(h:bK W v l)(g:Below W.heap.size W w):bK w v l:=by
 obtain ⟨ao,cap,hv,hm,hc⟩:=h;refine ⟨ao,cap,hv,hm,fun i x hi=>?_⟩;obtain ⟨b,off,vs,vp,h1,h2,h3,h4,h5,h6⟩:=hc i x hi;exact ⟨b,off,vs,vp,h1,aT g h2,aT g h3,aT g h4,h5,h6.below g⟩
theorem b8.below{W w:World}{v:Value}{l:List du}(h:b8 W v l)(g:Below W.heap.size W w):b8 w v l:=by
 obtain ⟨ao,cap,hv,hm,hc⟩:=h;refine ⟨ao,cap,hv,hm,fun i x hi=>?_⟩;obtain ⟨b,off,vs,h1,h2,h3,h4⟩:=hc i x hi;exact ⟨b,off,vs,h1,aT g h2,aT g h3,h4⟩
def dY{α:Type}(f:α→List UInt8)(xs:List α):List UInt8:=num xs.length++xs.flatMap f
def ei{α:Type}(f:α→List UInt8)(xs:List α)(k:Nat):List UInt8:=num xs.length++(xs.take k).flatMap f
theorem eI{α:Type}(f:α→List UInt8)(xs:List α):ei f xs 0=num xs.length:=by simp [ei]
theorem dq{α:Type}{f:α→List UInt8}{xs:List α}{k:Nat}{x:α}(h:xs[k]? =some x):ei f xs (k+1)=ei f xs k++f x:=by
 obtain ⟨hk,rfl⟩:=List.getElem?_eq_some_iff.1 h;unfold ei;rw [List.take_succ_eq_append_getElem hk,List.flatMap_append,List.append_assoc];simp
theorem gG{α:Type}{f:α→List UInt8}{xs:List α}{k:Nat}(h:¬k < xs.length):dY f xs=ei f xs k:=by
 unfold dY ei;rw [List.take_of_length_le (by omega)]
theorem v9{α:Type}(f:α→List UInt8)(xs:List α)(k:Nat):(ei f xs k).length≤(dY f xs).length:=by
 have e:xs.flatMap f=(xs.take k).flatMap f++(xs.drop k).flatMap f:=by rw [←List.flatMap_append,List.take_append_drop]
 unfold dY ei;rw [e];simp only [List.length_append];omega
theorem mG{α:Type}{f:α→List UInt8}{xs:List α}{l:List UInt8}(k:Nat)(h:(l++dY f xs).length≤10000000):(l++ei f xs k).length≤10000000:=by
 have:=v9 f xs k
 simp only [List.length_append] at h ⊢;omega
theorem gx{α:Type}{f:α→List UInt8}{xs:List α}{l:List UInt8}{k:Nat}{x:α}(hx:xs[k]? =some x)(h:(l++dY f xs).length≤10000000):((l++ei f xs k)++f x).length≤10000000:=by
 have:=mG (k+1) h
 rwa [dq hx,←List.append_assoc] at this
def b9(x:Int):List UInt8:=num x.toNat
def A'(x:Int):List UInt8:=num (oL x)
def bE(l:List Int):List UInt8:=dY b9 l
def bh(i:aw):List UInt8:=
 UInt8.ofNat i.op.toNat :: (if i.op=1 then num (oL i.a) else (if 1≤ah i.op then num i.a.toNat else [])++(if 2≤ah i.op then num i.b.toNat else []))
def bq(f:aO):List UInt8:=bE f.aF++(bE f.aG++(num f.result.toNat++dY bh f.code))
def b6(s:List UInt8):List UInt8:=num s.length++s
def dR(i:fQ):List UInt8:=b6 i.name++(bE i.aF++num i.result.toNat)
def dT(e:du):List UInt8:=b6 e.name++num e.func.toNat
theorem rC(W:World)(v:Value)(l:List UInt8)(xs:List Int)(vx:Value)(w:World)(hR:aX W vx xs)(hneed:∀x∈xs,0≤x∧x≤9223372036854775807)(hw:Wr W w v l)(hlen:(l++dY b9 xs).length≤10000000):
 Calls Tryz.prog 55 #[v,vx,.func (.func 84) #[] #[]] w fun x w'=>∃v',x=.returned v'∧db W.heap.size w v w' v' (l++dY b9 xs):=by
 obtain ⟨ao,cap,rfl,hm,hc⟩:=hR;unfold maxLen at hm;have HC:=aH hc;clear hc;have hl1:l.length≤10000000:=by simp only [List.length_append] at hlen;omega
 have HLen:=aH hlen;clear hlen;go_enter Tryz.func55,Tryz.ntmps55
 go_wp2_with (go_at_call 84;refine (cA W _ l xs.length _ (by omega) (by omega) (by exact hw) hl1).mono ?_;rintro e w1 ⟨v1,rfl,happ⟩;rw [Int.toNat_natCast] at happ;have hw1:=hw.app happ)
 have H1:=aH happ;clear happ;go_loopw [0,15] (fun vo i wr=>∃k:Nat,k≤xs.length∧i=.int .i64 k∧db W.heap.size w v wr vo (l++ei b9 xs k)) (fun _ i _=>xs.length - (intOf i).toNat)
 case atStart=>exact ⟨0,Nat.zero_le _,rfl,by rw [eI];exact H1.out⟩
 case round=>
  obtain ⟨k,hk,rfl,happ⟩:=hrel;have hwr:=hw.app happ;have H2:=aH happ;clear happ hw1;by_cases hlt:k < xs.length
  · obtain ⟨x,hx⟩:=aY hlt;obtain ⟨b,off,hao,hcell⟩:=HC.out k hlt;subst hao;rw [List.getD_eq_getElem?_getD,hx] at hcell;simp only [Option.getD_some] at hcell;have hcell':=aT hwr.low hcell;have hnx:=hneed x (List.mem_of_getElem? hx);clear hcell;have HX:=aH hx;clear hx;go_wp2_with (go_at_call 84;refine (cA W _ _ x _ hnx.1 hnx.2 (by exact hwr) (mG k HLen.out)).mono ?_;rintro e w2 ⟨v2,rfl,happ2⟩)
    have H3:=aH happ2;clear happ2;go_roundw
    case rel=>exact ⟨k+1,by omega,by go_num,by rw [dq HX.out,←List.append_assoc];exact H2.out.trans H3.out⟩
    case measure=>simp [intOf];omega
  · go_wp2
    go_ret
    refine ⟨_,rfl,?_⟩;rw [gG hlt];exact H2.out
theorem oQ(W:World)(v:Value)(l:List UInt8)(xs:List Int)(vx:Value)(w:World)(hR:aX W vx xs)(hneed:∀x∈xs,-9223372036854775808≤x∧x≤9223372036854775807)(hw:Wr W w v l)(hlen:(l++dY A' xs).length≤10000000):
 Calls Tryz.prog 55 #[v,vx,.func (.func 56) #[] #[]] w fun x w'=>∃v',x=.returned v'∧db W.heap.size w v w' v' (l++dY A' xs):=by
 obtain ⟨ao,cap,rfl,hm,hc⟩:=hR;unfold maxLen at hm;have HC:=aH hc;clear hc;have hl1:l.length≤10000000:=by simp only [List.length_append] at hlen;omega
 have HLen:=aH hlen;clear hlen;go_enter Tryz.func55,Tryz.ntmps55
 go_wp2_with (go_at_call 84;refine (cA W _ l xs.length _ (by omega) (by omega) (by exact hw) hl1).mono ?_;rintro e w1 ⟨v1,rfl,happ⟩;rw [Int.toNat_natCast] at happ;have hw1:=hw.app happ)
 have H1:=aH happ;clear happ;go_loopw [0,15] (fun vo i wr=>∃k:Nat,k≤xs.length∧i=.int .i64 k∧db W.heap.size w v wr vo (l++ei A' xs k)) (fun _ i _=>xs.length - (intOf i).toNat)
 case atStart=>exact ⟨0,Nat.zero_le _,rfl,by rw [eI];exact H1.out⟩
 case round=>
  obtain ⟨k,hk,rfl,happ⟩:=hrel;have hwr:=hw.app happ;have H2:=aH happ;clear happ hw1;by_cases hlt:k < xs.length
  · obtain ⟨x,hx⟩:=aY hlt;obtain ⟨b,off,hao,hcell⟩:=HC.out k hlt;subst hao;rw [List.getD_eq_getElem?_getD,hx] at hcell;simp only [Option.getD_some] at hcell;have hcell':=aT hwr.low hcell;have hnx:=hneed x (List.mem_of_getElem? hx);clear hcell;have HX:=aH hx;clear hx;go_wp2_with (go_at_call 56;refine (mQ W _ _ x _ hnx.1 hnx.2 (by exact hwr) (mG k HLen.out)).mono ?_;rintro e w2 ⟨v2,rfl,happ2⟩)
    have H3:=aH happ2;clear happ2;go_roundw
    case rel=>exact ⟨k+1,by omega,by go_num,by rw [dq HX.out,←List.append_assoc];exact H2.out.trans H3.out⟩
    case measure=>simp [intOf];omega
  · go_wp2
    go_ret
    refine ⟨_,rfl,?_⟩;rw [gG hlt];exact H2.out
theorem gY(W:World)(v:Value)(l:List UInt8)(xs:List Int)(vx:Value)(w:World)(hR:aX W vx xs)(hneed:∀x∈xs,0≤x∧x≤9223372036854775807)(hw:Wr W w v l)(hlen:(l++bE xs).length≤10000000):
 Calls Tryz.prog 54 #[v,vx] w fun x w'=>∃v',x=.returned v'∧db W.heap.size w v w' v' (l++bE xs):=by
 have HR:=aH hR;have HN:=aH hneed;have HLen:=aH hlen;clear hR hneed hlen;go_enter Tryz.func54,Tryz.ntmps54
 go_wp2_with (go_at_call 55;refine (rC W _ l xs _ _ HR.out HN.out (by exact hw) HLen.out).mono ?_;rintro e w1 ⟨v1,rfl,happ⟩)
 go_ret
 exact ⟨v1,rfl,happ⟩
open Go.RowKit
theorem db.box{base:Nat}{w w':World}{v v':Value}{l':List UInt8}(k:db base w v w' v' l'){B o:Nat}{x:Value}(hx:w.cell? ⟨B,o,none⟩=some x)(hv:∀i,v.ownBlock=some i→i < B):w'.cell? ⟨B,o,none⟩=some x:=
 k.frm.cell hx (fun e=>by have:=hv B e.symm;omega)
theorem eF(op:Int):ah op=0∨ah op=1∨ah op=2:=by
 unfold ah;split
 · exact .inr (.inr rfl)
 · split
   · exact .inr (.inl rfl)
   · exact .inl rfl
theorem j9{op:Int}(h0:0≤op)(h1:op≤20):op=(UInt8.ofNat op.toNat).toNat:=by simp [UInt8.toNat_ofNat'];omega
theorem vE{x:aw}(h:bH x=true):0≤x.op∧x.op≤20:=by
 simp only [bH,wB,Bool.and_eq_true,decide_eq_true_eq] at h;exact h.1
theorem pO{x:aw}(h:bH x=true)(h1:x.op=1):-2147483648≤x.a∧x.a≤2147483647:=by
 simp only [bH,wB,Bool.and_eq_true,decide_eq_true_eq,h1,if_true] at h;exact h.2.1
theorem sJ{x:aw}(h:bH x=true)(h1:¬x.op=1)(hn:1≤ah x.op):0≤x.a∧x.a≤65535:=by
 simp only [bH,wB,a9,Bool.and_eq_true,decide_eq_true_eq,h1,if_false,hn,if_true] at h;exact h.2.1
theorem xB{x:aw}(h:bH x=true)(hn:2≤ah x.op):0≤x.b∧x.b≤65535:=by
 simp only [bH,wB,a9,Bool.and_eq_true,decide_eq_true_eq,hn,if_true] at h;exact h.2.2
theorem tq(w:World)(x:aw):(w.alloc (.cells #[.int .i64 x.op,.int .i64 x.a,.int .i64 x.b] 26)).cell? ⟨w.heap.size,0,none⟩=some (.int .i64 x.op)∧(w.alloc (.cells #[.int .i64 x.op,.int .i64 x.a,.int .i64 x.b] 26)).cell? ⟨w.heap.size,1,none⟩=some (.int .i64 x.a)∧(w.alloc (.cells #[.int .i64 x.op,.int .i64 x.a,.int .i64 x.b] 26)).cell? ⟨w.heap.size,2,none⟩=some (.int .i64 x.b):=by
 refine ⟨?_,?_,?_⟩<;>simp [go_sem]
theorem sY(W:World)(v:Value)(l:List UInt8)(x:aw)(w:World)(hok:bH x=true)(hw:Wr W w v l)(hlen:(l++bh x).length≤10000000):
 Calls Tryz.prog 86 #[v,.agg #[.int .i64 x.op,.int .i64 x.a,.int .i64 x.b]] w fun y w'=>∃v',y=.returned v'∧db W.heap.size w v w' v' (l++bh x):=by
 obtain ⟨ho0,ho1⟩:=vE hok;obtain ⟨hi0,hi1,hi2⟩:=tq w x;have hl1:l.length+1≤10000000:=by simp only [bh,List.length_append,List.length_cons] at hlen;omega
 have hvb:∀i,v.ownBlock=some i→i < w.heap.size:=fun i hi=>(hw.own.lt i hi).2
 have hwb:=hw.gr (World.grownBy_alloc w (.cells #[.int .i64 x.op,.int .i64 x.a,.int .i64 x.b] 26) none);have HLen:=aH hlen;have HOK:=aH hok;have HV:=aH hvb;clear hlen hok hvb;by_cases h1:x.op=1
 · have hs:=pO HOK.out h1;have HE:Hid (bh x= [UInt8.ofNat x.op.toNat]++num (oL x.a)):=aH (by unfold bh;rw [if_pos h1];rfl);have hb1:(x.op == 1)=true:=by simpa using h1
   clear h1;go_enter Tryz.func86,Tryz.ntmps86
   go_wp2_with (first|(at_builtin;refine bS _ rfl _ _ rfl W.heap.size _ l rfl hwb.own (UInt8.ofNat x.op.toNat) _ (by exact j9 ho0 ho1) _ rfl (by simp) (by omega) hwb.base ?_;intro v1 w1 happ1;have hj0:=happ1.box hi0 HV.out;have hj1:=happ1.box hi1 HV.out;have hw1:=hwb.app happ1)|(go_at_call 56;refine (mQ W _ _ x.a _ (by omega) (by omega) (by exact hw1) (by simp;omega)).mono ?_;rintro e w2 ⟨v2,rfl,happ2⟩))
   go_ret
   refine ⟨v2,rfl,?_⟩;rw [HE.out,←List.append_assoc];exact db.gr (World.grownBy_alloc w _ none) (happ1.trans happ2)
 · have hb1:(x.op == 1)=false:=by simpa using h1
   rcases eF x.op with hN|hN|hN
   · have HE:Hid (bh x= [UInt8.ofNat x.op.toNat]):=aH (by unfold bh;rw [if_neg h1,hN];simp);clear h1;go_enter Tryz.func86,Tryz.ntmps86
     go_wp2_with (first|(at_builtin;refine bS _ rfl _ _ rfl W.heap.size _ l rfl hwb.own (UInt8.ofNat x.op.toNat) _ (by exact j9 ho0 ho1) _ rfl (by simp) (by omega) hwb.base ?_;intro v1 w1 happ1;have hj0:=happ1.box hi0 HV.out;have hj1:=happ1.box hi1 HV.out;have hw1:=hwb.app happ1)|(go_at_call 114;refine (bW _ _).mono ?_;rintro e w' ⟨rfl,rfl⟩))
     go_ret
     refine ⟨v1,rfl,?_⟩;rw [HE.out];exact db.gr (World.grownBy_alloc w _ none) happ1
   · have hs:=sJ HOK.out h1 (by omega);have HE:Hid (bh x= [UInt8.ofNat x.op.toNat]++num x.a.toNat):=aH (by unfold bh;rw [if_neg h1,hN];simp);clear h1;go_enter Tryz.func86,Tryz.ntmps86
     go_wp2_with (first|(at_builtin;refine bS _ rfl _ _ rfl W.heap.size _ l rfl hwb.own (UInt8.ofNat x.op.toNat) _ (by exact j9 ho0 ho1) _ rfl (by simp) (by omega) hwb.base ?_;intro v1 w1 happ1;have hj0:=happ1.box hi0 HV.out;have hj1:=happ1.box hi1 HV.out;have hw1:=hwb.app happ1)|(go_at_call 114;refine (bW _ _).mono ?_;rintro e w' ⟨rfl,rfl⟩)|(go_at_call 84;refine (cA W _ _ x.a _ (by omega) (by omega) (by exact hw1) (by simp;omega)).mono ?_;rintro e w2 ⟨v2,rfl,happ2⟩))
     go_ret
     refine ⟨v2,rfl,?_⟩;rw [HE.out,←List.append_assoc];exact db.gr (World.grownBy_alloc w _ none) (happ1.trans happ2)
   · have hs:=sJ HOK.out h1 (by omega);have ht:=xB HOK.out (by omega);have HE:Hid (bh x= [UInt8.ofNat x.op.toNat]++num x.a.toNat++num x.b.toNat):=aH (by unfold bh;rw [if_neg h1,hN];simp);have hn:=bO x.a.toNat;have hl2:l.length+1+(num x.a.toNat).length≤10000000:=by have h:=HLen.out;rw [HE.out] at h;simp only [List.length_append,List.length_cons,List.length_nil] at h;omega
     clear h1;go_enter Tryz.func86,Tryz.ntmps86
     go_wp2_with (first|(at_builtin;refine bS _ rfl _ _ rfl W.heap.size _ l rfl hwb.own (UInt8.ofNat x.op.toNat) _ (by exact j9 ho0 ho1) _ rfl (by simp) (by omega) hwb.base ?_;intro v1 w1 happ1;have hj0:=happ1.box hi0 HV.out;have hj1:=happ1.box hi1 HV.out;have hw1:=hwb.app happ1)|(go_at_call 114;refine (bW _ _).mono ?_;rintro e w' ⟨rfl,rfl⟩)|(go_at_call_of 84 x.a;refine (cA W _ _ x.a _ (by omega) (by omega) (by exact hw1) (by simp;omega)).mono ?_;rintro e w2 ⟨v2,rfl,happ2⟩;have hw2:=hw1.app happ2;have happ12:=happ1.trans happ2;have hk2:=happ12.box hi2 HV.out)|(go_at_call_of 84 x.b;refine (cA W _ _ x.b _ (by omega) (by omega) (by exact hw2) (by simp only [List.length_append,List.length_cons,List.length_nil];omega)).mono ?_;rintro e w3 ⟨v3,rfl,happ3⟩))
     go_ret
     refine ⟨v3,rfl,?_⟩;rw [HE.out,←List.append_assoc,←List.append_assoc];exact db.gr (World.grownBy_alloc w _ none) (happ12.trans happ3)
open Go.RowKit
attribute [local go_sem ↓] Go.wp_at_zero Go.wp_at_succ
theorem Gc.box{cb b o:Nat}{w w':World}{x:Value}(h:Gc cb w w')(hb:¬b=cb)(hx:w.cell? ⟨b,o,none⟩=some x):w'.cell? ⟨b,o,none⟩=some x:=
 h.cell hx (by intro e;simp only [Option.some.injEq] at e;exact hb e)
theorem Gc.boxz{cb b o:Nat}{w w':World}{x:Value}(h:Gc cb w w')(hb:¬b=cb)(hx:w.cell? ⟨b,o,none⟩=some x)(hz:w.frozen? ⟨b,o,none⟩=false):w'.frozen? ⟨b,o,none⟩=false:=
 (World.frozen?_of_block (a:=⟨b,o,none⟩) (h.block b (World.block_lt_of_cell? w _ hx) (by intro e;simp only [Option.some.injEq] at e;exact hb e))).trans hz
def cO(w:World)(b:Nat)(x0 x1 x2:Value):Prop:=
 w.cell? ⟨b,0,none⟩=some x0∧w.cell? ⟨b,1,none⟩=some x1∧w.cell? ⟨b,2,none⟩=some x2∧w.frozen? ⟨b,0,none⟩=false∧w.frozen? ⟨b,1,none⟩=false∧w.frozen? ⟨b,2,none⟩=false
theorem cO.gc{w w':World}{cb b:Nat}{x0 x1 x2:Value}(h:cO w b x0 x1 x2)(g:Gc cb w w')(hb:¬b=cb):cO w' b x0 x1 x2:=by
 obtain ⟨h0,h1,h2,z0,z1,z2⟩:=h;exact ⟨g.box hb h0,g.box hb h1,g.box hb h2,g.boxz hb h0 z0,g.boxz hb h1 z1,g.boxz hb h2 z2⟩
theorem cO.gr{w w':World}{b:Nat}{x0 x1 x2:Value}(h:cO w b x0 x1 x2)(g:Gr w w'):cO w' b x0 x1 x2:=h.gc (cb:=b+1) g.toGc (by omega)
theorem cO.new(w:World)(t:TypeId)(x0 x1 x2:Value):cO (w.alloc (.cells #[x0,x1,x2] t)) w.heap.size x0 x1 x2:=by
 refine ⟨?_,?_,?_,?_,?_,?_⟩<;>simp [go_sem]
theorem cO.other{w:World}{b g o:Nat}{x0 x1 x2 v:Value}(h:cO w b x0 x1 x2)(hb:¬g=b):cO (w.setCell ⟨g,o,none⟩ v) b x0 x1 x2:=by
 obtain ⟨h0,h1,h2,z0,z1,z2⟩:=h;have hc:∀q,(w.setCell ⟨g,o,none⟩ v).cell? ⟨b,q,none⟩=w.cell? ⟨b,q,none⟩:=fun q=>World.cell?_setCell_other w _ _ _ (by intro e;simp only [Addr.mk.injEq] at e;exact hb e.1)
 exact ⟨(hc 0).trans h0,(hc 1).trans h1,(hc 2).trans h2,by rw [World.frozen?_setCell];exact z0,by rw [World.frozen?_setCell];exact z1,by rw [World.frozen?_setCell];exact z2⟩
def cM(r:List UInt8):Option (aw×List UInt8):=match cZ r with
 | none=>none
 | some (b,r1)=>
  if wB (b.toNat:Int) 0 20=true then
   if (b.toNat:Int)=1 then (match ag r1 with
    | none=>none
    | some (v,r2)=>some (⟨b.toNat,v,0⟩,r2))
   else if ah b.toNat=0 then some (⟨b.toNat,0,0⟩,r1)
   else match aq r1 with
    | none=>none
    | some (v,r2)=>if ah b.toNat=1 then some (⟨b.toNat,v,0⟩,r2) else (match aq r2 with
     | none=>none
     | some (u,r3)=>some (⟨b.toNat,v,u⟩,r3))
  else none
theorem wj(cb:Nat)(r:List UInt8)(e a:Int)(w:World)(hc:iA w cb r e a):
 Calls Tryz.prog 130 #[.pointer (some ⟨cb,0,none⟩)] w (mT cb e a w (fun _ v (y:aw)=>v=.agg #[.int .i64 y.op,.int .i64 y.a,.int .i64 y.b]) (cM r)):=by
 have hcl:cb < w.heap.size:=World.block_lt_of_cell? w ⟨cb,1,none⟩ hc.2.2.1;have HC:=aH hc;clear hc;have HB0:=aH (cO.new w 26 (.int .i64 0) (.int .i64 0) (.int .i64 0));have HGw:=aH ((Gr.alloc (Gr.refl w) (.cells #[.int .i64 0,.int .i64 0,.int .i64 0] 26)).toGc (cb:=cb));go_enter Tryz.func130,Tryz.ntmps130
 go_wp2_with fail
 refine (iX cb r e a _ (HC.out.gr ((Gr.refl w).alloc _))).mono ?_;intro x w1 h;cases hn:cZ r with
 | none=>
  obtain ⟨rfl,hg⟩:=h.none_ hn;exact ⟨rfl,by unfold cM;rw [hn];exact ⟨rfl,HGw.out.trans hg⟩⟩
 | some p=>
  obtain ⟨b,r1⟩:=p;obtain ⟨v,rfl,rfl,hcur,hg⟩:=h.some_ hn;have hs1:w.heap.size < w1.heap.size:=by have:=hg.size;simp at this;omega
  have hrb:=HB0.out.gc hg (by omega);have HG1:=aH (HGw.out.trans hg);have hbl:b.toNat < 256:=b.toNat_lt;have HC1:=aH hcur;have HN:=aH hn;clear h hcur hg hn HB0;obtain ⟨⟨s,h0,hs⟩,hl,h1,h2,hz,hj⟩:=HC1.out;clear h0 hs hl hz;have h1a:=(World.grownBy_alloc w1 (.cells #[.int .i64 (b.toNat:Int),.int .i64 0,.int .i64 0] 26) none).cell h1 (by simp);have h2a:=(World.grownBy_alloc w1 (.cells #[.int .i64 (b.toNat:Int),.int .i64 0,.int .i64 0] 26) none).cell h2 (by simp);have hja:=(World.grownBy_alloc w1 (.cells #[.int .i64 (b.toNat:Int),.int .i64 0,.int .i64 0] 26) none).cell hj (by simp);have hib:=cO.new w1 26 (.int .i64 (b.toNat:Int)) (.int .i64 0) (.int .i64 0);have hi0:=hib.1;have HIB:=aH hib;have HRB:=aH (hrb.gc ((Gr.alloc (Gr.refl w1) (.cells #[.int .i64 (b.toNat:Int),.int .i64 0,.int .i64 0] 26)).toGc (cb:=cb)) (by omega));have HG2:=aH (HG1.out.trans ((Gr.alloc (Gr.refl w1) (.cells #[.int .i64 (b.toNat:Int),.int .i64 0,.int .i64 0] 26)).toGc (cb:=cb)));clear hib h1 h2 hj hrb HG1 HGw;cases hop:wB (b.toNat:Int) 0 20
  · have HE:Hid (cM r=none):=aH (by unfold cM;rw [HN.out];simp [hop]);go_wp2
    go_region_with (first|(go_at_call 112;refine (nX _ _).mono ?_;rintro e w' ⟨rfl,rfl⟩)|(go_at_call 32;refine (aV _ _ _).mono ?_;rintro e w' ⟨rfl,hg'⟩;refine aQ ?_))
    all_goals exact ⟨rfl,by rw [HE.out];exact ⟨rfl,HG2.out.trans (Gr.trans (Gr.drew (Gr.refl _)) hg').toGc⟩⟩
  · go_wp2
    go_region_held3 (fun w'=>w'.cell? ⟨cb,1,none⟩=some (.int .i64 e)∧w'.cell? ⟨cb,3,none⟩=some (.int .i64 a)∧w'.cell? ⟨cb,2,none⟩=some (.int .i64 0)∧w'.cell? ⟨w1.heap.size,0,none⟩=some (.int .i64 (b.toNat:Int))) (first|go_keep|(refine ⟨?_,?_,?_,?_⟩<;>exact hg'.cell (by assumption) (by simp))) (first|(go_at_call 112;refine (nX _ _).mono ?_;rintro e w' ⟨rfl,rfl⟩)|(go_at_call 32;refine (aP _ _ _).mono ?_;rintro e w' ⟨rfl,hg'⟩))
    have hgr:=(Gr.trans (Gr.drew (Gr.refl _)) hg').toGc (cb:=cb);have HIB2:=aH (HIB.out.gc hgr (by omega));have HRB2:=aH (HRB.out.gc hgr (by omega));have HG3:=aH (HG2.out.trans hgr);have HC2:=aH ((HC1.out.gr (Gr.alloc (Gr.refl w1) (.cells #[.int .i64 (b.toNat:Int),.int .i64 0,.int .i64 0] 26))).gr (Gr.trans (Gr.drew (Gr.refl _)) hg'));have hs2:w1.heap.size < w'.heap.size:=by have:=hg'.size;simp at this;omega
    obtain ⟨i0,i1,i2,y0,y1,y2⟩:=HIB2.out;clear hg' hgr h1a h2a hja hi0 HIB HRB HG2 HC1;by_cases hone:(b.toNat:Int)=1
    · have hb1:((b.toNat:Int) == 1)=true:=by simpa using hone
      go_wp2_with fail
      refine (kv cb r1 e a _ HC2.out).mono ?_;intro x w3 h;cases hf:ag r1 with
      | none=>
       obtain ⟨rfl,hg⟩:=h.none_ hf;exact ⟨rfl,by unfold cM;rw [HN.out];simp only [hop,if_true,hone,hf];exact ⟨rfl,HG3.out.trans hg⟩⟩
      | some q=>
       obtain ⟨v,r2⟩:=q;obtain ⟨_,rfl,rfl,hcur,hg⟩:=h.some_ hf;have HE:Hid (cM r=some (⟨b.toNat,v,0⟩,r2)):=aH (by unfold cM;rw [HN.out];simp only [hop,if_true,if_pos hone,hf]);obtain ⟨j0,j1,j2,k0,k1,k2⟩:=HIB2.out.gc hg (by omega);obtain ⟨m0,m1,m2,n0,n1,n2⟩:=HRB2.out.gc hg (by omega);have HC3:=aH hcur;have HG4:=aH (HG3.out.trans hg);have hne:¬w.heap.size=w1.heap.size:=by omega
       clear h hcur hg hf i0 i1 i2 y0 y1 y2 hone;go_wp2
       exact bodyPost_ret (v:=.agg #[.int .i64 (b.toNat:Int),.int .i64 v,.int .i64 0]) (by simp [results,Tryz.results130,go_sem,m0,m1,m2]) rfl (by rw [HE.out];exact ⟨_,rfl,rfl,af (af (af (af (HC3.out) (by omega)) (by omega)) (by omega)) (by omega),am (am (am (am (HG4.out) (by omega)) (by omega)) (by omega)) (by omega)⟩)
    · have hb1:((b.toNat:Int) == 1)=false:=by simpa using hone
      rcases eF (b.toNat:Int) with hN|hN|hN
      · have HE:Hid (cM r=some (⟨b.toNat,0,0⟩,r1)):=aH (by unfold cM;rw [HN.out];simp only [hop,if_true,if_neg hone,hN]);obtain ⟨m0,m1,m2,n0,n1,n2⟩:=HRB2.out;have hne:¬w.heap.size=w1.heap.size:=by omega
        clear hone;go_wp2_with (go_at_call 114;refine (bW _ _).mono ?_;rintro e w' ⟨rfl,rfl⟩)
        exact bodyPost_ret (v:=.agg #[.int .i64 (b.toNat:Int),.int .i64 0,.int .i64 0]) (by simp [results,Tryz.results130,go_sem,m0,m1,m2]) rfl (by rw [HE.out];exact ⟨_,rfl,rfl,af (af (af (HC2.out) (by omega)) (by omega)) (by omega),am (am (am (HG3.out) (by omega)) (by omega)) (by omega)⟩)
      · go_wp2_with (first|(go_at_call 114;refine (bW _ _).mono ?_;rintro e w' ⟨rfl,rfl⟩))
        refine (eM cb r1 e a _ HC2.out).mono ?_;intro x w3 h;cases hf:aq r1 with
        | none=>
         obtain ⟨rfl,hg⟩:=h.none_ hf;exact ⟨rfl,by unfold cM;rw [HN.out];simp only [hop,if_true,if_neg hone,hN,hf];exact ⟨rfl,HG3.out.trans hg⟩⟩
        | some q=>
         obtain ⟨v,r2⟩:=q;obtain ⟨_,rfl,rfl,hcur,hg⟩:=h.some_ hf;have HE:Hid (cM r=some (⟨b.toNat,v,0⟩,r2)):=aH (by unfold cM;rw [HN.out];simp only [hop,if_true,if_neg hone,hN,hf];rfl);obtain ⟨j0,j1,j2,k0,k1,k2⟩:=HIB2.out.gc hg (by omega);obtain ⟨m0,m1,m2,n0,n1,n2⟩:=HRB2.out.gc hg (by omega);have HC3:=aH hcur;have HG4:=aH (HG3.out.trans hg);have hne:¬w.heap.size=w1.heap.size:=by omega
         clear h hcur hg hf i0 i1 i2 y0 y1 y2 hone;go_wp2
         exact bodyPost_ret (v:=.agg #[.int .i64 (b.toNat:Int),.int .i64 v,.int .i64 0]) (by simp [results,Tryz.results130,go_sem,m0,m1,m2]) rfl (by rw [HE.out];exact ⟨_,rfl,rfl,af (af (af (af (HC3.out) (by omega)) (by omega)) (by omega)) (by omega),am (am (am (am (HG4.out) (by omega)) (by omega)) (by omega)) (by omega)⟩)
      · go_wp2_with (first|(go_at_call 114;refine (bW _ _).mono ?_;rintro e w' ⟨rfl,rfl⟩))
        refine (eM cb r1 e a _ HC2.out).mono ?_;intro x w3 h;cases hf:aq r1 with
        | none=>
         obtain ⟨rfl,hg⟩:=h.none_ hf;exact ⟨rfl,by unfold cM;rw [HN.out];simp only [hop,if_true,if_neg hone,hN,hf];exact ⟨rfl,HG3.out.trans hg⟩⟩
        | some q=>
         obtain ⟨v,r2⟩:=q;obtain ⟨_,rfl,rfl,hcur,hg⟩:=h.some_ hf;have hjb:=HIB2.out.gc hg (by omega);have hmb:=HRB2.out.gc hg (by omega);have hs3:w'.heap.size≤w3.heap.size:=hg.size;have hne:¬w.heap.size=w1.heap.size:=by omega
         have HC3:=aH (af (g:=w1.heap.size) (o:=1) (v:=.int .i64 v) hcur (by omega));have HG4:=aH (am (g:=w1.heap.size) (o:=1) (v:=.int .i64 v) (HG3.out.trans hg) (by omega));have HMB:=aH (hmb.other (g:=w1.heap.size) (o:=1) (v:=.int .i64 v) (by omega));obtain ⟨j0,j1,j2,k0,k1,k2⟩:=hjb;have HF:=aH hf;clear h hcur hg hf i0 i1 i2 y0 y1 y2 hmb;go_wp2_with fail
         refine (eM cb r2 e a _ HC3.out).mono ?_;intro x w5 h;cases hf2:aq r2 with
         | none=>
          obtain ⟨rfl,hg⟩:=h.none_ hf2;exact ⟨rfl,by unfold cM;rw [HN.out];simp only [hop,if_true,if_neg hone,hN,HF.out,hf2];exact ⟨rfl,HG4.out.trans hg⟩⟩
         | some q2=>
          obtain ⟨u,r3⟩:=q2;obtain ⟨_,rfl,rfl,hcur,hg⟩:=h.some_ hf2;have HE:Hid (cM r=some (⟨b.toNat,v,u⟩,r3)):=aH (by unfold cM;rw [HN.out];simp only [hop,if_true,if_neg hone,hN,HF.out,hf2];rfl);obtain ⟨m0,m1,m2,n0,n1,n2⟩:=HMB.out.gc hg (by omega);have l0:w5.cell? ⟨w1.heap.size,0,none⟩=some (.int .i64 (b.toNat:Int)):=hg.box (by omega) ((aJ (by omega)).trans j0);have l1:w5.cell? ⟨w1.heap.size,1,none⟩=some (.int .i64 v):=hg.box (by omega) (World.cell?_setCell_same _ _ _ j1);have l2:w5.cell? ⟨w1.heap.size,2,none⟩=some (.int .i64 0):=hg.box (by omega) ((aJ (by omega)).trans j2);have p2:w5.frozen? ⟨w1.heap.size,2,none⟩=false:=hg.boxz (by omega) ((aJ (by omega)).trans j2) (by rw [World.frozen?_setCell];exact k2);have HC5:=aH hcur;have HG5:=aH (HG4.out.trans hg);clear h hcur hg hf2 hone j0 j1 j2 k0 k1 k2;go_wp2
          exact bodyPost_ret (v:=.agg #[.int .i64 (b.toNat:Int),.int .i64 v,.int .i64 u]) (by simp [results,Tryz.results130,go_sem,m0,m1,m2]) rfl (by rw [HE.out];exact ⟨_,rfl,rfl,af (af (af (af (HC5.out) (by omega)) (by omega)) (by omega)) (by omega),am (am (am (am (HG5.out) (by omega)) (by omega)) (by omega)) (by omega)⟩)
open Go.RowKit
attribute [local go_sem ↓] Go.wp_at_zero Go.wp_at_succ
theorem Tryz.rinfo_rlist_ins:(Tryz.prog.info? 26).map (fun i=>(i.zero,i.size,i.bytes))=some (some (Value.agg #[.int .i64 0,.int .i64 0,.int .i64 0]),3,24):=by kernel_rfl
theorem uF(cb B:Nat)(r:List UInt8)(e a:Int)(w:World)(hc:iA w cb r e a)(hb:cb < B)(hB:B≤w.heap.size):
 Calls Tryz.prog 129 #[.pointer (some ⟨cb,0,none⟩),.func (.func 130) #[] #[]] w (mT cb e a w (fun w' v (y:List aw)=>eK B w' v y) (aM cM r)):=by
 have HC:=aH hc;clear hc;go_enter Tryz.func129,Tryz.ntmps129
 go_wp2_with fail
 refine (cg cb r e a _ HC.out).mono ?_;intro x w1 h;cases hn:bA 0 0 r with
 | none=>
  obtain ⟨rfl,hg⟩:=h.none_ hn;exact ⟨rfl,by unfold aM;rw [hn];exact ⟨rfl,hg⟩⟩
 | some p=>
  obtain ⟨n,r1⟩:=p;obtain ⟨v,rfl,rfl,hcur,hg⟩:=h.some_ hn;have HG1:=aH hg;have HC1:=aH hcur;obtain ⟨⟨s,h0,hs⟩,hl,h1,h2,hz,hj⟩:=hcur;have hsz:s.size=r1.length:=by rw [←hs,Array.length_toList];rfl
  have hss:s.size≤1000000:=by omega
  have hwr:IntKind.u64.wrap (s.size:Int)=s.size:=Go.IntWalk.u64_in _ (by omega);by_cases hle:n≤r1.length
  · have HE:Hid (aM cM r=ew cM n r1):=aH (by unfold aM;rw [hn];simp only [if_pos hle]);have hd:(n:Int)≤(s.size:Int):=by omega
    have hn6:n≤1000000:=by omega
    clear h hg hn hs hl hz hsz hle;go_wp2
    go_region_held3 (fun w'=>w'.cell? ⟨cb,0,none⟩=some (.string s)∧w'.cell? ⟨cb,1,none⟩=some (.int .i64 e)∧w'.cell? ⟨cb,3,none⟩=some (.int .i64 a)∧w'.cell? ⟨cb,2,none⟩=some (.int .i64 0)) (first|go_keep|(refine ⟨?_,?_,?_,?_⟩<;>exact hg'.cell (by assumption) (by simp))) (first|(go_at_call 32;refine (aP _ _ _).mono ?_;rintro e w' ⟨rfl,hg'⟩))
    have HC2:=aH (HC1.out.gr (Gr.trans (Gr.drew (Gr.refl w1)) hg'));have HG2:=aH (HG1.out.trans (Gr.trans (Gr.drew (Gr.refl w1)) hg').toGc);clear hg' h0 h1 h2 hj HC1 HG1 hss hwr hd;obtain ⟨i0,hi,hz0,hz1,hz2⟩:=info_parts Tryz.rinfo_rlist_ins;obtain ⟨M,hM⟩:∃M,M=madeCells (Value.agg #[.int .i64 0,.int .i64 0,.int .i64 0]).cells ((n:Int).toNat * i0.size):=⟨_,rfl⟩;have hMs:M.size=n * 3:=by rw [hM,size_madeCells,hz1];simp
    have hmk:∀V:World,(Instr.makeSlice 23 (.int .u64 (n:Int)) (.int .u64 (n:Int))).run Tryz.prog V=.ok (.slice (some ⟨V.heap.size,0,none⟩) n n) (V.alloc (.cells M 26)):=by
     intro V;have h:=run_make (P:=Tryz.prog) V 23 26 i0 (Value.agg #[.int .i64 0,.int .i64 0,.int .i64 0]) Tryz.underlying23 hi hz0 .u64 .u64 (n:Int) (n:Int) (by omega) (by omega) (by rw [hz2];omega) (by omega);rw [←hM] at h;simpa using h
    have HM:=aH hMs;clear hM hMs hi hz0 hz1 hz2;go_wp2
    have hgB:B≤w'.heap.size:=Nat.le_trans hB HG2.out.size;have hgW:w.heap.size≤w'.heap.size:=HG2.out.size;go_loopw [27] (fun i wr=>∃(k:Nat) (ys:List aw) (rk:List UInt8),k≤n∧i=.int .i64 k∧ys.length=k∧iA wr cb rk e a∧Gc cb w wr∧ew cM n r1=gj ys (ew cM (n - k) rk)∧w'.heap.size < wr.heap.size∧(∀j,j < n * 3→(∃x,wr.cell? ⟨w'.heap.size,j,none⟩=some x)∧wr.frozen? ⟨w'.heap.size,j,none⟩=false)∧∀j y,ys[j]? =some y→(wr.cell? ⟨w'.heap.size,j * 3,none⟩=some (.int .i64 y.op)∧wr.cell? ⟨w'.heap.size,j * 3+1,none⟩=some (.int .i64 y.a)∧wr.cell? ⟨w'.heap.size,j * 3+2,none⟩=some (.int .i64 y.b))) (fun i _=>n - (intOf i).toNat)
    case atStart=>
     refine ⟨0,[],r1,Nat.zero_le _,rfl,rfl,HC2.out.gr ((Gr.refl _).alloc _),HG2.out.trans ((Gr.refl _).alloc _).toGc,by rw [fq];rfl,by simp,fun j hj=>?_,fun j y hy=>by simp at hy⟩;exact iI w' M 26 j (by rw [HM.out];exact hj)
    case round=>
     obtain ⟨k,ys,rk,hk,rfl,hyl,hcur,hgc,hrd,hsz,hrow,hel⟩:=hrel;have HN:=aH hrd;have HEl:=aH hel;have HRow:=aH hrow;have HG3:=aH hgc;have HC3:=aH hcur;have hYL:=aH hyl;clear hrd hel hrow hgc hcur HC2 HG2 hyl hmk;by_cases hlt:k < n
     · obtain ⟨m,hm⟩:∃m,n - k=m+1:=⟨n - k - 1,by omega⟩;have HMM:=aH hm;clear hm;go_wp2_with fail
       refine (wj cb rk e a _ HC3.out).mono ?_;intro x w4 h;cases hf:cM rk with
       | none=>
        obtain ⟨rfl,hg⟩:=h.none_ hf;exact ⟨rfl,by rw [HE.out,HN.out,HMM.out,BC hf];exact ⟨rfl,HG3.out.trans hg⟩⟩
       | some p=>
        obtain ⟨y,r4⟩:=p;obtain ⟨v,rfl,hy,hcur,hg⟩:=h.some_ hf;have HN2:Hid (ew cM n r1=gj (ys++ [y]) (ew cM (n - (k+1)) r4)):=aH (by rw [HN.out,HMM.out,fD hf,show n - (k+1)=m by have:=HMM.out;omega]);have hkp:Kp (w'.heap.size) wr w4:=hg.kp (by omega);have hsz4:w'.heap.size < w4.heap.size:=Nat.lt_of_lt_of_le hsz hg.size;have HRow4:Hid (∀j,j < n * 3→(∃x,w4.cell? ⟨w'.heap.size,j,none⟩=some x)∧w4.frozen? ⟨w'.heap.size,j,none⟩=false):=aH (fo HRow.out hkp hsz);have HC4:=aH hcur;have HG4:=aH (HG3.out.trans hg);have HKP:=aH hkp;have HY:=aH hy;clear h hf hcur hkp;have hv:=HY.out;subst hv;obtain ⟨⟨x0,hx0⟩,hz0⟩:=HRow4.out (k * 3) (by omega);obtain ⟨⟨x1,hx1⟩,hz1⟩:=HRow4.out (k * 3+1) (by omega);obtain ⟨⟨x2,hx2⟩,hz2⟩:=HRow4.out (k * 3+2) (by omega);have hkn:(0:Int)≤(k:Int):=by omega
        have hkn2:(k:Int) < (n:Int):=by omega
        clear hg hy;go_wp2
        go_roundw
        case rel=>
         have hyl:=hYL.out;refine ⟨k+1,ys++ [y],r4,by omega,by go_num,by simp [hyl],af (af (af (HC4.out) (by omega)) (by omega)) (by omega),am (am (am (HG4.out) hgW) hgW) hgW,HN2.out,by simpa using hsz4,dQ (dQ (dQ (HRow4.out))),fun j z hj=>?_⟩;rcases iL hj with ⟨h1,h2⟩|⟨h1,h2⟩
         · obtain ⟨q0,q1,q2⟩:=HEl.out j z h1;exact ⟨by rw [aJ (by omega),aJ (by omega),aJ (by omega)];exact HKP.out.cell (Nat.le_refl _) q0,by rw [aJ (by omega),aJ (by omega),aJ (by omega)];exact HKP.out.cell (Nat.le_refl _) q1,by rw [aJ (by omega),aJ (by omega),aJ (by omega)];exact HKP.out.cell (Nat.le_refl _) q2⟩
         · subst h1;subst h2;rw [hyl];exact ⟨by rw [aJ (by omega),aJ (by omega)];exact World.cell?_setCell_same _ _ _ (hx0),by rw [aJ (by omega)];exact World.cell?_setCell_same _ _ _ ((aJ (by omega)).trans (hx1)),by exact World.cell?_setCell_same _ _ _ ((aJ (by omega)).trans ((aJ (by omega)).trans (hx2)))⟩
        case measure=>simp [intOf];omega
     · have hk2:k=n:=by omega
       subst hk2;have HFin:Hid (aM cM r=some (ys,rk)):=aH (by rw [HE.out,HN.out,Nat.sub_self,gH]);go_wp2
       go_ret
       rw [HFin.out];refine ⟨_,rfl,?_,HC3.out,HG3.out⟩;have hyl:=hYL.out;show eK B wr (.slice (some ⟨w'.heap.size,0,none⟩) k k) ys
       refine ⟨some ⟨w'.heap.size,0,none⟩,k,by rw [hyl],by unfold maxLen;omega,fun i y hi=>?_⟩;have hq:=HEl.out i y hi;exact ⟨w'.heap.size,0,rfl,hgB,by rw [Nat.zero_add];exact hq.1,by rw [Nat.zero_add];exact hq.2.1,by rw [Nat.zero_add];exact hq.2.2⟩
  · have HE:Hid (aM cM r=none):=aH (by unfold aM;rw [hn];simp only [if_neg hle]);have hd:decide (n≤s.size)=false:=by rw [decide_eq_false_iff_not];omega
    clear h hg hn hs hl hz hsz hle;go_wp2
    go_region_with (first|(go_at_call 32;refine (aV _ _ _).mono ?_;rintro e w' ⟨rfl,hg'⟩;refine aQ ?_))
    all_goals exact ⟨rfl,by rw [HE.out];exact ⟨rfl,HG1.out.trans (Gr.trans (Gr.drew (Gr.refl w1)) hg').toGc⟩⟩
end Go.Proofs.YtkgncijcnlfhiaaGreat
