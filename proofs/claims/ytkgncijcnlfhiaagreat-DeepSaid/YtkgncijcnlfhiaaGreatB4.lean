import Derived.Test.YtkgncijcnlfhiaaGreatV1
import Derived.Test.YtkgncijcnlfhiaaGreatT1
namespace Go.Proofs.YtkgncijcnlfhiaaGreat
set_option maxHeartbeats 2000000
set_option linter.unusedVariables false
set_option linter.unusedSimpArgs false
open Go.RowKit
attribute [local go_sem ↓] Go.wp_at_zero Go.wp_at_succ
theorem Tryz.rinfo_rlist_shape:(Tryz.prog.info? 22).map (fun i=>(i.zero,i.size,i.bytes))=some (some (Value.slice none 0 0),1,24):=by kernel_rfl
set_option maxRecDepth 100000 in
theorem rlist_shape(cb B:Nat)(r:List UInt8)(e a:Int)(w:World)(hc:Cur w cb r e a)(hb:cb < B)(hB:B≤w.heap.size):
 Calls Tryz.prog 124 #[.pointer (some ⟨cb,0,none⟩),.func (.func 90) #[] #[]] w (Rds cb e a w (fun w' v (y:List (List Int))=>RShapesF B w' v y) (rdList rdKinds r)):=by
 have HC:=hide hc;clear hc;go_enter Tryz.func124,Tryz.ntmps124
 go_wp2_with fail
 refine (number_any cb r e a _ HC.out).mono ?_;intro x w1 h;cases hn:rdNum 0 0 r with
 | none=>
  obtain ⟨rfl,hg⟩:=h.none_ hn;exact ⟨rfl,by unfold rdList;rw [hn];exact ⟨rfl,hg⟩⟩
 | some p=>
  obtain ⟨n,r1⟩:=p;obtain ⟨v,rfl,rfl,hcur,hg⟩:=h.some_ hn;have HG1:=hide hg;have HC1:=hide hcur;obtain ⟨⟨s,h0,hs⟩,hl,h1,h2,hz,hj⟩:=hcur;have hsz:s.size=r1.length:=by rw [←hs,Array.length_toList];rfl
  have hss:s.size≤1000000:=by omega
  have hwr:IntKind.u64.wrap (s.size:Int)=s.size:=Go.IntWalk.u64_in _ (by omega);by_cases hle:n≤r1.length
  · have HE:Hid (rdList rdKinds r=rdN rdKinds n r1):=hide (by unfold rdList;rw [hn];simp only [if_pos hle]);have hd:(n:Int)≤(s.size:Int):=by omega
    have hn6:n≤1000000:=by omega
    clear h hg hn hs hl hz hsz hle;go_wp2
    go_region_held3 (fun w'=>w'.cell? ⟨cb,0,none⟩=some (.string s)∧w'.cell? ⟨cb,1,none⟩=some (.int .i64 e)∧w'.cell? ⟨cb,3,none⟩=some (.int .i64 a)∧w'.cell? ⟨cb,2,none⟩=some (.int .i64 0)) (first|go_keep|(refine ⟨?_,?_,?_,?_⟩<;>exact hg'.cell (by assumption) (by simp))) (first|(go_at_call 32;refine (unless_yes _ _ _).mono ?_;rintro e w' ⟨rfl,hg'⟩))
    have HC2:=hide (HC1.out.gr (Gr.trans (Gr.drew (Gr.refl w1)) hg'));have HG2:=hide (HG1.out.trans (Gr.trans (Gr.drew (Gr.refl w1)) hg').toGc);clear hg' h0 h1 h2 hj HC1 HG1 hss hwr hd;obtain ⟨i0,hi,hz0,hz1,hz2⟩:=info_parts Tryz.rinfo_rlist_shape;obtain ⟨M,hM⟩:∃M,M=madeCells (Value.slice none 0 0).cells ((n:Int).toNat * i0.size):=⟨_,rfl⟩;have hMs:M.size=n * 1:=by rw [hM,size_madeCells,hz1];simp
    have hmk:∀V:World,(Instr.makeSlice 28 (.int .u64 (n:Int)) (.int .u64 (n:Int))).run Tryz.prog V=.ok (.slice (some ⟨V.heap.size,0,none⟩) n n) (V.alloc (.cells M 22)):=by
     intro V;have h:=run_make (P:=Tryz.prog) V 28 22 i0 (Value.slice none 0 0) Tryz.underlying28 hi hz0 .u64 .u64 (n:Int) (n:Int) (by omega) (by omega) (by rw [hz2];omega) (by omega);rw [←hM] at h;simpa using h
    have HM:=hide hMs;clear hM hMs hi hz0 hz1 hz2;go_wp2
    have hgB:B≤w'.heap.size:=Nat.le_trans hB HG2.out.size;have hgW:w.heap.size≤w'.heap.size:=HG2.out.size;go_loopw [27] (fun i wr=>∃(k:Nat) (ys:List (List Int)) (rk:List UInt8),k≤n∧i=.int .i64 k∧ys.length=k∧Cur wr cb rk e a∧Gc cb w wr∧rdN rdKinds n r1=glue ys (rdN rdKinds (n - k) rk)∧w'.heap.size < wr.heap.size∧(∀j,j < n * 1→(∃x,wr.cell? ⟨w'.heap.size,j,none⟩=some x)∧wr.frozen? ⟨w'.heap.size,j,none⟩=false)∧∀j y,ys[j]? =some y→∃vx,wr.cell? ⟨w'.heap.size,j,none⟩=some vx∧RIntsF (w'.heap.size+1) wr vx y) (fun i _=>n - (intOf i).toNat)
    case atStart=>
     refine ⟨0,[],r1,Nat.zero_le _,rfl,rfl,HC2.out.gr ((Gr.refl _).alloc _),HG2.out.trans ((Gr.refl _).alloc _).toGc,by rw [glue_nil];rfl,by simp,fun j hj=>?_,fun j y hy=>by simp at hy⟩;exact new_row w' M 22 j (by rw [HM.out];exact hj)
    case round=>
     obtain ⟨k,ys,rk,hk,rfl,hyl,hcur,hgc,hrd,hsz,hrow,hel⟩:=hrel;have HN:=hide hrd;have HEl:=hide hel;have HRow:=hide hrow;have HG3:=hide hgc;have HC3:=hide hcur;have hYL:=hide hyl;clear hrd hel hrow hgc hcur HC2 HG2 hyl hmk;by_cases hlt:k < n
     · obtain ⟨m,hm⟩:∃m,n - k=m+1:=⟨n - k - 1,by omega⟩;have HMM:=hide hm;clear hm;go_wp2_with fail
       refine (kinds_read cb (w'.heap.size+1) rk e a _ HC3.out (by omega) (by omega)).mono ?_;intro x w4 h;cases hf:rdKinds rk with
       | none=>
        obtain ⟨rfl,hg⟩:=h.none_ hf;exact ⟨rfl,by rw [HE.out,HN.out,HMM.out,glue_none hf];exact ⟨rfl,HG3.out.trans hg⟩⟩
       | some p=>
        obtain ⟨y,r4⟩:=p;obtain ⟨v,rfl,hy,hcur,hg⟩:=h.some_ hf;have HN2:Hid (rdN rdKinds n r1=glue (ys++ [y]) (rdN rdKinds (n - (k+1)) r4)):=hide (by rw [HN.out,HMM.out,glue_some hf,show n - (k+1)=m by have:=HMM.out;omega]);have hkp:Kp (w'.heap.size) wr w4:=hg.kp (by omega);have hsz4:w'.heap.size < w4.heap.size:=Nat.lt_of_lt_of_le hsz hg.size;have HRow4:Hid (∀j,j < n * 1→(∃x,w4.cell? ⟨w'.heap.size,j,none⟩=some x)∧w4.frozen? ⟨w'.heap.size,j,none⟩=false):=hide (row_keep HRow.out hkp hsz);have HC4:=hide hcur;have HG4:=hide (HG3.out.trans hg);have HKP:=hide hkp;have HY:=hide hy;clear h hf hcur hkp;obtain ⟨av,cv,hv⟩:=HY.out.shape;subst hv;obtain ⟨⟨x0,hx0⟩,hz0⟩:=HRow4.out k (by omega);have hkn:(0:Int)≤(k:Int):=by omega
        have hkn2:(k:Int) < (n:Int):=by omega
        clear hg hy;go_wp2
        go_roundw
        case rel=>
         have hyl:=hYL.out;refine ⟨k+1,ys++ [y],r4,by omega,by go_num,by simp [hyl],cur_set HC4.out (by omega),gc_new HG4.out hgW,HN2.out,by simpa using hsz4,row_set HRow4.out,fun j z hj=>?_⟩;rcases snoc_at hj with ⟨h1,h2⟩|⟨h1,h2⟩
         · obtain ⟨vx,q1,q2⟩:=HEl.out j z h1;exact ⟨vx,by rw [cell_set_ne (by omega)];exact HKP.out.cell (Nat.le_refl _) q1,(q2.kp (HKP.out.mono (by omega))).kp (Kp.set _ (by omega))⟩
         · subst h1;subst h2;rw [hyl];exact ⟨_,World.cell?_setCell_same _ _ _ hx0,HY.out.kp (Kp.set _ (by omega))⟩
        case measure=>simp [intOf];omega
     · have hk2:k=n:=by omega
       subst hk2;have HFin:Hid (rdList rdKinds r=some (ys,rk)):=hide (by rw [HE.out,HN.out,Nat.sub_self,glue_end]);go_wp2
       go_ret
       rw [HFin.out];refine ⟨_,rfl,?_,HC3.out,HG3.out⟩;have hyl:=hYL.out;show RShapesF B wr (.slice (some ⟨w'.heap.size,0,none⟩) k k) ys
       refine ⟨some ⟨w'.heap.size,0,none⟩,k,by rw [hyl],by unfold maxLen;omega,fun i y hi=>?_⟩;have hq:=HEl.out i y hi;obtain ⟨vx,q1,q2⟩:=hq;exact ⟨w'.heap.size,0,vx,rfl,hgB,by rw [Nat.zero_add];exact q1,q2.mono (by omega)⟩
  · have HE:Hid (rdList rdKinds r=none):=hide (by unfold rdList;rw [hn];simp only [if_neg hle]);have hd:decide (n≤s.size)=false:=by rw [decide_eq_false_iff_not];omega
    clear h hg hn hs hl hz hsz hle;go_wp2
    go_region_with (first|(go_at_call 32;refine (unless_no _ _ _).mono ?_;rintro e w' ⟨rfl,hg'⟩;refine left_region ?_))
    all_goals exact ⟨rfl,by rw [HE.out];exact ⟨rfl,HG1.out.trans (Gr.trans (Gr.drew (Gr.refl w1)) hg').toGc⟩⟩
open Go.RowKit
theorem RShapes.below{W w:World}{v:Value}{l:List (List Int)}(h:RShapes W v l)(g:Below W.heap.size W w):RShapes w v l:=by
 obtain ⟨ao,cap,hv,hm,hc⟩:=h;refine ⟨ao,cap,hv,hm,fun i x hi=>?_⟩;obtain ⟨b,off,vx,h1,h2,h3⟩:=hc i x hi;exact ⟨b,off,vx,h1,below_cell g h2,h3.below g⟩
theorem RCode.below{W w:World}{v:Value}{l:List PIns}(h:RCode W v l)(g:Below W.heap.size W w):RCode w v l:=by
 obtain ⟨ao,cap,hv,hm,hc⟩:=h;refine ⟨ao,cap,hv,hm,fun i x hi=>?_⟩;obtain ⟨b,off,h1,h2,h3,h4⟩:=hc i x hi;exact ⟨b,off,h1,below_cell g h2,below_cell g h3,below_cell g h4⟩
theorem RFuncs.below{W w:World}{v:Value}{l:List PFunc}(h:RFuncs W v l)(g:Below W.heap.size W w):RFuncs w v l:=by
 obtain ⟨ao,cap,hv,hm,hc⟩:=h;refine ⟨ao,cap,hv,hm,fun i x hi=>?_⟩;obtain ⟨b,off,vp,vl,vc,h1,h2,h3,h4,h5,h6,h7,h8⟩:=hc i x hi;exact ⟨b,off,vp,vl,vc,h1,below_cell g h2,below_cell g h3,below_cell g h4,below_cell g h5,h6.below g,h7.below g,h8.below g⟩
theorem RImports.below{W w:World}{v:Value}{l:List PImp}(h:RImports W v l)(g:Below W.heap.size W w):RImports w v l:=by
 obtain ⟨ao,cap,hv,hm,hc⟩:=h;refine ⟨ao,cap,hv,hm,fun i x hi=>?_⟩;obtain ⟨b,off,vs,vp,h1,h2,h3,h4,h5,h6⟩:=hc i x hi;exact ⟨b,off,vs,vp,h1,below_cell g h2,below_cell g h3,below_cell g h4,h5,h6.below g⟩
theorem RExports.below{W w:World}{v:Value}{l:List PExp}(h:RExports W v l)(g:Below W.heap.size W w):RExports w v l:=by
 obtain ⟨ao,cap,hv,hm,hc⟩:=h;refine ⟨ao,cap,hv,hm,fun i x hi=>?_⟩;obtain ⟨b,off,vs,h1,h2,h3,h4⟩:=hc i x hi;exact ⟨b,off,vs,h1,below_cell g h2,below_cell g h3,h4⟩
def encs{α:Type}(f:α→List UInt8)(xs:List α):List UInt8:=num xs.length++xs.flatMap f
def encTo{α:Type}(f:α→List UInt8)(xs:List α)(k:Nat):List UInt8:=num xs.length++(xs.take k).flatMap f
theorem encTo_zero{α:Type}(f:α→List UInt8)(xs:List α):encTo f xs 0=num xs.length:=by simp [encTo]
theorem encTo_succ{α:Type}{f:α→List UInt8}{xs:List α}{k:Nat}{x:α}(h:xs[k]? =some x):encTo f xs (k+1)=encTo f xs k++f x:=by
 obtain ⟨hk,rfl⟩:=List.getElem?_eq_some_iff.1 h;unfold encTo;rw [List.take_succ_eq_append_getElem hk,List.flatMap_append,List.append_assoc];simp
theorem encs_end{α:Type}{f:α→List UInt8}{xs:List α}{k:Nat}(h:¬k < xs.length):encs f xs=encTo f xs k:=by
 unfold encs encTo;rw [List.take_of_length_le (by omega)]
theorem encTo_le{α:Type}(f:α→List UInt8)(xs:List α)(k:Nat):(encTo f xs k).length≤(encs f xs).length:=by
 have e:xs.flatMap f=(xs.take k).flatMap f++(xs.drop k).flatMap f:=by rw [←List.flatMap_append,List.take_append_drop]
 unfold encs encTo;rw [e];simp only [List.length_append];omega
theorem encTo_bd{α:Type}{f:α→List UInt8}{xs:List α}{l:List UInt8}(k:Nat)(h:(l++encs f xs).length≤10000000):(l++encTo f xs k).length≤10000000:=by
 have:=encTo_le f xs k
 simp only [List.length_append] at h ⊢;omega
theorem encTo_bd2{α:Type}{f:α→List UInt8}{xs:List α}{l:List UInt8}{k:Nat}{x:α}(hx:xs[k]? =some x)(h:(l++encs f xs).length≤10000000):((l++encTo f xs k)++f x).length≤10000000:=by
 have:=encTo_bd (k+1) h
 rwa [encTo_succ hx,←List.append_assoc] at this
def encWhole(x:Int):List UInt8:=num x.toNat
def encSigned(x:Int):List UInt8:=num (zig x)
def encKinds(l:List Int):List UInt8:=encs encWhole l
def encIns(i:PIns):List UInt8:=
 UInt8.ofNat i.op.toNat :: (if i.op=1 then num (zig i.a) else (if 1≤operandsN i.op then num i.a.toNat else [])++(if 2≤operandsN i.op then num i.b.toNat else []))
def encFunc(f:PFunc):List UInt8:=encKinds f.params++(encKinds f.locals++(num f.result.toNat++encs encIns f.code))
def encText(s:List UInt8):List UInt8:=num s.length++s
def encImp(i:PImp):List UInt8:=encText i.name++(encKinds i.params++num i.result.toNat)
def encExp(e:PExp):List UInt8:=encText e.name++num e.func.toNat
theorem list_whole(W:World)(v:Value)(l:List UInt8)(xs:List Int)(vx:Value)(w:World)(hR:RInts W vx xs)(hneed:∀x∈xs,0≤x∧x≤9223372036854775807)(hw:Wr W w v l)(hlen:(l++encs encWhole xs).length≤10000000):
 Calls Tryz.prog 55 #[v,vx,.func (.func 84) #[] #[]] w fun x w'=>∃v',x=.returned v'∧App W.heap.size w v w' v' (l++encs encWhole xs):=by
 obtain ⟨ao,cap,rfl,hm,hc⟩:=hR;unfold maxLen at hm;have HC:=hide hc;clear hc;have hl1:l.length≤10000000:=by simp only [List.length_append] at hlen;omega
 have HLen:=hide hlen;clear hlen;go_enter Tryz.func55,Tryz.ntmps55
 go_wp2_with (go_at_call 84;refine (whole_any W _ l xs.length _ (by omega) (by omega) (by exact hw) hl1).mono ?_;rintro e w1 ⟨v1,rfl,happ⟩;rw [Int.toNat_natCast] at happ;have hw1:=hw.app happ)
 have H1:=hide happ;clear happ;go_loopw [0,15] (fun vo i wr=>∃k:Nat,k≤xs.length∧i=.int .i64 k∧App W.heap.size w v wr vo (l++encTo encWhole xs k)) (fun _ i _=>xs.length - (intOf i).toNat)
 case atStart=>exact ⟨0,Nat.zero_le _,rfl,by rw [encTo_zero];exact H1.out⟩
 case round=>
  obtain ⟨k,hk,rfl,happ⟩:=hrel;have hwr:=hw.app happ;have H2:=hide happ;clear happ hw1;by_cases hlt:k < xs.length
  · obtain ⟨x,hx⟩:=getElem?_lt hlt;obtain ⟨b,off,hao,hcell⟩:=HC.out k hlt;subst hao;rw [List.getD_eq_getElem?_getD,hx] at hcell;simp only [Option.getD_some] at hcell;have hcell':=below_cell hwr.low hcell;have hnx:=hneed x (List.mem_of_getElem? hx);clear hcell;have HX:=hide hx;clear hx;go_wp2_with (go_at_call 84;refine (whole_any W _ _ x _ hnx.1 hnx.2 (by exact hwr) (encTo_bd k HLen.out)).mono ?_;rintro e w2 ⟨v2,rfl,happ2⟩)
    have H3:=hide happ2;clear happ2;go_roundw
    case rel=>exact ⟨k+1,by omega,by go_num,by rw [encTo_succ HX.out,←List.append_assoc];exact H2.out.trans H3.out⟩
    case measure=>simp [intOf];omega
  · go_wp2
    go_ret
    refine ⟨_,rfl,?_⟩;rw [encs_end hlt];exact H2.out
theorem list_signed(W:World)(v:Value)(l:List UInt8)(xs:List Int)(vx:Value)(w:World)(hR:RInts W vx xs)(hneed:∀x∈xs,-9223372036854775808≤x∧x≤9223372036854775807)(hw:Wr W w v l)(hlen:(l++encs encSigned xs).length≤10000000):
 Calls Tryz.prog 55 #[v,vx,.func (.func 56) #[] #[]] w fun x w'=>∃v',x=.returned v'∧App W.heap.size w v w' v' (l++encs encSigned xs):=by
 obtain ⟨ao,cap,rfl,hm,hc⟩:=hR;unfold maxLen at hm;have HC:=hide hc;clear hc;have hl1:l.length≤10000000:=by simp only [List.length_append] at hlen;omega
 have HLen:=hide hlen;clear hlen;go_enter Tryz.func55,Tryz.ntmps55
 go_wp2_with (go_at_call 84;refine (whole_any W _ l xs.length _ (by omega) (by omega) (by exact hw) hl1).mono ?_;rintro e w1 ⟨v1,rfl,happ⟩;rw [Int.toNat_natCast] at happ;have hw1:=hw.app happ)
 have H1:=hide happ;clear happ;go_loopw [0,15] (fun vo i wr=>∃k:Nat,k≤xs.length∧i=.int .i64 k∧App W.heap.size w v wr vo (l++encTo encSigned xs k)) (fun _ i _=>xs.length - (intOf i).toNat)
 case atStart=>exact ⟨0,Nat.zero_le _,rfl,by rw [encTo_zero];exact H1.out⟩
 case round=>
  obtain ⟨k,hk,rfl,happ⟩:=hrel;have hwr:=hw.app happ;have H2:=hide happ;clear happ hw1;by_cases hlt:k < xs.length
  · obtain ⟨x,hx⟩:=getElem?_lt hlt;obtain ⟨b,off,hao,hcell⟩:=HC.out k hlt;subst hao;rw [List.getD_eq_getElem?_getD,hx] at hcell;simp only [Option.getD_some] at hcell;have hcell':=below_cell hwr.low hcell;have hnx:=hneed x (List.mem_of_getElem? hx);clear hcell;have HX:=hide hx;clear hx;go_wp2_with (go_at_call 56;refine (signed_any W _ _ x _ hnx.1 hnx.2 (by exact hwr) (encTo_bd k HLen.out)).mono ?_;rintro e w2 ⟨v2,rfl,happ2⟩)
    have H3:=hide happ2;clear happ2;go_roundw
    case rel=>exact ⟨k+1,by omega,by go_num,by rw [encTo_succ HX.out,←List.append_assoc];exact H2.out.trans H3.out⟩
    case measure=>simp [intOf];omega
  · go_wp2
    go_ret
    refine ⟨_,rfl,?_⟩;rw [encs_end hlt];exact H2.out
theorem kinds_write(W:World)(v:Value)(l:List UInt8)(xs:List Int)(vx:Value)(w:World)(hR:RInts W vx xs)(hneed:∀x∈xs,0≤x∧x≤9223372036854775807)(hw:Wr W w v l)(hlen:(l++encKinds xs).length≤10000000):
 Calls Tryz.prog 54 #[v,vx] w fun x w'=>∃v',x=.returned v'∧App W.heap.size w v w' v' (l++encKinds xs):=by
 have HR:=hide hR;have HN:=hide hneed;have HLen:=hide hlen;clear hR hneed hlen;go_enter Tryz.func54,Tryz.ntmps54
 go_wp2_with (go_at_call 55;refine (list_whole W _ l xs _ _ HR.out HN.out (by exact hw) HLen.out).mono ?_;rintro e w1 ⟨v1,rfl,happ⟩)
 go_ret
 exact ⟨v1,rfl,happ⟩
open Go.RowKit
theorem App.box{base:Nat}{w w':World}{v v':Value}{l':List UInt8}(k:App base w v w' v' l'){B o:Nat}{x:Value}(hx:w.cell? ⟨B,o,none⟩=some x)(hv:∀i,v.ownBlock=some i→i < B):w'.cell? ⟨B,o,none⟩=some x:=
 k.frm.cell hx (fun e=>by have:=hv B e.symm;omega)
theorem operandsN_cases(op:Int):operandsN op=0∨operandsN op=1∨operandsN op=2:=by
 unfold operandsN;split
 · exact .inr (.inr rfl)
 · split
   · exact .inr (.inl rfl)
   · exact .inl rfl
theorem byte_op{op:Int}(h0:0≤op)(h1:op≤20):op=(UInt8.ofNat op.toNat).toNat:=by simp [UInt8.toNat_ofNat'];omega
theorem insOk_op{x:PIns}(h:insOk x=true):0≤x.op∧x.op≤20:=by
 simp only [insOk,wB,Bool.and_eq_true,decide_eq_true_eq] at h;exact h.1
theorem insOk_small{x:PIns}(h:insOk x=true)(h1:x.op=1):-2147483648≤x.a∧x.a≤2147483647:=by
 simp only [insOk,wB,Bool.and_eq_true,decide_eq_true_eq,h1,if_true] at h;exact h.2.1
theorem insOk_a{x:PIns}(h:insOk x=true)(h1:¬x.op=1)(hn:1≤operandsN x.op):0≤x.a∧x.a≤65535:=by
 simp only [insOk,wB,operandOk,Bool.and_eq_true,decide_eq_true_eq,h1,if_false,hn,if_true] at h;exact h.2.1
theorem insOk_b{x:PIns}(h:insOk x=true)(hn:2≤operandsN x.op):0≤x.b∧x.b≤65535:=by
 simp only [insOk,wB,operandOk,Bool.and_eq_true,decide_eq_true_eq,hn,if_true] at h;exact h.2.2
theorem ins_boxed(w:World)(x:PIns):(w.alloc (.cells #[.int .i64 x.op,.int .i64 x.a,.int .i64 x.b] 26)).cell? ⟨w.heap.size,0,none⟩=some (.int .i64 x.op)∧(w.alloc (.cells #[.int .i64 x.op,.int .i64 x.a,.int .i64 x.b] 26)).cell? ⟨w.heap.size,1,none⟩=some (.int .i64 x.a)∧(w.alloc (.cells #[.int .i64 x.op,.int .i64 x.a,.int .i64 x.b] 26)).cell? ⟨w.heap.size,2,none⟩=some (.int .i64 x.b):=by
 refine ⟨?_,?_,?_⟩<;>simp [go_sem]
theorem ins_write(W:World)(v:Value)(l:List UInt8)(x:PIns)(w:World)(hok:insOk x=true)(hw:Wr W w v l)(hlen:(l++encIns x).length≤10000000):
 Calls Tryz.prog 86 #[v,.agg #[.int .i64 x.op,.int .i64 x.a,.int .i64 x.b]] w fun y w'=>∃v',y=.returned v'∧App W.heap.size w v w' v' (l++encIns x):=by
 obtain ⟨ho0,ho1⟩:=insOk_op hok;obtain ⟨hi0,hi1,hi2⟩:=ins_boxed w x;have hl1:l.length+1≤10000000:=by simp only [encIns,List.length_append,List.length_cons] at hlen;omega
 have hvb:∀i,v.ownBlock=some i→i < w.heap.size:=fun i hi=>(hw.own.lt i hi).2
 have hwb:=hw.gr (World.grownBy_alloc w (.cells #[.int .i64 x.op,.int .i64 x.a,.int .i64 x.b] 26) none);have HLen:=hide hlen;have HOK:=hide hok;have HV:=hide hvb;clear hlen hok hvb;by_cases h1:x.op=1
 · have hs:=insOk_small HOK.out h1;have HE:Hid (encIns x= [UInt8.ofNat x.op.toNat]++num (zig x.a)):=hide (by unfold encIns;rw [if_pos h1];rfl);have hb1:(x.op == 1)=true:=by simpa using h1
   clear h1;go_enter Tryz.func86,Tryz.ntmps86
   go_wp2_with (first|(at_builtin;refine wpList_append_byte _ rfl _ _ rfl W.heap.size _ l rfl hwb.own (UInt8.ofNat x.op.toNat) _ (by exact byte_op ho0 ho1) _ rfl (by simp) (by omega) hwb.base ?_;intro v1 w1 happ1;have hj0:=happ1.box hi0 HV.out;have hj1:=happ1.box hi1 HV.out;have hw1:=hwb.app happ1)|(go_at_call 56;refine (signed_any W _ _ x.a _ (by omega) (by omega) (by exact hw1) (by simp;omega)).mono ?_;rintro e w2 ⟨v2,rfl,happ2⟩))
   go_ret
   refine ⟨v2,rfl,?_⟩;rw [HE.out,←List.append_assoc];exact App.gr (World.grownBy_alloc w _ none) (happ1.trans happ2)
 · have hb1:(x.op == 1)=false:=by simpa using h1
   rcases operandsN_cases x.op with hN|hN|hN
   · have HE:Hid (encIns x= [UInt8.ofNat x.op.toNat]):=hide (by unfold encIns;rw [if_neg h1,hN];simp);clear h1;go_enter Tryz.func86,Tryz.ntmps86
     go_wp2_with (first|(at_builtin;refine wpList_append_byte _ rfl _ _ rfl W.heap.size _ l rfl hwb.own (UInt8.ofNat x.op.toNat) _ (by exact byte_op ho0 ho1) _ rfl (by simp) (by omega) hwb.base ?_;intro v1 w1 happ1;have hj0:=happ1.box hi0 HV.out;have hj1:=happ1.box hi1 HV.out;have hw1:=hwb.app happ1)|(go_at_call 114;refine (operands_any _ _).mono ?_;rintro e w' ⟨rfl,rfl⟩))
     go_ret
     refine ⟨v1,rfl,?_⟩;rw [HE.out];exact App.gr (World.grownBy_alloc w _ none) happ1
   · have hs:=insOk_a HOK.out h1 (by omega);have HE:Hid (encIns x= [UInt8.ofNat x.op.toNat]++num x.a.toNat):=hide (by unfold encIns;rw [if_neg h1,hN];simp);clear h1;go_enter Tryz.func86,Tryz.ntmps86
     go_wp2_with (first|(at_builtin;refine wpList_append_byte _ rfl _ _ rfl W.heap.size _ l rfl hwb.own (UInt8.ofNat x.op.toNat) _ (by exact byte_op ho0 ho1) _ rfl (by simp) (by omega) hwb.base ?_;intro v1 w1 happ1;have hj0:=happ1.box hi0 HV.out;have hj1:=happ1.box hi1 HV.out;have hw1:=hwb.app happ1)|(go_at_call 114;refine (operands_any _ _).mono ?_;rintro e w' ⟨rfl,rfl⟩)|(go_at_call 84;refine (whole_any W _ _ x.a _ (by omega) (by omega) (by exact hw1) (by simp;omega)).mono ?_;rintro e w2 ⟨v2,rfl,happ2⟩))
     go_ret
     refine ⟨v2,rfl,?_⟩;rw [HE.out,←List.append_assoc];exact App.gr (World.grownBy_alloc w _ none) (happ1.trans happ2)
   · have hs:=insOk_a HOK.out h1 (by omega);have ht:=insOk_b HOK.out (by omega);have HE:Hid (encIns x= [UInt8.ofNat x.op.toNat]++num x.a.toNat++num x.b.toNat):=hide (by unfold encIns;rw [if_neg h1,hN];simp);have hn:=num_len x.a.toNat;have hl2:l.length+1+(num x.a.toNat).length≤10000000:=by have h:=HLen.out;rw [HE.out] at h;simp only [List.length_append,List.length_cons,List.length_nil] at h;omega
     clear h1;go_enter Tryz.func86,Tryz.ntmps86
     go_wp2_with (first|(at_builtin;refine wpList_append_byte _ rfl _ _ rfl W.heap.size _ l rfl hwb.own (UInt8.ofNat x.op.toNat) _ (by exact byte_op ho0 ho1) _ rfl (by simp) (by omega) hwb.base ?_;intro v1 w1 happ1;have hj0:=happ1.box hi0 HV.out;have hj1:=happ1.box hi1 HV.out;have hw1:=hwb.app happ1)|(go_at_call 114;refine (operands_any _ _).mono ?_;rintro e w' ⟨rfl,rfl⟩)|(go_at_call_of 84 x.a;refine (whole_any W _ _ x.a _ (by omega) (by omega) (by exact hw1) (by simp;omega)).mono ?_;rintro e w2 ⟨v2,rfl,happ2⟩;have hw2:=hw1.app happ2;have happ12:=happ1.trans happ2;have hk2:=happ12.box hi2 HV.out)|(go_at_call_of 84 x.b;refine (whole_any W _ _ x.b _ (by omega) (by omega) (by exact hw2) (by simp only [List.length_append,List.length_cons,List.length_nil];omega)).mono ?_;rintro e w3 ⟨v3,rfl,happ3⟩))
     go_ret
     refine ⟨v3,rfl,?_⟩;rw [HE.out,←List.append_assoc,←List.append_assoc];exact App.gr (World.grownBy_alloc w _ none) (happ12.trans happ3)
end Go.Proofs.YtkgncijcnlfhiaaGreat
