import Derived.Test.YtkgncijcnlfhiaaGreatS1
import Derived.Test.YtkgncijcnlfhiaaGreatQ3
import Derived.Test.YtkgncijcnlfhiaaGreatE1
namespace Go.Proofs.YtkgncijcnlfhiaaGreat
set_option maxRecDepth 100000
set_option maxHeartbeats 2000000
set_option linter.unusedVariables false
set_option linter.unusedSimpArgs false
open Go.RowKit
attribute [local go_sem ↓] Go.wp_at_zero Go.wp_at_succ
theorem Tryz.rinfo_rlist_func:(Tryz.prog.info? 48).map (fun i=>(i.zero,i.size,i.bytes))=some (some (Value.agg #[.slice none 0 0,.int .i64 0,.slice none 0 0,.slice none 0 0]),4,80):=by kernel_rfl
theorem rV(cb B:Nat)(r:List UInt8)(e a:Int)(w:World)(hc:iA w cb r e a)(hb:cb < B)(hB:B≤w.heap.size):
 Calls Tryz.prog 128 #[.pointer (some ⟨cb,0,none⟩),.func (.func 94) #[] #[]] w (mT cb e a w (fun w' v (y:List aO)=>dK B w' v y) (aM bN r)):=by
 have HC:=aH hc;clear hc;go_enter Tryz.func128,Tryz.ntmps128
 go_wp2_with fail
 refine (cg cb r e a _ HC.out).mono ?_;intro x w1 h;cases hn:bA 0 0 r with
 | none=>
  obtain ⟨rfl,hg⟩:=h.none_ hn;exact ⟨rfl,by unfold aM;rw [hn];exact ⟨rfl,hg⟩⟩
 | some p=>
  obtain ⟨n,r1⟩:=p;obtain ⟨v,rfl,rfl,hcur,hg⟩:=h.some_ hn;have HG1:=aH hg;have HC1:=aH hcur;obtain ⟨⟨s,h0,hs⟩,hl,h1,h2,hz,hj⟩:=hcur;have hsz:s.size=r1.length:=by rw [←hs,Array.length_toList];rfl
  have hss:s.size≤1000000:=by omega
  have hwr:IntKind.u64.wrap (s.size:Int)=s.size:=Go.IntWalk.u64_in _ (by omega);by_cases hle:n≤r1.length
  · have HE:Hid (aM bN r=ew bN n r1):=aH (by unfold aM;rw [hn];simp only [if_pos hle]);have hd:(n:Int)≤(s.size:Int):=by omega
    have hn6:n≤1000000:=by omega
    clear h hg hn hs hl hz hsz hle;go_wp2
    go_region_held3 (fun w'=>w'.cell? ⟨cb,0,none⟩=some (.string s)∧w'.cell? ⟨cb,1,none⟩=some (.int .i64 e)∧w'.cell? ⟨cb,3,none⟩=some (.int .i64 a)∧w'.cell? ⟨cb,2,none⟩=some (.int .i64 0)) (first|go_keep|(refine ⟨?_,?_,?_,?_⟩<;>exact hg'.cell (by assumption) (by simp))) (first|(go_at_call 32;refine (aP _ _ _).mono ?_;rintro e w' ⟨rfl,hg'⟩))
    have HC2:=aH (HC1.out.gr (Gr.trans (Gr.drew (Gr.refl w1)) hg'));have HG2:=aH (HG1.out.trans (Gr.trans (Gr.drew (Gr.refl w1)) hg').toGc);clear hg' h0 h1 h2 hj HC1 HG1 hss hwr hd;obtain ⟨i0,hi,hz0,hz1,hz2⟩:=info_parts Tryz.rinfo_rlist_func;obtain ⟨M,hM⟩:∃M,M=madeCells (Value.agg #[.slice none 0 0,.int .i64 0,.slice none 0 0,.slice none 0 0]).cells ((n:Int).toNat * i0.size):=⟨_,rfl⟩;have hMs:M.size=n * 4:=by rw [hM,size_madeCells,hz1];simp
    have hmk:∀V:World,(Instr.makeSlice 29 (.int .u64 (n:Int)) (.int .u64 (n:Int))).run Tryz.prog V=.ok (.slice (some ⟨V.heap.size,0,none⟩) n n) (V.alloc (.cells M 48)):=by
     intro V;have h:=run_make (P:=Tryz.prog) V 29 48 i0 (Value.agg #[.slice none 0 0,.int .i64 0,.slice none 0 0,.slice none 0 0]) Tryz.underlying29 hi hz0 .u64 .u64 (n:Int) (n:Int) (by omega) (by omega) (by rw [hz2];omega) (by omega);rw [←hM] at h;simpa using h
    have HM:=aH hMs;clear hM hMs hi hz0 hz1 hz2;go_wp2
    have hgB:B≤w'.heap.size:=Nat.le_trans hB HG2.out.size;have hgW:w.heap.size≤w'.heap.size:=HG2.out.size;go_loopw [27] (fun i wr=>∃(k:Nat) (ys:List aO) (rk:List UInt8),k≤n∧i=.int .i64 k∧ys.length=k∧iA wr cb rk e a∧Gc cb w wr∧ew bN n r1=gj ys (ew bN (n - k) rk)∧w'.heap.size < wr.heap.size∧(∀j,j < n * 4→(∃x,wr.cell? ⟨w'.heap.size,j,none⟩=some x)∧wr.frozen? ⟨w'.heap.size,j,none⟩=false)∧∀j y,ys[j]? =some y→(∃vp vl vc,wr.cell? ⟨w'.heap.size,j * 4,none⟩=some vp∧wr.cell? ⟨w'.heap.size,j * 4+1,none⟩=some (.int .i64 y.result)∧wr.cell? ⟨w'.heap.size,j * 4+2,none⟩=some vl∧wr.cell? ⟨w'.heap.size,j * 4+3,none⟩=some vc∧bY (w'.heap.size+1) wr vp y.aF∧bY (w'.heap.size+1) wr vl y.aG∧eK (w'.heap.size+1) wr vc y.code)) (fun i _=>n - (intOf i).toNat)
    case atStart=>
     refine ⟨0,[],r1,Nat.zero_le _,rfl,rfl,HC2.out.gr ((Gr.refl _).alloc _),HG2.out.trans ((Gr.refl _).alloc _).toGc,by rw [fq];rfl,by simp,fun j hj=>?_,fun j y hy=>by simp at hy⟩;exact iI w' M 48 j (by rw [HM.out];exact hj)
    case round=>
     obtain ⟨k,ys,rk,hk,rfl,hyl,hcur,hgc,hrd,hsz,hrow,hel⟩:=hrel;have HN:=aH hrd;have HEl:=aH hel;have HRow:=aH hrow;have HG3:=aH hgc;have HC3:=aH hcur;have hYL:=aH hyl;clear hrd hel hrow hgc hcur HC2 HG2 hyl hmk;by_cases hlt:k < n
     · obtain ⟨m,hm⟩:∃m,n - k=m+1:=⟨n - k - 1,by omega⟩;have HMM:=aH hm;clear hm;go_wp2_with fail
       refine (tr cb (w'.heap.size+1) rk e a _ HC3.out (by omega) (by omega)).mono ?_;intro x w4 h;cases hf:bN rk with
       | none=>
        obtain ⟨rfl,hg⟩:=h.none_ hf;exact ⟨rfl,by rw [HE.out,HN.out,HMM.out,BC hf];exact ⟨rfl,HG3.out.trans hg⟩⟩
       | some p=>
        obtain ⟨y,r4⟩:=p;obtain ⟨v,rfl,hy,hcur,hg⟩:=h.some_ hf;have HN2:Hid (ew bN n r1=gj (ys++ [y]) (ew bN (n - (k+1)) r4)):=aH (by rw [HN.out,HMM.out,fD hf,show n - (k+1)=m by have:=HMM.out;omega]);have hkp:Kp (w'.heap.size) wr w4:=hg.kp (by omega);have hsz4:w'.heap.size < w4.heap.size:=Nat.lt_of_lt_of_le hsz hg.size;have HRow4:Hid (∀j,j < n * 4→(∃x,w4.cell? ⟨w'.heap.size,j,none⟩=some x)∧w4.frozen? ⟨w'.heap.size,j,none⟩=false):=aH (fo HRow.out hkp hsz);have HC4:=aH hcur;have HG4:=aH (HG3.out.trans hg);have HKP:=aH hkp;have HY:=aH hy;clear h hf hcur hkp;obtain ⟨vp,vl,vc,hv,hp,hl,hcd⟩:=HY.out;obtain ⟨pp,cp,hpp⟩:=hp.shape;obtain ⟨pl,cl,hpl⟩:=hl.shape;obtain ⟨pc,cc,hpc⟩:=hcd.shape;subst hpp;subst hpl;subst hpc;subst hv;have HP:=aH hp;have HL:=aH hl;have HCD:=aH hcd;clear hp hl hcd;obtain ⟨⟨x0,hx0⟩,hz0⟩:=HRow4.out (k * 4) (by omega);obtain ⟨⟨x1,hx1⟩,hz1⟩:=HRow4.out (k * 4+1) (by omega);obtain ⟨⟨x2,hx2⟩,hz2⟩:=HRow4.out (k * 4+2) (by omega);obtain ⟨⟨x3,hx3⟩,hz3⟩:=HRow4.out (k * 4+3) (by omega);have hkn:(0:Int)≤(k:Int):=by omega
        have hkn2:(k:Int) < (n:Int):=by omega
        clear hg hy;go_wp2
        go_roundw
        case rel=>
         have hyl:=hYL.out;refine ⟨k+1,ys++ [y],r4,by omega,by go_num,by simp [hyl],af (af (af (af (HC4.out) (by omega)) (by omega)) (by omega)) (by omega),am (am (am (am (HG4.out) hgW) hgW) hgW) hgW,HN2.out,by simpa using hsz4,dQ (dQ (dQ (dQ (HRow4.out)))),fun j z hj=>?_⟩;rcases iL hj with ⟨h1,h2⟩|⟨h1,h2⟩
         · obtain ⟨vp,vl,vc,q0,q1,q2,q3,s1,s2,s3⟩:=HEl.out j z h1;exact ⟨vp,vl,vc,by rw [aJ (by omega),aJ (by omega),aJ (by omega),aJ (by omega)];exact HKP.out.cell (Nat.le_refl _) q0,by rw [aJ (by omega),aJ (by omega),aJ (by omega),aJ (by omega)];exact HKP.out.cell (Nat.le_refl _) q1,by rw [aJ (by omega),aJ (by omega),aJ (by omega),aJ (by omega)];exact HKP.out.cell (Nat.le_refl _) q2,by rw [aJ (by omega),aJ (by omega),aJ (by omega),aJ (by omega)];exact HKP.out.cell (Nat.le_refl _) q3,((((s1.kp (HKP.out.mono (by omega))).kp (Kp.set _ (by omega))).kp (Kp.set _ (by omega))).kp (Kp.set _ (by omega))).kp (Kp.set _ (by omega)),((((s2.kp (HKP.out.mono (by omega))).kp (Kp.set _ (by omega))).kp (Kp.set _ (by omega))).kp (Kp.set _ (by omega))).kp (Kp.set _ (by omega)),((((s3.kp (HKP.out.mono (by omega))).kp (Kp.set _ (by omega))).kp (Kp.set _ (by omega))).kp (Kp.set _ (by omega))).kp (Kp.set _ (by omega))⟩
         · subst h1;subst h2;rw [hyl];exact ⟨_,_,_,by rw [aJ (by omega),aJ (by omega),aJ (by omega)];exact World.cell?_setCell_same _ _ _ (hx0),by rw [aJ (by omega),aJ (by omega)];exact World.cell?_setCell_same _ _ _ ((aJ (by omega)).trans (hx1)),by rw [aJ (by omega)];exact World.cell?_setCell_same _ _ _ ((aJ (by omega)).trans ((aJ (by omega)).trans (hx2))),by exact World.cell?_setCell_same _ _ _ ((aJ (by omega)).trans ((aJ (by omega)).trans ((aJ (by omega)).trans (hx3)))),((((HP.out).kp (Kp.set _ (by omega))).kp (Kp.set _ (by omega))).kp (Kp.set _ (by omega))).kp (Kp.set _ (by omega)),((((HL.out).kp (Kp.set _ (by omega))).kp (Kp.set _ (by omega))).kp (Kp.set _ (by omega))).kp (Kp.set _ (by omega)),((((HCD.out).kp (Kp.set _ (by omega))).kp (Kp.set _ (by omega))).kp (Kp.set _ (by omega))).kp (Kp.set _ (by omega))⟩
        case measure=>simp [intOf];omega
     · have hk2:k=n:=by omega
       subst hk2;have HFin:Hid (aM bN r=some (ys,rk)):=aH (by rw [HE.out,HN.out,Nat.sub_self,gH]);go_wp2
       go_ret
       rw [HFin.out];refine ⟨_,rfl,?_,HC3.out,HG3.out⟩;have hyl:=hYL.out;show dK B wr (.slice (some ⟨w'.heap.size,0,none⟩) k k) ys
       refine ⟨some ⟨w'.heap.size,0,none⟩,k,by rw [hyl],by unfold maxLen;omega,fun i y hi=>?_⟩;have hq:=HEl.out i y hi;obtain ⟨vp,vl,vc,q0,q1,q2,q3,s1,s2,s3⟩:=hq;exact ⟨w'.heap.size,0,vp,vl,vc,rfl,hgB,by rw [Nat.zero_add];exact q0,by rw [Nat.zero_add];exact q1,by rw [Nat.zero_add];exact q2,by rw [Nat.zero_add];exact q3,s1.mono (by omega),s2.mono (by omega),s3.mono (by omega)⟩
  · have HE:Hid (aM bN r=none):=aH (by unfold aM;rw [hn];simp only [if_neg hle]);have hd:decide (n≤s.size)=false:=by rw [decide_eq_false_iff_not];omega
    clear h hg hn hs hl hz hsz hle;go_wp2
    go_region_with (first|(go_at_call 32;refine (aV _ _ _).mono ?_;rintro e w' ⟨rfl,hg'⟩;refine aQ ?_))
    all_goals exact ⟨rfl,by rw [HE.out];exact ⟨rfl,HG1.out.trans (Gr.trans (Gr.drew (Gr.refl w1)) hg').toGc⟩⟩
theorem Tryz.rinfo_rlist_imp:(Tryz.prog.info? 53).map (fun i=>(i.zero,i.size,i.bytes))=some (some (Value.agg #[.string ⟨#[]⟩,.slice none 0 0,.int .i64 0]),3,48):=by kernel_rfl
theorem tg(cb B:Nat)(r:List UInt8)(e a:Int)(w:World)(hc:iA w cb r e a)(hb:cb < B)(hB:B≤w.heap.size):
 Calls Tryz.prog 131 #[.pointer (some ⟨cb,0,none⟩),.func (.func 96) #[] #[]] w (mT cb e a w (fun w' v (y:List fQ)=>bt B w' v y) (aM cJ r)):=by
 have HC:=aH hc;clear hc;go_enter Tryz.func131,Tryz.ntmps131
 go_wp2_with fail
 refine (cg cb r e a _ HC.out).mono ?_;intro x w1 h;cases hn:bA 0 0 r with
 | none=>
  obtain ⟨rfl,hg⟩:=h.none_ hn;exact ⟨rfl,by unfold aM;rw [hn];exact ⟨rfl,hg⟩⟩
 | some p=>
  obtain ⟨n,r1⟩:=p;obtain ⟨v,rfl,rfl,hcur,hg⟩:=h.some_ hn;have HG1:=aH hg;have HC1:=aH hcur;obtain ⟨⟨s,h0,hs⟩,hl,h1,h2,hz,hj⟩:=hcur;have hsz:s.size=r1.length:=by rw [←hs,Array.length_toList];rfl
  have hss:s.size≤1000000:=by omega
  have hwr:IntKind.u64.wrap (s.size:Int)=s.size:=Go.IntWalk.u64_in _ (by omega);by_cases hle:n≤r1.length
  · have HE:Hid (aM cJ r=ew cJ n r1):=aH (by unfold aM;rw [hn];simp only [if_pos hle]);have hd:(n:Int)≤(s.size:Int):=by omega
    have hn6:n≤1000000:=by omega
    clear h hg hn hs hl hz hsz hle;go_wp2
    go_region_held3 (fun w'=>w'.cell? ⟨cb,0,none⟩=some (.string s)∧w'.cell? ⟨cb,1,none⟩=some (.int .i64 e)∧w'.cell? ⟨cb,3,none⟩=some (.int .i64 a)∧w'.cell? ⟨cb,2,none⟩=some (.int .i64 0)) (first|go_keep|(refine ⟨?_,?_,?_,?_⟩<;>exact hg'.cell (by assumption) (by simp))) (first|(go_at_call 32;refine (aP _ _ _).mono ?_;rintro e w' ⟨rfl,hg'⟩))
    have HC2:=aH (HC1.out.gr (Gr.trans (Gr.drew (Gr.refl w1)) hg'));have HG2:=aH (HG1.out.trans (Gr.trans (Gr.drew (Gr.refl w1)) hg').toGc);clear hg' h0 h1 h2 hj HC1 HG1 hss hwr hd;obtain ⟨i0,hi,hz0,hz1,hz2⟩:=info_parts Tryz.rinfo_rlist_imp;obtain ⟨M,hM⟩:∃M,M=madeCells (Value.agg #[.string ⟨#[]⟩,.slice none 0 0,.int .i64 0]).cells ((n:Int).toNat * i0.size):=⟨_,rfl⟩;have hMs:M.size=n * 3:=by rw [hM,size_madeCells,hz1];simp
    have hmk:∀V:World,(Instr.makeSlice 30 (.int .u64 (n:Int)) (.int .u64 (n:Int))).run Tryz.prog V=.ok (.slice (some ⟨V.heap.size,0,none⟩) n n) (V.alloc (.cells M 53)):=by
     intro V;have h:=run_make (P:=Tryz.prog) V 30 53 i0 (Value.agg #[.string ⟨#[]⟩,.slice none 0 0,.int .i64 0]) Tryz.underlying30 hi hz0 .u64 .u64 (n:Int) (n:Int) (by omega) (by omega) (by rw [hz2];omega) (by omega);rw [←hM] at h;simpa using h
    have HM:=aH hMs;clear hM hMs hi hz0 hz1 hz2;go_wp2
    have hgB:B≤w'.heap.size:=Nat.le_trans hB HG2.out.size;have hgW:w.heap.size≤w'.heap.size:=HG2.out.size;go_loopw [27] (fun i wr=>∃(k:Nat) (ys:List fQ) (rk:List UInt8),k≤n∧i=.int .i64 k∧ys.length=k∧iA wr cb rk e a∧Gc cb w wr∧ew cJ n r1=gj ys (ew cJ (n - k) rk)∧w'.heap.size < wr.heap.size∧(∀j,j < n * 3→(∃x,wr.cell? ⟨w'.heap.size,j,none⟩=some x)∧wr.frozen? ⟨w'.heap.size,j,none⟩=false)∧∀j y,ys[j]? =some y→(∃vs vp,wr.cell? ⟨w'.heap.size,j * 3,none⟩=some vs∧wr.cell? ⟨w'.heap.size,j * 3+1,none⟩=some vp∧wr.cell? ⟨w'.heap.size,j * 3+2,none⟩=some (.int .i64 y.result)∧ii vs y.name∧bY (w'.heap.size+1) wr vp y.aF)) (fun i _=>n - (intOf i).toNat)
    case atStart=>
     refine ⟨0,[],r1,Nat.zero_le _,rfl,rfl,HC2.out.gr ((Gr.refl _).alloc _),HG2.out.trans ((Gr.refl _).alloc _).toGc,by rw [fq];rfl,by simp,fun j hj=>?_,fun j y hy=>by simp at hy⟩;exact iI w' M 53 j (by rw [HM.out];exact hj)
    case round=>
     obtain ⟨k,ys,rk,hk,rfl,hyl,hcur,hgc,hrd,hsz,hrow,hel⟩:=hrel;have HN:=aH hrd;have HEl:=aH hel;have HRow:=aH hrow;have HG3:=aH hgc;have HC3:=aH hcur;have hYL:=aH hyl;clear hrd hel hrow hgc hcur HC2 HG2 hyl hmk;by_cases hlt:k < n
     · obtain ⟨m,hm⟩:∃m,n - k=m+1:=⟨n - k - 1,by omega⟩;have HMM:=aH hm;clear hm;go_wp2_with fail
       refine (uv cb (w'.heap.size+1) rk e a _ HC3.out (by omega) (by omega)).mono ?_;intro x w4 h;cases hf:cJ rk with
       | none=>
        obtain ⟨rfl,hg⟩:=h.none_ hf;exact ⟨rfl,by rw [HE.out,HN.out,HMM.out,BC hf];exact ⟨rfl,HG3.out.trans hg⟩⟩
       | some p=>
        obtain ⟨y,r4⟩:=p;obtain ⟨v,rfl,hy,hcur,hg⟩:=h.some_ hf;have HN2:Hid (ew cJ n r1=gj (ys++ [y]) (ew cJ (n - (k+1)) r4)):=aH (by rw [HN.out,HMM.out,fD hf,show n - (k+1)=m by have:=HMM.out;omega]);have hkp:Kp (w'.heap.size) wr w4:=hg.kp (by omega);have hsz4:w'.heap.size < w4.heap.size:=Nat.lt_of_lt_of_le hsz hg.size;have HRow4:Hid (∀j,j < n * 3→(∃x,w4.cell? ⟨w'.heap.size,j,none⟩=some x)∧w4.frozen? ⟨w'.heap.size,j,none⟩=false):=aH (fo HRow.out hkp hsz);have HC4:=aH hcur;have HG4:=aH (HG3.out.trans hg);have HKP:=aH hkp;have HY:=aH hy;clear h hf hcur hkp;obtain ⟨vs,vp,hv,ht,hp⟩:=HY.out;obtain ⟨pp,cp,hpp⟩:=hp.shape;have HT:=aH ht;obtain ⟨st,hst,hst2,hst3⟩:=ht;subst hpp;subst hst;subst hv;have HP:=aH hp;clear hp hst2 hst3;obtain ⟨⟨x0,hx0⟩,hz0⟩:=HRow4.out (k * 3) (by omega);obtain ⟨⟨x1,hx1⟩,hz1⟩:=HRow4.out (k * 3+1) (by omega);obtain ⟨⟨x2,hx2⟩,hz2⟩:=HRow4.out (k * 3+2) (by omega);have hkn:(0:Int)≤(k:Int):=by omega
        have hkn2:(k:Int) < (n:Int):=by omega
        clear hg hy;go_wp2
        go_roundw
        case rel=>
         have hyl:=hYL.out;refine ⟨k+1,ys++ [y],r4,by omega,by go_num,by simp [hyl],af (af (af (HC4.out) (by omega)) (by omega)) (by omega),am (am (am (HG4.out) hgW) hgW) hgW,HN2.out,by simpa using hsz4,dQ (dQ (dQ (HRow4.out))),fun j z hj=>?_⟩;rcases iL hj with ⟨h1,h2⟩|⟨h1,h2⟩
         · obtain ⟨vs,vp,q0,q1,q2,s0,s1⟩:=HEl.out j z h1;exact ⟨vs,vp,by rw [aJ (by omega),aJ (by omega),aJ (by omega)];exact HKP.out.cell (Nat.le_refl _) q0,by rw [aJ (by omega),aJ (by omega),aJ (by omega)];exact HKP.out.cell (Nat.le_refl _) q1,by rw [aJ (by omega),aJ (by omega),aJ (by omega)];exact HKP.out.cell (Nat.le_refl _) q2,s0,(((s1.kp (HKP.out.mono (by omega))).kp (Kp.set _ (by omega))).kp (Kp.set _ (by omega))).kp (Kp.set _ (by omega))⟩
         · subst h1;subst h2;rw [hyl];exact ⟨_,_,by rw [aJ (by omega),aJ (by omega)];exact World.cell?_setCell_same _ _ _ (hx0),by rw [aJ (by omega)];exact World.cell?_setCell_same _ _ _ ((aJ (by omega)).trans (hx1)),by exact World.cell?_setCell_same _ _ _ ((aJ (by omega)).trans ((aJ (by omega)).trans (hx2))),HT.out,(((HP.out).kp (Kp.set _ (by omega))).kp (Kp.set _ (by omega))).kp (Kp.set _ (by omega))⟩
        case measure=>simp [intOf];omega
     · have hk2:k=n:=by omega
       subst hk2;have HFin:Hid (aM cJ r=some (ys,rk)):=aH (by rw [HE.out,HN.out,Nat.sub_self,gH]);go_wp2
       go_ret
       rw [HFin.out];refine ⟨_,rfl,?_,HC3.out,HG3.out⟩;have hyl:=hYL.out;show bt B wr (.slice (some ⟨w'.heap.size,0,none⟩) k k) ys
       refine ⟨some ⟨w'.heap.size,0,none⟩,k,by rw [hyl],by unfold maxLen;omega,fun i y hi=>?_⟩;have hq:=HEl.out i y hi;obtain ⟨vs,vp,q0,q1,q2,s0,s1⟩:=hq;exact ⟨w'.heap.size,0,vs,vp,rfl,hgB,by rw [Nat.zero_add];exact q0,by rw [Nat.zero_add];exact q1,by rw [Nat.zero_add];exact q2,s0,s1.mono (by omega)⟩
  · have HE:Hid (aM cJ r=none):=aH (by unfold aM;rw [hn];simp only [if_neg hle]);have hd:decide (n≤s.size)=false:=by rw [decide_eq_false_iff_not];omega
    clear h hg hn hs hl hz hsz hle;go_wp2
    go_region_with (first|(go_at_call 32;refine (aV _ _ _).mono ?_;rintro e w' ⟨rfl,hg'⟩;refine aQ ?_))
    all_goals exact ⟨rfl,by rw [HE.out];exact ⟨rfl,HG1.out.trans (Gr.trans (Gr.drew (Gr.refl w1)) hg').toGc⟩⟩
theorem Tryz.rinfo_rlist_exp:(Tryz.prog.info? 50).map (fun i=>(i.zero,i.size,i.bytes))=some (some (Value.agg #[.string ⟨#[]⟩,.int .i64 0]),2,24):=by kernel_rfl
theorem uH(cb B:Nat)(r:List UInt8)(e a:Int)(w:World)(hc:iA w cb r e a)(hb:cb < B)(hB:B≤w.heap.size):
 Calls Tryz.prog 133 #[.pointer (some ⟨cb,0,none⟩),.func (.func 98) #[] #[]] w (mT cb e a w (fun w' v (y:List du)=>bu B w' v y) (aM cP r)):=by
 have HC:=aH hc;clear hc;go_enter Tryz.func133,Tryz.ntmps133
 go_wp2_with fail
 refine (cg cb r e a _ HC.out).mono ?_;intro x w1 h;cases hn:bA 0 0 r with
 | none=>
  obtain ⟨rfl,hg⟩:=h.none_ hn;exact ⟨rfl,by unfold aM;rw [hn];exact ⟨rfl,hg⟩⟩
 | some p=>
  obtain ⟨n,r1⟩:=p;obtain ⟨v,rfl,rfl,hcur,hg⟩:=h.some_ hn;have HG1:=aH hg;have HC1:=aH hcur;obtain ⟨⟨s,h0,hs⟩,hl,h1,h2,hz,hj⟩:=hcur;have hsz:s.size=r1.length:=by rw [←hs,Array.length_toList];rfl
  have hss:s.size≤1000000:=by omega
  have hwr:IntKind.u64.wrap (s.size:Int)=s.size:=Go.IntWalk.u64_in _ (by omega);by_cases hle:n≤r1.length
  · have HE:Hid (aM cP r=ew cP n r1):=aH (by unfold aM;rw [hn];simp only [if_pos hle]);have hd:(n:Int)≤(s.size:Int):=by omega
    have hn6:n≤1000000:=by omega
    clear h hg hn hs hl hz hsz hle;go_wp2
    go_region_held3 (fun w'=>w'.cell? ⟨cb,0,none⟩=some (.string s)∧w'.cell? ⟨cb,1,none⟩=some (.int .i64 e)∧w'.cell? ⟨cb,3,none⟩=some (.int .i64 a)∧w'.cell? ⟨cb,2,none⟩=some (.int .i64 0)) (first|go_keep|(refine ⟨?_,?_,?_,?_⟩<;>exact hg'.cell (by assumption) (by simp))) (first|(go_at_call 32;refine (aP _ _ _).mono ?_;rintro e w' ⟨rfl,hg'⟩))
    have HC2:=aH (HC1.out.gr (Gr.trans (Gr.drew (Gr.refl w1)) hg'));have HG2:=aH (HG1.out.trans (Gr.trans (Gr.drew (Gr.refl w1)) hg').toGc);clear hg' h0 h1 h2 hj HC1 HG1 hss hwr hd;obtain ⟨i0,hi,hz0,hz1,hz2⟩:=info_parts Tryz.rinfo_rlist_exp;obtain ⟨M,hM⟩:∃M,M=madeCells (Value.agg #[.string ⟨#[]⟩,.int .i64 0]).cells ((n:Int).toNat * i0.size):=⟨_,rfl⟩;have hMs:M.size=n * 2:=by rw [hM,size_madeCells,hz1];simp
    have hmk:∀V:World,(Instr.makeSlice 31 (.int .u64 (n:Int)) (.int .u64 (n:Int))).run Tryz.prog V=.ok (.slice (some ⟨V.heap.size,0,none⟩) n n) (V.alloc (.cells M 50)):=by
     intro V;have h:=run_make (P:=Tryz.prog) V 31 50 i0 (Value.agg #[.string ⟨#[]⟩,.int .i64 0]) Tryz.underlying31 hi hz0 .u64 .u64 (n:Int) (n:Int) (by omega) (by omega) (by rw [hz2];omega) (by omega);rw [←hM] at h;simpa using h
    have HM:=aH hMs;clear hM hMs hi hz0 hz1 hz2;go_wp2
    have hgB:B≤w'.heap.size:=Nat.le_trans hB HG2.out.size;have hgW:w.heap.size≤w'.heap.size:=HG2.out.size;go_loopw [27] (fun i wr=>∃(k:Nat) (ys:List du) (rk:List UInt8),k≤n∧i=.int .i64 k∧ys.length=k∧iA wr cb rk e a∧Gc cb w wr∧ew cP n r1=gj ys (ew cP (n - k) rk)∧w'.heap.size < wr.heap.size∧(∀j,j < n * 2→(∃x,wr.cell? ⟨w'.heap.size,j,none⟩=some x)∧wr.frozen? ⟨w'.heap.size,j,none⟩=false)∧∀j y,ys[j]? =some y→(∃vs,wr.cell? ⟨w'.heap.size,j * 2,none⟩=some vs∧wr.cell? ⟨w'.heap.size,j * 2+1,none⟩=some (.int .i64 y.func)∧ii vs y.name)) (fun i _=>n - (intOf i).toNat)
    case atStart=>
     refine ⟨0,[],r1,Nat.zero_le _,rfl,rfl,HC2.out.gr ((Gr.refl _).alloc _),HG2.out.trans ((Gr.refl _).alloc _).toGc,by rw [fq];rfl,by simp,fun j hj=>?_,fun j y hy=>by simp at hy⟩;exact iI w' M 50 j (by rw [HM.out];exact hj)
    case round=>
     obtain ⟨k,ys,rk,hk,rfl,hyl,hcur,hgc,hrd,hsz,hrow,hel⟩:=hrel;have HN:=aH hrd;have HEl:=aH hel;have HRow:=aH hrow;have HG3:=aH hgc;have HC3:=aH hcur;have hYL:=aH hyl;clear hrd hel hrow hgc hcur HC2 HG2 hyl hmk;by_cases hlt:k < n
     · obtain ⟨m,hm⟩:∃m,n - k=m+1:=⟨n - k - 1,by omega⟩;have HMM:=aH hm;clear hm;go_wp2_with fail
       refine (uh cb (w'.heap.size+1) rk e a _ HC3.out (by omega) (by omega)).mono ?_;intro x w4 h;cases hf:cP rk with
       | none=>
        obtain ⟨rfl,hg⟩:=h.none_ hf;exact ⟨rfl,by rw [HE.out,HN.out,HMM.out,BC hf];exact ⟨rfl,HG3.out.trans hg⟩⟩
       | some p=>
        obtain ⟨y,r4⟩:=p;obtain ⟨v,rfl,hy,hcur,hg⟩:=h.some_ hf;have HN2:Hid (ew cP n r1=gj (ys++ [y]) (ew cP (n - (k+1)) r4)):=aH (by rw [HN.out,HMM.out,fD hf,show n - (k+1)=m by have:=HMM.out;omega]);have hkp:Kp (w'.heap.size) wr w4:=hg.kp (by omega);have hsz4:w'.heap.size < w4.heap.size:=Nat.lt_of_lt_of_le hsz hg.size;have HRow4:Hid (∀j,j < n * 2→(∃x,w4.cell? ⟨w'.heap.size,j,none⟩=some x)∧w4.frozen? ⟨w'.heap.size,j,none⟩=false):=aH (fo HRow.out hkp hsz);have HC4:=aH hcur;have HG4:=aH (HG3.out.trans hg);have HKP:=aH hkp;have HY:=aH hy;clear h hf hcur hkp;obtain ⟨vs,hv,ht⟩:=HY.out;have HT:=aH ht;obtain ⟨st,hst,hst2,hst3⟩:=ht;subst hst;subst hv;clear hst2 hst3;obtain ⟨⟨x0,hx0⟩,hz0⟩:=HRow4.out (k * 2) (by omega);obtain ⟨⟨x1,hx1⟩,hz1⟩:=HRow4.out (k * 2+1) (by omega);have hkn:(0:Int)≤(k:Int):=by omega
        have hkn2:(k:Int) < (n:Int):=by omega
        clear hg hy;go_wp2
        go_roundw
        case rel=>
         have hyl:=hYL.out;refine ⟨k+1,ys++ [y],r4,by omega,by go_num,by simp [hyl],af (af (HC4.out) (by omega)) (by omega),am (am (HG4.out) hgW) hgW,HN2.out,by simpa using hsz4,dQ (dQ (HRow4.out)),fun j z hj=>?_⟩;rcases iL hj with ⟨h1,h2⟩|⟨h1,h2⟩
         · obtain ⟨vs,q0,q1,s0⟩:=HEl.out j z h1;exact ⟨vs,by rw [aJ (by omega),aJ (by omega)];exact HKP.out.cell (Nat.le_refl _) q0,by rw [aJ (by omega),aJ (by omega)];exact HKP.out.cell (Nat.le_refl _) q1,s0⟩
         · subst h1;subst h2;rw [hyl];exact ⟨_,by rw [aJ (by omega)];exact World.cell?_setCell_same _ _ _ (hx0),by exact World.cell?_setCell_same _ _ _ ((aJ (by omega)).trans (hx1)),HT.out⟩
        case measure=>simp [intOf];omega
     · have hk2:k=n:=by omega
       subst hk2;have HFin:Hid (aM cP r=some (ys,rk)):=aH (by rw [HE.out,HN.out,Nat.sub_self,gH]);go_wp2
       go_ret
       rw [HFin.out];refine ⟨_,rfl,?_,HC3.out,HG3.out⟩;have hyl:=hYL.out;show bu B wr (.slice (some ⟨w'.heap.size,0,none⟩) k k) ys
       refine ⟨some ⟨w'.heap.size,0,none⟩,k,by rw [hyl],by unfold maxLen;omega,fun i y hi=>?_⟩;have hq:=HEl.out i y hi;obtain ⟨vs,q0,q1,s0⟩:=hq;exact ⟨w'.heap.size,0,vs,rfl,hgB,by rw [Nat.zero_add];exact q0,by rw [Nat.zero_add];exact q1,s0⟩
  · have HE:Hid (aM cP r=none):=aH (by unfold aM;rw [hn];simp only [if_neg hle]);have hd:decide (n≤s.size)=false:=by rw [decide_eq_false_iff_not];omega
    clear h hg hn hs hl hz hsz hle;go_wp2
    go_region_with (first|(go_at_call 32;refine (aV _ _ _).mono ?_;rintro e w' ⟨rfl,hg'⟩;refine aQ ?_))
    all_goals exact ⟨rfl,by rw [HE.out];exact ⟨rfl,HG1.out.trans (Gr.trans (Gr.drew (Gr.refl w1)) hg').toGc⟩⟩
open Go.RowKit
attribute [local go_sem ↓] Go.wp_at_zero Go.wp_at_succ
theorem wM(l:List UInt8):(l == [75,73,76,78,1])=decide (l=dW):=by rw [Bool.eq_iff_iff,beq_iff_eq,decide_eq_true_eq];rfl
theorem me(s:ByteArray)(w:World)(hs:s.size≤maxLen):
 Calls Tryz.prog 122 #[.string s,.string ⟨#[75,73,76,78,1]⟩] w fun x w'=>x=.returned (.bool (decide (s.data.toList.take 5=dW)))∧w'=w:=by
 unfold maxLen at hs;by_cases h5:5≤s.size
 · have hd:(5:Int)≤(s.size:Int):=by omega
   have hd2:decide ((5:Int)≤(s.size:Int))=true:=by simpa using hd
   have hex:=l9 s 5;go_enter Tryz.func122,Tryz.ntmps122
   go_wp2
   go_ret
   exact ⟨by rw [←wM];rfl,rfl⟩
 · have hd2:decide ((5:Int)≤(s.size:Int))=false:=by rw [decide_eq_false_iff_not];omega
   have hl:s.data.toList.length=s.size:=by rw [Array.length_toList];rfl
   go_enter Tryz.func122,Tryz.ntmps122
   go_wp2
   go_ret
   have hf:decide (s.data.toList.take 5=dW)=false:=by
    rw [decide_eq_false_iff_not];intro h;have:=congrArg List.length h
    rw [List.length_take] at this;have hm:dW.length=5:=rfl;omega
   exact ⟨by rw [hf];rfl,rfl⟩
def zP{α:Type}(sb:Nat)(t:List UInt8)(p B:Nat)(w:World)(R:Nat→World→Value→List α→Prop):Option (List α×List UInt8)→Ending→World→Prop
 | some (y,r),x,w'=>∃v,x=.returned (.tuple #[v,.agg #[.int .i64 2,.int .i64 0,.int .i64 (p:Int)]])∧R B w' v y∧kr w' sb t (t.length - r.length)∧Gc sb w w'
 | none,x,w'=>x=.panicked (dF 2 p)∧Gc sb w w'
def d'(K fn:FuncId)(z:Int)(n:Nat){α:Type}(R:Nat→World→Value→List α→Prop)(rd:List UInt8→Option (List α×List UInt8)):Prop:=
 ∀(sb B:Nat) (t:List UInt8) (p:Nat) (w:World),kr w sb t p→sb < B→B≤w.heap.size→
  Calls Tryz.prog K #[.pointer (some ⟨sb,0,none⟩),.int .u8 z,.func (.func fn) #[] #[]] w (zP sb t p B w R (ai n rd (t.drop p)))
structure pR:Prop where
 s1:d' 89 90 1 1 cR (aM ar)
 s2:d' 91 92 2 2 bY (aM ag)
 s3:d' 93 94 3 3 dK (aM bN)
 s4:d' 95 96 4 4 bt (aM cJ)
 s5:d' 97 98 5 5 bu (aM cP)
def vJ(t:List UInt8)(sh:List (List Int))(cs:List Int)(fs:List aO)(im:List fQ)(r4:List UInt8):aK ⊕ (Int×Nat):=match ai 5 (aM cP) r4 with
 | none=>.inr (2,pl t r4)
 | some (ex,r5)=>if b_ ex fs.length=false then .inr (2,pl t r4) else if r5= [] then .inl ⟨sh,cs,fs,im,ex⟩ else .inr (2,pl t r5)
def uw(t:List UInt8)(sh:List (List Int))(cs:List Int)(fs:List aO)(r3:List UInt8):aK ⊕ (Int×Nat):=match ai 4 (aM cJ) r3 with
 | none=>.inr (2,pl t r3)
 | some (im,r4)=>if bm im sh.length=false then .inr (2,pl t r3) else vJ t sh cs fs im r4
def v8(t:List UInt8)(sh:List (List Int))(cs:List Int)(r2:List UInt8):aK ⊕ (Int×Nat):=match ai 3 (aM bN) r2 with
 | none=>.inr (2,pl t r2)
 | some (fs,r3)=>if cL fs sh.length=false then .inr (2,pl t r2) else uw t sh cs fs r3
def wV(t:List UInt8)(sh:List (List Int))(r1:List UInt8):aK ⊕ (Int×Nat):=match ai 2 (aM ag) r1 with
 | none=>.inr (2,pl t r1)
 | some (cs,r2)=>if dE cs=false then .inr (2,pl t r1) else v8 t sh cs r2
theorem uV{t:List UInt8}(h1:¬20000 < t.length)(h2:t.take 5=dW):dec t=match ai 1 (aM ar) (t.drop 5) with
 | none=>.inr (2,5)
 | some (sh,r1)=>if A9 sh=false then .inr (2,5) else wV t sh r1:=by
 unfold dec;rw [if_neg h1,if_neg (fun h=>h h2)];rfl
theorem kO{t x r:List UInt8}{p:Nat}(h:t.drop p=x++r):t.drop (pl t r)=r:=by
 have e:r=t.drop (p+x.length):=by rw [←List.drop_drop,h];simp
 unfold pl;by_cases hp:p+x.length≤t.length
 · have hl:r.length=t.length - (p+x.length):=by rw [e,List.length_drop]
   rw [hl,show t.length - (t.length - (p+x.length))=p+x.length by omega];exact e.symm
 · have hr:r= []:=by rw [e];exact List.drop_eq_nil_of_le (by omega)
   rw [hr];simp
theorem eB{α:Type}{n:Nat}{f:List UInt8→Option (List α×List UInt8)}{r r':List UInt8}{y:List α}(h:ai n f r=some (y,r')):∃x,r=x++r':=by
 unfold ai at h;cases ho:cI n r with
 | none=>rw [ho] at h;cases h
 | some p=>
  obtain ⟨b,r1⟩:=p;rw [ho] at h;simp only at h;cases hb:a_ f b with
  | none=>rw [hb] at h;cases h
  | some z=>
   rw [hb] at h;simp only [Option.some.injEq,Prod.mk.injEq] at h;rw [←h.2];exact ⟨_,ph ho⟩
def eY(B:Nat)(w:World)(v:Value)(u:aK):Prop:=
 ∃v1 v2 v3 v4 v5,v=.agg #[v1,v2,v3,v4,v5]∧cR B w v1 u.aA∧bY B w v2 u.aD∧dK B w v3 u.aE∧bt B w v4 u.aB∧bu B w v5 u.aC
theorem eY.to{B:Nat}{w:World}{v:Value}{u:aK}(h:eY B w v u):cD w v u:=by
 obtain ⟨v1,v2,v3,v4,v5,h,h1,h2,h3,h4,h5⟩:=h;exact ⟨v1,v2,v3,v4,v5,h,h1.to,h2.to,h3.to,h4.to,h5.to⟩
theorem eY.kp{B:Nat}{w w':World}{v:Value}{u:aK}(h:eY B w v u)(g:Kp B w w'):eY B w' v u:=by
 obtain ⟨v1,v2,v3,v4,v5,h,h1,h2,h3,h4,h5⟩:=h;exact ⟨v1,v2,v3,v4,v5,h,h1.kp g,h2.kp g,h3.kp g,h4.kp g,h5.kp g⟩
def zv(w:World):aK ⊕ (Int×Nat)→Ending→World→Prop
 | .inl u,x,w'=>∃v B,x=.returned v∧w.heap.size≤B∧eY B w' v u∧Gr w w'
 | .inr (e,p),x,w'=>x=.panicked (dF e p)∧Gr w w'
open Go.RowKit
attribute [local go_sem ↓] Go.wp_at_zero Go.wp_at_succ
theorem cR.shape{B:Nat}{w:World}{v:Value}{l:List (List Int)}(h:cR B w v l):∃ao cap,v=.slice ao l.length cap:=by
 obtain ⟨ao,cap,hv,_⟩:=h;exact ⟨ao,cap,hv⟩
theorem dK.shape{B:Nat}{w:World}{v:Value}{l:List aO}(h:dK B w v l):∃ao cap,v=.slice ao l.length cap:=by
 obtain ⟨ao,cap,hv,_⟩:=h;exact ⟨ao,cap,hv⟩
theorem bt.shape{B:Nat}{w:World}{v:Value}{l:List fQ}(h:bt B w v l):∃ao cap,v=.slice ao l.length cap:=by
 obtain ⟨ao,cap,hv,_⟩:=h;exact ⟨ao,cap,hv⟩
theorem bu.shape{B:Nat}{w:World}{v:Value}{l:List du}(h:bu B w v l):∃ao cap,v=.slice ao l.length cap:=by
 obtain ⟨ao,cap,hv,_⟩:=h;exact ⟨ao,cap,hv⟩
theorem cR.mono{B B':Nat}{w:World}{v:Value}{l:List (List Int)}(h:cR B' w v l)(hB:B≤B'):cR B w v l:=by
 obtain ⟨ao,cap,hv,hm,hc⟩:=h;refine ⟨ao,cap,hv,hm,fun i x hi=>?_⟩;obtain ⟨b,off,vx,h1,h2,h3,h4⟩:=hc i x hi;exact ⟨b,off,vx,h1,Nat.le_trans hB h2,h3,h4.mono hB⟩
theorem dK.mono{B B':Nat}{w:World}{v:Value}{l:List aO}(h:dK B' w v l)(hB:B≤B'):dK B w v l:=by
 obtain ⟨ao,cap,hv,hm,hc⟩:=h;refine ⟨ao,cap,hv,hm,fun i x hi=>?_⟩;obtain ⟨b,off,vp,vl,vc,h1,h2,h3,h4,h5,h6,h7,h8,h9⟩:=hc i x hi;exact ⟨b,off,vp,vl,vc,h1,Nat.le_trans hB h2,h3,h4,h5,h6,h7.mono hB,h8.mono hB,h9.mono hB⟩
theorem bt.mono{B B':Nat}{w:World}{v:Value}{l:List fQ}(h:bt B' w v l)(hB:B≤B'):bt B w v l:=by
 obtain ⟨ao,cap,hv,hm,hc⟩:=h;refine ⟨ao,cap,hv,hm,fun i x hi=>?_⟩;obtain ⟨b,off,vs,vp,h1,h2,h3,h4,h5,h6,h7⟩:=hc i x hi;exact ⟨b,off,vs,vp,h1,Nat.le_trans hB h2,h3,h4,h5,h6,h7.mono hB⟩
theorem bu.mono{B B':Nat}{w:World}{v:Value}{l:List du}(h:bu B' w v l)(hB:B≤B'):bu B w v l:=by
 obtain ⟨ao,cap,hv,hm,hc⟩:=h;refine ⟨ao,cap,hv,hm,fun i x hi=>?_⟩;obtain ⟨b,off,vs,h1,h2,h3,h4,h5⟩:=hc i x hi;exact ⟨b,off,vs,h1,Nat.le_trans hB h2,h3,h4,h5⟩
theorem kr.set{w:World}{sb g o:Nat}{v:Value}{t:List UInt8}{p:Nat}(h:kr w sb t p)(hne:¬g=sb):kr (w.setCell ⟨g,o,none⟩ v) sb t p:=by
 obtain ⟨⟨s,h0,hs⟩,hl,hp,h1,z1⟩:=h;have hc:∀q,(w.setCell ⟨g,o,none⟩ v).cell? ⟨sb,q,none⟩=w.cell? ⟨sb,q,none⟩:=fun q=>World.cell?_setCell_other w _ _ _ (by intro e;simp only [Addr.mk.injEq] at e;exact hne e.1)
 exact ⟨⟨s,(hc 0).trans h0,hs⟩,hl,hp,(hc 1).trans h1,by rw [World.frozen?_setCell];exact z1⟩
theorem iM.gr{w w':World}{b:Nat}{x0 x1:Value}(h:iM w b x0 x1)(g:Gr w w'):iM w' b x0 x1:=h.gc (cb:=b+1) g.toGc (by omega)
theorem cO.put{w:World}{b:Nat}{x0 x1 x2:Value}(v v' v2:Value)(h:cO w b x0 x1 x2):cO (((w.setCell ⟨b,0,none⟩ v).setCell ⟨b,1,none⟩ v').setCell ⟨b,2,none⟩ v2) b v v' v2:=((h.set0 v).set1 v').set2 v2
theorem kB(w:World):
 (w.alloc (.cells #[.int .i64 0,.int .i64 0,.int .i64 0] 58)).cell? ⟨w.heap.size,0,none⟩=some (.int .i64 0)∧
 (w.alloc (.cells #[.int .i64 0,.int .i64 0,.int .i64 0] 58)).cell? ⟨w.heap.size,1,none⟩=some (.int .i64 0)∧
 (w.alloc (.cells #[.int .i64 0,.int .i64 0,.int .i64 0] 58)).cell? ⟨w.heap.size,2,none⟩=some (.int .i64 0)∧
 (w.alloc (.cells #[.int .i64 0,.int .i64 0,.int .i64 0] 58)).frozen? ⟨w.heap.size,0,none⟩=false∧
 (w.alloc (.cells #[.int .i64 0,.int .i64 0,.int .i64 0] 58)).frozen? ⟨w.heap.size,1,none⟩=false∧
 (w.alloc (.cells #[.int .i64 0,.int .i64 0,.int .i64 0] 58)).frozen? ⟨w.heap.size,2,none⟩=false:=by
 refine ⟨?_,?_,?_,?_,?_,?_⟩<;>simp [go_sem]
theorem jy{cb:Nat}{w w':World}(h:Gc cb w w'){g:Nat}{v v' v2:Value}(hg:w.heap.size≤g):Gc cb w (((w'.setCell ⟨g,0,none⟩ v).setCell ⟨g,1,none⟩ v').setCell ⟨g,2,none⟩ v2).drew:=(am (am (am h hg) hg) hg).drew
theorem pf:d' 89 90 1 1 cR (aM ar):=by
 intro sb B t p w hS hb hB;have hsl:sb < w.heap.size:=World.block_lt_of_cell? w _ hS.2.2.2.1;have HS:=aH hS;clear hS;go_enter Tryz.func89,Tryz.ntmps89
 go_wp2_with fail
 obtain ⟨q0,q1,q2,z0,z1,z2⟩:=kB w;have hg0:Gr w (w.alloc (.cells #[.int .i64 0,.int .i64 0,.int .i64 0] 58)):=Gr.alloc (Gr.refl w) _;have hs0:(w.alloc (.cells #[.int .i64 0,.int .i64 0,.int .i64 0] 58)).heap.size=w.heap.size+1:=by simp
 refine (ir sb t p 1 (by omega) _ (HS.out.gc (cb:=w.heap.size) hg0.toGc (by omega))).mono ?_;generalize (w.alloc (.cells #[.int .i64 0,.int .i64 0,.int .i64 0] 58))=W0 at q0 q1 q2 z0 z1 z2 hg0 hs0 ⊢;intro x w1 h;cases ho:cI 1 (t.drop p) with
 | none=>
  rw [ho] at h;obtain ⟨rfl,hg⟩:=h;exact ⟨rfl,by unfold ai;rw [ho];exact ⟨rfl,Gc.trans_ hg0.toGc hg⟩⟩
 | some q=>
  obtain ⟨body,r⟩:=q;rw [ho] at h;obtain ⟨nb,rfl,hnb,hnb2,hcur,hsec,hg⟩:=h;have HE:Hid (ai 1 (aM ar) (t.drop p)=match a_ (aM ar) body with
   | none=>none
   | some y=>some (y,r)):=aH (by unfold ai;rw [ho];cases hb:a_ (aM ar) body<;>simp only [hb])
  have p0:=hg.box (show ¬w.heap.size=sb by omega) q0;have p1:=hg.box (show ¬w.heap.size=sb by omega) q1;have p2:=hg.box (show ¬w.heap.size=sb by omega) q2;have y0:=hg.boxz (show ¬w.heap.size=sb by omega) q0 z0;have y1:=hg.boxz (show ¬w.heap.size=sb by omega) q1 z1;have y2:=hg.boxz (show ¬w.heap.size=sb by omega) q2 z2;have HG:=aH (Gc.trans_ (hg0.toGc (cb:=sb)) hg);have hs1:w.heap.size < w1.heap.size:=by have:=hg.size;omega
  have HC:=aH hcur;have HSec:=aH hsec;clear ho q0 q1 q2 z0 z1 z2 hg hg0 hcur hsec HS;go_wp2_with fail
  refine (qC nb w1.heap.size body 2 p _ HC.out hnb2 (Nat.le_refl _)).mono ?_;intro x w2 h;cases hl:aM ar body with
  | none=>
   obtain ⟨rfl,hg2⟩:=h.none_ hl;exact ⟨rfl,by rw [HE.out];simp only [a_,hl];exact ⟨rfl,HG.out.over hg2 (by omega)⟩⟩
  | some q=>
   obtain ⟨y,r2⟩:=q;obtain ⟨v,rfl,hy,hcur2,hg2⟩:=h.some_ hl;obtain ⟨a1,c1,rfl⟩:=hy.shape;have HY:=aH hy;have HL:=aH hl;have m0:=hg2.box (show ¬w.heap.size=nb by omega) p0;have m1:=hg2.box (show ¬w.heap.size=nb by omega) p1;have m2:=hg2.box (show ¬w.heap.size=nb by omega) p2;have n0:=hg2.boxz (show ¬w.heap.size=nb by omega) p0 y0;have n1:=hg2.boxz (show ¬w.heap.size=nb by omega) p1 y1;have n2:=hg2.boxz (show ¬w.heap.size=nb by omega) p2 y2;have HG2:=aH (HG.out.over hg2 (by omega));have HSec2:=aH (HSec.out.gc hg2 (by omega));have hs2:w1.heap.size≤w2.heap.size:=hg2.size;obtain ⟨⟨s,e0,es⟩,el,e1,e2,ez,e3⟩:=hcur2;clear h hl hy hg2 p0 p1 p2 y0 y1 y2 HC HSec HG ez el;by_cases hr2:r2= []
   · have hse:s=⟨#[]⟩:=by
      have:s.data.toList= []:=es.trans hr2
      cases s with|mk d=>simp at this;rw [this]
     subst hse;have HF:Hid (ai 1 (aM ar) (t.drop p)=some (y,r)):=aH (by rw [HE.out];simp only [a_,HL.out,hr2]);clear es hr2 HE HL;go_wp2
     go_region_held3 (fun w'=>w'.cell? ⟨nb,0,none⟩=some (.string ⟨#[]⟩)∧w'.cell? ⟨nb,1,none⟩=some (.int .i64 2)∧w'.cell? ⟨nb,3,none⟩=some (.int .i64 (p:Int))∧w'.cell? ⟨nb,2,none⟩=some (.int .i64 0)) (first|go_keep|(refine ⟨?_,?_,?_,?_⟩<;>exact hg'.cell (by assumption) (by simp))) (first|(go_at_call 32;refine (aP _ _ _).mono ?_;rintro e w' ⟨rfl,hg'⟩))
     have hgx:=Gr.trans (Gr.drew (Gr.refl _)) hg';have k0:=hgx.cell m0 (by simp);have k1:=hgx.cell m1 (by simp);have k2:=hgx.cell m2 (by simp);have f0:=cB hgx m0 n0;have f1:=cB hgx m1 n1;have f2:=cB hgx m2 n2;have g1:=hgx.cell e1 (by simp);have g2:=hgx.cell e2 (by simp);have g3:=hgx.cell e3 (by simp);have HY3:=aH (HY.out.kp hgx.kp);have HG3:=aH (Gc.trans_ HG2.out hgx.toGc);have HSec3:=aH (HSec2.out.gc (hgx.toGc (cb:=nb)) (by omega));have hn:¬w.heap.size=nb:=by omega
     have hn':¬nb=w.heap.size:=by omega
     have hs3:w1.heap.size≤w'.heap.size:=Nat.le_trans hs2 hgx.size;clear hg' hgx m0 m1 m2 n0 n1 n2 e0 e1 e2 e3 HY HG2 HSec2;generalize w'=W3 at k0 k1 k2 f0 f1 f2 g1 g2 g3 HY3 HG3 HSec3 hs3 ⊢;go_wp2
     go_region_held3 (fun w'=>w'.cell? ⟨nb,1,none⟩=some (.int .i64 2)∧w'.cell? ⟨nb,3,none⟩=some (.int .i64 (p:Int))∧w'.cell? ⟨nb,2,none⟩=some (.int .i64 0)) (go_keep) (fail)
     have t0:(((W3.setCell ⟨w.heap.size,0,none⟩ (.int .i64 2)).setCell ⟨w.heap.size,1,none⟩ (.int .i64 0)).setCell ⟨w.heap.size,2,none⟩ (.int .i64 (p:Int))).drew.cell? ⟨w.heap.size,0,none⟩=some (.int .i64 2):=(aJ (w:=((W3.setCell ⟨w.heap.size,0,none⟩ (.int .i64 2)).setCell ⟨w.heap.size,1,none⟩ (.int .i64 0))) (by omega)).trans ((aJ (w:=(W3.setCell ⟨w.heap.size,0,none⟩ (.int .i64 2))) (by omega)).trans (World.cell?_setCell_same W3 _ _ k0));have t1:(((W3.setCell ⟨w.heap.size,0,none⟩ (.int .i64 2)).setCell ⟨w.heap.size,1,none⟩ (.int .i64 0)).setCell ⟨w.heap.size,2,none⟩ (.int .i64 (p:Int))).drew.cell? ⟨w.heap.size,1,none⟩=some (.int .i64 0):=(aJ (w:=((W3.setCell ⟨w.heap.size,0,none⟩ (.int .i64 2)).setCell ⟨w.heap.size,1,none⟩ (.int .i64 0))) (by omega)).trans (World.cell?_setCell_same (W3.setCell ⟨w.heap.size,0,none⟩ (.int .i64 2)) _ _ ((aJ (by omega)).trans k1));have t2:(((W3.setCell ⟨w.heap.size,0,none⟩ (.int .i64 2)).setCell ⟨w.heap.size,1,none⟩ (.int .i64 0)).setCell ⟨w.heap.size,2,none⟩ (.int .i64 (p:Int))).drew.cell? ⟨w.heap.size,2,none⟩=some (.int .i64 (p:Int)):=World.cell?_setCell_same ((W3.setCell ⟨w.heap.size,0,none⟩ (.int .i64 2)).setCell ⟨w.heap.size,1,none⟩ (.int .i64 0)) _ _ ((aJ (w:=(W3.setCell ⟨w.heap.size,0,none⟩ (.int .i64 2))) (by omega)).trans ((aJ (by omega)).trans k2));have HY4:Hid (cR B (((W3.setCell ⟨w.heap.size,0,none⟩ (.int .i64 2)).setCell ⟨w.heap.size,1,none⟩ (.int .i64 0)).setCell ⟨w.heap.size,2,none⟩ (.int .i64 (p:Int))).drew (.slice a1 y.length c1) y):=aH (((((HY3.out.kp (aN (o:=0) (v:=.int .i64 2) hs1)).kp (aN (o:=1) (v:=.int .i64 0) hs1)).kp (aN (o:=2) (v:=.int .i64 (p:Int)) hs1)).kp (Gr.drew (Gr.refl _)).kp).mono (by omega));have HSec4:Hid (kr (((W3.setCell ⟨w.heap.size,0,none⟩ (.int .i64 2)).setCell ⟨w.heap.size,1,none⟩ (.int .i64 0)).setCell ⟨w.heap.size,2,none⟩ (.int .i64 (p:Int))).drew sb t (t.length - r.length)):=aH (((((HSec3.out.set (g:=w.heap.size) (o:=0) (v:=.int .i64 2) (by omega)).set (g:=w.heap.size) (o:=1) (v:=.int .i64 0) (by omega)).set (g:=w.heap.size) (o:=2) (v:=.int .i64 (p:Int)) (by omega))).gc (cb:=w.heap.size) (Gr.drew (Gr.refl _)).toGc (by omega))
     have HG4:=aH (jy (v:=.int .i64 2) (v':=.int .i64 0) (v2:=.int .i64 (p:Int)) HG3.out (Nat.le_refl _));generalize (((W3.setCell ⟨w.heap.size,0,none⟩ (.int .i64 2)).setCell ⟨w.heap.size,1,none⟩ (.int .i64 0)).setCell ⟨w.heap.size,2,none⟩ (.int .i64 (p:Int))).drew=W4 at t0 t1 t2 HY4 HSec4 HG4 ⊢;clear k0 k1 k2 f0 f1 f2 g1 g2 g3 HY3 HG3 HSec3;go_wp2
     exact bodyPost_ret (v:=.tuple #[.slice a1 y.length c1,.agg #[.int .i64 2,.int .i64 0,.int .i64 (p:Int)]]) (by simp [results,Tryz.results89,go_sem,t0,t1,t2]) rfl (by rw [HF.out];exact ⟨_,rfl,HY4.out,HSec4.out,HG4.out⟩)
   · have hbl:s.toList.isEmpty=false:=by
      rw [ByteArray.toList_eq,es];cases r2 with
      | nil=>exact absurd rfl hr2
      | cons b l=>rfl
     have HF:Hid (ai 1 (aM ar) (t.drop p)=none):=aH (by
      rw [HE.out];cases r2 with
      | nil=>exact absurd rfl hr2
      | cons b l=>simp only [a_,HL.out])
     clear es hr2 HE HL;go_wp2
     go_region_with (first|(go_at_call 32;refine (aV _ _ _).mono ?_;rintro e w' ⟨rfl,hg'⟩;refine aQ ?_))
     all_goals exact ⟨rfl,by rw [HF.out];exact ⟨rfl,HG2.out.trans (Gr.trans (Gr.drew (Gr.refl w2)) hg').toGc⟩⟩
end Go.Proofs.YtkgncijcnlfhiaaGreat
