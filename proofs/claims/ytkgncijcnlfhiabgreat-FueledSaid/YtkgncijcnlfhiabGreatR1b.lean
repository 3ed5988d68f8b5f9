import Derived.Test.YtkgncijcnlfhiabGreatS1
import Derived.Test.YtkgncijcnlfhiabGreatQ3
import Derived.Test.YtkgncijcnlfhiabGreatE1
namespace Go.Proofs.YtkgncijcnlfhiabGreat
set_option maxRecDepth 100000
set_option maxHeartbeats 2000000
set_option linter.unusedVariables false
set_option linter.unusedSimpArgs false
open Go.RowKit
attribute [local go_sem ↓] Go.wp_at_zero Go.wp_at_succ
theorem Tryz.rinfo_rlist_func:(Tryz.prog.info? 47).map (fun i=>(i.zero,i.size,i.bytes))=some (some (Value.agg #[.slice none 0 0,.int .i64 0,.slice none 0 0,.slice none 0 0]),4,80):=Q7
theorem sJ(cb B:Nat)(r:List UInt8)(e a:Int)(w:World)(hc:io w cb r e a)(hb:cb < B)(hB:B<=w.heap.size):
 Calls Tryz.prog 116 #[.pointer (some ⟨cb,0,none⟩),.func (.func 75) #[] #[]] w (nV cb e a w (fun w' v (y:List aO)=>dR B w' v y) (aM bI r)):=by
 have HC:=aH hc;clear hc;go_enter Tryz.func116,Tryz.ntmps116
 go_wp2_with fail
 refine (dB cb r e a _ HC.out).mono ?_;intro x w1 h;cases hn:bC 0 0 r with
 | none=>
  obtain ⟨rfl,hg⟩:=h.none_ hn;exact ⟨rfl,by unfold aM;rw [hn];exact ⟨rfl,hg⟩⟩
 | some p=>
  obtain ⟨n,r1⟩:=p;obtain ⟨v,rfl,rfl,G0,hg⟩:=h.some_ hn;have I1:=aH hg;have E6:=aH G0;obtain ⟨⟨s,h0,hs⟩,hl,h1,h2,hz,hj⟩:=G0;have R0:s.size=r1.length:=by rw [<-hs,Array.length_toList];rfl
  have Mf:s.size<=1000000:=Q5
  have S3:IntKind.u64.wrap (s.size:Int)=s.size:=Go.IntWalk.u64_in _ Q5;by_cases hle:n<=r1.length
  · have HE:Hid (aM bI r=fT bI n r1):=aH (by unfold aM;rw [hn];simp only [if_pos hle]);have hd:(n:Int)<=(s.size:Int):=by omega
    have RC:n<=1000000:=Q5
    clear h hg hn hs hl hz R0 hle;go_wp2
    go_region_held3 (fun w'=>w'.cell? ⟨cb,0,none⟩=some (.string s)/\w'.cell? ⟨cb,1,none⟩=some (.int .i64 e)/\w'.cell? ⟨cb,3,none⟩=some (.int .i64 a)/\w'.cell? ⟨cb,2,none⟩=some (.int .i64 0)) (first|go_keep|(refine ⟨?_,?_,?_,?_⟩<;>exact D0.cell Q8 Q6)) (first|(go_at_call 64;refine (aP _ _ _).mono ?_;rintro e w' ⟨rfl,D0⟩))
    have O3:=aH (E6.out.gr (Gr.trans (Gr.drew (Gr.refl w1)) D0));have O0:=aH (I1.out.trans (Gr.trans (Gr.drew (Gr.refl w1)) D0).toGc);clear D0 h0 h1 h2 hj E6 I1 Mf S3 hd;obtain ⟨i0,hi,O6,N5,D5⟩:=info_parts Tryz.rinfo_rlist_func;obtain ⟨M,hM⟩:∃M,M=madeCells (Value.agg #[.slice none 0 0,.int .i64 0,.slice none 0 0,.slice none 0 0]).cells ((n:Int).toNat * i0.size):=⟨_,rfl⟩;have Ed:M.size=n * 4:=by rw [hM,size_madeCells,N5];simp
    have Rc:∀V:World,(Instr.makeSlice 25 (.int .u64 (n:Int)) (.int .u64 (n:Int))).run Tryz.prog V=.ok (.slice (some ⟨V.heap.size,0,none⟩) n n) (V.alloc (.cells M 47)):=by
     intro V;have h:=run_make (P:=Tryz.prog) V 25 47 i0 (Value.agg #[.slice none 0 0,.int .i64 0,.slice none 0 0,.slice none 0 0]) Tryz.underlying25 hi O6 .u64 .u64 (n:Int) (n:Int) Q5 Q5 (by rw [D5];omega) Q5;rw [<-hM] at h;simpa using h
    have HM:=aH Ed;clear hM Ed hi O6 N5 D5;go_wp2
    have Ec:B<=w'.heap.size:=Nat.le_trans hB O0.out.size;have O7:w.heap.size<=w'.heap.size:=O0.out.size;go_loopw [27] (fun i wr=>∃(k:Nat) (ys:List aO) (rk:List UInt8),k<=n/\i=.int .i64 k/\ys.length=k/\io wr cb rk e a/\Gc cb w wr/\fT bI n r1=iR ys (fT bI (n - k) rk)/\w'.heap.size < wr.heap.size/\(∀j,j < n * 4->(∃x,wr.cell? ⟨w'.heap.size,j,none⟩=some x)/\wr.frozen? ⟨w'.heap.size,j,none⟩=false)/\∀j y,ys[j]? =some y->(∃vp vl vc,wr.cell? ⟨w'.heap.size,j * 4,none⟩=some vp/\wr.cell? ⟨w'.heap.size,j * 4+1,none⟩=some (.int .i64 y.result)/\wr.cell? ⟨w'.heap.size,j * 4+2,none⟩=some vl/\wr.cell? ⟨w'.heap.size,j * 4+3,none⟩=some vc/\be (w'.heap.size+1) wr vp y.aF/\be (w'.heap.size+1) wr vl y.aG/\ea (w'.heap.size+1) wr vc y.code)) (fun i _=>n - (intOf i).toNat)
    case atStart=>
     refine ⟨0,[],r1,Nat.zero_le _,rfl,rfl,O3.out.gr ((Gr.refl _).alloc _),O0.out.trans ((Gr.refl _).alloc _).toGc,by rw [g_];rfl,Q6,fun j hj=>?_,fun j y hy=>by simp at hy⟩;exact iw w' M 47 j (by rw [HM.out];exact hj)
    case round=>
     obtain ⟨k,ys,rk,hk,rfl,I4,G0,hgc,Ga,R0,T1,S9⟩:=hrel;have HN:=aH Ga;have Sd:=aH S9;have S_:=aH T1;have HG3:=aH hgc;have P6:=aH G0;have Td:=aH I4;clear Ga S9 T1 hgc G0 O3 O0 I4 Rc;by_cases J0:k < n
     · obtain ⟨m,hm⟩:∃m,n - k=m+1:=⟨n - k - 1,Q5⟩;have R9:=aH hm;clear hm;go_wp2_with fail
       refine (vQ cb (w'.heap.size+1) rk e a _ P6.out Q5 Q5).mono ?_;intro x w4 h;cases hf:bI rk with
       | none=>
        obtain ⟨rfl,hg⟩:=h.none_ hf;exact ⟨rfl,by rw [HE.out,HN.out,R9.out,fg hf];exact ⟨rfl,HG3.out.trans hg⟩⟩
       | some p=>
        obtain ⟨y,r4⟩:=p;obtain ⟨v,rfl,hy,G0,hg⟩:=h.some_ hf;have G':Hid (fT bI n r1=iR (ys++ [y]) (fT bI (n - (k+1)) r4)):=aH (by rw [HN.out,R9.out,fd hf,show n - (k+1)=m by have:=R9.out;omega]);have T_:Kp (w'.heap.size) wr w4:=hg.kp Q5;have Y8:w'.heap.size < w4.heap.size:=Nat.lt_of_lt_of_le R0 hg.size;have S2:Hid (∀j,j < n * 4->(∃x,w4.cell? ⟨w'.heap.size,j,none⟩=some x)/\w4.frozen? ⟨w'.heap.size,j,none⟩=false):=aH (gl S_.out T_ R0);have V7:=aH G0;have O1:=aH (HG3.out.trans hg);have Ja:=aH T_;have HY:=aH hy;clear h hf G0 T_;obtain ⟨vp,vl,vc,hv,hp,hl,Qq⟩:=HY.out;obtain ⟨pp,cp,Qd⟩:=hp.shape;obtain ⟨pl,cl,Om⟩:=hl.shape;obtain ⟨pc,cc,hpc⟩:=Qq.shape;subst Qd;subst Om;subst hpc;subst hv;have HP:=aH hp;have HL:=aH hl;have ZC:=aH Qq;clear hp hl Qq;obtain ⟨⟨x0,Ph⟩,O6⟩:=S2.out (k * 4) Q5;obtain ⟨⟨x1,hx1⟩,N5⟩:=S2.out (k * 4+1) Q5;obtain ⟨⟨x2,Gf⟩,D5⟩:=S2.out (k * 4+2) Q5;obtain ⟨⟨x3,Wv⟩,hz3⟩:=S2.out (k * 4+3) Q5;have SC:(0:Int)<=(k:Int):=Q5
        have Xk:(k:Int) < (n:Int):=Q5
        clear hg hy;go_wp2
        go_roundw
        case rel=>
         have I4:=Td.out;refine ⟨k+1,ys++ [y],r4,Q5,by go_num,by simp [I4],ad (ad (ad (ad (V7.out) Q5) Q5) Q5) Q5,aT (aT (aT (aT (O1.out) O7) O7) O7) O7,G'.out,by simpa using Y8,da (da (da (da (S2.out)))),fun j z hj=>?_⟩;rcases ir hj with ⟨h1,h2⟩|⟨h1,h2⟩
         · obtain ⟨vp,vl,vc,q0,q1,q2,q3,s1,s2,s3⟩:=Sd.out j z h1;exact ⟨vp,vl,vc,by rw [aI Q5,aI Q5,aI Q5,aI Q5];exact Ja.out.cell (Nat.le_refl _) q0,by rw [aI Q5,aI Q5,aI Q5,aI Q5];exact Ja.out.cell (Nat.le_refl _) q1,by rw [aI Q5,aI Q5,aI Q5,aI Q5];exact Ja.out.cell (Nat.le_refl _) q2,by rw [aI Q5,aI Q5,aI Q5,aI Q5];exact Ja.out.cell (Nat.le_refl _) q3,((((s1.kp (Ja.out.mono Q5)).kp (Kp.set _ Q5)).kp (Kp.set _ Q5)).kp (Kp.set _ Q5)).kp (Kp.set _ Q5),((((s2.kp (Ja.out.mono Q5)).kp (Kp.set _ Q5)).kp (Kp.set _ Q5)).kp (Kp.set _ Q5)).kp (Kp.set _ Q5),((((s3.kp (Ja.out.mono Q5)).kp (Kp.set _ Q5)).kp (Kp.set _ Q5)).kp (Kp.set _ Q5)).kp (Kp.set _ Q5)⟩
         · subst h1;subst h2;rw [I4];exact ⟨_,_,_,by rw [aI Q5,aI Q5,aI Q5];exact World.cell?_setCell_same _ _ _ (Ph),by rw [aI Q5,aI Q5];exact World.cell?_setCell_same _ _ _ ((aI Q5).trans (hx1)),by rw [aI Q5];exact World.cell?_setCell_same _ _ _ ((aI Q5).trans ((aI Q5).trans (Gf))),by exact World.cell?_setCell_same _ _ _ ((aI Q5).trans ((aI Q5).trans ((aI Q5).trans (Wv)))),((((HP.out).kp (Kp.set _ Q5)).kp (Kp.set _ Q5)).kp (Kp.set _ Q5)).kp (Kp.set _ Q5),((((HL.out).kp (Kp.set _ Q5)).kp (Kp.set _ Q5)).kp (Kp.set _ Q5)).kp (Kp.set _ Q5),((((ZC.out).kp (Kp.set _ Q5)).kp (Kp.set _ Q5)).kp (Kp.set _ Q5)).kp (Kp.set _ Q5)⟩
        case measure=>simp [intOf];omega
     · have P7:k=n:=by omega
       subst P7;have V_:Hid (aM bI r=some (ys,rk)):=aH (by rw [HE.out,HN.out,Nat.sub_self,iB]);go_wp2
       go_ret
       rw [V_.out];refine ⟨_,rfl,?_,P6.out,HG3.out⟩;have I4:=Td.out;show dR B wr (.slice (some ⟨w'.heap.size,0,none⟩) k k) ys
       refine ⟨some ⟨w'.heap.size,0,none⟩,k,by rw [I4],by unfold maxLen;omega,fun i y hi=>?_⟩;have hq:=Sd.out i y hi;obtain ⟨vp,vl,vc,q0,q1,q2,q3,s1,s2,s3⟩:=hq;exact ⟨w'.heap.size,0,vp,vl,vc,rfl,Ec,by rw [Nat.zero_add];exact q0,by rw [Nat.zero_add];exact q1,by rw [Nat.zero_add];exact q2,by rw [Nat.zero_add];exact q3,s1.mono Q5,s2.mono Q5,s3.mono Q5⟩
  · have HE:Hid (aM bI r=none):=aH (by unfold aM;rw [hn];simp only [if_neg hle]);have hd:decide (n<=s.size)=false:=by rw [decide_eq_false_iff_not];omega
    clear h hg hn hs hl hz R0 hle;go_wp2
    go_region_with (first|(go_at_call 64;refine (aV _ _ _).mono ?_;rintro e w' ⟨rfl,D0⟩;refine aR ?_))
    all_goals exact ⟨rfl,by rw [HE.out];exact ⟨rfl,I1.out.trans (Gr.trans (Gr.drew (Gr.refl w1)) D0).toGc⟩⟩
theorem Tryz.rinfo_rlist_imp:(Tryz.prog.info? 71).map (fun i=>(i.zero,i.size,i.bytes))=some (some (Value.agg #[.string ⟨#[]⟩,.slice none 0 0,.int .i64 0]),3,48):=Q7
theorem uy(cb B:Nat)(r:List UInt8)(e a:Int)(w:World)(hc:io w cb r e a)(hb:cb < B)(hB:B<=w.heap.size):
 Calls Tryz.prog 119 #[.pointer (some ⟨cb,0,none⟩),.func (.func 77) #[] #[]] w (nV cb e a w (fun w' v (y:List fK)=>b6 B w' v y) (aM cN r)):=by
 have HC:=aH hc;clear hc;go_enter Tryz.func119,Tryz.ntmps119
 go_wp2_with fail
 refine (dB cb r e a _ HC.out).mono ?_;intro x w1 h;cases hn:bC 0 0 r with
 | none=>
  obtain ⟨rfl,hg⟩:=h.none_ hn;exact ⟨rfl,by unfold aM;rw [hn];exact ⟨rfl,hg⟩⟩
 | some p=>
  obtain ⟨n,r1⟩:=p;obtain ⟨v,rfl,rfl,G0,hg⟩:=h.some_ hn;have I1:=aH hg;have E6:=aH G0;obtain ⟨⟨s,h0,hs⟩,hl,h1,h2,hz,hj⟩:=G0;have R0:s.size=r1.length:=by rw [<-hs,Array.length_toList];rfl
  have Mf:s.size<=1000000:=Q5
  have S3:IntKind.u64.wrap (s.size:Int)=s.size:=Go.IntWalk.u64_in _ Q5;by_cases hle:n<=r1.length
  · have HE:Hid (aM cN r=fT cN n r1):=aH (by unfold aM;rw [hn];simp only [if_pos hle]);have hd:(n:Int)<=(s.size:Int):=by omega
    have RC:n<=1000000:=Q5
    clear h hg hn hs hl hz R0 hle;go_wp2
    go_region_held3 (fun w'=>w'.cell? ⟨cb,0,none⟩=some (.string s)/\w'.cell? ⟨cb,1,none⟩=some (.int .i64 e)/\w'.cell? ⟨cb,3,none⟩=some (.int .i64 a)/\w'.cell? ⟨cb,2,none⟩=some (.int .i64 0)) (first|go_keep|(refine ⟨?_,?_,?_,?_⟩<;>exact D0.cell Q8 Q6)) (first|(go_at_call 64;refine (aP _ _ _).mono ?_;rintro e w' ⟨rfl,D0⟩))
    have O3:=aH (E6.out.gr (Gr.trans (Gr.drew (Gr.refl w1)) D0));have O0:=aH (I1.out.trans (Gr.trans (Gr.drew (Gr.refl w1)) D0).toGc);clear D0 h0 h1 h2 hj E6 I1 Mf S3 hd;obtain ⟨i0,hi,O6,N5,D5⟩:=info_parts Tryz.rinfo_rlist_imp;obtain ⟨M,hM⟩:∃M,M=madeCells (Value.agg #[.string ⟨#[]⟩,.slice none 0 0,.int .i64 0]).cells ((n:Int).toNat * i0.size):=⟨_,rfl⟩;have Ed:M.size=n * 3:=by rw [hM,size_madeCells,N5];simp
    have Rc:∀V:World,(Instr.makeSlice 26 (.int .u64 (n:Int)) (.int .u64 (n:Int))).run Tryz.prog V=.ok (.slice (some ⟨V.heap.size,0,none⟩) n n) (V.alloc (.cells M 71)):=by
     intro V;have h:=run_make (P:=Tryz.prog) V 26 71 i0 (Value.agg #[.string ⟨#[]⟩,.slice none 0 0,.int .i64 0]) Tryz.underlying26 hi O6 .u64 .u64 (n:Int) (n:Int) Q5 Q5 (by rw [D5];omega) Q5;rw [<-hM] at h;simpa using h
    have HM:=aH Ed;clear hM Ed hi O6 N5 D5;go_wp2
    have Ec:B<=w'.heap.size:=Nat.le_trans hB O0.out.size;have O7:w.heap.size<=w'.heap.size:=O0.out.size;go_loopw [27] (fun i wr=>∃(k:Nat) (ys:List fK) (rk:List UInt8),k<=n/\i=.int .i64 k/\ys.length=k/\io wr cb rk e a/\Gc cb w wr/\fT cN n r1=iR ys (fT cN (n - k) rk)/\w'.heap.size < wr.heap.size/\(∀j,j < n * 3->(∃x,wr.cell? ⟨w'.heap.size,j,none⟩=some x)/\wr.frozen? ⟨w'.heap.size,j,none⟩=false)/\∀j y,ys[j]? =some y->(∃vs vp,wr.cell? ⟨w'.heap.size,j * 3,none⟩=some vs/\wr.cell? ⟨w'.heap.size,j * 3+1,none⟩=some vp/\wr.cell? ⟨w'.heap.size,j * 3+2,none⟩=some (.int .i64 y.result)/\ei vs y.name/\be (w'.heap.size+1) wr vp y.aF)) (fun i _=>n - (intOf i).toNat)
    case atStart=>
     refine ⟨0,[],r1,Nat.zero_le _,rfl,rfl,O3.out.gr ((Gr.refl _).alloc _),O0.out.trans ((Gr.refl _).alloc _).toGc,by rw [g_];rfl,Q6,fun j hj=>?_,fun j y hy=>by simp at hy⟩;exact iw w' M 71 j (by rw [HM.out];exact hj)
    case round=>
     obtain ⟨k,ys,rk,hk,rfl,I4,G0,hgc,Ga,R0,T1,S9⟩:=hrel;have HN:=aH Ga;have Sd:=aH S9;have S_:=aH T1;have HG3:=aH hgc;have P6:=aH G0;have Td:=aH I4;clear Ga S9 T1 hgc G0 O3 O0 I4 Rc;by_cases J0:k < n
     · obtain ⟨m,hm⟩:∃m,n - k=m+1:=⟨n - k - 1,Q5⟩;have R9:=aH hm;clear hm;go_wp2_with fail
       refine (xr cb (w'.heap.size+1) rk e a _ P6.out Q5 Q5).mono ?_;intro x w4 h;cases hf:cN rk with
       | none=>
        obtain ⟨rfl,hg⟩:=h.none_ hf;exact ⟨rfl,by rw [HE.out,HN.out,R9.out,fg hf];exact ⟨rfl,HG3.out.trans hg⟩⟩
       | some p=>
        obtain ⟨y,r4⟩:=p;obtain ⟨v,rfl,hy,G0,hg⟩:=h.some_ hf;have G':Hid (fT cN n r1=iR (ys++ [y]) (fT cN (n - (k+1)) r4)):=aH (by rw [HN.out,R9.out,fd hf,show n - (k+1)=m by have:=R9.out;omega]);have T_:Kp (w'.heap.size) wr w4:=hg.kp Q5;have Y8:w'.heap.size < w4.heap.size:=Nat.lt_of_lt_of_le R0 hg.size;have S2:Hid (∀j,j < n * 3->(∃x,w4.cell? ⟨w'.heap.size,j,none⟩=some x)/\w4.frozen? ⟨w'.heap.size,j,none⟩=false):=aH (gl S_.out T_ R0);have V7:=aH G0;have O1:=aH (HG3.out.trans hg);have Ja:=aH T_;have HY:=aH hy;clear h hf G0 T_;obtain ⟨vs,vp,hv,ht,hp⟩:=HY.out;obtain ⟨pp,cp,Qd⟩:=hp.shape;have HT:=aH ht;obtain ⟨st,T0,Me,Z8⟩:=ht;subst Qd;subst T0;subst hv;have HP:=aH hp;clear hp Me Z8;obtain ⟨⟨x0,Ph⟩,O6⟩:=S2.out (k * 3) Q5;obtain ⟨⟨x1,hx1⟩,N5⟩:=S2.out (k * 3+1) Q5;obtain ⟨⟨x2,Gf⟩,D5⟩:=S2.out (k * 3+2) Q5;have SC:(0:Int)<=(k:Int):=Q5
        have Xk:(k:Int) < (n:Int):=Q5
        clear hg hy;go_wp2
        go_roundw
        case rel=>
         have I4:=Td.out;refine ⟨k+1,ys++ [y],r4,Q5,by go_num,by simp [I4],ad (ad (ad (V7.out) Q5) Q5) Q5,aT (aT (aT (O1.out) O7) O7) O7,G'.out,by simpa using Y8,da (da (da (S2.out))),fun j z hj=>?_⟩;rcases ir hj with ⟨h1,h2⟩|⟨h1,h2⟩
         · obtain ⟨vs,vp,q0,q1,q2,s0,s1⟩:=Sd.out j z h1;exact ⟨vs,vp,by rw [aI Q5,aI Q5,aI Q5];exact Ja.out.cell (Nat.le_refl _) q0,by rw [aI Q5,aI Q5,aI Q5];exact Ja.out.cell (Nat.le_refl _) q1,by rw [aI Q5,aI Q5,aI Q5];exact Ja.out.cell (Nat.le_refl _) q2,s0,(((s1.kp (Ja.out.mono Q5)).kp (Kp.set _ Q5)).kp (Kp.set _ Q5)).kp (Kp.set _ Q5)⟩
         · subst h1;subst h2;rw [I4];exact ⟨_,_,by rw [aI Q5,aI Q5];exact World.cell?_setCell_same _ _ _ (Ph),by rw [aI Q5];exact World.cell?_setCell_same _ _ _ ((aI Q5).trans (hx1)),by exact World.cell?_setCell_same _ _ _ ((aI Q5).trans ((aI Q5).trans (Gf))),HT.out,(((HP.out).kp (Kp.set _ Q5)).kp (Kp.set _ Q5)).kp (Kp.set _ Q5)⟩
        case measure=>simp [intOf];omega
     · have P7:k=n:=by omega
       subst P7;have V_:Hid (aM cN r=some (ys,rk)):=aH (by rw [HE.out,HN.out,Nat.sub_self,iB]);go_wp2
       go_ret
       rw [V_.out];refine ⟨_,rfl,?_,P6.out,HG3.out⟩;have I4:=Td.out;show b6 B wr (.slice (some ⟨w'.heap.size,0,none⟩) k k) ys
       refine ⟨some ⟨w'.heap.size,0,none⟩,k,by rw [I4],by unfold maxLen;omega,fun i y hi=>?_⟩;have hq:=Sd.out i y hi;obtain ⟨vs,vp,q0,q1,q2,s0,s1⟩:=hq;exact ⟨w'.heap.size,0,vs,vp,rfl,Ec,by rw [Nat.zero_add];exact q0,by rw [Nat.zero_add];exact q1,by rw [Nat.zero_add];exact q2,s0,s1.mono Q5⟩
  · have HE:Hid (aM cN r=none):=aH (by unfold aM;rw [hn];simp only [if_neg hle]);have hd:decide (n<=s.size)=false:=by rw [decide_eq_false_iff_not];omega
    clear h hg hn hs hl hz R0 hle;go_wp2
    go_region_with (first|(go_at_call 64;refine (aV _ _ _).mono ?_;rintro e w' ⟨rfl,D0⟩;refine aR ?_))
    all_goals exact ⟨rfl,by rw [HE.out];exact ⟨rfl,I1.out.trans (Gr.trans (Gr.drew (Gr.refl w1)) D0).toGc⟩⟩
theorem Tryz.rinfo_rlist_exp:(Tryz.prog.info? 60).map (fun i=>(i.zero,i.size,i.bytes))=some (some (Value.agg #[.string ⟨#[]⟩,.int .i64 0]),2,24):=Q7
theorem uu(cb B:Nat)(r:List UInt8)(e a:Int)(w:World)(hc:io w cb r e a)(hb:cb < B)(hB:B<=w.heap.size):
 Calls Tryz.prog 121 #[.pointer (some ⟨cb,0,none⟩),.func (.func 79) #[] #[]] w (nV cb e a w (fun w' v (y:List dq)=>bz B w' v y) (aM cT r)):=by
 have HC:=aH hc;clear hc;go_enter Tryz.func121,Tryz.ntmps121
 go_wp2_with fail
 refine (dB cb r e a _ HC.out).mono ?_;intro x w1 h;cases hn:bC 0 0 r with
 | none=>
  obtain ⟨rfl,hg⟩:=h.none_ hn;exact ⟨rfl,by unfold aM;rw [hn];exact ⟨rfl,hg⟩⟩
 | some p=>
  obtain ⟨n,r1⟩:=p;obtain ⟨v,rfl,rfl,G0,hg⟩:=h.some_ hn;have I1:=aH hg;have E6:=aH G0;obtain ⟨⟨s,h0,hs⟩,hl,h1,h2,hz,hj⟩:=G0;have R0:s.size=r1.length:=by rw [<-hs,Array.length_toList];rfl
  have Mf:s.size<=1000000:=Q5
  have S3:IntKind.u64.wrap (s.size:Int)=s.size:=Go.IntWalk.u64_in _ Q5;by_cases hle:n<=r1.length
  · have HE:Hid (aM cT r=fT cT n r1):=aH (by unfold aM;rw [hn];simp only [if_pos hle]);have hd:(n:Int)<=(s.size:Int):=by omega
    have RC:n<=1000000:=Q5
    clear h hg hn hs hl hz R0 hle;go_wp2
    go_region_held3 (fun w'=>w'.cell? ⟨cb,0,none⟩=some (.string s)/\w'.cell? ⟨cb,1,none⟩=some (.int .i64 e)/\w'.cell? ⟨cb,3,none⟩=some (.int .i64 a)/\w'.cell? ⟨cb,2,none⟩=some (.int .i64 0)) (first|go_keep|(refine ⟨?_,?_,?_,?_⟩<;>exact D0.cell Q8 Q6)) (first|(go_at_call 64;refine (aP _ _ _).mono ?_;rintro e w' ⟨rfl,D0⟩))
    have O3:=aH (E6.out.gr (Gr.trans (Gr.drew (Gr.refl w1)) D0));have O0:=aH (I1.out.trans (Gr.trans (Gr.drew (Gr.refl w1)) D0).toGc);clear D0 h0 h1 h2 hj E6 I1 Mf S3 hd;obtain ⟨i0,hi,O6,N5,D5⟩:=info_parts Tryz.rinfo_rlist_exp;obtain ⟨M,hM⟩:∃M,M=madeCells (Value.agg #[.string ⟨#[]⟩,.int .i64 0]).cells ((n:Int).toNat * i0.size):=⟨_,rfl⟩;have Ed:M.size=n * 2:=by rw [hM,size_madeCells,N5];simp
    have Rc:∀V:World,(Instr.makeSlice 27 (.int .u64 (n:Int)) (.int .u64 (n:Int))).run Tryz.prog V=.ok (.slice (some ⟨V.heap.size,0,none⟩) n n) (V.alloc (.cells M 60)):=by
     intro V;have h:=run_make (P:=Tryz.prog) V 27 60 i0 (Value.agg #[.string ⟨#[]⟩,.int .i64 0]) Tryz.underlying27 hi O6 .u64 .u64 (n:Int) (n:Int) Q5 Q5 (by rw [D5];omega) Q5;rw [<-hM] at h;simpa using h
    have HM:=aH Ed;clear hM Ed hi O6 N5 D5;go_wp2
    have Ec:B<=w'.heap.size:=Nat.le_trans hB O0.out.size;have O7:w.heap.size<=w'.heap.size:=O0.out.size;go_loopw [27] (fun i wr=>∃(k:Nat) (ys:List dq) (rk:List UInt8),k<=n/\i=.int .i64 k/\ys.length=k/\io wr cb rk e a/\Gc cb w wr/\fT cT n r1=iR ys (fT cT (n - k) rk)/\w'.heap.size < wr.heap.size/\(∀j,j < n * 2->(∃x,wr.cell? ⟨w'.heap.size,j,none⟩=some x)/\wr.frozen? ⟨w'.heap.size,j,none⟩=false)/\∀j y,ys[j]? =some y->(∃vs,wr.cell? ⟨w'.heap.size,j * 2,none⟩=some vs/\wr.cell? ⟨w'.heap.size,j * 2+1,none⟩=some (.int .i64 y.func)/\ei vs y.name)) (fun i _=>n - (intOf i).toNat)
    case atStart=>
     refine ⟨0,[],r1,Nat.zero_le _,rfl,rfl,O3.out.gr ((Gr.refl _).alloc _),O0.out.trans ((Gr.refl _).alloc _).toGc,by rw [g_];rfl,Q6,fun j hj=>?_,fun j y hy=>by simp at hy⟩;exact iw w' M 60 j (by rw [HM.out];exact hj)
    case round=>
     obtain ⟨k,ys,rk,hk,rfl,I4,G0,hgc,Ga,R0,T1,S9⟩:=hrel;have HN:=aH Ga;have Sd:=aH S9;have S_:=aH T1;have HG3:=aH hgc;have P6:=aH G0;have Td:=aH I4;clear Ga S9 T1 hgc G0 O3 O0 I4 Rc;by_cases J0:k < n
     · obtain ⟨m,hm⟩:∃m,n - k=m+1:=⟨n - k - 1,Q5⟩;have R9:=aH hm;clear hm;go_wp2_with fail
       refine (xY cb (w'.heap.size+1) rk e a _ P6.out Q5 Q5).mono ?_;intro x w4 h;cases hf:cT rk with
       | none=>
        obtain ⟨rfl,hg⟩:=h.none_ hf;exact ⟨rfl,by rw [HE.out,HN.out,R9.out,fg hf];exact ⟨rfl,HG3.out.trans hg⟩⟩
       | some p=>
        obtain ⟨y,r4⟩:=p;obtain ⟨v,rfl,hy,G0,hg⟩:=h.some_ hf;have G':Hid (fT cT n r1=iR (ys++ [y]) (fT cT (n - (k+1)) r4)):=aH (by rw [HN.out,R9.out,fd hf,show n - (k+1)=m by have:=R9.out;omega]);have T_:Kp (w'.heap.size) wr w4:=hg.kp Q5;have Y8:w'.heap.size < w4.heap.size:=Nat.lt_of_lt_of_le R0 hg.size;have S2:Hid (∀j,j < n * 2->(∃x,w4.cell? ⟨w'.heap.size,j,none⟩=some x)/\w4.frozen? ⟨w'.heap.size,j,none⟩=false):=aH (gl S_.out T_ R0);have V7:=aH G0;have O1:=aH (HG3.out.trans hg);have Ja:=aH T_;have HY:=aH hy;clear h hf G0 T_;obtain ⟨vs,hv,ht⟩:=HY.out;have HT:=aH ht;obtain ⟨st,T0,Me,Z8⟩:=ht;subst T0;subst hv;clear Me Z8;obtain ⟨⟨x0,Ph⟩,O6⟩:=S2.out (k * 2) Q5;obtain ⟨⟨x1,hx1⟩,N5⟩:=S2.out (k * 2+1) Q5;have SC:(0:Int)<=(k:Int):=Q5
        have Xk:(k:Int) < (n:Int):=Q5
        clear hg hy;go_wp2
        go_roundw
        case rel=>
         have I4:=Td.out;refine ⟨k+1,ys++ [y],r4,Q5,by go_num,by simp [I4],ad (ad (V7.out) Q5) Q5,aT (aT (O1.out) O7) O7,G'.out,by simpa using Y8,da (da (S2.out)),fun j z hj=>?_⟩;rcases ir hj with ⟨h1,h2⟩|⟨h1,h2⟩
         · obtain ⟨vs,q0,q1,s0⟩:=Sd.out j z h1;exact ⟨vs,by rw [aI Q5,aI Q5];exact Ja.out.cell (Nat.le_refl _) q0,by rw [aI Q5,aI Q5];exact Ja.out.cell (Nat.le_refl _) q1,s0⟩
         · subst h1;subst h2;rw [I4];exact ⟨_,by rw [aI Q5];exact World.cell?_setCell_same _ _ _ (Ph),by exact World.cell?_setCell_same _ _ _ ((aI Q5).trans (hx1)),HT.out⟩
        case measure=>simp [intOf];omega
     · have P7:k=n:=by omega
       subst P7;have V_:Hid (aM cT r=some (ys,rk)):=aH (by rw [HE.out,HN.out,Nat.sub_self,iB]);go_wp2
       go_ret
       rw [V_.out];refine ⟨_,rfl,?_,P6.out,HG3.out⟩;have I4:=Td.out;show bz B wr (.slice (some ⟨w'.heap.size,0,none⟩) k k) ys
       refine ⟨some ⟨w'.heap.size,0,none⟩,k,by rw [I4],by unfold maxLen;omega,fun i y hi=>?_⟩;have hq:=Sd.out i y hi;obtain ⟨vs,q0,q1,s0⟩:=hq;exact ⟨w'.heap.size,0,vs,rfl,Ec,by rw [Nat.zero_add];exact q0,by rw [Nat.zero_add];exact q1,s0⟩
  · have HE:Hid (aM cT r=none):=aH (by unfold aM;rw [hn];simp only [if_neg hle]);have hd:decide (n<=s.size)=false:=by rw [decide_eq_false_iff_not];omega
    clear h hg hn hs hl hz R0 hle;go_wp2
    go_region_with (first|(go_at_call 64;refine (aV _ _ _).mono ?_;rintro e w' ⟨rfl,D0⟩;refine aR ?_))
    all_goals exact ⟨rfl,by rw [HE.out];exact ⟨rfl,I1.out.trans (Gr.trans (Gr.drew (Gr.refl w1)) D0).toGc⟩⟩
open Go.RowKit
attribute [local go_sem ↓] Go.wp_at_zero Go.wp_at_succ
theorem yC(l:List UInt8):(l == [75,73,76,78,1])=decide (l=dg):=by rw [Bool.eq_iff_iff,beq_iff_eq,decide_eq_true_eq];rfl
theorem nZ(s:ByteArray)(w:World)(hs:s.size<=maxLen):
 Calls Tryz.prog 110 #[.string s,.string ⟨#[75,73,76,78,1]⟩] w fun x w'=>x=.returned (.bool (decide (s.data.toList.take 5=dg)))/\w'=w:=by
 unfold maxLen at hs;by_cases h5:5<=s.size
 · have hd:(5:Int)<=(s.size:Int):=by omega
   have Lf:decide ((5:Int)<=(s.size:Int))=true:=by simpa using hd
   have hex:=mQ s 5;go_enter Tryz.func110,Tryz.ntmps110
   go_wp2
   go_ret
   exact ⟨by rw [<-yC];rfl,rfl⟩
 · have Lf:decide ((5:Int)<=(s.size:Int))=false:=by rw [decide_eq_false_iff_not];omega
   have hl:s.data.toList.length=s.size:=by rw [Array.length_toList];rfl
   go_enter Tryz.func110,Tryz.ntmps110
   go_wp2
   go_ret
   have hf:decide (s.data.toList.take 5=dg)=false:=by
    rw [decide_eq_false_iff_not];intro h;have:=congrArg List.length h
    rw [List.length_take] at this;have hm:dg.length=5:=rfl;omega
   exact ⟨by rw [hf];rfl,rfl⟩
def A_{α:Type}(sb:Nat)(t:List UInt8)(p B:Nat)(w:World)(R:Nat->World->Value->List α->Prop):Option (List α×List UInt8)->Ending->World->Prop
 | some (y,r),x,w'=>∃v,x=.returned (.tuple #[v,.agg #[.int .i64 2,.int .i64 0,.int .i64 (p:Int)]])/\R B w' v y/\ly w' sb t (t.length - r.length)/\Gc sb w w'
 | none,x,w'=>x=.panicked (dM 2 p)/\Gc sb w w'
def eK(K fn:FuncId)(z:Int)(n:Nat){α:Type}(R:Nat->World->Value->List α->Prop)(rd:List UInt8->Option (List α×List UInt8)):Prop:=
 ∀(sb B:Nat) (t:List UInt8) (p:Nat) (w:World),ly w sb t p->sb < B->B<=w.heap.size->
  Calls Tryz.prog K #[.pointer (some ⟨sb,0,none⟩),.int .u8 z,.func (.func fn) #[] #[]] w (A_ sb t p B w R (ag n rd (t.drop p)))
structure qn:Prop where
 s1:eK 70 71 1 1 cW (aM au)
 s2:eK 72 73 2 2 be (aM af)
 s3:eK 74 75 3 3 dR (aM bI)
 s4:eK 76 77 4 4 b6 (aM cN)
 s5:eK 78 79 5 5 bz (aM cT)
def wH(t:List UInt8)(sh:List (List Int))(cs:List Int)(fs:List aO)(im:List fK)(r4:List UInt8):aK ⊕ (Int×Nat):=match ag 5 (aM cT) r4 with
 | none=>.inr (2,pl t r4)
 | some (ex,r5)=>if bm ex fs.length=false then .inr (2,pl t r4) else if r5= [] then .inl ⟨sh,cs,fs,im,ex⟩ else .inr (2,pl t r5)
def wu(t:List UInt8)(sh:List (List Int))(cs:List Int)(fs:List aO)(r3:List UInt8):aK ⊕ (Int×Nat):=match ag 4 (aM cN) r3 with
 | none=>.inr (2,pl t r3)
 | some (im,r4)=>if bZ im sh.length=false then .inr (2,pl t r3) else wH t sh cs fs im r4
def yS(t:List UInt8)(sh:List (List Int))(cs:List Int)(r2:List UInt8):aK ⊕ (Int×Nat):=match ag 3 (aM bI) r2 with
 | none=>.inr (2,pl t r2)
 | some (fs,r3)=>if b9 fs sh.length=false then .inr (2,pl t r2) else wu t sh cs fs r3
def wN(t:List UInt8)(sh:List (List Int))(r1:List UInt8):aK ⊕ (Int×Nat):=match ag 2 (aM af) r1 with
 | none=>.inr (2,pl t r1)
 | some (cs,r2)=>if cV cs=false then .inr (2,pl t r1) else yS t sh cs r2
theorem wL{t:List UInt8}(h1:¬20000 < t.length)(h2:t.take 5=dg):dec t=match ag 1 (aM au) (t.drop 5) with
 | none=>.inr (2,5)
 | some (sh,r1)=>if cL sh=false then .inr (2,5) else wN t sh r1:=by
 unfold dec;rw [if_neg h1,if_neg (fun h=>h h2)];rfl
theorem lG{t x r:List UInt8}{p:Nat}(h:t.drop p=x++r):t.drop (pl t r)=r:=by
 have e:r=t.drop (p+x.length):=by rw [<-List.drop_drop,h];simp
 unfold pl;by_cases hp:p+x.length<=t.length
 · have hl:r.length=t.length - (p+x.length):=by rw [e,List.length_drop]
   rw [hl,show t.length - (t.length - (p+x.length))=p+x.length by omega];exact e.symm
 · have hr:r= []:=by rw [e];exact List.drop_eq_nil_of_le Q5
   rw [hr];simp
theorem eN{α:Type}{n:Nat}{f:List UInt8->Option (List α×List UInt8)}{r r':List UInt8}{y:List α}(h:ag n f r=some (y,r')):∃x,r=x++r':=by
 unfold ag at h;cases ho:cM n r with
 | none=>rw [ho] at h;cases h
 | some p=>
  obtain ⟨b,r1⟩:=p;rw [ho] at h;simp only at h;cases hb:bA f b with
  | none=>rw [hb] at h;cases h
  | some z=>
   rw [hb] at h;simp only [Option.some.injEq,Prod.mk.injEq] at h;rw [<-h.2];exact ⟨_,qh ho⟩
def dX(B:Nat)(w:World)(v:Value)(u:aK):Prop:=
 ∃v1 v2 v3 v4 v5,v=.agg #[v1,v2,v3,v4,v5]/\cW B w v1 u.aA/\be B w v2 u.aD/\dR B w v3 u.aE/\b6 B w v4 u.aB/\bz B w v5 u.aC
theorem dX.to{B:Nat}{w:World}{v:Value}{u:aK}(h:dX B w v u):cO w v u:=by
 obtain ⟨v1,v2,v3,v4,v5,h,h1,h2,h3,h4,h5⟩:=h;exact ⟨v1,v2,v3,v4,v5,h,h1.to,h2.to,h3.to,h4.to,h5.to⟩
theorem dX.kp{B:Nat}{w w':World}{v:Value}{u:aK}(h:dX B w v u)(g:Kp B w w'):dX B w' v u:=by
 obtain ⟨v1,v2,v3,v4,v5,h,h1,h2,h3,h4,h5⟩:=h;exact ⟨v1,v2,v3,v4,v5,h,h1.kp g,h2.kp g,h3.kp g,h4.kp g,h5.kp g⟩
def A6(w:World):aK ⊕ (Int×Nat)->Ending->World->Prop
 | .inl u,x,w'=>∃v B,x=.returned v/\w.heap.size<=B/\dX B w' v u/\Gr w w'
 | .inr (e,p),x,w'=>x=.panicked (dM e p)/\Gr w w'
open Go.RowKit
attribute [local go_sem ↓] Go.wp_at_zero Go.wp_at_succ
theorem cW.shape{B:Nat}{w:World}{v:Value}{l:List (List Int)}(h:cW B w v l):∃ao cap,v=.slice ao l.length cap:=by
 obtain ⟨ao,cap,hv,_⟩:=h;exact ⟨ao,cap,hv⟩
theorem dR.shape{B:Nat}{w:World}{v:Value}{l:List aO}(h:dR B w v l):∃ao cap,v=.slice ao l.length cap:=by
 obtain ⟨ao,cap,hv,_⟩:=h;exact ⟨ao,cap,hv⟩
theorem b6.shape{B:Nat}{w:World}{v:Value}{l:List fK}(h:b6 B w v l):∃ao cap,v=.slice ao l.length cap:=by
 obtain ⟨ao,cap,hv,_⟩:=h;exact ⟨ao,cap,hv⟩
theorem bz.shape{B:Nat}{w:World}{v:Value}{l:List dq}(h:bz B w v l):∃ao cap,v=.slice ao l.length cap:=by
 obtain ⟨ao,cap,hv,_⟩:=h;exact ⟨ao,cap,hv⟩
theorem cW.mono{B B':Nat}{w:World}{v:Value}{l:List (List Int)}(h:cW B' w v l)(hB:B<=B'):cW B w v l:=by
 obtain ⟨ao,cap,hv,hm,hc⟩:=h;refine ⟨ao,cap,hv,hm,fun i x hi=>?_⟩;obtain ⟨b,off,vx,h1,h2,h3,h4⟩:=hc i x hi;exact ⟨b,off,vx,h1,Nat.le_trans hB h2,h3,h4.mono hB⟩
theorem dR.mono{B B':Nat}{w:World}{v:Value}{l:List aO}(h:dR B' w v l)(hB:B<=B'):dR B w v l:=by
 obtain ⟨ao,cap,hv,hm,hc⟩:=h;refine ⟨ao,cap,hv,hm,fun i x hi=>?_⟩;obtain ⟨b,off,vp,vl,vc,h1,h2,h3,h4,h5,h6,h7,h8,h9⟩:=hc i x hi;exact ⟨b,off,vp,vl,vc,h1,Nat.le_trans hB h2,h3,h4,h5,h6,h7.mono hB,h8.mono hB,h9.mono hB⟩
theorem b6.mono{B B':Nat}{w:World}{v:Value}{l:List fK}(h:b6 B' w v l)(hB:B<=B'):b6 B w v l:=by
 obtain ⟨ao,cap,hv,hm,hc⟩:=h;refine ⟨ao,cap,hv,hm,fun i x hi=>?_⟩;obtain ⟨b,off,vs,vp,h1,h2,h3,h4,h5,h6,h7⟩:=hc i x hi;exact ⟨b,off,vs,vp,h1,Nat.le_trans hB h2,h3,h4,h5,h6,h7.mono hB⟩
theorem bz.mono{B B':Nat}{w:World}{v:Value}{l:List dq}(h:bz B' w v l)(hB:B<=B'):bz B w v l:=by
 obtain ⟨ao,cap,hv,hm,hc⟩:=h;refine ⟨ao,cap,hv,hm,fun i x hi=>?_⟩;obtain ⟨b,off,vs,h1,h2,h3,h4,h5⟩:=hc i x hi;exact ⟨b,off,vs,h1,Nat.le_trans hB h2,h3,h4,h5⟩
theorem ly.set{w:World}{sb g o:Nat}{v:Value}{t:List UInt8}{p:Nat}(h:ly w sb t p)(hne:¬g=sb):ly (w.setCell ⟨g,o,none⟩ v) sb t p:=by
 obtain ⟨⟨s,h0,hs⟩,hl,hp,h1,z1⟩:=h;have hc:∀q,(w.setCell ⟨g,o,none⟩ v).cell? ⟨sb,q,none⟩=w.cell? ⟨sb,q,none⟩:=fun q=>World.cell?_setCell_other w _ _ _ (by intro e;simp only [Addr.mk.injEq] at e;exact hne e.1)
 exact ⟨⟨s,(hc 0).trans h0,hs⟩,hl,hp,(hc 1).trans h1,by rw [World.frozen?_setCell];exact z1⟩
theorem bV.put{w:World}{b:Nat}{x0 x1 x2:Value}(v v' v2:Value)(h:bV w b x0 x1 x2):bV (((w.setCell ⟨b,0,none⟩ v).setCell ⟨b,1,none⟩ v').setCell ⟨b,2,none⟩ v2) b v v' v2:=((h.set0 v).set1 v').set2 v2
theorem lL(w:World):
 (w.alloc (.cells #[.int .i64 0,.int .i64 0,.int .i64 0] 62)).cell? ⟨w.heap.size,0,none⟩=some (.int .i64 0)/\
 (w.alloc (.cells #[.int .i64 0,.int .i64 0,.int .i64 0] 62)).cell? ⟨w.heap.size,1,none⟩=some (.int .i64 0)/\
 (w.alloc (.cells #[.int .i64 0,.int .i64 0,.int .i64 0] 62)).cell? ⟨w.heap.size,2,none⟩=some (.int .i64 0)/\
 (w.alloc (.cells #[.int .i64 0,.int .i64 0,.int .i64 0] 62)).frozen? ⟨w.heap.size,0,none⟩=false/\
 (w.alloc (.cells #[.int .i64 0,.int .i64 0,.int .i64 0] 62)).frozen? ⟨w.heap.size,1,none⟩=false/\
 (w.alloc (.cells #[.int .i64 0,.int .i64 0,.int .i64 0] 62)).frozen? ⟨w.heap.size,2,none⟩=false:=by
 refine ⟨?_,?_,?_,?_,?_,?_⟩<;>simp [go_sem]
theorem kj{cb:Nat}{w w':World}(h:Gc cb w w'){g:Nat}{v v' v2:Value}(hg:w.heap.size<=g):Gc cb w (((w'.setCell ⟨g,0,none⟩ v).setCell ⟨g,1,none⟩ v').setCell ⟨g,2,none⟩ v2).drew:=(aT (aT (aT h hg) hg) hg).drew
theorem qY:eK 70 71 1 1 cW (aM au):=by
 intro sb B t p w hS hb hB;have hsl:sb < w.heap.size:=World.block_lt_of_cell? w _ hS.2.2.2.1;have HS:=aH hS;clear hS;go_enter Tryz.func70,Tryz.ntmps70
 go_wp2_with fail
 obtain ⟨q0,q1,q2,z0,z1,z2⟩:=lL w;have Z6:Gr w (w.alloc (.cells #[.int .i64 0,.int .i64 0,.int .i64 0] 62)):=Gr.alloc (Gr.refl w) _;have Ka:(w.alloc (.cells #[.int .i64 0,.int .i64 0,.int .i64 0] 62)).heap.size=w.heap.size+1:=Q6
 refine (jH sb t p 1 Q5 _ (HS.out.gc (cb:=w.heap.size) Z6.toGc Q5)).mono ?_;generalize (w.alloc (.cells #[.int .i64 0,.int .i64 0,.int .i64 0] 62))=W0 at q0 q1 q2 z0 z1 z2 Z6 Ka |-;intro x w1 h;cases ho:cM 1 (t.drop p) with
 | none=>
  rw [ho] at h;obtain ⟨rfl,hg⟩:=h;exact ⟨rfl,by unfold ag;rw [ho];exact ⟨rfl,Gc.trans_ Z6.toGc hg⟩⟩
 | some q=>
  obtain ⟨body,r⟩:=q;rw [ho] at h;obtain ⟨nb,rfl,Oe,Pe,G0,G2,hg⟩:=h;have HE:Hid (ag 1 (aM au) (t.drop p)=match bA (aM au) body with
   | none=>none
   | some y=>some (y,r)):=aH (by unfold ag;rw [ho];cases hb:bA (aM au) body<;>simp only [hb])
  have p0:=hg.box (show ¬w.heap.size=sb by omega) q0;have p1:=hg.box (show ¬w.heap.size=sb by omega) q1;have p2:=hg.box (show ¬w.heap.size=sb by omega) q2;have y0:=hg.boxz (show ¬w.heap.size=sb by omega) q0 z0;have y1:=hg.boxz (show ¬w.heap.size=sb by omega) q1 z1;have y2:=hg.boxz (show ¬w.heap.size=sb by omega) q2 z2;have HG:=aH (Gc.trans_ (Z6.toGc (cb:=sb)) hg);have I6:w.heap.size < w1.heap.size:=by have:=hg.size;omega
  have HC:=aH G0;have J3:=aH G2;clear ho q0 q1 q2 z0 z1 z2 hg Z6 G0 G2 HS;go_wp2_with fail
  refine (p_ nb w1.heap.size body 2 p _ HC.out Pe (Nat.le_refl _)).mono ?_;intro x w2 h;cases hl:aM au body with
  | none=>
   obtain ⟨rfl,E0⟩:=h.none_ hl;exact ⟨rfl,by rw [HE.out];simp only [bA,hl];exact ⟨rfl,HG.out.over E0 Q5⟩⟩
  | some q=>
   obtain ⟨y,r2⟩:=q;obtain ⟨v,rfl,hy,G_,E0⟩:=h.some_ hl;obtain ⟨a1,c1,rfl⟩:=hy.shape;have HY:=aH hy;have HL:=aH hl;have m0:=E0.box (show ¬w.heap.size=nb by omega) p0;have m1:=E0.box (show ¬w.heap.size=nb by omega) p1;have m2:=E0.box (show ¬w.heap.size=nb by omega) p2;have n0:=E0.boxz (show ¬w.heap.size=nb by omega) p0 y0;have n1:=E0.boxz (show ¬w.heap.size=nb by omega) p1 y1;have n2:=E0.boxz (show ¬w.heap.size=nb by omega) p2 y2;have O0:=aH (HG.out.over E0 Q5);have F7:=aH (J3.out.gc E0 Q5);have E8:w1.heap.size<=w2.heap.size:=E0.size;obtain ⟨⟨s,e0,es⟩,el,e1,e2,ez,e3⟩:=G_;clear h hl hy E0 p0 p1 p2 y0 y1 y2 HC J3 HG ez el;by_cases F6:r2= []
   · have Ri:s=⟨#[]⟩:=by
      have:s.data.toList= []:=es.trans F6
      cases s with|mk d=>simp at this;rw [this]
     subst Ri;have HF:Hid (ag 1 (aM au) (t.drop p)=some (y,r)):=aH (by rw [HE.out];simp only [bA,HL.out,F6]);clear es F6 HE HL;go_wp2
     go_region_held3 (fun w'=>w'.cell? ⟨nb,0,none⟩=some (.string ⟨#[]⟩)/\w'.cell? ⟨nb,1,none⟩=some (.int .i64 2)/\w'.cell? ⟨nb,3,none⟩=some (.int .i64 (p:Int))/\w'.cell? ⟨nb,2,none⟩=some (.int .i64 0)) (first|go_keep|(refine ⟨?_,?_,?_,?_⟩<;>exact D0.cell Q8 Q6)) (first|(go_at_call 64;refine (aP _ _ _).mono ?_;rintro e w' ⟨rfl,D0⟩))
     have X0:=Gr.trans (Gr.drew (Gr.refl _)) D0;have k0:=X0.cell m0 Q6;have k1:=X0.cell m1 Q6;have k2:=X0.cell m2 Q6;have f0:=bw X0 m0 n0;have f1:=bw X0 m1 n1;have f2:=bw X0 m2 n2;have g1:=X0.cell e1 Q6;have g2:=X0.cell e2 Q6;have g3:=X0.cell e3 Q6;have Qe:=aH (HY.out.kp X0.kp);have HG3:=aH (Gc.trans_ O0.out X0.toGc);have Q4:=aH (F7.out.gc (X0.toGc (cb:=nb)) Q5);have hn:¬w.heap.size=nb:=Q5
     have Vu:¬nb=w.heap.size:=Q5
     have Kh:w1.heap.size<=w'.heap.size:=Nat.le_trans E8 X0.size;clear D0 X0 m0 m1 m2 n0 n1 n2 e0 e1 e2 e3 HY O0 F7;generalize w'=W3 at k0 k1 k2 f0 f1 f2 g1 g2 g3 Qe HG3 Q4 Kh |-;go_wp2
     go_region_held3 (fun w'=>w'.cell? ⟨nb,1,none⟩=some (.int .i64 2)/\w'.cell? ⟨nb,3,none⟩=some (.int .i64 (p:Int))/\w'.cell? ⟨nb,2,none⟩=some (.int .i64 0)) (go_keep) (fail)
     have t0:(((W3.setCell ⟨w.heap.size,0,none⟩ (.int .i64 2)).setCell ⟨w.heap.size,1,none⟩ (.int .i64 0)).setCell ⟨w.heap.size,2,none⟩ (.int .i64 (p:Int))).drew.cell? ⟨w.heap.size,0,none⟩=some (.int .i64 2):=(aI (w:=((W3.setCell ⟨w.heap.size,0,none⟩ (.int .i64 2)).setCell ⟨w.heap.size,1,none⟩ (.int .i64 0))) Q5).trans ((aI (w:=(W3.setCell ⟨w.heap.size,0,none⟩ (.int .i64 2))) Q5).trans (World.cell?_setCell_same W3 _ _ k0));have t1:(((W3.setCell ⟨w.heap.size,0,none⟩ (.int .i64 2)).setCell ⟨w.heap.size,1,none⟩ (.int .i64 0)).setCell ⟨w.heap.size,2,none⟩ (.int .i64 (p:Int))).drew.cell? ⟨w.heap.size,1,none⟩=some (.int .i64 0):=(aI (w:=((W3.setCell ⟨w.heap.size,0,none⟩ (.int .i64 2)).setCell ⟨w.heap.size,1,none⟩ (.int .i64 0))) Q5).trans (World.cell?_setCell_same (W3.setCell ⟨w.heap.size,0,none⟩ (.int .i64 2)) _ _ ((aI Q5).trans k1));have t2:(((W3.setCell ⟨w.heap.size,0,none⟩ (.int .i64 2)).setCell ⟨w.heap.size,1,none⟩ (.int .i64 0)).setCell ⟨w.heap.size,2,none⟩ (.int .i64 (p:Int))).drew.cell? ⟨w.heap.size,2,none⟩=some (.int .i64 (p:Int)):=World.cell?_setCell_same ((W3.setCell ⟨w.heap.size,0,none⟩ (.int .i64 2)).setCell ⟨w.heap.size,1,none⟩ (.int .i64 0)) _ _ ((aI (w:=(W3.setCell ⟨w.heap.size,0,none⟩ (.int .i64 2))) Q5).trans ((aI Q5).trans k2));have Tj:Hid (cW B (((W3.setCell ⟨w.heap.size,0,none⟩ (.int .i64 2)).setCell ⟨w.heap.size,1,none⟩ (.int .i64 0)).setCell ⟨w.heap.size,2,none⟩ (.int .i64 (p:Int))).drew (.slice a1 y.length c1) y):=aH (((((Qe.out.kp (aN (o:=0) (v:=.int .i64 2) I6)).kp (aN (o:=1) (v:=.int .i64 0) I6)).kp (aN (o:=2) (v:=.int .i64 (p:Int)) I6)).kp (Gr.drew (Gr.refl _)).kp).mono Q5);have G7:Hid (ly (((W3.setCell ⟨w.heap.size,0,none⟩ (.int .i64 2)).setCell ⟨w.heap.size,1,none⟩ (.int .i64 0)).setCell ⟨w.heap.size,2,none⟩ (.int .i64 (p:Int))).drew sb t (t.length - r.length)):=aH (((((Q4.out.set (g:=w.heap.size) (o:=0) (v:=.int .i64 2) Q5).set (g:=w.heap.size) (o:=1) (v:=.int .i64 0) Q5).set (g:=w.heap.size) (o:=2) (v:=.int .i64 (p:Int)) Q5)).gc (cb:=w.heap.size) (Gr.drew (Gr.refl _)).toGc Q5)
     have O1:=aH (kj (v:=.int .i64 2) (v':=.int .i64 0) (v2:=.int .i64 (p:Int)) HG3.out (Nat.le_refl _));generalize (((W3.setCell ⟨w.heap.size,0,none⟩ (.int .i64 2)).setCell ⟨w.heap.size,1,none⟩ (.int .i64 0)).setCell ⟨w.heap.size,2,none⟩ (.int .i64 (p:Int))).drew=W4 at t0 t1 t2 Tj G7 O1 |-;clear k0 k1 k2 f0 f1 f2 g1 g2 g3 Qe HG3 Q4;go_wp2
     exact bodyPost_ret (v:=.tuple #[.slice a1 y.length c1,.agg #[.int .i64 2,.int .i64 0,.int .i64 (p:Int)]]) (by simp [results,Tryz.results70,go_sem,t0,t1,t2]) rfl (by rw [HF.out];exact ⟨_,rfl,Tj.out,G7.out,O1.out⟩)
   · have Y9:s.toList.isEmpty=false:=by
      rw [ByteArray.toList_eq,es];cases r2 with
      | nil=>exact absurd rfl F6
      | cons b l=>rfl
     have HF:Hid (ag 1 (aM au) (t.drop p)=none):=aH (by
      rw [HE.out];cases r2 with
      | nil=>exact absurd rfl F6
      | cons b l=>simp only [bA,HL.out])
     clear es F6 HE HL;go_wp2
     go_region_with (first|(go_at_call 64;refine (aV _ _ _).mono ?_;rintro e w' ⟨rfl,D0⟩;refine aR ?_))
     all_goals exact ⟨rfl,by rw [HF.out];exact ⟨rfl,O0.out.trans (Gr.trans (Gr.drew (Gr.refl w2)) D0).toGc⟩⟩
end Go.Proofs.YtkgncijcnlfhiabGreat
