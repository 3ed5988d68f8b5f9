import Derived.Test.YtkgncijcnlfhiabGreatV1
import Derived.Test.YtkgncijcnlfhiabGreatT1
namespace Go.Proofs.YtkgncijcnlfhiabGreat
set_option maxRecDepth 100000
set_option maxHeartbeats 2000000
set_option linter.unusedVariables false
set_option linter.unusedSimpArgs false
open Go.RowKit
attribute [local go_sem ↓] Go.wp_at_zero Go.wp_at_succ
theorem Tryz.rinfo_rlist_shape:(Tryz.prog.info? 24).map (fun i=>(i.zero,i.size,i.bytes))=some (some (Value.slice none 0 0),1,24):=Q7
theorem p_(cb B:Nat)(r:List UInt8)(e a:Int)(w:World)(hc:io w cb r e a)(hb:cb < B)(hB:B<=w.heap.size):
 Calls Tryz.prog 112 #[.pointer (some ⟨cb,0,none⟩),.func (.func 71) #[] #[]] w (nV cb e a w (fun w' v (y:List (List Int))=>cW B w' v y) (aM au r)):=by
 have HC:=aH hc;clear hc;go_enter Tryz.func112,Tryz.ntmps112
 go_wp2_with fail
 refine (dB cb r e a _ HC.out).mono ?_;intro x w1 h;cases hn:bC 0 0 r with
 | none=>
  obtain ⟨rfl,hg⟩:=h.none_ hn;exact ⟨rfl,by unfold aM;rw [hn];exact ⟨rfl,hg⟩⟩
 | some p=>
  obtain ⟨n,r1⟩:=p;obtain ⟨v,rfl,rfl,G0,hg⟩:=h.some_ hn;have I1:=aH hg;have E6:=aH G0;obtain ⟨⟨s,h0,hs⟩,hl,h1,h2,hz,hj⟩:=G0;have R0:s.size=r1.length:=by rw [<-hs,Array.length_toList];rfl
  have Mf:s.size<=1000000:=Q5
  have S3:IntKind.u64.wrap (s.size:Int)=s.size:=Go.IntWalk.u64_in _ Q5;by_cases hle:n<=r1.length
  · have HE:Hid (aM au r=fT au n r1):=aH (by unfold aM;rw [hn];simp only [if_pos hle]);have hd:(n:Int)<=(s.size:Int):=by omega
    have RC:n<=1000000:=Q5
    clear h hg hn hs hl hz R0 hle;go_wp2
    go_region_held3 (fun w'=>w'.cell? ⟨cb,0,none⟩=some (.string s)/\w'.cell? ⟨cb,1,none⟩=some (.int .i64 e)/\w'.cell? ⟨cb,3,none⟩=some (.int .i64 a)/\w'.cell? ⟨cb,2,none⟩=some (.int .i64 0)) (first|go_keep|(refine ⟨?_,?_,?_,?_⟩<;>exact D0.cell Q8 Q6)) (first|(go_at_call 64;refine (aP _ _ _).mono ?_;rintro e w' ⟨rfl,D0⟩))
    have O3:=aH (E6.out.gr (Gr.trans (Gr.drew (Gr.refl w1)) D0));have O0:=aH (I1.out.trans (Gr.trans (Gr.drew (Gr.refl w1)) D0).toGc);clear D0 h0 h1 h2 hj E6 I1 Mf S3 hd;obtain ⟨i0,hi,O6,N5,D5⟩:=info_parts Tryz.rinfo_rlist_shape;obtain ⟨M,hM⟩:∃M,M=madeCells (Value.slice none 0 0).cells ((n:Int).toNat * i0.size):=⟨_,rfl⟩;have Ed:M.size=n * 1:=by rw [hM,size_madeCells,N5];simp
    have Rc:∀V:World,(Instr.makeSlice 22 (.int .u64 (n:Int)) (.int .u64 (n:Int))).run Tryz.prog V=.ok (.slice (some ⟨V.heap.size,0,none⟩) n n) (V.alloc (.cells M 24)):=by
     intro V;have h:=run_make (P:=Tryz.prog) V 22 24 i0 (Value.slice none 0 0) Tryz.underlying22 hi O6 .u64 .u64 (n:Int) (n:Int) Q5 Q5 (by rw [D5];omega) Q5;rw [<-hM] at h;simpa using h
    have HM:=aH Ed;clear hM Ed hi O6 N5 D5;go_wp2
    have Ec:B<=w'.heap.size:=Nat.le_trans hB O0.out.size;have O7:w.heap.size<=w'.heap.size:=O0.out.size;go_loopw [27] (fun i wr=>∃(k:Nat) (ys:List (List Int)) (rk:List UInt8),k<=n/\i=.int .i64 k/\ys.length=k/\io wr cb rk e a/\Gc cb w wr/\fT au n r1=iR ys (fT au (n - k) rk)/\w'.heap.size < wr.heap.size/\(∀j,j < n * 1->(∃x,wr.cell? ⟨w'.heap.size,j,none⟩=some x)/\wr.frozen? ⟨w'.heap.size,j,none⟩=false)/\∀j y,ys[j]? =some y->∃vx,wr.cell? ⟨w'.heap.size,j,none⟩=some vx/\be (w'.heap.size+1) wr vx y) (fun i _=>n - (intOf i).toNat)
    case atStart=>
     refine ⟨0,[],r1,Nat.zero_le _,rfl,rfl,O3.out.gr ((Gr.refl _).alloc _),O0.out.trans ((Gr.refl _).alloc _).toGc,by rw [g_];rfl,Q6,fun j hj=>?_,fun j y hy=>by simp at hy⟩;exact iw w' M 24 j (by rw [HM.out];exact hj)
    case round=>
     obtain ⟨k,ys,rk,hk,rfl,I4,G0,hgc,Ga,R0,T1,S9⟩:=hrel;have HN:=aH Ga;have Sd:=aH S9;have S_:=aH T1;have HG3:=aH hgc;have P6:=aH G0;have Td:=aH I4;clear Ga S9 T1 hgc G0 O3 O0 I4 Rc;by_cases J0:k < n
     · obtain ⟨m,hm⟩:∃m,n - k=m+1:=⟨n - k - 1,Q5⟩;have R9:=aH hm;clear hm;go_wp2_with fail
       refine (iu cb (w'.heap.size+1) rk e a _ P6.out Q5 Q5).mono ?_;intro x w4 h;cases hf:au rk with
       | none=>
        obtain ⟨rfl,hg⟩:=h.none_ hf;exact ⟨rfl,by rw [HE.out,HN.out,R9.out,fg hf];exact ⟨rfl,HG3.out.trans hg⟩⟩
       | some p=>
        obtain ⟨y,r4⟩:=p;obtain ⟨v,rfl,hy,G0,hg⟩:=h.some_ hf;have G':Hid (fT au n r1=iR (ys++ [y]) (fT au (n - (k+1)) r4)):=aH (by rw [HN.out,R9.out,fd hf,show n - (k+1)=m by have:=R9.out;omega]);have T_:Kp (w'.heap.size) wr w4:=hg.kp Q5;have Y8:w'.heap.size < w4.heap.size:=Nat.lt_of_lt_of_le R0 hg.size;have S2:Hid (∀j,j < n * 1->(∃x,w4.cell? ⟨w'.heap.size,j,none⟩=some x)/\w4.frozen? ⟨w'.heap.size,j,none⟩=false):=aH (gl S_.out T_ R0);have V7:=aH G0;have O1:=aH (HG3.out.trans hg);have Ja:=aH T_;have HY:=aH hy;clear h hf G0 T_;obtain ⟨av,cv,hv⟩:=HY.out.shape;subst hv;obtain ⟨⟨x0,Ph⟩,O6⟩:=S2.out k Q5;have SC:(0:Int)<=(k:Int):=Q5
        have Xk:(k:Int) < (n:Int):=Q5
        clear hg hy;go_wp2
        go_roundw
        case rel=>
         have I4:=Td.out;refine ⟨k+1,ys++ [y],r4,Q5,by go_num,by simp [I4],ad V7.out Q5,aT O1.out O7,G'.out,by simpa using Y8,da S2.out,fun j z hj=>?_⟩;rcases ir hj with ⟨h1,h2⟩|⟨h1,h2⟩
         · obtain ⟨vx,q1,q2⟩:=Sd.out j z h1;exact ⟨vx,by rw [aI Q5];exact Ja.out.cell (Nat.le_refl _) q1,(q2.kp (Ja.out.mono Q5)).kp (Kp.set _ Q5)⟩
         · subst h1;subst h2;rw [I4];exact ⟨_,World.cell?_setCell_same _ _ _ Ph,HY.out.kp (Kp.set _ Q5)⟩
        case measure=>simp [intOf];omega
     · have P7:k=n:=by omega
       subst P7;have V_:Hid (aM au r=some (ys,rk)):=aH (by rw [HE.out,HN.out,Nat.sub_self,iB]);go_wp2
       go_ret
       rw [V_.out];refine ⟨_,rfl,?_,P6.out,HG3.out⟩;have I4:=Td.out;show cW B wr (.slice (some ⟨w'.heap.size,0,none⟩) k k) ys
       refine ⟨some ⟨w'.heap.size,0,none⟩,k,by rw [I4],by unfold maxLen;omega,fun i y hi=>?_⟩;have hq:=Sd.out i y hi;obtain ⟨vx,q1,q2⟩:=hq;exact ⟨w'.heap.size,0,vx,rfl,Ec,by rw [Nat.zero_add];exact q1,q2.mono Q5⟩
  · have HE:Hid (aM au r=none):=aH (by unfold aM;rw [hn];simp only [if_neg hle]);have hd:decide (n<=s.size)=false:=by rw [decide_eq_false_iff_not];omega
    clear h hg hn hs hl hz R0 hle;go_wp2
    go_region_with (first|(go_at_call 64;refine (aV _ _ _).mono ?_;rintro e w' ⟨rfl,D0⟩;refine aR ?_))
    all_goals exact ⟨rfl,by rw [HE.out];exact ⟨rfl,I1.out.trans (Gr.trans (Gr.drew (Gr.refl w1)) D0).toGc⟩⟩
open Go.RowKit
def df{α:Type}(f:α->List UInt8)(xs:List α):List UInt8:=num xs.length++xs.flatMap f
def fN{α:Type}(f:α->List UInt8)(xs:List α)(k:Nat):List UInt8:=num xs.length++(xs.take k).flatMap f
theorem eW{α:Type}(f:α->List UInt8)(xs:List α):fN f xs 0=num xs.length:=by simp [fN]
theorem du{α:Type}{f:α->List UInt8}{xs:List α}{k:Nat}{x:α}(h:xs[k]? =some x):fN f xs (k+1)=fN f xs k++f x:=by
 obtain ⟨hk,rfl⟩:=List.getElem?_eq_some_iff.1 h;unfold fN;rw [List.take_succ_eq_append_getElem hk,List.flatMap_append,List.append_assoc];simp
theorem g9{α:Type}{f:α->List UInt8}{xs:List α}{k:Nat}(h:¬k < xs.length):df f xs=fN f xs k:=by
 unfold df fN;rw [List.take_of_length_le Q5]
theorem yN{α:Type}(f:α->List UInt8)(xs:List α)(k:Nat):(fN f xs k).length<=(df f xs).length:=by
 have e:xs.flatMap f=(xs.take k).flatMap f++(xs.drop k).flatMap f:=by rw [<-List.flatMap_append,List.take_append_drop]
 unfold df fN;rw [e];simp only [List.length_append];omega
theorem mT{α:Type}{f:α->List UInt8}{xs:List α}{l:List UInt8}(k:Nat)(h:(l++df f xs).length<=10000000):(l++fN f xs k).length<=10000000:=by
 have:=yN f xs k
 simp only [List.length_append] at h |-;omega
theorem ij{α:Type}{f:α->List UInt8}{xs:List α}{l:List UInt8}{k:Nat}{x:α}(hx:xs[k]? =some x)(h:(l++df f xs).length<=10000000):((l++fN f xs k)++f x).length<=10000000:=by
 have:=mT (k+1) h
 rwa [du hx,<-List.append_assoc] at this
def ba(x:Int):List UInt8:=num x.toNat
def dl(x:Int):List UInt8:=num (pf x)
def bG(l:List Int):List UInt8:=df ba l
def bl(i:aw):List UInt8:=
 UInt8.ofNat i.op.toNat :: (if i.op=1 then num (pf i.a) else (if 1<=aa i.op then num i.a.toNat else [])++(if 2<=aa i.op then num i.b.toNat else []))
def b8(f:aO):List UInt8:=bG f.aF++(bG f.aG++(num f.result.toNat++df bl f.code))
def b_(s:List UInt8):List UInt8:=num s.length++s
def dW(i:fK):List UInt8:=b_ i.name++(bG i.aF++num i.result.toNat)
def db(e:dq):List UInt8:=b_ e.name++num e.func.toNat
theorem sP(W:World)(v:Value)(l:List UInt8)(xs:List Int)(vx:Value)(w:World)(hR:aW W vx xs)(G6:∀x∈xs,0<=x/\x<=9223372036854775807)(hw:Wr W w v l)(hlen:(l++df ba xs).length<=10000000):
 Calls Tryz.prog 37 #[v,vx,.func (.func 65) #[] #[]] w fun x w'=>∃v',x=.returned v'/\dt W.heap.size w v w' v' (l++df ba xs):=by
 obtain ⟨ao,cap,rfl,hm,hc⟩:=hR;unfold maxLen at hm;have HC:=aH hc;clear hc;have Ib:l.length<=10000000:=by simp only [List.length_append] at hlen;omega
 have N6:=aH hlen;clear hlen;go_enter Tryz.func37,Tryz.ntmps37
 go_wp2_with (go_at_call 65;refine (cG W _ l xs.length _ Q5 Q5 (by exact hw) Ib).mono ?_;rintro e w1 ⟨v1,rfl,V0⟩;rw [Int.toNat_natCast] at V0;have D2:=hw.app V0)
 have H1:=aH V0;clear V0;go_loopw [0,15] (fun vo i wr=>∃k:Nat,k<=xs.length/\i=.int .i64 k/\dt W.heap.size w v wr vo (l++fN ba xs k)) (fun _ i _=>xs.length - (intOf i).toNat)
 case atStart=>exact ⟨0,Nat.zero_le _,rfl,by rw [eW];exact H1.out⟩
 case round=>
  obtain ⟨k,hk,rfl,V0⟩:=hrel;have S3:=hw.app V0;have H2:=aH V0;clear V0 D2;by_cases J0:k < xs.length
  · obtain ⟨x,hx⟩:=aX J0;obtain ⟨b,off,K_,Z0⟩:=HC.out k J0;subst K_;rw [List.getD_eq_getElem?_getD,hx] at Z0;simp only [Option.getD_some] at Z0;have L_:=ak S3.low Z0;have IH:=G6 x (List.mem_of_getElem? hx);clear Z0;have HX:=aH hx;clear hx;go_wp2_with (go_at_call 65;refine (cG W _ _ x _ IH.1 IH.2 (by exact S3) (mT k N6.out)).mono ?_;rintro e w2 ⟨v2,rfl,N1⟩)
    have H3:=aH N1;clear N1;go_roundw
    case rel=>exact ⟨k+1,Q5,by go_num,by rw [du HX.out,<-List.append_assoc];exact H2.out.trans H3.out⟩
    case measure=>simp [intOf];omega
  · go_wp2
    go_ret
    refine ⟨_,rfl,?_⟩;rw [g9 J0];exact H2.out
theorem po(W:World)(v:Value)(l:List UInt8)(xs:List Int)(vx:Value)(w:World)(hR:aW W vx xs)(G6:∀x∈xs,-9223372036854775808<=x/\x<=9223372036854775807)(hw:Wr W w v l)(hlen:(l++df dl xs).length<=10000000):
 Calls Tryz.prog 37 #[v,vx,.func (.func 38) #[] #[]] w fun x w'=>∃v',x=.returned v'/\dt W.heap.size w v w' v' (l++df dl xs):=by
 obtain ⟨ao,cap,rfl,hm,hc⟩:=hR;unfold maxLen at hm;have HC:=aH hc;clear hc;have Ib:l.length<=10000000:=by simp only [List.length_append] at hlen;omega
 have N6:=aH hlen;clear hlen;go_enter Tryz.func37,Tryz.ntmps37
 go_wp2_with (go_at_call 65;refine (cG W _ l xs.length _ Q5 Q5 (by exact hw) Ib).mono ?_;rintro e w1 ⟨v1,rfl,V0⟩;rw [Int.toNat_natCast] at V0;have D2:=hw.app V0)
 have H1:=aH V0;clear V0;go_loopw [0,15] (fun vo i wr=>∃k:Nat,k<=xs.length/\i=.int .i64 k/\dt W.heap.size w v wr vo (l++fN dl xs k)) (fun _ i _=>xs.length - (intOf i).toNat)
 case atStart=>exact ⟨0,Nat.zero_le _,rfl,by rw [eW];exact H1.out⟩
 case round=>
  obtain ⟨k,hk,rfl,V0⟩:=hrel;have S3:=hw.app V0;have H2:=aH V0;clear V0 D2;by_cases J0:k < xs.length
  · obtain ⟨x,hx⟩:=aX J0;obtain ⟨b,off,K_,Z0⟩:=HC.out k J0;subst K_;rw [List.getD_eq_getElem?_getD,hx] at Z0;simp only [Option.getD_some] at Z0;have L_:=ak S3.low Z0;have IH:=G6 x (List.mem_of_getElem? hx);clear Z0;have HX:=aH hx;clear hx;go_wp2_with (go_at_call 38;refine (my W _ _ x _ IH.1 IH.2 (by exact S3) (mT k N6.out)).mono ?_;rintro e w2 ⟨v2,rfl,N1⟩)
    have H3:=aH N1;clear N1;go_roundw
    case rel=>exact ⟨k+1,Q5,by go_num,by rw [du HX.out,<-List.append_assoc];exact H2.out.trans H3.out⟩
    case measure=>simp [intOf];omega
  · go_wp2
    go_ret
    refine ⟨_,rfl,?_⟩;rw [g9 J0];exact H2.out
theorem iO(W:World)(v:Value)(l:List UInt8)(xs:List Int)(vx:Value)(w:World)(hR:aW W vx xs)(G6:∀x∈xs,0<=x/\x<=9223372036854775807)(hw:Wr W w v l)(hlen:(l++bG xs).length<=10000000):
 Calls Tryz.prog 36 #[v,vx] w fun x w'=>∃v',x=.returned v'/\dt W.heap.size w v w' v' (l++bG xs):=by
 have HR:=aH hR;have HN:=aH G6;have N6:=aH hlen;clear hR G6 hlen;go_enter Tryz.func36,Tryz.ntmps36
 go_wp2_with (go_at_call 37;refine (sP W _ l xs _ _ HR.out HN.out (by exact hw) N6.out).mono ?_;rintro e w1 ⟨v1,rfl,V0⟩)
 go_ret
 exact ⟨v1,rfl,V0⟩
open Go.RowKit
theorem dt.box{base:Nat}{w w':World}{v v':Value}{l':List UInt8}(k:dt base w v w' v' l'){B o:Nat}{x:Value}(hx:w.cell? ⟨B,o,none⟩=some x)(hv:∀i,v.ownBlock=some i->i < B):w'.cell? ⟨B,o,none⟩=some x:=
 k.frm.cell hx (fun e=>by have:=hv B e.symm;omega)
theorem eQ(op:Int):aa op=0\/aa op=1\/aa op=2:=by
 unfold aa;split
 · exact .inr (.inr rfl)
 · split
   · exact .inr (.inl rfl)
   · exact .inl rfl
theorem kr{op:Int}(h0:0<=op)(h1:op<=20):op=(UInt8.ofNat op.toNat).toNat:=by simp [UInt8.toNat_ofNat'];omega
theorem xd{x:aw}(h:a_ x=true):0<=x.op/\x.op<=20:=by
 simp only [a_,wB,Bool.and_eq_true,decide_eq_true_eq] at h;exact h.1
theorem rD{x:aw}(h:a_ x=true)(h1:x.op=1):-2147483648<=x.a/\x.a<=2147483647:=by
 simp only [a_,wB,Bool.and_eq_true,decide_eq_true_eq,h1,if_true] at h;exact h.2.1
theorem tr{x:aw}(h:a_ x=true)(h1:¬x.op=1)(hn:1<=aa x.op):0<=x.a/\x.a<=65535:=by
 simp only [a_,wB,ah,Bool.and_eq_true,decide_eq_true_eq,h1,if_false,hn,if_true] at h;exact h.2.1
theorem zX{x:aw}(h:a_ x=true)(hn:2<=aa x.op):0<=x.b/\x.b<=65535:=by
 simp only [a_,wB,ah,Bool.and_eq_true,decide_eq_true_eq,hn,if_true] at h;exact h.2.2
theorem uQ(w:World)(x:aw):(w.alloc (.cells #[.int .i64 x.op,.int .i64 x.a,.int .i64 x.b] 42)).cell? ⟨w.heap.size,0,none⟩=some (.int .i64 x.op)/\(w.alloc (.cells #[.int .i64 x.op,.int .i64 x.a,.int .i64 x.b] 42)).cell? ⟨w.heap.size,1,none⟩=some (.int .i64 x.a)/\(w.alloc (.cells #[.int .i64 x.op,.int .i64 x.a,.int .i64 x.b] 42)).cell? ⟨w.heap.size,2,none⟩=some (.int .i64 x.b):=by
 refine ⟨?_,?_,?_⟩<;>simp [go_sem]
theorem vJ(W:World)(v:Value)(l:List UInt8)(x:aw)(w:World)(N2:a_ x=true)(hw:Wr W w v l)(hlen:(l++bl x).length<=10000000):
 Calls Tryz.prog 67 #[v,.agg #[.int .i64 x.op,.int .i64 x.a,.int .i64 x.b]] w fun y w'=>∃v',y=.returned v'/\dt W.heap.size w v w' v' (l++bl x):=by
 obtain ⟨IQ,JQ⟩:=xd N2;obtain ⟨Kj,Fe,P8⟩:=uQ w x;have Ib:l.length+1<=10000000:=by simp only [bl,List.length_append,List.length_cons] at hlen;omega
 have hvb:∀i,v.ownBlock=some i->i < w.heap.size:=fun i hi=>(hw.own.lt i hi).2
 have M1:=hw.gr (World.grownBy_alloc w (.cells #[.int .i64 x.op,.int .i64 x.a,.int .i64 x.b] 42) none);have N6:=aH hlen;have M8:=aH N2;have HV:=aH hvb;clear hlen N2 hvb;by_cases h1:x.op=1
 · have hs:=rD M8.out h1;have HE:Hid (bl x= [UInt8.ofNat x.op.toNat]++num (pf x.a)):=aH (by unfold bl;rw [if_pos h1];rfl);have Y0:(x.op == 1)=true:=by simpa using h1
   clear h1;go_enter Tryz.func67,Tryz.ntmps67
   go_wp2_with (first|(at_builtin;refine bQ _ rfl _ _ rfl W.heap.size _ l rfl M1.own (UInt8.ofNat x.op.toNat) _ (by exact kr IQ JQ) _ rfl Q6 Q5 M1.base ?_;intro v1 w1 G1;have Ny:=G1.box Kj HV.out;have Lb:=G1.box Fe HV.out;have D2:=M1.app G1)|(go_at_call 38;refine (my W _ _ x.a _ Q5 Q5 (by exact D2) gS).mono ?_;rintro e w2 ⟨v2,rfl,N1⟩))
   go_ret
   refine ⟨v2,rfl,?_⟩;rw [HE.out,<-List.append_assoc];exact dt.gr (World.grownBy_alloc w _ none) (G1.trans N1)
 · have Y0:(x.op == 1)=false:=by simpa using h1
   rcases eQ x.op with hN|hN|hN
   · have HE:Hid (bl x= [UInt8.ofNat x.op.toNat]):=aH (by unfold bl;rw [if_neg h1,hN];simp);clear h1;go_enter Tryz.func67,Tryz.ntmps67
     go_wp2_with (first|(at_builtin;refine bQ _ rfl _ _ rfl W.heap.size _ l rfl M1.own (UInt8.ofNat x.op.toNat) _ (by exact kr IQ JQ) _ rfl Q6 Q5 M1.base ?_;intro v1 w1 G1;have Ny:=G1.box Kj HV.out;have Lb:=G1.box Fe HV.out;have D2:=M1.app G1)|(go_at_call 109;refine (bT _ _).mono ?_;rintro e w' ⟨rfl,rfl⟩))
     go_ret
     refine ⟨v1,rfl,?_⟩;rw [HE.out];exact dt.gr (World.grownBy_alloc w _ none) G1
   · have hs:=tr M8.out h1 Q5;have HE:Hid (bl x= [UInt8.ofNat x.op.toNat]++num x.a.toNat):=aH (by unfold bl;rw [if_neg h1,hN];simp);clear h1;go_enter Tryz.func67,Tryz.ntmps67
     go_wp2_with (first|(at_builtin;refine bQ _ rfl _ _ rfl W.heap.size _ l rfl M1.own (UInt8.ofNat x.op.toNat) _ (by exact kr IQ JQ) _ rfl Q6 Q5 M1.base ?_;intro v1 w1 G1;have Ny:=G1.box Kj HV.out;have Lb:=G1.box Fe HV.out;have D2:=M1.app G1)|(go_at_call 109;refine (bT _ _).mono ?_;rintro e w' ⟨rfl,rfl⟩)|(go_at_call 65;refine (cG W _ _ x.a _ Q5 Q5 (by exact D2) gS).mono ?_;rintro e w2 ⟨v2,rfl,N1⟩))
     go_ret
     refine ⟨v2,rfl,?_⟩;rw [HE.out,<-List.append_assoc];exact dt.gr (World.grownBy_alloc w _ none) (G1.trans N1)
   · have hs:=tr M8.out h1 Q5;have ht:=zX M8.out Q5;have HE:Hid (bl x= [UInt8.ofNat x.op.toNat]++num x.a.toNat++num x.b.toNat):=aH (by unfold bl;rw [if_neg h1,hN];simp);have hn:=bK x.a.toNat;have M7:l.length+1+(num x.a.toNat).length<=10000000:=by have h:=N6.out;rw [HE.out] at h;simp only [List.length_append,List.length_cons,List.length_nil] at h;omega
     clear h1;go_enter Tryz.func67,Tryz.ntmps67
     go_wp2_with (first|(at_builtin;refine bQ _ rfl _ _ rfl W.heap.size _ l rfl M1.own (UInt8.ofNat x.op.toNat) _ (by exact kr IQ JQ) _ rfl Q6 Q5 M1.base ?_;intro v1 w1 G1;have Ny:=G1.box Kj HV.out;have Lb:=G1.box Fe HV.out;have D2:=M1.app G1)|(go_at_call 109;refine (bT _ _).mono ?_;rintro e w' ⟨rfl,rfl⟩)|(go_at_call_of 65 x.a;refine (cG W _ _ x.a _ Q5 Q5 (by exact D2) gS).mono ?_;rintro e w2 ⟨v2,rfl,N1⟩;have D3:=D2.app N1;have D6:=G1.trans N1;have P7:=D6.box P8 HV.out)|(go_at_call_of 65 x.b;refine (cG W _ _ x.b _ Q5 Q5 (by exact D3) (by simp only [List.length_append,List.length_cons,List.length_nil];omega)).mono ?_;rintro e w3 ⟨v3,rfl,D8⟩))
     go_ret
     refine ⟨v3,rfl,?_⟩;rw [HE.out,<-List.append_assoc,<-List.append_assoc];exact dt.gr (World.grownBy_alloc w _ none) (D6.trans D8)
open Go.RowKit
attribute [local go_sem ↓] Go.wp_at_zero Go.wp_at_succ
theorem Gc.box{cb b o:Nat}{w w':World}{x:Value}(h:Gc cb w w')(hb:¬b=cb)(hx:w.cell? ⟨b,o,none⟩=some x):w'.cell? ⟨b,o,none⟩=some x:=
 h.cell hx (by intro e;simp only [Option.some.injEq] at e;exact hb e)
theorem Gc.boxz{cb b o:Nat}{w w':World}{x:Value}(h:Gc cb w w')(hb:¬b=cb)(hx:w.cell? ⟨b,o,none⟩=some x)(hz:w.frozen? ⟨b,o,none⟩=false):w'.frozen? ⟨b,o,none⟩=false:=
 (World.frozen?_of_block (a:=⟨b,o,none⟩) (h.block b (World.block_lt_of_cell? w _ hx) (by intro e;simp only [Option.some.injEq] at e;exact hb e))).trans hz
def bV(w:World)(b:Nat)(x0 x1 x2:Value):Prop:=
 w.cell? ⟨b,0,none⟩=some x0/\w.cell? ⟨b,1,none⟩=some x1/\w.cell? ⟨b,2,none⟩=some x2/\w.frozen? ⟨b,0,none⟩=false/\w.frozen? ⟨b,1,none⟩=false/\w.frozen? ⟨b,2,none⟩=false
theorem bV.gc{w w':World}{cb b:Nat}{x0 x1 x2:Value}(h:bV w b x0 x1 x2)(g:Gc cb w w')(hb:¬b=cb):bV w' b x0 x1 x2:=by
 obtain ⟨h0,h1,h2,z0,z1,z2⟩:=h;exact ⟨g.box hb h0,g.box hb h1,g.box hb h2,g.boxz hb h0 z0,g.boxz hb h1 z1,g.boxz hb h2 z2⟩
theorem bV.gr{w w':World}{b:Nat}{x0 x1 x2:Value}(h:bV w b x0 x1 x2)(g:Gr w w'):bV w' b x0 x1 x2:=h.gc (cb:=b+1) g.toGc Q5
theorem bV.new(w:World)(t:TypeId)(x0 x1 x2:Value):bV (w.alloc (.cells #[x0,x1,x2] t)) w.heap.size x0 x1 x2:=by
 refine ⟨?_,?_,?_,?_,?_,?_⟩<;>simp [go_sem]
theorem bV.other{w:World}{b g o:Nat}{x0 x1 x2 v:Value}(h:bV w b x0 x1 x2)(hb:¬g=b):bV (w.setCell ⟨g,o,none⟩ v) b x0 x1 x2:=by
 obtain ⟨h0,h1,h2,z0,z1,z2⟩:=h;have hc:∀q,(w.setCell ⟨g,o,none⟩ v).cell? ⟨b,q,none⟩=w.cell? ⟨b,q,none⟩:=fun q=>World.cell?_setCell_other w _ _ _ (by intro e;simp only [Addr.mk.injEq] at e;exact hb e.1)
 exact ⟨(hc 0).trans h0,(hc 1).trans h1,(hc 2).trans h2,by rw [World.frozen?_setCell];exact z0,by rw [World.frozen?_setCell];exact z1,by rw [World.frozen?_setCell];exact z2⟩
def cP(r:List UInt8):Option (aw×List UInt8):=match cm r with
 | none=>none
 | some (b,r1)=>
  if wB (b.toNat:Int) 0 20=true then
   if (b.toNat:Int)=1 then (match af r1 with
    | none=>none
    | some (v,r2)=>some (⟨b.toNat,v,0⟩,r2))
   else if aa b.toNat=0 then some (⟨b.toNat,0,0⟩,r1)
   else match ar r1 with
    | none=>none
    | some (v,r2)=>if aa b.toNat=1 then some (⟨b.toNat,v,0⟩,r2) else (match ar r2 with
     | none=>none
     | some (u,r3)=>some (⟨b.toNat,v,u⟩,r3))
  else none
theorem xm(cb:Nat)(r:List UInt8)(e a:Int)(w:World)(hc:io w cb r e a):
 Calls Tryz.prog 118 #[.pointer (some ⟨cb,0,none⟩)] w (nV cb e a w (fun _ v (y:aw)=>v=.agg #[.int .i64 y.op,.int .i64 y.a,.int .i64 y.b]) (cP r)):=by
 have I5:cb < w.heap.size:=World.block_lt_of_cell? w ⟨cb,1,none⟩ hc.2.2.1;have HC:=aH hc;clear hc;have H6:=aH (bV.new w 42 (.int .i64 0) (.int .i64 0) (.int .i64 0));have Vd:=aH ((Gr.alloc (Gr.refl w) (.cells #[.int .i64 0,.int .i64 0,.int .i64 0] 42)).toGc (cb:=cb));go_enter Tryz.func118,Tryz.ntmps118
 go_wp2_with fail
 refine (jG cb r e a _ (HC.out.gr ((Gr.refl w).alloc _))).mono ?_;intro x w1 h;cases hn:cm r with
 | none=>
  obtain ⟨rfl,hg⟩:=h.none_ hn;exact ⟨rfl,by unfold cP;rw [hn];exact ⟨rfl,Vd.out.trans hg⟩⟩
 | some p=>
  obtain ⟨b,r1⟩:=p;obtain ⟨v,rfl,rfl,G0,hg⟩:=h.some_ hn;have I6:w.heap.size < w1.heap.size:=by have:=hg.size;simp at this;omega
  have T3:=H6.out.gc hg Q5;have I1:=aH (Vd.out.trans hg);have Y9:b.toNat < 256:=b.toNat_lt;have E6:=aH G0;have HN:=aH hn;clear h G0 hg hn H6;obtain ⟨⟨s,h0,hs⟩,hl,h1,h2,hz,hj⟩:=E6.out;clear h0 hs hl hz;have h1a:=(World.grownBy_alloc w1 (.cells #[.int .i64 (b.toNat:Int),.int .i64 0,.int .i64 0] 42) none).cell h1 Q6;have h2a:=(World.grownBy_alloc w1 (.cells #[.int .i64 (b.toNat:Int),.int .i64 0,.int .i64 0] 42) none).cell h2 Q6;have hja:=(World.grownBy_alloc w1 (.cells #[.int .i64 (b.toNat:Int),.int .i64 0,.int .i64 0] 42) none).cell hj Q6;have Mb:=bV.new w1 42 (.int .i64 (b.toNat:Int)) (.int .i64 0) (.int .i64 0);have Kj:=Mb.1;have Oy:=aH Mb;have C7:=aH (T3.gc ((Gr.alloc (Gr.refl w1) (.cells #[.int .i64 (b.toNat:Int),.int .i64 0,.int .i64 0] 42)).toGc (cb:=cb)) Q5);have O0:=aH (I1.out.trans ((Gr.alloc (Gr.refl w1) (.cells #[.int .i64 (b.toNat:Int),.int .i64 0,.int .i64 0] 42)).toGc (cb:=cb)));clear Mb h1 h2 hj T3 I1 Vd;cases Da:wB (b.toNat:Int) 0 20
  · have HE:Hid (cP r=none):=aH (by unfold cP;rw [HN.out];simp [Da]);go_wp2
    go_region_with (first|(go_at_call 131;refine (o_ _ _).mono ?_;rintro e w' ⟨rfl,rfl⟩)|(go_at_call 64;refine (aV _ _ _).mono ?_;rintro e w' ⟨rfl,D0⟩;refine aR ?_))
    all_goals exact ⟨rfl,by rw [HE.out];exact ⟨rfl,O0.out.trans (Gr.trans (Gr.drew (Gr.refl _)) D0).toGc⟩⟩
  · go_wp2
    go_region_held3 (fun w'=>w'.cell? ⟨cb,1,none⟩=some (.int .i64 e)/\w'.cell? ⟨cb,3,none⟩=some (.int .i64 a)/\w'.cell? ⟨cb,2,none⟩=some (.int .i64 0)/\w'.cell? ⟨w1.heap.size,0,none⟩=some (.int .i64 (b.toNat:Int))) (first|go_keep|(refine ⟨?_,?_,?_,?_⟩<;>exact D0.cell Q8 Q6)) (first|(go_at_call 131;refine (o_ _ _).mono ?_;rintro e w' ⟨rfl,rfl⟩)|(go_at_call 64;refine (aP _ _ _).mono ?_;rintro e w' ⟨rfl,D0⟩))
    have M3:=(Gr.trans (Gr.drew (Gr.refl _)) D0).toGc (cb:=cb);have H':=aH (Oy.out.gc M3 Q5);have R6:=aH (C7.out.gc M3 Q5);have HG3:=aH (O0.out.trans M3);have O3:=aH ((E6.out.gr (Gr.alloc (Gr.refl w1) (.cells #[.int .i64 (b.toNat:Int),.int .i64 0,.int .i64 0] 42))).gr (Gr.trans (Gr.drew (Gr.refl _)) D0));have E8:w1.heap.size < w'.heap.size:=by have:=D0.size;simp at this;omega
    obtain ⟨i0,i1,i2,y0,y1,y2⟩:=H'.out;clear D0 M3 h1a h2a hja Kj Oy C7 O0 E6;by_cases V6:(b.toNat:Int)=1
    · have Y0:((b.toNat:Int) == 1)=true:=by simpa using V6
      go_wp2_with fail
      refine (l_ cb r1 e a _ O3.out).mono ?_;intro x w3 h;cases hf:af r1 with
      | none=>
       obtain ⟨rfl,hg⟩:=h.none_ hf;exact ⟨rfl,by unfold cP;rw [HN.out];simp only [Da,if_true,V6,hf];exact ⟨rfl,HG3.out.trans hg⟩⟩
      | some q=>
       obtain ⟨v,r2⟩:=q;obtain ⟨_,rfl,rfl,G0,hg⟩:=h.some_ hf;have HE:Hid (cP r=some (⟨b.toNat,v,0⟩,r2)):=aH (by unfold cP;rw [HN.out];simp only [Da,if_true,if_pos V6,hf]);obtain ⟨j0,j1,j2,k0,k1,k2⟩:=H'.out.gc hg Q5;obtain ⟨m0,m1,m2,n0,n1,n2⟩:=R6.out.gc hg Q5;have P6:=aH G0;have O1:=aH (HG3.out.trans hg);have hne:¬w.heap.size=w1.heap.size:=Q5
       clear h G0 hg hf i0 i1 i2 y0 y1 y2 V6;go_wp2
       exact bodyPost_ret (v:=.agg #[.int .i64 (b.toNat:Int),.int .i64 v,.int .i64 0]) (by simp [results,Tryz.results118,go_sem,m0,m1,m2]) rfl (by rw [HE.out];exact ⟨_,rfl,rfl,ad (ad (ad (ad (P6.out) Q5) Q5) Q5) Q5,aT (aT (aT (aT (O1.out) Q5) Q5) Q5) Q5⟩)
    · have Y0:((b.toNat:Int) == 1)=false:=by simpa using V6
      rcases eQ (b.toNat:Int) with hN|hN|hN
      · have HE:Hid (cP r=some (⟨b.toNat,0,0⟩,r1)):=aH (by unfold cP;rw [HN.out];simp only [Da,if_true,if_neg V6,hN]);obtain ⟨m0,m1,m2,n0,n1,n2⟩:=R6.out;have hne:¬w.heap.size=w1.heap.size:=by omega
        clear V6;go_wp2_with (go_at_call 109;refine (bT _ _).mono ?_;rintro e w' ⟨rfl,rfl⟩)
        exact bodyPost_ret (v:=.agg #[.int .i64 (b.toNat:Int),.int .i64 0,.int .i64 0]) (by simp [results,Tryz.results118,go_sem,m0,m1,m2]) rfl (by rw [HE.out];exact ⟨_,rfl,rfl,ad (ad (ad (O3.out) Q5) Q5) Q5,aT (aT (aT (HG3.out) Q5) Q5) Q5⟩)
      · go_wp2_with (first|(go_at_call 109;refine (bT _ _).mono ?_;rintro e w' ⟨rfl,rfl⟩))
        refine (eX cb r1 e a _ O3.out).mono ?_;intro x w3 h;cases hf:ar r1 with
        | none=>
         obtain ⟨rfl,hg⟩:=h.none_ hf;exact ⟨rfl,by unfold cP;rw [HN.out];simp only [Da,if_true,if_neg V6,hN,hf];exact ⟨rfl,HG3.out.trans hg⟩⟩
        | some q=>
         obtain ⟨v,r2⟩:=q;obtain ⟨_,rfl,rfl,G0,hg⟩:=h.some_ hf;have HE:Hid (cP r=some (⟨b.toNat,v,0⟩,r2)):=aH (by unfold cP;rw [HN.out];simp only [Da,if_true,if_neg V6,hN,hf];rfl);obtain ⟨j0,j1,j2,k0,k1,k2⟩:=H'.out.gc hg Q5;obtain ⟨m0,m1,m2,n0,n1,n2⟩:=R6.out.gc hg Q5;have P6:=aH G0;have O1:=aH (HG3.out.trans hg);have hne:¬w.heap.size=w1.heap.size:=Q5
         clear h G0 hg hf i0 i1 i2 y0 y1 y2 V6;go_wp2
         exact bodyPost_ret (v:=.agg #[.int .i64 (b.toNat:Int),.int .i64 v,.int .i64 0]) (by simp [results,Tryz.results118,go_sem,m0,m1,m2]) rfl (by rw [HE.out];exact ⟨_,rfl,rfl,ad (ad (ad (ad (P6.out) Q5) Q5) Q5) Q5,aT (aT (aT (aT (O1.out) Q5) Q5) Q5) Q5⟩)
      · go_wp2_with (first|(go_at_call 109;refine (bT _ _).mono ?_;rintro e w' ⟨rfl,rfl⟩))
        refine (eX cb r1 e a _ O3.out).mono ?_;intro x w3 h;cases hf:ar r1 with
        | none=>
         obtain ⟨rfl,hg⟩:=h.none_ hf;exact ⟨rfl,by unfold cP;rw [HN.out];simp only [Da,if_true,if_neg V6,hN,hf];exact ⟨rfl,HG3.out.trans hg⟩⟩
        | some q=>
         obtain ⟨v,r2⟩:=q;obtain ⟨_,rfl,rfl,G0,hg⟩:=h.some_ hf;have hjb:=H'.out.gc hg Q5;have Rf:=R6.out.gc hg Q5;have Kh:w'.heap.size<=w3.heap.size:=hg.size;have hne:¬w.heap.size=w1.heap.size:=Q5
         have P6:=aH (ad (g:=w1.heap.size) (o:=1) (v:=.int .i64 v) G0 Q5);have O1:=aH (aT (g:=w1.heap.size) (o:=1) (v:=.int .i64 v) (HG3.out.trans hg) Q5);have HMB:=aH (Rf.other (g:=w1.heap.size) (o:=1) (v:=.int .i64 v) Q5);obtain ⟨j0,j1,j2,k0,k1,k2⟩:=hjb;have HF:=aH hf;clear h G0 hg hf i0 i1 i2 y0 y1 y2 Rf;go_wp2_with fail
         refine (eX cb r2 e a _ P6.out).mono ?_;intro x w5 h;cases Qk:ar r2 with
         | none=>
          obtain ⟨rfl,hg⟩:=h.none_ Qk;exact ⟨rfl,by unfold cP;rw [HN.out];simp only [Da,if_true,if_neg V6,hN,HF.out,Qk];exact ⟨rfl,O1.out.trans hg⟩⟩
         | some q2=>
          obtain ⟨u,r3⟩:=q2;obtain ⟨_,rfl,rfl,G0,hg⟩:=h.some_ Qk;have HE:Hid (cP r=some (⟨b.toNat,v,u⟩,r3)):=aH (by unfold cP;rw [HN.out];simp only [Da,if_true,if_neg V6,hN,HF.out,Qk];rfl);obtain ⟨m0,m1,m2,n0,n1,n2⟩:=HMB.out.gc hg Q5;have l0:w5.cell? ⟨w1.heap.size,0,none⟩=some (.int .i64 (b.toNat:Int)):=hg.box Q5 ((aI Q5).trans j0);have l1:w5.cell? ⟨w1.heap.size,1,none⟩=some (.int .i64 v):=hg.box Q5 (World.cell?_setCell_same _ _ _ j1);have l2:w5.cell? ⟨w1.heap.size,2,none⟩=some (.int .i64 0):=hg.box Q5 ((aI Q5).trans j2);have p2:w5.frozen? ⟨w1.heap.size,2,none⟩=false:=hg.boxz Q5 ((aI Q5).trans j2) (by rw [World.frozen?_setCell];exact k2);have Dr:=aH G0;have T5:=aH (O1.out.trans hg);clear h G0 hg Qk V6 j0 j1 j2 k0 k1 k2;go_wp2
          exact bodyPost_ret (v:=.agg #[.int .i64 (b.toNat:Int),.int .i64 v,.int .i64 u]) (by simp [results,Tryz.results118,go_sem,m0,m1,m2]) rfl (by rw [HE.out];exact ⟨_,rfl,rfl,ad (ad (ad (ad (Dr.out) Q5) Q5) Q5) Q5,aT (aT (aT (aT (T5.out) Q5) Q5) Q5) Q5⟩)
open Go.RowKit
attribute [local go_sem ↓] Go.wp_at_zero Go.wp_at_succ
theorem Tryz.rinfo_rlist_ins:(Tryz.prog.info? 42).map (fun i=>(i.zero,i.size,i.bytes))=some (some (Value.agg #[.int .i64 0,.int .i64 0,.int .i64 0]),3,24):=Q7
theorem vC(cb B:Nat)(r:List UInt8)(e a:Int)(w:World)(hc:io w cb r e a)(hb:cb < B)(hB:B<=w.heap.size):
 Calls Tryz.prog 117 #[.pointer (some ⟨cb,0,none⟩),.func (.func 118) #[] #[]] w (nV cb e a w (fun w' v (y:List aw)=>ea B w' v y) (aM cP r)):=by
 have HC:=aH hc;clear hc;go_enter Tryz.func117,Tryz.ntmps117
 go_wp2_with fail
 refine (dB cb r e a _ HC.out).mono ?_;intro x w1 h;cases hn:bC 0 0 r with
 | none=>
  obtain ⟨rfl,hg⟩:=h.none_ hn;exact ⟨rfl,by unfold aM;rw [hn];exact ⟨rfl,hg⟩⟩
 | some p=>
  obtain ⟨n,r1⟩:=p;obtain ⟨v,rfl,rfl,G0,hg⟩:=h.some_ hn;have I1:=aH hg;have E6:=aH G0;obtain ⟨⟨s,h0,hs⟩,hl,h1,h2,hz,hj⟩:=G0;have R0:s.size=r1.length:=by rw [<-hs,Array.length_toList];rfl
  have Mf:s.size<=1000000:=Q5
  have S3:IntKind.u64.wrap (s.size:Int)=s.size:=Go.IntWalk.u64_in _ Q5;by_cases hle:n<=r1.length
  · have HE:Hid (aM cP r=fT cP n r1):=aH (by unfold aM;rw [hn];simp only [if_pos hle]);have hd:(n:Int)<=(s.size:Int):=by omega
    have RC:n<=1000000:=Q5
    clear h hg hn hs hl hz R0 hle;go_wp2
    go_region_held3 (fun w'=>w'.cell? ⟨cb,0,none⟩=some (.string s)/\w'.cell? ⟨cb,1,none⟩=some (.int .i64 e)/\w'.cell? ⟨cb,3,none⟩=some (.int .i64 a)/\w'.cell? ⟨cb,2,none⟩=some (.int .i64 0)) (first|go_keep|(refine ⟨?_,?_,?_,?_⟩<;>exact D0.cell Q8 Q6)) (first|(go_at_call 64;refine (aP _ _ _).mono ?_;rintro e w' ⟨rfl,D0⟩))
    have O3:=aH (E6.out.gr (Gr.trans (Gr.drew (Gr.refl w1)) D0));have O0:=aH (I1.out.trans (Gr.trans (Gr.drew (Gr.refl w1)) D0).toGc);clear D0 h0 h1 h2 hj E6 I1 Mf S3 hd;obtain ⟨i0,hi,O6,N5,D5⟩:=info_parts Tryz.rinfo_rlist_ins;obtain ⟨M,hM⟩:∃M,M=madeCells (Value.agg #[.int .i64 0,.int .i64 0,.int .i64 0]).cells ((n:Int).toNat * i0.size):=⟨_,rfl⟩;have Ed:M.size=n * 3:=by rw [hM,size_madeCells,N5];simp
    have Rc:∀V:World,(Instr.makeSlice 40 (.int .u64 (n:Int)) (.int .u64 (n:Int))).run Tryz.prog V=.ok (.slice (some ⟨V.heap.size,0,none⟩) n n) (V.alloc (.cells M 42)):=by
     intro V;have h:=run_make (P:=Tryz.prog) V 40 42 i0 (Value.agg #[.int .i64 0,.int .i64 0,.int .i64 0]) Tryz.underlying40 hi O6 .u64 .u64 (n:Int) (n:Int) Q5 Q5 (by rw [D5];omega) Q5;rw [<-hM] at h;simpa using h
    have HM:=aH Ed;clear hM Ed hi O6 N5 D5;go_wp2
    have Ec:B<=w'.heap.size:=Nat.le_trans hB O0.out.size;have O7:w.heap.size<=w'.heap.size:=O0.out.size;go_loopw [27] (fun i wr=>∃(k:Nat) (ys:List aw) (rk:List UInt8),k<=n/\i=.int .i64 k/\ys.length=k/\io wr cb rk e a/\Gc cb w wr/\fT cP n r1=iR ys (fT cP (n - k) rk)/\w'.heap.size < wr.heap.size/\(∀j,j < n * 3->(∃x,wr.cell? ⟨w'.heap.size,j,none⟩=some x)/\wr.frozen? ⟨w'.heap.size,j,none⟩=false)/\∀j y,ys[j]? =some y->(wr.cell? ⟨w'.heap.size,j * 3,none⟩=some (.int .i64 y.op)/\wr.cell? ⟨w'.heap.size,j * 3+1,none⟩=some (.int .i64 y.a)/\wr.cell? ⟨w'.heap.size,j * 3+2,none⟩=some (.int .i64 y.b))) (fun i _=>n - (intOf i).toNat)
    case atStart=>
     refine ⟨0,[],r1,Nat.zero_le _,rfl,rfl,O3.out.gr ((Gr.refl _).alloc _),O0.out.trans ((Gr.refl _).alloc _).toGc,by rw [g_];rfl,Q6,fun j hj=>?_,fun j y hy=>by simp at hy⟩;exact iw w' M 42 j (by rw [HM.out];exact hj)
    case round=>
     obtain ⟨k,ys,rk,hk,rfl,I4,G0,hgc,Ga,R0,T1,S9⟩:=hrel;have HN:=aH Ga;have Sd:=aH S9;have S_:=aH T1;have HG3:=aH hgc;have P6:=aH G0;have Td:=aH I4;clear Ga S9 T1 hgc G0 O3 O0 I4 Rc;by_cases J0:k < n
     · obtain ⟨m,hm⟩:∃m,n - k=m+1:=⟨n - k - 1,Q5⟩;have R9:=aH hm;clear hm;go_wp2_with fail
       refine (xm cb rk e a _ P6.out).mono ?_;intro x w4 h;cases hf:cP rk with
       | none=>
        obtain ⟨rfl,hg⟩:=h.none_ hf;exact ⟨rfl,by rw [HE.out,HN.out,R9.out,fg hf];exact ⟨rfl,HG3.out.trans hg⟩⟩
       | some p=>
        obtain ⟨y,r4⟩:=p;obtain ⟨v,rfl,hy,G0,hg⟩:=h.some_ hf;have G':Hid (fT cP n r1=iR (ys++ [y]) (fT cP (n - (k+1)) r4)):=aH (by rw [HN.out,R9.out,fd hf,show n - (k+1)=m by have:=R9.out;omega]);have T_:Kp (w'.heap.size) wr w4:=hg.kp Q5;have Y8:w'.heap.size < w4.heap.size:=Nat.lt_of_lt_of_le R0 hg.size;have S2:Hid (∀j,j < n * 3->(∃x,w4.cell? ⟨w'.heap.size,j,none⟩=some x)/\w4.frozen? ⟨w'.heap.size,j,none⟩=false):=aH (gl S_.out T_ R0);have V7:=aH G0;have O1:=aH (HG3.out.trans hg);have Ja:=aH T_;have HY:=aH hy;clear h hf G0 T_;have hv:=HY.out;subst hv;obtain ⟨⟨x0,Ph⟩,O6⟩:=S2.out (k * 3) Q5;obtain ⟨⟨x1,hx1⟩,N5⟩:=S2.out (k * 3+1) Q5;obtain ⟨⟨x2,Gf⟩,D5⟩:=S2.out (k * 3+2) Q5;have SC:(0:Int)<=(k:Int):=Q5
        have Xk:(k:Int) < (n:Int):=Q5
        clear hg hy;go_wp2
        go_roundw
        case rel=>
         have I4:=Td.out;refine ⟨k+1,ys++ [y],r4,Q5,by go_num,by simp [I4],ad (ad (ad (V7.out) Q5) Q5) Q5,aT (aT (aT (O1.out) O7) O7) O7,G'.out,by simpa using Y8,da (da (da (S2.out))),fun j z hj=>?_⟩;rcases ir hj with ⟨h1,h2⟩|⟨h1,h2⟩
         · obtain ⟨q0,q1,q2⟩:=Sd.out j z h1;exact ⟨by rw [aI Q5,aI Q5,aI Q5];exact Ja.out.cell (Nat.le_refl _) q0,by rw [aI Q5,aI Q5,aI Q5];exact Ja.out.cell (Nat.le_refl _) q1,by rw [aI Q5,aI Q5,aI Q5];exact Ja.out.cell (Nat.le_refl _) q2⟩
         · subst h1;subst h2;rw [I4];exact ⟨by rw [aI Q5,aI Q5];exact World.cell?_setCell_same _ _ _ (Ph),by rw [aI Q5];exact World.cell?_setCell_same _ _ _ ((aI Q5).trans (hx1)),by exact World.cell?_setCell_same _ _ _ ((aI Q5).trans ((aI Q5).trans (Gf)))⟩
        case measure=>simp [intOf];omega
     · have P7:k=n:=by omega
       subst P7;have V_:Hid (aM cP r=some (ys,rk)):=aH (by rw [HE.out,HN.out,Nat.sub_self,iB]);go_wp2
       go_ret
       rw [V_.out];refine ⟨_,rfl,?_,P6.out,HG3.out⟩;have I4:=Td.out;show ea B wr (.slice (some ⟨w'.heap.size,0,none⟩) k k) ys
       refine ⟨some ⟨w'.heap.size,0,none⟩,k,by rw [I4],by unfold maxLen;omega,fun i y hi=>?_⟩;have hq:=Sd.out i y hi;exact ⟨w'.heap.size,0,rfl,Ec,by rw [Nat.zero_add];exact hq.1,by rw [Nat.zero_add];exact hq.2.1,by rw [Nat.zero_add];exact hq.2.2⟩
  · have HE:Hid (aM cP r=none):=aH (by unfold aM;rw [hn];simp only [if_neg hle]);have hd:decide (n<=s.size)=false:=by rw [decide_eq_false_iff_not];omega
    clear h hg hn hs hl hz R0 hle;go_wp2
    go_region_with (first|(go_at_call 64;refine (aV _ _ _).mono ?_;rintro e w' ⟨rfl,D0⟩;refine aR ?_))
    all_goals exact ⟨rfl,by rw [HE.out];exact ⟨rfl,I1.out.trans (Gr.trans (Gr.drew (Gr.refl w1)) D0).toGc⟩⟩
end Go.Proofs.YtkgncijcnlfhiabGreat
