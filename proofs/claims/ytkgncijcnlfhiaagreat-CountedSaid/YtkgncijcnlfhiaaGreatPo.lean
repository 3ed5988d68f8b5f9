import Derived.Deep.CutBlock
import Derived.Test.YtkgncijcnlfhiaaGreatPn
import Derived.Test.YtkgncijcnlfhiaaGreatPh
namespace Go.Proofs.YtkgncijcnlfhiaaGreat
set_option linter.unusedVariables false
set_option linter.unusedSimpArgs false
open Go.RowKit
attribute [local go_sem ↓] Go.wp_at_zero Go.wp_at_succ
def CX(V:World)(L:Nat)(v3 v4 v5 i:Value)(wr:World):Prop:=∃(k:Nat) (P:List aw) (S K:List Int),i=.int .i64 (k:Int)∧k≤40∧k≤L∧K.length≤k∧CI V k v3 v4 v5 P S K wr
def DK(V:World)(K:List Int)(v5 v3 v4:Value)(wr:World):Prop:=∃(P:List aw) (S:List Int) (N:Nat),N+S.length≤52∧CI V N v3 v4 v5 P S K wr
def Dd(V:World)(v3 v4 v5:Value)(wr:World):Prop:=∃(K:List Int) (P:List aw) (S:List Int) (k:Nat),k≤40∧CI V k v3 v4 v5 P S K wr
def DM(V:World)(K:List Int)(v5 v3 v4:Value)(wr:World):Prop:=∃(P:List aw) (v:Int),CI V 54 v3 v4 v5 P [v] K wr
theorem Cc{S:List Int}(h:2≤S.length):∃S0 x y,S=S0++ [x,y]:=by
 refine ⟨S.take (S.length - 2),S[S.length - 2]'(by omega),S[S.length - 1]'(by omega),?_⟩;have h1:S.drop (S.length - 2)= [S[S.length - 2]'(by omega),S[S.length - 1]'(by omega)]:=by
  rw [List.drop_eq_getElem_cons (by omega),List.drop_eq_getElem_cons (by omega),List.drop_eq_nil_of_le (by omega)];simp [show S.length - 2+1=S.length - 1 by omega]
 rw [←h1,List.take_append_drop]
theorem Bf(n:Int):IntKind.i64.wrap n=wrap64 n:=by unfold wrap64;exact IntKind.wrap_i64 n
theorem Cg(x y:Int):gh 7 x y=IntKind.i64.wrap (x - y):=(Bf (x - y)).symm
theorem CK{o x y r:Int}(h6:6≤o)(h10:o≤10)(h:gh o x y=r):(o=6∧IntKind.i64.wrap (x+y)=r)∨(o=7∧IntKind.i64.wrap (x - y)=r)∨(o=8∧IntKind.i64.wrap (x * y)=r)∨(o=9∧x < y∧r=1)∨(o=9∧¬x < y∧r=0)∨(o=10∧x=y∧r=1)∨(o=10∧¬x=y∧r=0):=by
 have:o=6∨o=7∨o=8∨o=9∨o=10:=by omega
 rcases this with rfl|rfl|rfl|rfl|rfl
 · exact .inl ⟨rfl,(Bf _).trans h⟩
 · exact .inr (.inl ⟨rfl,(Bf _).trans h⟩)
 · exact .inr (.inr (.inl ⟨rfl,(Bf _).trans h⟩))
 · by_cases c:x < y
   · exact .inr (.inr (.inr (.inl ⟨rfl,c,by simpa [c,eJ,gh] using h.symm⟩)))
   · exact .inr (.inr (.inr (.inr (.inl ⟨rfl,c,by simpa [c,eJ,gh] using h.symm⟩))))
 · by_cases c:x=y
   · exact .inr (.inr (.inr (.inr (.inr (.inl ⟨rfl,c,by simpa [c,eJ,gh] using h.symm⟩)))))
   · exact .inr (.inr (.inr (.inr (.inr (.inr ⟨rfl,c,by simpa [c,eJ,gh] using h.symm⟩)))))
theorem CW.top{V:World}{v3 v5:Value}{a:Option Addr}{m cap:Nat}{P:List aw}{S T K:List Int}{w:World}(h:CW V v3 (.slice a m cap) v5 P (S++T) K w)(hT:0 < T.length):∃g,a=some ⟨g,0,none⟩∧m=S.length+T.length∧m≤cap∧∀(i:Nat) (x:Int),T[i]? =some x→∀w',Gr w w'→w'.cell? ⟨g,S.length+i,none⟩=some (.int .i64 x):=by
 rcases h.s.2 with ⟨e,h0⟩|⟨g,cp,cur,e,h1,h2,h3,h4,h5,h6⟩
 · rw [List.length_append] at h0;omega
 · rw [Value.slice.injEq] at e;obtain ⟨rfl,rfl,rfl⟩:=e;refine ⟨g,rfl,List.length_append,h3,fun i x hx w' g'=>?_⟩;have hi:=(List.getElem?_eq_some_iff.1 hx).1;have hb:w'.heap[g]? =some (.cells cur 3 (0,0)):=(g'.block g (Array.getElem?_eq_some_iff.1 h2).1 (by simp)).trans h2;rw [aI hb,←Array.getElem?_toList];have e1:(cur.toList.take ((S++T).length * 1))[S.length+i]? =some (.int .i64 x):=by
    rw [h6,show eh (S++T)=eh S++eh T by simp [eh],List.getElem?_append_right (by simp [eh])];simp [eh,hx]
   rw [List.getElem?_take] at e1;rw [if_pos (by rw [List.length_append];omega)] at e1;exact e1
theorem Da(w:World):qs (w.alloc (.cells #[.int .i64 5,.int .i64 0,.int .i64 0,.int .i64 20,.int .i64 0,.int .i64 0,.int .i64 14,.int .i64 0,.int .i64 0] 26)) (.slice (some ⟨w.heap.size,0,none⟩) 3 3) [o1 5 0,o1 20 0,o1 14 0].length ([o1 5 0,o1 20 0,o1 14 0].flatMap cC):=eD w #[.int .i64 5,.int .i64 0,.int .i64 0,.int .i64 20,.int .i64 0,.int .i64 0,.int .i64 14,.int .i64 0,.int .i64 0] 26 3
theorem CI.lit{V:World}{N:Nat}{v3 v4 v5:Value}{P:List aw}{K:List Int}{w:World}(h:CI V N v3 v4 v5 P [] K w)(hN:N≤53):∀w1,Gr w w1→∃a3 c3 w2,C8 (w1.alloc (.cells #[.int .i64 1,.int .i64 (-5),.int .i64 0] 26)) v3 (.slice (some ⟨w1.heap.size,0,none⟩) 1 1) (.slice a3 (P.length+1) c3) w2∧
 ∃a4 c4 w4,Cz (w2.alloc (.cells #[.int .i64 (-5)] 3)) v4 (.slice (some ⟨w2.heap.size,0,none⟩) 1 1) (.slice a4 1 c4) w4∧CI V 54 (.slice a3 (P.length+1) c3) (.slice a4 1 c4) v5 (P++ [o1 1 (-5)]) [-5] K w4:=by
 intro w1 g;have lp:=h.lp;obtain ⟨v3',w2,hr3,h3⟩:=((h.cw.mv g).mv ((Gr.refl w1).alloc _)).putC (Cn w1 1 (-5)) (by show P.length+1≤1000;omega);obtain ⟨v4',w4,hr4,h4⟩:=(h3.mv ((Gr.refl w2).alloc _)).putS (CU w2 (-5)) (by simp);obtain ⟨a3,c3,e3⟩:=aL h4.c;obtain ⟨a4,c4,e4⟩:=aL h4.s;rw [List.length_append] at e3;subst e3 e4;refine ⟨a3,c3,w2,hr3,a4,c4,w4,hr4,CI.mk' (BI.lit h.lin (by simp)) (by simp;omega) h.lk (by simp) ?_ h.fk h4⟩;intro y hy;rw [List.mem_singleton.1 hy];constructor<;>omega
theorem CI.fin{V:World}{N:Nat}{v3 v4 v5:Value}{P:List aw}{S K:List Int}{w:World}(h:CI V N v3 v4 v5 P S K w)(hN:N≤54):∀w1,Gr w w1→∃a3 c3 w2,C8 (w1.alloc (.cells #[.int .i64 5,.int .i64 0,.int .i64 0,.int .i64 20,.int .i64 0,.int .i64 0,.int .i64 14,.int .i64 0,.int .i64 0] 26)) v3 (.slice (some ⟨w1.heap.size,0,none⟩) 3 3) (.slice a3 (P.length+3) c3) w2∧CW V (.slice a3 (P.length+3) c3) v4 v5 (A4 P) S K w2:=by
 intro w1 g;have lp:=h.lp;obtain ⟨v3',w2,hr3,h3⟩:=((h.cw.mv g).mv ((Gr.refl w1).alloc _)).putC (Da w1) (by show P.length+3≤1000;omega);obtain ⟨a3,c3,e3⟩:=aL h3.c;rw [List.length_append] at e3;subst e3;exact ⟨a3,c3,w2,hr3,h3⟩
theorem Db(m:Nat):∃q:Int,Int.tmod (m:Int) 5=q∧0≤q∧q≤4:=⟨_,rfl,by rw [Int.tmod_eq_emod_of_nonneg (by omega)];omega,by rw [Int.tmod_eq_emod_of_nonneg (by omega)];omega⟩
set_option maxRecDepth 100000 in
set_option maxHeartbeats 4000000 in
theorem CA(v0:Value)(l:List Int)(W:World)(hR:aX W v0 l)(hf:∀x∈l,B_ x):
 Calls Tryz.prog 3 #[v0] W fun x w'=>x=.returned (.bool true)∧Gr W w':=by
 obtain ⟨a0,c0,rfl,hl0,hcl⟩:=hR;have HCL:=aH hcl;have HF:=aH hf;have HL0:=aH hl0;clear hcl hf hl0;have HST:Hid (CX W l.length (.slice none 0 0) (.slice none 0 0) (.slice none 0 0) (.int .i64 0) W):=aH ⟨0,[],[],[],rfl,by omega,by omega,by simp,CI.mk' .nil (by simp) (by simp) (by simp) (fun x hx=>by simp at hx) (fun x hx=>by simp at hx) ⟨⟨rfl,.inl ⟨rfl,rfl⟩⟩,⟨rfl,.inl ⟨rfl,rfl⟩⟩,⟨rfl,.inl ⟨rfl,rfl⟩⟩,fun k h=>by simp [Value.ownBlock] at h,fun k h=>by simp [Value.ownBlock] at h,fun k h=>by simp [Value.ownBlock] at h,Gr.refl W⟩⟩;go_enter Tryz.func3,Tryz.ntmps3
 go_upto_block 0 with fail
 go_cut [3,4,5,6] from 7 (fun v3 v4 v5 i wy=>Dd W v3 v4 v5 wy)
 case first=>
  as_aux_lemma=>
   go_wp2_with fail
   go_loopw [3,4,5,6] (fun v3 v4 v5 i wr=>CX W l.length v3 v4 v5 i wr) (fun _ _ _ i _=>40 - (intOf i).toNat)
   case atStart=>exact HST.out
   case round=>
    clear HST;obtain ⟨k,P,S,K,rfl,hk,hkL,hKk,hci⟩:=hrel;obtain ⟨a3,c3,rfl⟩:=hci.s3;obtain ⟨a4,c4,rfl⟩:=hci.s4;obtain ⟨a5,c5,rfl⟩:=hci.s5;by_cases hlt:k < l.length∧k < 40
    · obtain ⟨h1,h2⟩:=hlt;have i1:(k:Int) < (l.length:Int):=by omega
      have i2:(k:Int) < 40:=by omega
      have hw1:IntKind.i64.wrap ((k:Int)+1)=(k:Int)+1:=Go.IntWalk.i64_in _ (by omega);obtain ⟨b0,off,rfl,hc⟩:=HCL.out k h1;obtain ⟨x,hx⟩:∃x,l[k]? =some x:=⟨_,List.getElem?_eq_getElem h1⟩;have hxd:l.getD k 0=x:=by rw [List.getD_eq_getElem?_getD,hx];rfl
      have hfx:=HF.out x (List.mem_of_getElem? hx);have HX:Hid (∀w',Gr W w'→w'.cell? ⟨b0,off+k,none⟩=some (.int .i64 x)):=aH (fun w' g=>by
       have h:=g.cell (a:=⟨b0,off+k,none⟩) hc (by simp)
       first
        | exact h
        |(rw [hxd] at h;exact h)
        |(rw [h];simp [hx]))
      obtain ⟨m,hm,hpm⟩:=g9 x 11 hfx (by omega) (by omega);have HP:=aH (hpm wr);have HFX:=aH hfx;have HCI:=aH hci;have hS12:=hci.ls;have cx:=HX.out wr hci.cw.gr;clear hpm hfx hci hx hxd hc HCL;go_wp2_with fail
      refine HP.out.mono ?_;rintro x1 w0 ⟨rfl,hw0⟩;obtain rfl:=hw0.symm;clear HP hw0;by_cases hs2:S.length < 2
      · have j1:(S.length:Int) < 2:=by omega
        have j2:¬(S.length:Int)=12:=by omega
        have j3:((S.length:Int) == 12)=false:=by simpa using j2
        have j4:¬S.length=12:=by omega
        go_wp2_with fail
        refine (oB _ _ _).mono ?_;rintro x1 w1 ⟨rfl,hg1⟩;obtain ⟨a3',c3',w2,hr3,a5',c5',w3,hr5,a4',c4',w4,hr4,hci4,hg2,hg3⟩:=HCI.out.put (by omega) (by omega) (by omega) HFX.out w1 hg1;have c2:=HX.out w2 hg2;have c3:=HX.out w3 hg3;have HR3:=aH hr3;have HR5:=aH hr5;have HR4:=aH hr4;have HCE:Hid (CX W l.length (.slice a3' (P.length+1) c3') (.slice a4' (S.length+1) c4') (.slice a5' (K.length+1) c5') (.int .i64 ((k+1:Nat):Int)) w4):=aH ⟨k+1,_,_,_,rfl,by omega,by omega,by simp;omega,hci4⟩;clear hr3 hr5 hr4 hci4 hg2 hg3 hg1 HCI HX HF HL0 HFX cx;go_wp2_with (first|(at_builtin;refine Lib.wpList_append_run _ rfl _ _ _ _ rfl _ _ rfl rfl _ _ HR3.out ?_)|(at_builtin;refine Lib.wpList_append_run _ rfl _ _ _ _ rfl _ _ rfl rfl _ _ HR5.out ?_)|(at_builtin;refine Lib.wpList_append_run _ rfl _ _ _ _ rfl _ _ rfl rfl _ _ HR4.out ?_))
        exact ⟨HCE.out,by simp [intOf];omega⟩
      · have j0:¬(S.length:Int) < 2:=by omega
        by_cases hm3:m < 3
        · have j1:(m:Int) < 3:=by omega
          by_cases h12:S.length=12
          · have j2:((S.length:Int) == 12)=true:=by simp [h12]
            have j3:(S.length:Int)=12:=by omega
            have HN:Hid (CX W l.length (.slice a3 P.length c3) (.slice a4 S.length c4) (.slice a5 K.length c5) (.int .i64 ((k+1:Nat):Int)) wr):=aH ⟨k+1,P,S,K,rfl,by omega,by omega,by omega,CI.mk' HCI.out.lin (by have:=HCI.out.lp;omega) HCI.out.lk HCI.out.ls HCI.out.fs HCI.out.fk HCI.out.cw⟩;rw [h12] at HN ⊢;clear HCI hs2 hm3 h12 j0 j2 j3 HX HF HL0 HFX hS12 i1;go_wp2_with fail
            exact ⟨HN.out,by simp [intOf];omega⟩
          · have j2:¬(S.length:Int)=12:=by omega
            have j3:((S.length:Int) == 12)=false:=by simpa using j2
            go_wp2_with fail
            refine (oB _ _ _).mono ?_;rintro x1 w1 ⟨rfl,hg1⟩;obtain ⟨a3',c3',w2,hr3,a5',c5',w3,hr5,a4',c4',w4,hr4,hci4,hg2,hg3⟩:=HCI.out.put (by omega) (by omega) (by omega) HFX.out w1 hg1;have c2:=HX.out w2 hg2;have c3:=HX.out w3 hg3;have HR3:=aH hr3;have HR5:=aH hr5;have HR4:=aH hr4;have HCE:Hid (CX W l.length (.slice a3' (P.length+1) c3') (.slice a4' (S.length+1) c4') (.slice a5' (K.length+1) c5') (.int .i64 ((k+1:Nat):Int)) w4):=aH ⟨k+1,_,_,_,rfl,by omega,by omega,by simp;omega,hci4⟩;clear hr3 hr5 hr4 hci4 hg2 hg3 hg1 HCI HX HF HL0 HFX cx;go_wp2_with (first|(at_builtin;refine Lib.wpList_append_run _ rfl _ _ _ _ rfl _ _ rfl rfl _ _ HR3.out ?_)|(at_builtin;refine Lib.wpList_append_run _ rfl _ _ _ _ rfl _ _ rfl rfl _ _ HR5.out ?_)|(at_builtin;refine Lib.wpList_append_run _ rfl _ _ _ _ rfl _ _ rfl rfl _ _ HR4.out ?_))
            exact ⟨HCE.out,by simp [intOf];omega⟩
        · have j1:¬(m:Int) < 3:=by omega
          obtain ⟨S0,y0,y1,rfl⟩:=Cc (S:=S) (by omega);obtain ⟨g4,rfl,hn,hcap,htop⟩:=HCI.out.cw.top (by simp);have t0:wr.cell? ⟨g4,S0.length,none⟩=some (.int .i64 y0):=htop 0 y0 rfl wr (Gr.refl wr);have t1:wr.cell? ⟨g4,S0.length+1,none⟩=some (.int .i64 y1):=htop 1 y1 rfl wr (Gr.refl wr);obtain ⟨q,hq,hq0,hq4⟩:=Db m;have hwq:IntKind.i64.wrap q=q:=Go.IntWalk.i64_in _ (by omega);obtain ⟨o,hwo,h6,h10⟩:∃o,IntKind.i64.wrap (6+q)=o∧6≤o∧o≤10:=⟨6+q,Go.IntWalk.i64_in _ (by omega),by omega,by omega⟩;have HTW0:=HCI.out.two (by omega) o h6 h10;obtain ⟨r,hrk⟩:∃r,gh o y0 y1=r:=⟨_,rfl⟩;rw [hrk] at HTW0;have HTW:=aH HTW0;have hn3:(S0++ [y0,y1]).length=S0.length+2:=by simp
          have HLK:Hid (K.length≤k):=aH hKk;clear HTW0 HCI htop hKk HX HF HL0 HFX cx i1 hs2 hm3 hn hm;rw [hn3] at hcap j0 hS12 ⊢;clear hn3;generalize hn2:S0.length=n2 at *;generalize hn:n2+2=n at *;have d0:¬(n:Int) < 2:=by omega
          have d2:IntKind.i64.wrap ((n:Int) - 2)=(n2:Int):=(Go.IntWalk.i64_in _ (by omega)).trans (by omega);have d1:IntKind.i64.wrap ((n:Int) - 1)=((n2+1:Nat):Int):=(Go.IntWalk.i64_in _ (by omega)).trans (by omega);have e1:n2 < n:=by omega
          have e2:n2+1 < n:=by omega
          have e3:((n2+1:Nat):Int) < (n:Int):=by omega
          have e4:(n2:Int) < (n:Int):=by omega
          have e5:n2≤c4:=by omega
          have e6:(n2:Int)≤(c4:Int):=by omega
          have HN:=aH hn;clear hn hn2 hcap hS12;rcases CK h6 h10 hrk with ⟨rfl,hr⟩|⟨rfl,hr⟩|⟨rfl,hr⟩|⟨rfl,hr,rfl⟩|⟨rfl,hr,rfl⟩|⟨rfl,hr,rfl⟩|⟨rfl,hr,rfl⟩
          all_goals (
           go_wp2_with fail
           refine (oB _ _ _).mono ?_;rintro x1 w1 ⟨rfl,hg1⟩;obtain ⟨a3',c3',w2,hr3,hcw2,hnx⟩:=HTW.out w1 hg1;obtain ⟨a4',c4',w4,hr4,hci4⟩:=hnx w2 (Gr.refl w2);have HR3:=aH hr3;have HR4:=aH hr4;have HCE:Hid (CX W l.length (.slice a3' (P.length+1) c3') (.slice a4' (n2+1) c4') (.slice a5 K.length c5) (.int .i64 ((k+1:Nat):Int)) w4):=aH ⟨k+1,_,_,_,rfl,by omega,by omega,by have:=HLK.out;omega,hci4⟩;clear hr3 hr4 hci4 hnx hcw2 hg1 HTW;go_wp2_with (first|(at_builtin;refine Lib.wpList_append_run _ rfl _ _ _ _ rfl _ _ rfl rfl _ _ HR3.out ?_)|(at_builtin;refine Lib.wpList_append_run _ rfl _ _ _ _ rfl _ _ rfl rfl _ _ HR4.out ?_))
           exact ⟨HCE.out,by simp [intOf];omega⟩
           )
    · have HX:Hid (Dd W (.slice a3 P.length c3) (.slice a4 S.length c4) (.slice a5 K.length c5) wr):=aH ⟨K,P,S,k,hk,hci⟩;clear hci hKk hkL;have hex:l.length≤k∨(k < l.length∧40≤k):=by omega
      clear hlt HCL HF HL0;rcases hex with he|he
      · have i1:¬(k:Int) < (l.length:Int):=by omega
        clear he;go_wp2_with fail
        go_meet
        exact HX.out
      · have i1:(k:Int) < (l.length:Int):=by omega
        have i2:¬(k:Int) < 40:=by omega
        clear he;go_wp2_with fail
        go_meet
        exact HX.out
 case rest=>
  clear HST HCL HF HL0;obtain ⟨K,P,S,k,hk,hci⟩:=hcut;obtain ⟨a5,c5,rfl⟩:=hci.s5;have HJ0:Hid (DK W K (.slice a5 K.length c5) _ _ wc):=aH ⟨P,S,k,by have:=hci.ls;omega,hci⟩;clear hci hk;go_wp2_with fail
  go_loopw [3,4] (fun v3 v4 wx=>DK W K (.slice a5 K.length c5) v3 v4 wx) (fun _ v4 _=>ym v4)
  case atStart=>exact HJ0.out
  case round=>
   clear HJ0;obtain ⟨P2,S2,N,hN,hci⟩:=hrel;obtain ⟨q3,r3,rfl⟩:=hci.s3;obtain ⟨p4,q4,rfl⟩:=hci.s4;by_cases hlt:1 < S2.length
   · obtain ⟨S0,y0,y1,rfl⟩:=Cc (S:=S2) (by omega);obtain ⟨g4,rfl,hn,hcap,htop⟩:=hci.cw.top (by simp);have HTW0:=hci.two (by omega) 7 (by omega) (by omega);obtain ⟨r,hrk⟩:∃r,IntKind.i64.wrap (y0 - y1)=r:=⟨_,rfl⟩;have hrk2:gh 7 y0 y1=r:=(Cg y0 y1).trans hrk;rw [hrk2] at HTW0;have HTW:=aH HTW0;have hn3:(S0++ [y0,y1]).length=S0.length+2:=by simp
     have hls:=hci.ls;clear HTW0 htop hci hrk2 hn;rw [hn3] at hcap hlt hN hls ⊢;clear hn3;generalize hn2:S0.length=n2 at *;generalize hn:n2+2=n at *;have j1:(n:Int) > 1:=by omega
     have j2:1 < (n:Int):=by omega
     have d2:IntKind.i64.wrap ((n:Int) - 2)=(n2:Int):=(Go.IntWalk.i64_in _ (by omega)).trans (by omega);have d1:IntKind.i64.wrap ((n:Int) - 1)=((n2+1:Nat):Int):=(Go.IntWalk.i64_in _ (by omega)).trans (by omega);have e1:n2 < n:=by omega
     have e2:n2+1 < n:=by omega
     have e3:((n2+1:Nat):Int) < (n:Int):=by omega
     have e4:(n2:Int) < (n:Int):=by omega
     have e5:n2≤q4:=by omega
     have e6:(n2:Int)≤(q4:Int):=by omega
     have e7:0≤(n2:Int)+1:=by omega
     have e8:(n2:Int)+1 < (n:Int):=by omega
     have HN:=aH (And.intro hn hN);have HN2:=aH hn2;clear hn hn2 hcap hls hN hlt;go_wp2_with fail
     refine (oB _ _ _).mono ?_;rintro x1 w1 ⟨rfl,hg1⟩;obtain ⟨a3',c3',w2,hr3,hcw2,hnx⟩:=HTW.out w1 hg1;obtain ⟨_,e0,hz1,hz2,htop2⟩:=hcw2.top (by simp);clear hz1 hz2;obtain rfl:g4=_:=by simpa using e0
     rw [HN2.out] at htop2;obtain ⟨a4',c4',w4,hr4,hci4⟩:=hnx w2.drew (Gr.drew (Gr.refl w2));have HR3:=aH hr3;have HR4:=aH hr4;have HTP:=aH htop2;have HCE:Hid (DK W K (.slice a5 K.length c5) (.slice a3' (P2.length+1) c3') (.slice a4' (n2+1) c4') w4):=aH ⟨_,_,N+1,by rw [List.length_append,HN2.out];have:=HN.out;simp;omega,hci4⟩;clear hr3 hr4 hci4 hnx hcw2 hg1 HTW htop2 e0;go_upto_region 35 with (first|(at_builtin;refine Lib.wpList_append_run _ rfl _ _ _ _ rfl _ _ rfl rfl _ _ HR3.out ?_))
     have htop2:=HTP.out;clear HTP;refine i5 [16,17] (S:=(fun w'=>w'.cell? ⟨g4,n2,none⟩=some (.int .i64 y0)∧w'.cell? ⟨g4,n2+1,none⟩=some (.int .i64 y1))) (by kernel_rfl) (⟨htop2 0 y0 rfl _ (Gr.drew (Gr.refl _)),htop2 1 y1 rfl _ (Gr.drew (Gr.refl _))⟩) (fun hH=>?_);refine zL (i:=0) (v:=_) rfl (by kernel_rfl) (by kernel_rfl) (by kernel_rfl) (by kernel_rfl) (fun _ _ _ h=>h) (by rfl) (fun w hSw=>by (try dsimp only at hSw);go_simp<;>with_reducible rfl) hH ?_
     simp only [Act.put,sA,s0,s1];refine zL (i:=1) (v:=_) rfl (by kernel_rfl) (by kernel_rfl) (by kernel_rfl) (by kernel_rfl) (fun _ _ _ h=>h) (by rfl) (fun w hSw=>by (try dsimp only at hSw);go_simp<;>with_reducible rfl) hH ?_
     simp only [Act.put,sA,s0,s1];refine zL (i:=2) (v:=_) rfl (by kernel_rfl) (by kernel_rfl) (by kernel_rfl) (by kernel_rfl) (fun _ _ _ h=>h) (by rfl) (fun w hSw=>by (try dsimp only at hSw);go_simp<;>with_reducible rfl) hH ?_
     simp only [Act.put,sA,s0,s1];refine zL (i:=3) (v:=_) rfl (by kernel_rfl) (by kernel_rfl) (by kernel_rfl) (by kernel_rfl) (fun _ _ _ h=>h) (by rfl) (fun w hSw=>by (try dsimp only at hSw);go_simp<;>with_reducible rfl) hH ?_
     simp only [Act.put,sA,s0,s1];refine zL (i:=4) (v:=_) rfl (by kernel_rfl) (by kernel_rfl) (by kernel_rfl) (by kernel_rfl) (fun _ _ _ h=>h) (by rfl) (fun w hSw=>by (try dsimp only at hSw);go_simp<;>with_reducible rfl) hH ?_
     simp only [Act.put,sA,s0,s1];refine zL (i:=5) (v:=_) rfl (by kernel_rfl) (by kernel_rfl) (by kernel_rfl) (by kernel_rfl) (fun _ _ _ h=>h) (by rfl) (fun w hSw=>by (try dsimp only at hSw);go_simp<;>with_reducible rfl) hH ?_
     simp only [Act.put,sA,s0,s1];refine zL (i:=6) (v:=_) rfl (by kernel_rfl) (by kernel_rfl) (by kernel_rfl) (by kernel_rfl) (fun _ _ _ h=>h) (by rfl) (fun w hSw=>by (try dsimp only at hSw);go_simp<;>with_reducible rfl) hH ?_
     simp only [Act.put,sA,s0,s1];refine zL (i:=7) (v:=_) rfl (by kernel_rfl) (by kernel_rfl) (by kernel_rfl) (by kernel_rfl) (fun _ _ _ h=>h) (by rfl) (fun w hSw=>by (try dsimp only at hSw);go_simp<;>with_reducible rfl) hH ?_
     simp only [Act.put,sA,s0,s1];refine zL (i:=8) (v:=_) rfl (by kernel_rfl) (by kernel_rfl) (by kernel_rfl) (by kernel_rfl) (fun _ _ _ h=>h) (by rfl) (fun w hSw=>by (try dsimp only at hSw);go_simp<;>with_reducible rfl) hH ?_
     simp only [Act.put,sA,s0,s1];refine zL (i:=9) (v:=_) rfl (by kernel_rfl) (by kernel_rfl) (by kernel_rfl) (by kernel_rfl) (fun _ _ _ h=>h) (by rfl) (fun w hSw=>by (try dsimp only at hSw);go_simp<;>with_reducible rfl) hH ?_
     simp only [Act.put,sA,s0,s1];refine zL (i:=10) (v:=_) rfl (by kernel_rfl) (by kernel_rfl) (by kernel_rfl) (by kernel_rfl) (fun _ _ _ h=>h) (by rfl) (fun w hSw=>by (try dsimp only at hSw);go_simp<;>with_reducible rfl) hH ?_
     simp only [Act.put,sA,s0,s1];refine zL (i:=11) (v:=_) rfl (by kernel_rfl) (by kernel_rfl) (by kernel_rfl) (by kernel_rfl) (fun _ _ _ h=>h) (by rfl) (fun w hSw=>by (try dsimp only at hSw);go_simp<;>with_reducible rfl) hH ?_
     simp only [Act.put,sA,s0,s1];refine zL (i:=12) (v:=_) rfl (by kernel_rfl) (by kernel_rfl) (by kernel_rfl) (by kernel_rfl) (fun _ _ _ h=>h) (by rfl) (fun w hSw=>by (try dsimp only at hSw);go_simp<;>with_reducible rfl) hH ?_
     simp only [Act.put,sA,s0,s1];refine zL (i:=13) (v:=_) rfl (by kernel_rfl) (by kernel_rfl) (by kernel_rfl) (by kernel_rfl) (fun _ _ _ h=>h) (by rfl) (fun w hSw=>by (try dsimp only at hSw);go_simp<;>with_reducible rfl) hH ?_
     simp only [Act.put,sA,s0,s1];refine zL (i:=14) (v:=_) rfl (by kernel_rfl) (by kernel_rfl) (by kernel_rfl) (by kernel_rfl) (fun _ _ _ h=>h) (by rfl) (fun w hSw=>by (try dsimp only at hSw);go_simp<;>with_reducible rfl) hH ?_
     simp only [Act.put,sA,s0,s1];refine kh (i:=15) rfl (by kernel_rfl) (fun K hK=>?_);refine ae (by rfl) ?_;go_simp
     refine hK.out _ _ (fun _=>⟨htop2 0 y0 rfl _ ((Gr.drew (Gr.refl _)).alloc _),htop2 1 y1 rfl _ ((Gr.drew (Gr.refl _)).alloc _)⟩) ?_;clear hK;try simp only [Act.put,sA,s0,s1]
     refine kh (i:=16) rfl (by kernel_rfl) (fun K hK=>?_);refine ae (by rfl) (Lib.wp_append_run _ _ _ _ _ rfl (.slice (some ⟨g4,0,none⟩) n2 q4) (.slice (some ⟨w2.drew.heap.size,0,none⟩) 1 1) (by simp [Act.eval]) (by simp [Act.eval]) _ _ HR4.out ?_);refine hK.out _ _ (fun h=>absurd h (by decide)) ?_;clear hK;try simp only [Act.put,sA,s0,s1]
     refine kh (i:=17) rfl (by kernel_rfl) (fun K hK=>?_);refine ae (by rfl) ?_;go_simp
     refine hK.out _ _ (fun h=>absurd h (by decide)) ?_;clear hK;try simp only [Act.put,sA,s0,s1]
     refine vG (by kernel_rfl) ?_ _;go_wp2_with fail
     exact ⟨HCE.out,by show n2+1 < n;omega⟩
   · have j1:¬(S2.length:Int) > 1:=by omega
     have j2:¬1 < (S2.length:Int):=by omega
     have hS:S2= []∨∃v,S2= [v]:=by
      cases S2 with
      | nil=>exact .inl rfl
      | cons v t=>cases t with
       | nil=>exact .inr ⟨v,rfl⟩
       | cons _ _=>simp at hlt
     have HS:=aH hS;have HCI:=aH hci;have HNN:=aH hN;clear hci hS hN hlt;go_upto_if 144 with fail
     go_cut [3,4] from 145 (fun v3 v4 wy=>DM W K (.slice a5 K.length c5) v3 v4 wy)
     case first=>
      rcases HS.out with rfl|⟨v,rfl⟩
      · go_wp2_with fail
        refine (oB _ _ _).mono ?_;rintro x1 w1 ⟨rfl,hg1⟩;obtain ⟨a3',c3',w2,hr3,a4',c4',w4,hr4,hci4⟩:=HCI.out.lit (by have h1:=HNN.out;rw [List.length_nil] at h1;omega) w1 hg1;have HR3:=aH hr3;have HR4:=aH hr4;have HCE:Hid (DM W K (.slice a5 K.length c5) (.slice a3' (P2.length+1) c3') (.slice a4' 1 c4') w4):=aH ⟨_,_,hci4⟩;clear hr3 hr4 hci4 hg1 HCI HS HNN;go_wp2_with (first|(at_builtin;refine Lib.wpList_append_run _ rfl _ _ _ _ rfl _ _ rfl rfl _ _ HR3.out ?_)|(at_builtin;refine Lib.wpList_append_run _ rfl _ _ _ _ rfl _ _ rfl rfl _ _ HR4.out ?_))
        go_meet
        exact HCE.out
      · have HCE:Hid (DM W K (.slice a5 K.length c5) (.slice q3 P2.length r3) (.slice p4 [v].length q4) wr):=aH ⟨P2,v,CI.mk' HCI.out.lin (by have h1:=HNN.out;have h2:=HCI.out.lp;rw [List.length_singleton] at h1;omega) HCI.out.lk HCI.out.ls HCI.out.fs HCI.out.fk HCI.out.cw⟩;clear HCI HS HNN;go_wp2_with fail
        go_meet
        exact HCE.out
     case rest=>
      clear HS HCI HNN;obtain ⟨P3,v,hci⟩:=hcut;obtain ⟨q3,r3,rfl⟩:=hci.s3;obtain ⟨p4,q4,rfl⟩:=hci.s4;obtain ⟨g4,rfl,hz1,hz2,hz3⟩:=CW.top (S:= []) (T:= [v]) hci.cw (by simp);clear hz1 hz2 hz3;have HCI:=aH hci;clear hci;go_wp2_with fail
      refine (oB _ _ _).mono ?_;rintro x1 w1 ⟨rfl,hg1⟩;go_wp2_with fail
      refine (oB _ _ _).mono ?_;rintro x1 w2 ⟨rfl,hg2⟩;go_wp2_with fail
      refine (oB _ _ _).mono ?_;rintro x1 w3 ⟨rfl,hg3⟩;obtain ⟨a3',c3',w4,hr3,hcw⟩:=HCI.out.fin (by omega) w3 (hg1.trans (hg2.trans hg3));have HR3:=aH hr3;have HCW:=aH hcw;clear hr3 hcw hg1 hg2 hg3;go_upto_region 40 with (first|(at_builtin;refine Lib.wpList_append_run _ rfl _ _ _ _ rfl _ _ rfl rfl _ _ HR3.out ?_))
      clear HR3;go_wp2_with fail
      refine (lA _ _ _ _ _ _ _ _ _ _).mono ?_;rintro x1 w5 ⟨fb,eb,rfl,hfb,heb,hf1,he1,hg5⟩;have gU:=(Gr.refl w5).alloc (.cells #[.slice none 0 0,.slice a5 K.length c5,.slice (some ⟨fb,0,none⟩) 1 1,.slice none 0 0,.slice (some ⟨eb,0,none⟩) 1 1] 33);have hbU:=heap_alloc_new w5 (.cells #[.slice none 0 0,.slice a5 K.length c5,.slice (some ⟨fb,0,none⟩) 1 1,.slice none 0 0,.slice (some ⟨eb,0,none⟩) 1 1] 33);have hO4:∀b (o:Obj),w5.heap[b]? =some o→(w5.alloc (.cells #[.slice none 0 0,.slice a5 K.length c5,.slice (some ⟨fb,0,none⟩) 1 1,.slice none 0 0,.slice (some ⟨eb,0,none⟩) 1 1] 33)).heap[b]? =some o:=fun b o h=>(gU.block b (Array.getElem?_eq_some_iff.1 h).1 (by simp)).trans h
      have hcw4:=HCW.out.mv (hg5.trans gU);have HRU:Hid (cD (w5.alloc (.cells #[.slice none 0 0,.slice a5 K.length c5,.slice (some ⟨fb,0,none⟩) 1 1,.slice none 0 0,.slice (some ⟨eb,0,none⟩) 1 1] 33)) (.agg #[.slice none 0 0,.slice a5 K.length c5,.slice (some ⟨fb,0,none⟩) 1 1,.slice none 0 0,.slice (some ⟨eb,0,none⟩) 1 1]) (A6 K (A4 P3))):=aH ⟨_,_,_,_,_,rfl,CR _,j_ hcw4.k,kT (es:= [⟨.slice none 0 0,.slice none 0 0,.slice a3' (P3.length+3) c3',BT (A4 P3)⟩]) (hO4 _ _ hfb) rfl rfl (by show 1≤1000;omega) (fun e he=>by
       rw [List.mem_singleton.1 he];exact ⟨y_ _,y_ _,by have:=pJ hcw4.c;exact this⟩),uo _,qM (hO4 _ _ heb)⟩
      obtain ⟨_,e0,hz1,hz2,htop⟩:=CW.top (S:= []) (T:= [v]) hcw4 (by simp);clear hz1 hz2;obtain rfl:g4=_:=by simpa using e0
      have HTP:Hid (∀w',Gr (w5.alloc (.cells #[.slice none 0 0,.slice a5 K.length c5,.slice (some ⟨fb,0,none⟩) 1 1,.slice none 0 0,.slice (some ⟨eb,0,none⟩) 1 1] 33)) w'→w'.cell? ⟨g4,0,none⟩=some (.int .i64 v)):=aH (fun w' g=>htop 0 v rfl w' g);have HG4:=aH hcw4.gr;have HD4:=aH hbU;have HLN:=aH HCI.out.lin;have hlp:=HCI.out.lp;have hlk:=HCI.out.lk;have HFK:=aH HCI.out.fk;clear gU hbU hO4 hcw4 hfb heb hf1 he1 hg5 htop e0 HCW HCI;go_upto_region 42 with fail
      generalize w5.alloc (.cells #[.slice none 0 0,.slice a5 K.length c5,.slice (some ⟨fb,0,none⟩) 1 1,.slice none 0 0,.slice (some ⟨eb,0,none⟩) 1 1] 33)=W4 at HD4 HRU HG4 HTP ⊢;generalize w5.heap.size=ub at HD4 ⊢;have KS:Hid (∀w',Gr W4 w'→w'.cell? ⟨ub,0,none⟩=some (.slice none 0 0)∧w'.cell? ⟨ub,1,none⟩=some (.slice a5 K.length c5)∧w'.cell? ⟨ub,2,none⟩=some (.slice (some ⟨fb,0,none⟩) 1 1)∧w'.cell? ⟨ub,3,none⟩=some (.slice none 0 0)∧w'.cell? ⟨ub,4,none⟩=some (.slice (some ⟨eb,0,none⟩) 1 1)):=aH (fun w' g=>cells5 ((g.block ub (Array.getElem?_eq_some_iff.1 HD4.out).1 (by simp)).trans HD4.out));have HRN:Hid (∀w' b (f:Nat),Gr W4 w'→w'.heap[b]? =some (.cells #[.slice none 0 0,.slice a5 K.length c5,.slice (some ⟨fb,0,none⟩) 1 1,.slice none 0 0,.slice (some ⟨eb,0,none⟩) 1 1] 33 (0,0))→f≤200000→Calls Tryz.prog 12 #[.slice (some ⟨b,0,none⟩) 1 1,.int .i64 (f:Int),.int .i64 0] w' (AE w' (dH f 0 (A6 K (A4 P3))))):=aH (fun w' b f g hb hf=>l8 (f:=f) (h:=0) (rL hb (HRU.out.gr g)) (HLN.out.wrt (by omega) (by omega) HFK.out) (HLN.out.link (by omega) (by omega)) (HLN.out.ver (by omega) (by omega)) hf (by omega));have hfull:=HLN.out.full;have hless:=HLN.out.less;rw [BL] at hfull hless;have hC:=ti _ (pE _) _ W4 HRU.out;unfold AS at hC;rw [HLN.out.ver (by omega) (by omega)] at hC;generalize hn3:P3.length+3=n3 at *;generalize hn4:n3 - 1=n4 at *;have hw4:IntKind.i64.wrap ((n3:Int) - 1)=(n4:Int):=(Go.IntWalk.i64_in _ (by omega)).trans (by omega);have hb3:n3≤100:=by omega
      have hb4:n4≤100:=by omega
      have HFU:=aH hfull;have HLE:=aH hless;have HC:=aH hC;clear hC hfull hless HD4 HRU HLN HFK hlp hlk hn3 hn4;obtain ⟨v0,v1,v2,v3,v4⟩:=KS.out _ (Gr.refl _);go_wp2_with fail
      refine HC.out.mono ?_;rintro x1 W5 ⟨rfl,hbl⟩;have HG5:=aH (kS hbl);clear hbl HC v0 v1 v2 v3 v4;go_upto_region 43 with fail
      obtain ⟨v0,v1,v2,v3,v4⟩:=KS.out _ HG5.out;have g7:=(Gr.refl W5).alloc (.cells #[.slice none 0 0,.slice a5 K.length c5,.slice (some ⟨fb,0,none⟩) 1 1,.slice none 0 0,.slice (some ⟨eb,0,none⟩) 1 1] 33);have hC:=HRN.out _ W5.heap.size n3 (HG5.out.trans g7) (heap_alloc_new W5 _) (by omega);rw [HFU.out] at hC;have HC:=aH hC;have HG:=aH g7;clear g7 hC;go_wp2_with fail
      refine HC.out.mono ?_;rintro x1 w6 ⟨vo,rfl,⟨vt,rfl,⟨ta,tc1,rfl,_,htc⟩⟩,hg6⟩;obtain ⟨tb1,to1,rfl,_,htc⟩:=htc 0 v rfl;have HT1:=aH htc;have HB1:=aH (heap_alloc_new w6 (.cells #[.int .i64 6,.int .i64 0,.int .i64 0,.int .i64 0,.int .i64 v,.slice (some ⟨tb1,to1,none⟩) 1 tc1,.int .i64 (n3:Int)] 39));have HW1:=aH ((HG.out.trans hg6).alloc (.cells #[.int .i64 6,.int .i64 0,.int .i64 0,.int .i64 0,.int .i64 v,.slice (some ⟨tb1,to1,none⟩) 1 tc1,.int .i64 (n3:Int)] 39));have HV1:=aH ((Gr.refl w6).alloc (.cells #[.int .i64 6,.int .i64 0,.int .i64 0,.int .i64 0,.int .i64 v,.slice (some ⟨tb1,to1,none⟩) 1 tc1,.int .i64 (n3:Int)] 39));clear hg6 HC HG htc v0 v1 v2 v3 v4;go_upto_region 44 with fail
      generalize w6.alloc (.cells #[.int .i64 6,.int .i64 0,.int .i64 0,.int .i64 0,.int .i64 v,.slice (some ⟨tb1,to1,none⟩) 1 tc1,.int .i64 (n3:Int)] 39)=W1 at HB1 HW1 HV1 ⊢;generalize w6.heap.size=ob1 at HB1 ⊢;have HT1':=aH (HV1.out.cell HT1.out (by simp));have HG6:=aH (HG5.out.trans HW1.out);obtain ⟨v0,v1,v2,v3,v4⟩:=KS.out _ HG6.out;have g7:=(Gr.refl W1).alloc (.cells #[.slice none 0 0,.slice a5 K.length c5,.slice (some ⟨fb,0,none⟩) 1 1,.slice none 0 0,.slice (some ⟨eb,0,none⟩) 1 1] 33);have hC:=HRN.out _ W1.heap.size n4 (HG6.out.trans g7) (heap_alloc_new W1 _) (by omega);rw [HLE.out] at hC;have HC:=aH hC;have HG:=aH g7;clear g7 hC;go_wp2_with fail
      refine HC.out.mono ?_;rintro x1 w6 ⟨vo,rfl,⟨vt,rfl,⟨ta,tc2,rfl,_,htc⟩⟩,hg6⟩;obtain ⟨tb2,to2,rfl,_,htc⟩:=htc 0 v rfl;have HT2:=aH htc;have HB2:=aH (heap_alloc_new w6 (.cells #[.int .i64 7,.int .i64 0,.int .i64 0,.int .i64 0,.int .i64 0,.slice (some ⟨tb2,to2,none⟩) 1 tc2,.int .i64 (n4:Int)] 39));have HW2:=aH ((HG.out.trans hg6).alloc (.cells #[.int .i64 7,.int .i64 0,.int .i64 0,.int .i64 0,.int .i64 0,.slice (some ⟨tb2,to2,none⟩) 1 tc2,.int .i64 (n4:Int)] 39));have HV2:=aH ((Gr.refl w6).alloc (.cells #[.int .i64 7,.int .i64 0,.int .i64 0,.int .i64 0,.int .i64 0,.slice (some ⟨tb2,to2,none⟩) 1 tc2,.int .i64 (n4:Int)] 39));clear hg6 HC HG htc v0 v1 v2 v3 v4;go_upto_region 45 with fail
      generalize w6.alloc (.cells #[.int .i64 7,.int .i64 0,.int .i64 0,.int .i64 0,.int .i64 0,.slice (some ⟨tb2,to2,none⟩) 1 tc2,.int .i64 (n4:Int)] 39)=W2 at HB2 HW2 HV2 ⊢;generalize w6.heap.size=ob2 at HB2 ⊢;have HT2':=aH (HV2.out.cell HT2.out (by simp));have HKO:Hid (∀w',Gr W2 w'→w'.cell? ⟨ob1,0,none⟩=some (.int .i64 6)∧w'.cell? ⟨ob1,4,none⟩=some (.int .i64 v)∧w'.cell? ⟨ob1,5,none⟩=some (.slice (some ⟨tb1,to1,none⟩) 1 tc1)∧w'.cell? ⟨ob1,6,none⟩=some (.int .i64 (n3:Int))∧w'.cell? ⟨ob2,0,none⟩=some (.int .i64 7)∧w'.cell? ⟨ob2,6,none⟩=some (.int .i64 (n4:Int))∧w'.cell? ⟨tb1,to1,none⟩=some (.int .i64 v)∧w'.cell? ⟨g4,0,none⟩=some (.int .i64 v)∧w'.cell? ⟨ob2,5,none⟩=some (.slice (some ⟨tb2,to2,none⟩) 1 tc2)):=aH (fun w' g=>by
       have a:=fW (((HW2.out.trans g).block ob1 (Array.getElem?_eq_some_iff.1 HB1.out).1 (by simp)).trans HB1.out);have b:=fW ((g.block ob2 (Array.getElem?_eq_some_iff.1 HB2.out).1 (by simp)).trans HB2.out);exact ⟨a.1.1,a.1.2.2.2.2.1,a.1.2.2.2.2.2.1,a.1.2.2.2.2.2.2,b.1.1,b.1.2.2.2.2.2.2,(HW2.out.trans g).cell HT1'.out (by simp),HTP.out w' (HG6.out.trans (HW2.out.trans g)),b.1.2.2.2.2.2.1⟩)
      have HGE:=aH (HG4.out.trans (HG6.out.trans HW2.out));clear HB1 HB2 HW1 HW2 HV1 HV2 HT1 HT2 HT1' HT2' HTP HG4 HG5 HG6 KS HRN HFU HLE hb3 hb4;obtain ⟨k0,k1,k2,k3,k4,k5,k6,k7,k8⟩:=HKO.out _ (Gr.refl _);go_upto_region 47 with fail
      clear k0 k1 k2 k3 k4 k5 k6 k7 k8;refine wp_region_held_drew (S:=(fun w'=>w'.cell? ⟨ob1,0,none⟩=some (.int .i64 6)∧w'.cell? ⟨ob1,4,none⟩=some (.int .i64 v)∧w'.cell? ⟨ob1,5,none⟩=some (.slice (some ⟨tb1,to1,none⟩) 1 tc1)∧w'.cell? ⟨ob1,6,none⟩=some (.int .i64 (n3:Int))∧w'.cell? ⟨ob2,0,none⟩=some (.int .i64 7)∧w'.cell? ⟨ob2,6,none⟩=some (.int .i64 (n4:Int))∧w'.cell? ⟨tb1,to1,none⟩=some (.int .i64 v)∧w'.cell? ⟨g4,0,none⟩=some (.int .i64 v))) (by kernel_rfl) ((fun h=>⟨h.1,h.2.1,h.2.2.1,h.2.2.2.1,h.2.2.2.2.1,h.2.2.2.2.2.1,h.2.2.2.2.2.2.1,h.2.2.2.2.2.2.2.1⟩) (HKO.out _ (Gr.drew (Gr.refl _)))) (fun hH=>?_);refine kK (i:=0) (v:=_) rfl (by kernel_rfl) (by kernel_rfl) (by kernel_rfl) (fun _ _ _ h=>h) (by rfl) (fun w hSw=>by (try dsimp only at hSw);go_simp<;>with_reducible rfl) hH ?_
      simp only [Act.put,sA,s0,s1];refine kK (i:=1) (v:=_) rfl (by kernel_rfl) (by kernel_rfl) (by kernel_rfl) (fun _ _ _ h=>h) (by rfl) (fun w hSw=>by (try dsimp only at hSw);go_simp<;>with_reducible rfl) hH ?_
      simp only [Act.put,sA,s0,s1];refine kK (i:=2) (v:=_) rfl (by kernel_rfl) (by kernel_rfl) (by kernel_rfl) (fun _ _ _ h=>h) (by rfl) (fun w hSw=>by (try dsimp only at hSw);go_simp<;>with_reducible rfl) hH ?_
      simp only [Act.put,sA,s0,s1];refine kK (i:=3) (v:=_) rfl (by kernel_rfl) (by kernel_rfl) (by kernel_rfl) (fun _ _ _ h=>h) (by rfl) (fun w hSw=>by (try dsimp only at hSw);go_simp<;>with_reducible rfl) hH ?_
      simp only [Act.put,sA,s0,s1];refine kK (i:=4) (v:=_) rfl (by kernel_rfl) (by kernel_rfl) (by kernel_rfl) (fun _ _ _ h=>h) (by rfl) (fun w hSw=>by (try dsimp only at hSw);go_simp<;>with_reducible rfl) hH ?_
      simp only [Act.put,sA,s0,s1];refine kK (i:=5) (v:=_) rfl (by kernel_rfl) (by kernel_rfl) (by kernel_rfl) (fun _ _ _ h=>h) (by rfl) (fun w hSw=>by (try dsimp only at hSw);go_simp<;>with_reducible rfl) hH ?_
      simp only [Act.put,sA,s0,s1];refine kK (i:=6) (v:=_) rfl (by kernel_rfl) (by kernel_rfl) (by kernel_rfl) (fun _ _ _ h=>h) (by rfl) (fun w hSw=>by (try dsimp only at hSw);go_simp<;>with_reducible rfl) hH ?_
      simp only [Act.put,sA,s0,s1];refine kK (i:=7) (v:=_) rfl (by kernel_rfl) (by kernel_rfl) (by kernel_rfl) (fun _ _ _ h=>h) (by rfl) (fun w hSw=>by (try dsimp only at hSw);go_simp<;>with_reducible rfl) hH ?_
      simp only [Act.put,sA,s0,s1];refine kK (i:=8) (v:=_) rfl (by kernel_rfl) (by kernel_rfl) (by kernel_rfl) (fun _ _ _ h=>h) (by rfl) (fun w hSw=>by (try dsimp only at hSw);go_simp<;>with_reducible rfl) hH ?_
      simp only [Act.put,sA,s0,s1];refine kK (i:=9) (v:=_) rfl (by kernel_rfl) (by kernel_rfl) (by kernel_rfl) (fun _ _ _ h=>h) (by rfl) (fun w hSw=>by (try dsimp only at hSw);go_simp<;>with_reducible rfl) hH ?_
      simp only [Act.put,sA,s0,s1];refine kK (i:=10) (v:=_) rfl (by kernel_rfl) (by kernel_rfl) (by kernel_rfl) (fun _ _ _ h=>h) (by rfl) (fun w hSw=>by (try dsimp only at hSw);go_simp<;>with_reducible rfl) hH ?_
      simp only [Act.put,sA,s0,s1];refine kK (i:=11) (v:=_) rfl (by kernel_rfl) (by kernel_rfl) (by kernel_rfl) (fun _ _ _ h=>h) (by rfl) (fun w hSw=>by (try dsimp only at hSw);go_simp<;>with_reducible rfl) hH ?_
      simp only [Act.put,sA,s0,s1];refine kK (i:=12) (v:=_) rfl (by kernel_rfl) (by kernel_rfl) (by kernel_rfl) (fun _ _ _ h=>h) (by rfl) (fun w hSw=>by (try dsimp only at hSw);go_simp<;>with_reducible rfl) hH ?_
      simp only [Act.put,sA,s0,s1];refine kK (i:=13) (v:=_) rfl (by kernel_rfl) (by kernel_rfl) (by kernel_rfl) (fun _ _ _ h=>h) (by rfl) (fun w hSw=>by (try dsimp only at hSw);go_simp<;>with_reducible rfl) hH ?_
      simp only [Act.put,sA,s0,s1];refine kK (i:=14) (v:=_) rfl (by kernel_rfl) (by kernel_rfl) (by kernel_rfl) (fun _ _ _ h=>h) (by rfl) (fun w hSw=>by (try dsimp only at hSw);go_simp<;>with_reducible rfl) hH ?_
      simp only [Act.put,sA,s0,s1];refine kK (i:=15) (v:=_) rfl (by kernel_rfl) (by kernel_rfl) (by kernel_rfl) (fun _ _ _ h=>h) (by rfl) (fun w hSw=>by (try dsimp only at hSw);go_simp<;>with_reducible rfl) hH ?_
      simp only [Act.put,sA,s0,s1];refine kK (i:=16) (v:=_) rfl (by kernel_rfl) (by kernel_rfl) (by kernel_rfl) (fun _ _ _ h=>h) (by rfl) (fun w hSw=>by (try dsimp only at hSw);go_simp<;>with_reducible rfl) hH ?_
      simp only [Act.put,sA,s0,s1];refine kK (i:=17) (v:=_) rfl (by kernel_rfl) (by kernel_rfl) (by kernel_rfl) (fun _ _ _ h=>h) (by rfl) (fun w hSw=>by (try dsimp only at hSw);go_simp<;>with_reducible rfl) hH ?_
      simp only [Act.put,sA,s0,s1];refine kK (i:=18) (v:=_) rfl (by kernel_rfl) (by kernel_rfl) (by kernel_rfl) (fun _ _ _ h=>h) (by rfl) (fun w hSw=>by (try dsimp only at hSw);go_simp<;>with_reducible rfl) hH ?_
      simp only [Act.put,sA,s0,s1];refine kK (i:=19) (v:=_) rfl (by kernel_rfl) (by kernel_rfl) (by kernel_rfl) (fun _ _ _ h=>h) (by rfl) (fun w hSw=>by (try dsimp only at hSw);go_simp<;>with_reducible rfl) hH ?_
      simp only [Act.put,sA,s0,s1];refine kK (i:=20) (v:=_) rfl (by kernel_rfl) (by kernel_rfl) (by kernel_rfl) (fun _ _ _ h=>h) (by rfl) (fun w hSw=>by (try dsimp only at hSw);go_simp<;>with_reducible rfl) hH ?_
      simp only [Act.put,sA,s0,s1];refine kK (i:=21) (v:=_) rfl (by kernel_rfl) (by kernel_rfl) (by kernel_rfl) (fun _ _ _ h=>h) (by rfl) (fun w hSw=>by (try dsimp only at hSw);go_simp<;>with_reducible rfl) hH ?_
      simp only [Act.put,sA,s0,s1];refine kK (i:=22) (v:=_) rfl (by kernel_rfl) (by kernel_rfl) (by kernel_rfl) (fun _ _ _ h=>h) (by rfl) (fun w hSw=>by (try dsimp only at hSw);go_simp<;>with_reducible rfl) hH ?_
      simp only [Act.put,sA,s0,s1];refine kK (i:=23) (v:=_) rfl (by kernel_rfl) (by kernel_rfl) (by kernel_rfl) (fun _ _ _ h=>h) (by rfl) (fun w hSw=>by (try dsimp only at hSw);go_simp<;>with_reducible rfl) hH ?_
      simp only [Act.put,sA,s0,s1];refine kK (i:=24) (v:=_) rfl (by kernel_rfl) (by kernel_rfl) (by kernel_rfl) (fun _ _ _ h=>h) (by rfl) (fun w hSw=>by (try dsimp only at hSw);go_simp<;>with_reducible rfl) hH ?_
      simp only [Act.put,sA,s0,s1];refine kK (i:=25) (v:=_) rfl (by kernel_rfl) (by kernel_rfl) (by kernel_rfl) (fun _ _ _ h=>h) (by rfl) (fun w hSw=>by (try dsimp only at hSw);go_simp<;>with_reducible rfl) hH ?_
      simp only [Act.put,sA,s0,s1];refine kK (i:=26) (v:=_) rfl (by kernel_rfl) (by kernel_rfl) (by kernel_rfl) (fun _ _ _ h=>h) (by rfl) (fun w hSw=>by (try dsimp only at hSw);go_simp<;>with_reducible rfl) hH ?_
      simp only [Act.put,sA,s0,s1];refine kK (i:=27) (v:=_) rfl (by kernel_rfl) (by kernel_rfl) (by kernel_rfl) (fun _ _ _ h=>h) (by rfl) (fun w hSw=>by (try dsimp only at hSw);go_simp<;>with_reducible rfl) hH ?_
      simp only [Act.put,sA,s0,s1];refine kK (i:=28) (v:=_) rfl (by kernel_rfl) (by kernel_rfl) (by kernel_rfl) (fun _ _ _ h=>h) (by rfl) (fun w hSw=>by (try dsimp only at hSw);go_simp<;>with_reducible rfl) hH ?_
      simp only [Act.put,sA,s0,s1];refine kK (i:=29) (v:=_) rfl (by kernel_rfl) (by kernel_rfl) (by kernel_rfl) (fun _ _ _ h=>h) (by rfl) (fun w hSw=>by (try dsimp only at hSw);go_simp<;>with_reducible rfl) hH ?_
      simp only [Act.put,sA,s0,s1];refine kK (i:=30) (v:=_) rfl (by kernel_rfl) (by kernel_rfl) (by kernel_rfl) (fun _ _ _ h=>h) (by rfl) (fun w hSw=>by (try dsimp only at hSw);go_simp<;>with_reducible rfl) hH ?_
      simp only [Act.put,sA,s0,s1];refine kK (i:=31) (v:=_) rfl (by kernel_rfl) (by kernel_rfl) (by kernel_rfl) (fun _ _ _ h=>h) (by rfl) (fun w hSw=>by (try dsimp only at hSw);go_simp<;>with_reducible rfl) hH ?_
      simp only [Act.put,sA,s0,s1];refine kK (i:=32) (v:=_) rfl (by kernel_rfl) (by kernel_rfl) (by kernel_rfl) (fun _ _ _ h=>h) (by rfl) (fun w hSw=>by (try dsimp only at hSw);go_simp<;>with_reducible rfl) hH ?_
      simp only [Act.put,sA,s0,s1];refine kK (i:=33) (v:=_) rfl (by kernel_rfl) (by kernel_rfl) (by kernel_rfl) (fun _ _ _ h=>h) (by rfl) (fun w hSw=>by (try dsimp only at hSw);go_simp<;>with_reducible rfl) hH ?_
      simp only [Act.put,sA,s0,s1];refine kK (i:=34) (v:=_) rfl (by kernel_rfl) (by kernel_rfl) (by kernel_rfl) (fun _ _ _ h=>h) (by rfl) (fun w hSw=>by (try dsimp only at hSw);go_simp<;>with_reducible rfl) hH ?_
      simp only [Act.put,sA,s0,s1];refine kK (i:=35) (v:=_) rfl (by kernel_rfl) (by kernel_rfl) (by kernel_rfl) (fun _ _ _ h=>h) (by rfl) (fun w hSw=>by (try dsimp only at hSw);go_simp<;>with_reducible rfl) hH ?_
      simp only [Act.put,sA,s0,s1];refine kK (i:=36) (v:=_) rfl (by kernel_rfl) (by kernel_rfl) (by kernel_rfl) (fun _ _ _ h=>h) (by rfl) (fun w hSw=>by (try dsimp only at hSw);go_simp<;>with_reducible rfl) hH ?_
      simp only [Act.put,sA,s0,s1];refine kK (i:=37) (v:=_) rfl (by kernel_rfl) (by kernel_rfl) (by kernel_rfl) (fun _ _ _ h=>h) (by rfl) (fun w hSw=>by (try dsimp only at hSw);go_simp<;>with_reducible rfl) hH ?_
      simp only [Act.put,sA,s0,s1];refine kK (i:=38) (v:=_) rfl (by kernel_rfl) (by kernel_rfl) (by kernel_rfl) (fun _ _ _ h=>h) (by rfl) (fun w hSw=>by (try dsimp only at hSw);go_simp<;>with_reducible rfl) hH ?_
      simp only [Act.put,sA,s0,s1];refine kK (i:=39) (v:=_) rfl (by kernel_rfl) (by kernel_rfl) (by kernel_rfl) (fun _ _ _ h=>h) (by rfl) (fun w hSw=>by (try dsimp only at hSw);go_simp<;>with_reducible rfl) hH ?_
      simp only [Act.put,sA,s0,s1];refine kK (i:=40) (v:=_) rfl (by kernel_rfl) (by kernel_rfl) (by kernel_rfl) (fun _ _ _ h=>h) (by rfl) (fun w hSw=>by (try dsimp only at hSw);go_simp<;>with_reducible rfl) hH ?_
      simp only [Act.put,sA,s0,s1];refine kK (i:=41) (v:=_) rfl (by kernel_rfl) (by kernel_rfl) (by kernel_rfl) (fun _ _ _ h=>h) (by rfl) (fun w hSw=>by (try dsimp only at hSw);go_simp<;>with_reducible rfl) hH ?_
      simp only [Act.put,sA,s0,s1];refine wpAnyH_done (by kernel_rfl) ?_ _;go_wp2_with fail
      go_ret
      exact ⟨rfl,Gr.drew HGE.out⟩
end Go.Proofs.YtkgncijcnlfhiaaGreat
