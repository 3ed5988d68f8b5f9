import Derived.Maps.AppendAt
import Derived.Test.YtkgncijcnlfhiabGreatW4c
import Derived.Lib.AppendStr
namespace Go.Proofs.YtkgncijcnlfhiabGreat
set_option maxRecDepth 100000
set_option maxHeartbeats 1000000
set_option linter.unusedVariables false
set_option linter.unusedSimpArgs false
open Go.RowKit
def bc(l:List UInt8):List Value:=l.map fun b=>Value.int .u8 b.toNat
theorem nS(l:List UInt8):(bc l).length=l.length:=by simp [bc]
theorem xk(l m:List UInt8):bc (l++m)=bc l++bc m:=by simp [bc]
theorem AN(l:List UInt8):∀u∈bc l,u.oneCell'=true:=by
 intro u hu;simp [bc] at hu;obtain ⟨x,_,rfl⟩:=hu;rfl
theorem Tryz.info5:(Tryz.prog.info? 5).map (fun i=>(i.zero,i.size,i.bytes))=some (some (.int .u8 0),1,1):=Q7
structure dt(base:Nat)(w:World)(v:Value)(w':World)(v':Value)(l':List UInt8):Prop where
 own:w'.ownsRow base 5 1 v' l'.length (bc l')
 frm:w.grownBy w' v.ownBlock
 lies:∀k,v'.ownBlock=some k->v.ownBlock=some k\/w.heap.size<=k
theorem dt.refl{base:Nat}{w:World}{v:Value}{l:List UInt8}(h:w.ownsRow base 5 1 v l.length (bc l)):dt base w v w v l:=
 ⟨h,World.grownBy.refl _ _,fun _ hk=>.inl hk⟩
theorem dt.trans{base:Nat}{w w1 w2:World}{v v1 v2:Value}{l1 l2:List UInt8}(h:dt base w v w1 v1 l1)(k:dt base w1 v1 w2 v2 l2):dt base w v w2 v2 l2:=by
 refine ⟨k.own,⟨k.frm.os.trans h.frm.os,k.frm.tape.trans h.frm.tape,k.frm.output.trans h.frm.output,Nat.le_trans h.frm.size k.frm.size,fun i hi hne=>?_⟩,fun i hi=>?_⟩
 · refine (k.frm.block i (Nat.lt_of_lt_of_le hi h.frm.size) fun e=>?_).trans (h.frm.block i hi hne);rcases h.lies i e.symm with e1|e1
   · exact hne e1.symm
   · omega
 · rcases k.lies i hi with e|e
   · exact h.lies i e
   · exact .inr (Nat.le_trans h.frm.size e)
theorem dt.gr{base:Nat}{w w1 w2:World}{v v2:Value}{l2:List UInt8}(g:Gr w w1)(k:dt base w1 v w2 v2 l2):dt base w v w2 v2 l2:=by
 refine ⟨k.own,⟨k.frm.os.trans g.os,k.frm.tape.trans g.tape,k.frm.output.trans g.output,Nat.le_trans g.size k.frm.size,fun i hi hne=>(k.frm.block i (Nat.lt_of_lt_of_le hi g.size) hne).trans (g.block i hi Q6)⟩,fun i hi=>?_⟩;rcases k.lies i hi with e|e
 · exact .inl e
 · exact .inr (Nat.le_trans g.size e)
theorem dt.thenGr{base:Nat}{w w1 w2:World}{v v1:Value}{l1:List UInt8}(k:dt base w v w1 v1 l1)(g:Gr w1 w2):dt base w v w2 v1 l1:=by
 refine ⟨k.own.kept g ?_,⟨g.os.trans k.frm.os,g.tape.trans k.frm.tape,g.output.trans k.frm.output,Nat.le_trans k.frm.size g.size,fun i hi hne=>(g.block i (Nat.lt_of_lt_of_le hi k.frm.size) Q6).trans (k.frm.block i hi hne)⟩,k.lies⟩;cases h:v1.ownBlock<;>simp
section
variable {ops:Array Oper} {rest:List Oper} {o:Oper} {a:Act} {Q:Exit->Act->World->Prop}
theorem bQ(w:World)(Z':o.guard=none)(s x:Operand)(ho:o.op=.call { callee:=.builtin .append,args:=#[s,x],argTypes:=#[88,88] })
 (base:Nat) (v:Value) (l:List UInt8) (hs:a.eval s=v) (C1:w.ownsRow base 5 1 v l.length (bc l)) (y:UInt8) (val:Int) (hy:val=y.toNat)
 (H:Nat) (hx:a.eval x=.slice (some ⟨H,0,none⟩) 1 1) (hH:w.heap.size=H) (hlen:l.length<=100000000) (C_:base<=w.heap.size)
 (h:∀v' w',dt base w v w' v' (l++ [y])->wpList Tryz.prog ops Q rest (a.put o.dst v') w'):
 wpList Tryz.prog ops Q (o :: rest) a (w.alloc (.cells #[.int .u8 val] 5)):=by
 subst hy;subst hH;obtain ⟨i0,hi,O6,N5,D5⟩:=info_parts Tryz.info5;refine wpList_append_own_at _ Z' s x 88 ho base 5 i0 (.int .u8 0) 1 1 Tryz.underlying88 hi O6 N5 D5 rfl Q9 v l.length (bc l) hs (C1.alloc _) ⟨w.heap.size,0,none⟩ 1 1 [.int .u8 y.toNat] hx rfl (cell_one_new _ _ _) (by intro u hu;simp at hu;subst hu;rfl) (by unfold maxLen;omega) Q5 gS ?_;intro v' w' h1 h2 _ h4;refine h v' w' ⟨?_,(World.grownBy_alloc w _ _).trans h2,fun k hk=>?_⟩
 · simpa [bc] using h1
 · rcases h4 with e|e
   · exact .inl (e▸hk)
   · rw [hk] at e;simp at e;right;omega
end
def kT:Nat->Nat->List UInt8
 | 0,v=> [UInt8.ofNat v]
 | k+1,v=>if v < 128 then [UInt8.ofNat v] else UInt8.ofNat (v % 128+128) :: kT k (v / 128)
def num(v:Nat):List UInt8:=kT 10 v
open Go.RowKit
theorem so{q:Nat}(h:q < 128):(q:Int)=(UInt8.ofNat q).toNat:=by simp [UInt8.toNat_ofNat'];omega
theorem BZ:∀a:Fin 256,a.val ||| 128=a.val % 128+128:=by decide+kernel
theorem wk(q:Nat):bits BinOp.or IntKind.u8 ((q:Int) % 256) 128=(UInt8.ofNat (q % 128+128)).toNat:=by
 have h:=u8_or_nat (q % 256) 128 Q5 Q5;have h2:=BZ ⟨q % 256,Q5⟩;simp only at h2;rw [h2] at h;rw [show ((q:Int) % 256)=((q % 256:Nat):Int) by omega,show ((128:Int))=((128:Nat):Int) by rfl,h];simp [UInt8.toNat_ofNat'];omega
theorem jS:∀k q:Nat,(kT k q).length<=k+1/\1<=(kT k q).length
 | 0,q=>by simp [kT]
 | k+1,q=>by
  have:=jS k (q / 128)
  unfold kT;split
  · simp
  · simp;omega
theorem bK(q:Nat):(num q).length<=11:=(jS 10 q).1
theorem kd{k q:Nat}(h:q < 128):kT k q= [UInt8.ofNat q]:=by cases k<;>simp [kT,h]
theorem nA{k q:Nat}(h:¬q < 128):kT (k+1) q=UInt8.ofNat (q % 128+128) :: kT k (q / 128):=by simp [kT,h]
theorem eC(base:Nat)(v:Value)(l:List UInt8)(n:Nat)(w:World)(hn:n < 18446744073709551616)(C1:w.ownsRow base 5 1 v l.length (bc l))(hlen:l.length<=10000000)(hb:base<=w.heap.size):
 Calls Tryz.prog 62 #[v,.int .u64 n] w fun x w'=>∃v',x=.returned v'/\dt base w v w' v' (l++num n):=by
 go_enter Tryz.func62,Tryz.ntmps62
 go_wp2
 go_loopw [0,1] (fun vo m wr=>∃(k q:Nat) (l':List UInt8),k<=10/\q < 2 ^ (7 * k+1)/\q < 18446744073709551616/\m=.int .u64 q/\l'++kT k q=l++num n/\l'.length+k=l.length+10/\dt base w v wr vo l') (fun _ m _=>(intOf m).toNat)
 case atStart=>exact ⟨10,n,l,Nat.le_refl _,Q5,hn,rfl,rfl,rfl,dt.refl C1⟩
 case round=>
  obtain ⟨k,q,l',hk,hq,Eo,rfl,Qx,Sq,V0⟩:=hrel;have HL:=aH Qx;have KG:=aH Sq;have HQ:=aH hq;clear Qx Sq hq;by_cases J0:q < 128
  · go_wp2_with (at_builtin;refine bQ _ rfl _ _ rfl base _ l' rfl V0.own (UInt8.ofNat q) _ (by exact so J0) _ rfl rfl (by have:=KG.out;omega) (Nat.le_trans hb V0.frm.size) ?_;intro v1 w1 G1)
    go_ret
    refine ⟨v1,rfl,V0.trans ?_⟩;rw [<-HL.out,kd J0];exact G1
  · go_wp2_with (at_builtin;refine bQ _ rfl _ _ rfl base _ l' rfl V0.own (UInt8.ofNat (q % 128+128)) _ (by exact wk q) _ rfl rfl (by have:=KG.out;omega) (Nat.le_trans hb V0.frm.size) ?_;intro v1 w1 G1)
    have hq:=HQ.out;obtain ⟨k',rfl⟩:∃k',k=k'+1:=⟨k - 1,by cases k with|zero=>simp at hq;omega|succ k=>rfl⟩;refine ⟨⟨k',q / 128,l'++ [UInt8.ofNat (q % 128+128)],Q5,?_,Q5,by go_num,?_,?_,V0.trans G1⟩,by simp [intOf];omega⟩
    · rw [Nat.div_lt_iff_lt_mul Q9];rw [show 2 ^ (7 * k'+1) * 128=2 ^ (7 * (k'+1)+1) by rw [show 7 * (k'+1)+1=(7 * k'+1)+7 by omega,Nat.pow_add _ _ 7]];exact hq
    · rw [<-HL.out,nA J0,List.append_assoc];rfl
    · have:=KG.out;simp;omega
theorem mF(base:Nat)(v:Value)(l:List UInt8)(n:Nat)(w:World)(hn:n < 9223372036854775808)(C1:w.ownsRow base 5 1 v l.length (bc l))(hlen:l.length<=10000000)(hb:base<=w.heap.size):
 Calls Tryz.prog 65 #[v,.int .i64 n] w fun x w'=>∃v',x=.returned v'/\dt base w v w' v' (l++num n):=by
 go_enter Tryz.func65,Tryz.ntmps65
 go_wp2_with (go_at_call 62;refine (eC base _ l n _ Q5 C1 hlen hb).mono ?_;rintro e w1 ⟨v1,rfl,V0⟩)
 go_ret
 exact ⟨v1,rfl,V0⟩
def pf(v:Int):Nat:=if v < 0 then (-2 * v - 1).toNat else (2 * v).toNat
theorem rz{n:Int}(h0:-9223372036854775808<=n)(h1:n<=9223372036854775807):pf n < 18446744073709551616:=by unfold pf;split<;>omega
theorem oL{x:Nat}(hx:x < 18446744073709551616):18446744073709551615 ^^^ x=18446744073709551615 - x:=by
 have h:=congrArg BitVec.toNat (BitVec.allOnes_xor (x:=BitVec.ofNat 64 x));rw [BitVec.toNat_xor,BitVec.toNat_allOnes,BitVec.toNat_ofNat,BitVec.toNat_not,BitVec.toNat_ofNat,Nat.mod_eq_of_lt hx] at h;exact h
theorem zR{n:Int}(h0:-9223372036854775808<=n)(h:n < 0):
 bits BinOp.xor IntKind.u64 IntKind.u64.max (IntKind.u64.wrap (IntKind.u64.wrap n * 2))=(pf n:Int):=by
 have e1:IntKind.u64.wrap (IntKind.u64.wrap n * 2)=((2 * n+18446744073709551616).toNat:Int):=by
  rw [IntKind.wrap_u64,IntKind.wrap_u64];omega
 rw [e1,show IntKind.u64.max=((18446744073709551615:Nat):Int) by rfl,u64_xor_nat _ _ Q5 Q5,oL Q5];unfold pf;rw [if_pos h];omega
theorem zA{n:Int}(h:¬n < 0):n * 2=(pf n:Int):=by unfold pf;rw [if_neg h];omega
theorem lZ(base:Nat)(v:Value)(l:List UInt8)(n:Int)(w:World)(h0:-9223372036854775808<=n)(h1:n<=9223372036854775807)(C1:w.ownsRow base 5 1 v l.length (bc l))(hlen:l.length<=10000000)(hb:base<=w.heap.size):
 Calls Tryz.prog 38 #[v,.int .i64 n] w fun x w'=>∃v',x=.returned v'/\dt base w v w' v' (l++num (pf n)):=by
 by_cases Jt:n < 0
 · go_enter Tryz.func38,Tryz.ntmps38
   go_wp2_with fail
   rw [zR h0 Jt];refine (eC base _ l (pf n) _ (rz h0 h1) C1 hlen hb).mono ?_;rintro e w1 ⟨v1,rfl,V0⟩;go_wp2
   go_ret
   exact ⟨v1,rfl,V0⟩
 · go_enter Tryz.func38,Tryz.ntmps38
   go_wp2_with fail
   rw [zA Q5];refine (eC base _ l (pf n) _ (rz h0 h1) C1 hlen hb).mono ?_;rintro e w1 ⟨v1,rfl,V0⟩;go_wp2
   go_ret
   exact ⟨v1,rfl,V0⟩
open Go.RowKit
theorem ak{W w:World}(h:Below W.heap.size W w){a:Addr}{x:Value}(hx:W.cell? a=some x):w.cell? a=some x:=
 (h.cell (World.block_lt_of_cell? W a hx)).trans hx
theorem dt.below{base:Nat}{w w':World}{v v':Value}{l l':List UInt8}(k:dt base w v w' v' l')(C1:w.ownsRow base 5 1 v l.length (bc l))(hb:base<=w.heap.size):Below base w w':=
 (Below.refl _ _).grown k.frm hb fun i hi=>(C1.lt i hi).1
structure Wr(W w:World)(v:Value)(l:List UInt8):Prop where
 low:Below W.heap.size W w
 own:w.ownsRow W.heap.size 5 1 v l.length (bc l)
theorem Wr.base{W w:World}{v:Value}{l:List UInt8}(h:Wr W w v l):W.heap.size<=w.heap.size:=h.low.size
theorem Wr.app{W w w':World}{v v':Value}{l l':List UInt8}(h:Wr W w v l)(k:dt W.heap.size w v w' v' l'):Wr W w' v' l':=
 ⟨h.low.trans (k.below h.own h.base),k.own⟩
theorem Wr.gr{W w w':World}{v:Value}{l:List UInt8}(h:Wr W w v l)(g:Gr w w'):Wr W w' v l:=
 ⟨h.low.grown g h.base Q6,h.own.kept g (by cases v.ownBlock<;>simp)⟩
section
variable {ops:Array Oper} {rest:List Oper} {o:Oper} {a:Act} {Q:Exit->Act->World->Prop}
theorem kS(w:World)(Z':o.guard=none)(sl x:Operand)(ho:o.op=.call { callee:=.builtin .append,args:=#[sl,x],argTypes:=#[88,9] })
 (base:Nat) (v:Value) (l:List UInt8) (hs:a.eval sl=v) (C1:w.ownsRow base 5 1 v l.length (bc l)) (s:ByteArray)
 (hx:a.eval x=.string s) (hlen:l.length+s.size<=100000000) (C_:base<=w.heap.size)
 (h:∀v' w',dt base w v w' v' (l++s.data.toList)->wpList Tryz.prog ops Q rest (a.put o.dst v') w'):
 wpList Tryz.prog ops Q (o :: rest) a w:=by
 obtain ⟨i,hi,hz,Qj,Pj⟩:=info_parts Tryz.info5;refine wpList_plain Z' fun K hK=>?_
 obtain ⟨v',w',hr,h2,h3,_⟩:=Go.Lib.run_append_own_string (P:=Tryz.prog) w base 88 9 o.type 5 i Tryz.underlying88 Tryz.underlying9 hi hz Qj Pj v l.length (bc l) C1 s (by unfold maxLen;omega) Q5 C_;have R0:s.data.toList.length=s.size:=by rw [Array.length_toList];rfl
 have Kg:∀k,v'.ownBlock=some k->v.ownBlock=some k\/w.heap.size<=k:=by
  intro k hk;rcases C1.2 with ⟨rfl,hn⟩|⟨g,cap,cur,rfl,hbg,hg,Gt,Kt,Gi,Cv⟩
  · obtain ⟨v2,w2,F6,h22,_⟩:=Go.Lib.run_append_own_string (P:=Tryz.prog) w w.heap.size 88 9 o.type 5 i Tryz.underlying88 Tryz.underlying9 hi hz Qj Pj _ l.length (bc l) (by rw [hn];exact ⟨by simp [nS,hn],.inl ⟨rfl,rfl⟩⟩) s (by unfold maxLen;omega) Q5 (Nat.le_refl _);rw [hr] at F6;simp only [Result.ok.injEq] at F6;obtain ⟨rfl,rfl⟩:=F6;exact .inr (h22.lt k hk).1
  · have hcs':cur.size=cap:=by simpa using Gi
    by_cases Rd:l.length+s.size<=cap
    · have F6:=Go.Lib.run_append_room_string (P:=Tryz.prog) w 88 9 o.type 5 i Tryz.underlying88 Tryz.underlying9 hi Qj g l.length cap cur hg s Rd Q5;rw [hr] at F6;simp only [Result.ok.injEq] at F6;obtain ⟨rfl,rfl⟩:=F6;exact .inl hk
    · have F6:=Go.Lib.run_append_grow_string (P:=Tryz.prog) w 88 9 o.type 5 i (.int .u8 0) Tryz.underlying88 Tryz.underlying9 hi hz ⟨g,0,none⟩ l.length cap (bc l) (by rw [Qj];simp [nS]) (C1.cells (g:=g) rfl) s Q5 Q5 (by rw [Pj];exact growslice_fits Q5 Q5);rw [hr] at F6;simp only [Result.ok.injEq] at F6;obtain ⟨rfl,rfl⟩:=F6;simp [Value.ownBlock] at hk
      right;omega
 unfold Oper.wp execOp;simp only [ho,resolve,invoke,builtin,Sem.run_bind,Sem.run_pure,Result.andThen_ok,List.map_toArray,List.map_cons,List.map_nil,hs,hx,hr];refine hK _ _ (h v' w' ⟨?_,h3,Kg⟩);rw [xk,List.length_append,R0];exact h2
end
theorem cG(W:World)(v:Value)(l:List UInt8)(n:Int)(w:World)(h0:0<=n)(hn:n<=9223372036854775807)(hw:Wr W w v l)(hlen:l.length<=10000000):
 Calls Tryz.prog 65 #[v,.int .i64 n] w fun x w'=>∃v',x=.returned v'/\dt W.heap.size w v w' v' (l++num n.toNat):=by
 obtain ⟨k,rfl⟩:=Int.eq_ofNat_of_zero_le h0;exact mF _ v l k w Q5 hw.own hlen hw.base
theorem my(W:World)(v:Value)(l:List UInt8)(n:Int)(w:World)(h0:-9223372036854775808<=n)(hn:n<=9223372036854775807)(hw:Wr W w v l)(hlen:l.length<=10000000):
 Calls Tryz.prog 38 #[v,.int .i64 n] w fun x w'=>∃v',x=.returned v'/\dt W.heap.size w v w' v' (l++num (pf n)):=
 lZ _ v l n w h0 hn hw.own hlen hw.base
theorem rN(W:World)(v:Value)(l:List UInt8)(s:ByteArray)(w:World)(hs:s.size<=1000000)(hw:Wr W w v l)(hlen:l.length<=10000000):
 Calls Tryz.prog 68 #[v,.string s] w fun x w'=>∃v',x=.returned v'/\dt W.heap.size w v w' v' (l++(num s.size++s.data.toList)):=by
 have M7:(num s.size).length<=11:=bK _;go_enter Tryz.func68,Tryz.ntmps68
 go_wp2_with (first|(go_at_call 65;refine (cG W _ l s.size _ Q5 Q5 (by exact hw) hlen).mono ?_;rintro e w1 ⟨v1,rfl,V0⟩;rw [Int.toNat_natCast] at V0;have D2:=hw.app V0)|(at_builtin;refine kS _ rfl _ _ rfl W.heap.size _ (l++num s.size) rfl D2.own s rfl (by simp only [List.length_append];omega) D2.base ?_;intro v2 w2 N1))
 go_ret
 refine ⟨v2,rfl,?_⟩;rw [<-List.append_assoc];exact V0.trans N1
open Go.RowKit
def jV(c:Nat):Nat:=if c % 2=1 then (c / 2) ^^^ 3988292384 else c / 2
def i4:Nat->Nat->Nat
 | 0,c=>c
 | k+1,c=>jV (i4 k c)
def mJ(c:Nat)(b:UInt8):Nat:=i4 8 (c ^^^ b.toNat)
def pK(l:List UInt8):Nat:=l.foldl mJ 4294967295
def mL(l:List UInt8):Nat:=4294967295 - pK l
theorem uO{c:Nat}(h:c < 4294967296):jV c < 4294967296:=by
 unfold jV;split
 · exact Nat.xor_lt_two_pow (n:=32) Q5 Q9
 · omega
theorem kN{c:Nat}(h:c < 4294967296):∀k,i4 k c < 4294967296
 | 0=>h
 | k+1=>uO (kN h k)
theorem lv{c:Nat}(h:c < 4294967296)(b:UInt8):c ^^^ b.toNat < 4294967296:=
 Nat.xor_lt_two_pow (n:=32) h (by have:=b.toNat_lt;omega)
theorem sf{c:Nat}(h:c < 4294967296)(b:UInt8):mJ c b < 4294967296:=kN (lv h b) 8
theorem rW:∀(l:List UInt8) (c:Nat),c < 4294967296->l.foldl mJ c < 4294967296
 | [],_,h=>h
 | b :: l,_,h=>rW l _ (sf h b)
theorem zc(l:List UInt8):pK l < 4294967296:=rW l _ Q9
theorem xy(l:List UInt8):mL l < 4294967296:=by unfold mL;omega
theorem vi(l:List UInt8)(b:UInt8):pK (l++ [b])=mJ (pK l) b:=by unfold pK;rw [List.foldl_append];rfl
theorem uG{x:Nat}(hx:x < 4294967296):4294967295 ^^^ x=4294967295 - x:=by
 have h:=congrArg BitVec.toNat (BitVec.allOnes_xor (x:=BitVec.ofNat 32 x));rw [BitVec.toNat_xor,BitVec.toNat_allOnes,BitVec.toNat_ofNat,BitVec.toNat_not,BitVec.toNat_ofNat,Nat.mod_eq_of_lt hx] at h;exact h
theorem uk(s:ByteArray)(k:Nat)(h:k < s.size):s.data.toList.take (k+1)=s.data.toList.take k++ [s[k]]:=by
 rw [List.take_succ_eq_append_getElem (by simpa using h)];rfl
theorem BG{c:Nat}(h:c < 4294967296):bits BinOp.and IntKind.u32 (c:Int) 1=((c % 2:Nat):Int):=by
 have:=u32_and_nat c 1 h Q9
 rw [Nat.and_one_is_mod] at this;exact this
theorem Bb{c:Nat}(h:c < 4294967296):bits BinOp.xor IntKind.u32 ((c:Int) / 2) 3988292384=((c / 2 ^^^ 3988292384:Nat):Int):=by
 have:=u32_xor_nat (c / 2) 3988292384 Q5 Q9
 rw [<-this];congr 1
theorem Ar{c:Nat}(h:c < 4294967296)(b:UInt8):bits BinOp.xor IntKind.u32 (c:Int) (b.toNat:Int)=((c ^^^ b.toNat:Nat):Int):=
 u32_xor_nat c b.toNat h (by have:=b.toNat_lt;omega)
theorem BC{c:Nat}(h:c < 4294967296):bits BinOp.xor IntKind.u32 IntKind.u32.max (c:Int)=((4294967295 - c:Nat):Int):=by
 have:=u32_xor_nat 4294967295 c Q9 h
 rw [uG h] at this;exact this
theorem ny(s:ByteArray)(w:World)(hs:s.size<=maxLen):
 Calls Tryz.prog 63 #[.string s] w fun x w'=>x=.returned (.int .u32 (mL s.data.toList))/\w'=w:=by
 unfold maxLen at hs;go_enter Tryz.func63,Tryz.ntmps63
 go_wp2
 go_loop [3,7] (fun c i=>∃k:Nat,k<=s.size/\i=.int .i64 k/\c=.int .u32 (pK (s.data.toList.take k))) (fun _ i=>s.size - (intOf i).toNat)
 case atStart=>exact ⟨0,Nat.zero_le _,rfl,rfl⟩
 case round=>
  obtain ⟨k,hk,rfl,rfl⟩:=hrel;have Fo:=zc (s.data.toList.take k);by_cases J0:k < s.size
  · have HS:=aH (vi (s.data.toList.take k) s[k]);have HT:=aH (uk s k J0);generalize hb:s[k]=b at HS HT;have hxb:=Ar Fo b;generalize pK (s.data.toList.take k)=c at Fo HS hxb;have hx1:=lv Fo b;have HB:=aH hb;go_wp2
    go_loop [3,16] (fun d j=>∃m:Nat,m<=8/\j=.int .i64 m/\d=.int .u32 (i4 m (c ^^^ b.toNat))) (fun _ j=>8 - (intOf j).toNat)
    case atStart=>
     have Y9:=b.toNat_lt;exact ⟨0,Nat.zero_le _,rfl,by rw [show ((b.toNat:Int) % 4294967296)=b.toNat from by omega,hxb];rfl⟩
    case round=>
     obtain ⟨m,hm,rfl,rfl⟩:=hrel;have Ok:=kN hx1 m;by_cases DV:m < 8
     · have HN:Hid (i4 (m+1) (c ^^^ b.toNat)=jV (i4 m (c ^^^ b.toNat))):=aH rfl;generalize i4 m (c ^^^ b.toNat)=d at Ok HN;have hand:=BG Ok;have hxor:=Bb Ok;by_cases Wb:d % 2=1
       · have HC:Hid (jV d=d / 2 ^^^ 3988292384):=aH (by unfold jV;rw [if_pos Wb]);have Y0:(((d % 2:Nat):Int) == 1)=true:=by rw [Wb];rfl
         clear Wb;go_wp2
         go_round
         case rel=>exact ⟨m+1,Q5,by go_num,by rw [HN.out,HC.out]⟩
         case measure=>simp [intOf];omega
       · have HC:Hid (jV d=d / 2):=aH (by unfold jV;rw [if_neg Wb]);have Y0:(((d % 2:Nat):Int) == 1)=false:=by rw [beq_eq_false_iff_ne];omega
         clear Wb;go_wp2
         go_round
         case rel=>exact ⟨m+1,Q5,by go_num,by rw [HN.out,HC.out];go_num⟩
         case measure=>simp [intOf];omega
     · have h8:m=8:=by omega
       subst h8;go_wp2
       go_round
       case rel=>exact ⟨k+1,Q5,by go_num,by rw [HT.out,HS.out];rfl⟩
       case measure=>simp [intOf];omega
  · have I8:=BC Fo;have HE:Hid (mL s.data.toList=4294967295 - pK (s.data.toList.take k)):=aH (by unfold mL;rw [List.take_of_length_le gS]);generalize pK (s.data.toList.take k)=c at Fo I8 HE;go_wp2
    go_ret
    exact ⟨by rw [HE.out];rfl,rfl⟩
open Go.RowKit
attribute [local go_sem ↓] Go.wp_at_zero Go.wp_at_succ
def io(w:World)(cb:Nat)(r:List UInt8)(e a:Int):Prop:=
 (∃s:ByteArray,w.cell? ⟨cb,0,none⟩=some (.string s)/\s.data.toList=r)/\r.length<=1000000/\w.cell? ⟨cb,1,none⟩=some (.int .i64 e)/\w.cell? ⟨cb,3,none⟩=some (.int .i64 a)/\w.frozen? ⟨cb,0,none⟩=false/\w.cell? ⟨cb,2,none⟩=some (.int .i64 0)
abbrev Gc(cb:Nat)(w w':World):Prop:=w.grownBy w' (some cb)
theorem Gc.refl(cb:Nat)(w:World):Gc cb w w:=World.grownBy.refl w _
theorem Gr.toGc{cb:Nat}{w w':World}(h:Gr w w'):Gc cb w w':=⟨h.os,h.tape,h.output,h.size,fun i hi _=>h.block i hi Q6⟩
theorem Gc.set{cb:Nat}{w w':World}(h:Gc cb w w')(o:Nat)(v:Value):Gc cb w (w'.setCell ⟨cb,o,none⟩ v):=
 ⟨h.os,h.tape,h.output,by simpa using h.size,fun i hi hne=>by rw [Below.heap_setCell _ _ _ _ (fun e=>hne (by rw [e]))];exact h.block i hi hne⟩
theorem Gc.drew{cb:Nat}{a b:World}(h:Gc cb a b):Gc cb a b.drew:=⟨h.os,h.tape,h.output,h.size,h.block⟩
theorem io.gr{w w':World}{cb:Nat}{r:List UInt8}{e a:Int}(h:io w cb r e a)(g:Gr w w'):io w' cb r e a:=by
 obtain ⟨⟨s,h0,h1⟩,h2,h3,h4,h5,h6⟩:=h;exact ⟨⟨s,g.cell h0 Q6,h1⟩,h2,g.cell h3 Q6,g.cell h4 Q6,(World.frozen?_of_block (g.block cb (World.block_lt_of_cell? w _ h3) Q6)).trans h5,g.cell h6 Q6⟩
def nV{α:Type}(cb:Nat)(e a:Int)(w:World)(R:World->Value->α->Prop):Option (α×List UInt8)->Ending->World->Prop
 | some (y,r'),x,w'=>∃v,x=.returned v/\R w' v y/\io w' cb r' e a/\Gc cb w w'
 | none,x,w'=>x=.panicked (dM e a)/\Gc cb w w'
def dC(n:Nat)(r:List UInt8):Option (List UInt8×List UInt8):=if n<=r.length then some (r.take n,r.drop n) else none
theorem zG{w:World}{cb:Nat}{e a:Int}{s':ByteArray}{l:List UInt8}(h0:∃x,w.cell? ⟨cb,0,none⟩=some x)(hs:s'.data.toList=l)(hl:l.length<=1000000)(h1:w.cell? ⟨cb,1,none⟩=some (.int .i64 e))(h2:w.cell? ⟨cb,3,none⟩=some (.int .i64 a))(hz:w.frozen? ⟨cb,0,none⟩=false)(hj:w.cell? ⟨cb,2,none⟩=some (.int .i64 0)):
 io (w.setCell ⟨cb,0,none⟩ (.string s')) cb l e a:=by
 obtain ⟨x,hx⟩:=h0;refine ⟨⟨s',World.cell?_setCell_same w ⟨cb,0,none⟩ _ hx,hs⟩,hl,?_,?_,?_,?_⟩
 · exact (World.cell?_setCell_other w ⟨cb,0,none⟩ ⟨cb,1,none⟩ _ (by intro h;cases h)).trans h1
 · exact (World.cell?_setCell_other w ⟨cb,0,none⟩ ⟨cb,3,none⟩ _ (by intro h;cases h)).trans h2
 · rw [World.frozen?_setCell];exact hz
 · exact (World.cell?_setCell_other w ⟨cb,0,none⟩ ⟨cb,2,none⟩ _ (by intro h;cases h)).trans hj
theorem mQ(s:ByteArray)(n:Nat):s.extract 0 n=⟨(s.data.toList.take n).toArray⟩:=by
 have h:(s.extract 0 n).data.toList=s.data.toList.take n:=by simp [ByteArray.data_extract]
 rw [<-h]
theorem nG(s:ByteArray)(n:Nat):(s.extract n s.size).data.toList=s.data.toList.drop n:=by
 have e:s.size=s.data.toList.length:=by rw [Array.length_toList];rfl
 simp [ByteArray.data_extract]
 rw [List.take_of_length_le Q6]
theorem kz(cb:Nat)(r:List UInt8)(e a:Int)(n:Nat)(hn:n < 18446744073709551616)(w:World)(hc:io w cb r e a):
 Calls Tryz.prog 141 #[.pointer (some ⟨cb,0,none⟩),.int .u64 n] w (nV cb e a w (fun _ v y=>v=.string ⟨y.toArray⟩) (dC n r)):=by
 obtain ⟨⟨s,h0,hs⟩,hl,h1,h2,hz,hj⟩:=hc;have R0:s.size=r.length:=by rw [<-hs,Array.length_toList];rfl
 by_cases hle:n<=r.length
 · have HT:Hid (dC n r=some (r.take n,r.drop n)):=aH (by simp [dC,hle]);have hd:(n:Int)<=(s.size:Int):=by omega
   have Zu:(0:Int)<=(n:Int):=Q5
   have Mf:s.size<=1000000:=Q5
   have S3:IntKind.u64.wrap (s.size:Int)=s.size:=Go.IntWalk.u64_in _ Q5;have HS:=aH hs;clear hs R0 hle;go_enter Tryz.func141,Tryz.ntmps141
   go_wp2
   go_region_held3 (fun w'=>w'.cell? ⟨cb,0,none⟩=some (.string s)/\w'.cell? ⟨cb,1,none⟩=some (.int .i64 e)/\w'.cell? ⟨cb,3,none⟩=some (.int .i64 a)/\w'.cell? ⟨cb,2,none⟩=some (.int .i64 0)) (first|go_keep|(refine ⟨?_,?_,?_,?_⟩<;>exact D0.cell Q8 Q6)) (first|(go_at_call 64;refine (aP _ _ _).mono ?_;rintro e w' ⟨rfl,D0⟩))
   have h01:=D0.cell h0 Q6;have V8:=D0.cell h1 Q6;have h21:=D0.cell h2 Q6;have Lb:=D0.cell hj Q6;have N5:w'.frozen? ⟨cb,0,none⟩=false:=(World.frozen?_of_block (D0.block cb (World.block_lt_of_cell? w _ h1) Q6)).trans hz;have hgc:Gc cb w w':=(Gr.trans (Gr.drew (Gr.refl w)) D0).toGc;clear D0 h0 h1 h2 hz hj;go_wp2_with fail
   go_ret
   rw [HT.out];have G0:=zG (s':=s.extract n s.size) (l:=r.drop n) ⟨_,h01⟩ (by rw [<-HS.out];exact nG s n) (by rw [List.length_drop];omega) V8 h21 N5 Lb;refine ⟨_,rfl,?_,G0,hgc.set 0 _⟩;show Value.string _=_
   rw [mQ s n,HS.out]
 · have HT:Hid (dC n r=none):=aH (by simp [dC,hle]);have hd:decide (n<=s.size)=false:=by rw [decide_eq_false_iff_not];omega
   have Mf:s.size<=1000000:=Q5
   have S3:IntKind.u64.wrap (s.size:Int)=s.size:=Go.IntWalk.u64_in _ Q5;clear hs R0 hle;go_enter Tryz.func141,Tryz.ntmps141
   go_wp2
   go_region_with (first|(go_at_call 64;refine (aV _ _ _).mono ?_;rintro e w' ⟨rfl,D0⟩;refine aR ?_))
   all_goals exact ⟨rfl,by rw [HT.out];exact ⟨rfl,(Gr.trans (Gr.drew (Gr.refl w)) D0).toGc⟩⟩
end Go.Proofs.YtkgncijcnlfhiabGreat
