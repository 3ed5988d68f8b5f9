import Derived.Maps.AppendAt
import Derived.Test.YtkgncijcnlfhiaaGreatW4c
import Derived.Lib.AppendStr
namespace Go.Proofs.YtkgncijcnlfhiaaGreat
set_option maxRecDepth 100000
set_option maxHeartbeats 1000000
set_option linter.unusedVariables false
set_option linter.unusedSimpArgs false
open Go.RowKit
def bc(l:List UInt8):List Value:=l.map fun b=>Value.int .u8 b.toNat
theorem ll(l:List UInt8):(bc l).length=l.length:=by simp [bc]
theorem ue(l m:List UInt8):bc (l++m)=bc l++bc m:=by simp [bc]
theorem yn(l:List UInt8):∀u∈bc l,u.oneCell'=true:=by
 intro u hu;simp [bc] at hu;obtain ⟨x,_,rfl⟩:=hu;rfl
theorem Tryz.info5:(Tryz.prog.info? 5).map (fun i=>(i.zero,i.size,i.bytes))=some (some (.int .u8 0),1,1):=by kernel_rfl
structure db(base:Nat)(w:World)(v:Value)(w':World)(v':Value)(l':List UInt8):Prop where
 own:w'.ownsRow base 5 1 v' l'.length (bc l')
 frm:w.grownBy w' v.ownBlock
 lies:∀k,v'.ownBlock=some k→v.ownBlock=some k∨w.heap.size≤k
theorem db.refl{base:Nat}{w:World}{v:Value}{l:List UInt8}(h:w.ownsRow base 5 1 v l.length (bc l)):db base w v w v l:=
 ⟨h,World.grownBy.refl _ _,fun _ hk=>.inl hk⟩
theorem db.trans{base:Nat}{w w1 w2:World}{v v1 v2:Value}{l1 l2:List UInt8}(h:db base w v w1 v1 l1)(k:db base w1 v1 w2 v2 l2):db base w v w2 v2 l2:=by
 refine ⟨k.own,⟨k.frm.os.trans h.frm.os,k.frm.tape.trans h.frm.tape,k.frm.output.trans h.frm.output,Nat.le_trans h.frm.size k.frm.size,fun i hi hne=>?_⟩,fun i hi=>?_⟩
 · refine (k.frm.block i (Nat.lt_of_lt_of_le hi h.frm.size) fun e=>?_).trans (h.frm.block i hi hne);rcases h.lies i e.symm with e1|e1
   · exact hne e1.symm
   · omega
 · rcases k.lies i hi with e|e
   · exact h.lies i e
   · exact .inr (Nat.le_trans h.frm.size e)
theorem db.gr{base:Nat}{w w1 w2:World}{v v2:Value}{l2:List UInt8}(g:Gr w w1)(k:db base w1 v w2 v2 l2):db base w v w2 v2 l2:=by
 refine ⟨k.own,⟨k.frm.os.trans g.os,k.frm.tape.trans g.tape,k.frm.output.trans g.output,Nat.le_trans g.size k.frm.size,fun i hi hne=>(k.frm.block i (Nat.lt_of_lt_of_le hi g.size) hne).trans (g.block i hi (by simp))⟩,fun i hi=>?_⟩;rcases k.lies i hi with e|e
 · exact .inl e
 · exact .inr (Nat.le_trans g.size e)
theorem db.thenGr{base:Nat}{w w1 w2:World}{v v1:Value}{l1:List UInt8}(k:db base w v w1 v1 l1)(g:Gr w1 w2):db base w v w2 v1 l1:=by
 refine ⟨k.own.kept g ?_,⟨g.os.trans k.frm.os,g.tape.trans k.frm.tape,g.output.trans k.frm.output,Nat.le_trans k.frm.size g.size,fun i hi hne=>(g.block i (Nat.lt_of_lt_of_le hi k.frm.size) (by simp)).trans (k.frm.block i hi hne)⟩,k.lies⟩;cases h:v1.ownBlock<;>simp
theorem db.cell{base:Nat}{w w':World}{v v':Value}{l':List UInt8}(k:db base w v w' v' l'){b o:Nat}{x:Value}(hx:w.cell? ⟨b,o,none⟩=some x)(hb:b < base)(hv:∀i,v.ownBlock=some i→base≤i):w'.cell? ⟨b,o,none⟩=some x:=
 k.frm.cell hx (fun e=>by have:=hv b e.symm;omega)
section
variable {ops:Array Oper} {rest:List Oper} {o:Oper} {a:Act} {Q:Exit→Act→World→Prop}
theorem bS(w:World)(hgd:o.guard=none)(s x:Operand)(ho:o.op=.call { callee:=.builtin .append,args:=#[s,x],argTypes:=#[102,102] })
 (base:Nat) (v:Value) (l:List UInt8) (hs:a.eval s=v) (hown:w.ownsRow base 5 1 v l.length (bc l)) (y:UInt8) (val:Int) (hy:val=y.toNat)
 (H:Nat) (hx:a.eval x=.slice (some ⟨H,0,none⟩) 1 1) (hH:w.heap.size=H) (hlen:l.length≤100000000) (hbase:base≤w.heap.size)
 (h:∀v' w',db base w v w' v' (l++ [y])→wpList Tryz.prog ops Q rest (a.put o.dst v') w'):
 wpList Tryz.prog ops Q (o :: rest) a (w.alloc (.cells #[.int .u8 val] 5)):=by
 subst hy;subst hH;obtain ⟨i0,hi,hz0,hz1,hz2⟩:=info_parts Tryz.info5;refine wpList_append_own_at _ hgd s x 102 ho base 5 i0 (.int .u8 0) 1 1 Tryz.underlying102 hi hz0 hz1 hz2 rfl (by decide) v l.length (bc l) hs (hown.alloc _) ⟨w.heap.size,0,none⟩ 1 1 [.int .u8 y.toNat] hx rfl (cell_one_new _ _ _) (by intro u hu;simp at hu;subst hu;rfl) (by unfold maxLen;omega) (by omega) (by simp;omega) ?_;intro v' w' h1 h2 _ h4;refine h v' w' ⟨?_,(World.grownBy_alloc w _ _).trans h2,fun k hk=>?_⟩
 · simpa [bc] using h1
 · rcases h4 with e|e
   · exact .inl (e▸hk)
   · rw [hk] at e;simp at e;right;omega
end
def jn:Nat→Nat→List UInt8
 | 0,v=> [UInt8.ofNat v]
 | k+1,v=>if v < 128 then [UInt8.ofNat v] else UInt8.ofNat (v % 128+128) :: jn k (v / 128)
def num(v:Nat):List UInt8:=jn 10 v
open Go.RowKit
theorem qf{q:Nat}(h:q < 128):(q:Int)=(UInt8.ofNat q).toNat:=by simp [UInt8.toNat_ofNat'];omega
theorem ze:∀a:Fin 256,a.val ||| 128=a.val % 128+128:=by decide+kernel
theorem vZ(q:Nat):bits BinOp.or IntKind.u8 ((q:Int) % 256) 128=(UInt8.ofNat (q % 128+128)).toNat:=by
 have h:=u8_or_nat (q % 256) 128 (by omega) (by omega);have h2:=ze ⟨q % 256,by omega⟩;simp only at h2;rw [h2] at h;rw [show ((q:Int) % 256)=((q % 256:Nat):Int) by omega,show ((128:Int))=((128:Nat):Int) by rfl,h];simp [UInt8.toNat_ofNat'];omega
theorem ix:∀k q:Nat,(jn k q).length≤k+1∧1≤(jn k q).length
 | 0,q=>by simp [jn]
 | k+1,q=>by
  have:=ix k (q / 128)
  unfold jn;split
  · simp
  · simp;omega
theorem bO(q:Nat):(num q).length≤11:=(ix 10 q).1
theorem jq{k q:Nat}(h:q < 128):jn k q= [UInt8.ofNat q]:=by cases k<;>simp [jn,h]
theorem lZ{k q:Nat}(h:¬q < 128):jn (k+1) q=UInt8.ofNat (q % 128+128) :: jn k (q / 128):=by simp [jn,h]
theorem dw(base:Nat)(v:Value)(l:List UInt8)(n:Nat)(w:World)(hn:n < 18446744073709551616)(hown:w.ownsRow base 5 1 v l.length (bc l))(hlen:l.length≤10000000)(hb:base≤w.heap.size):
 Calls Tryz.prog 82 #[v,.int .u64 n] w fun x w'=>∃v',x=.returned v'∧db base w v w' v' (l++num n):=by
 go_enter Tryz.func82,Tryz.ntmps82
 go_wp2
 go_loopw [0,1] (fun vo m wr=>∃(k q:Nat) (l':List UInt8),k≤10∧q < 2 ^ (7 * k+1)∧q < 18446744073709551616∧m=.int .u64 q∧l'++jn k q=l++num n∧l'.length+k=l.length+10∧db base w v wr vo l') (fun _ m _=>(intOf m).toNat)
 case atStart=>exact ⟨10,n,l,Nat.le_refl _,by omega,hn,rfl,rfl,rfl,db.refl hown⟩
 case round=>
  obtain ⟨k,q,l',hk,hq,hq64,rfl,hl',hll,happ⟩:=hrel;have HL:=aH hl';have HLL:=aH hll;have HQ:=aH hq;clear hl' hll hq;by_cases hlt:q < 128
  · go_wp2_with (at_builtin;refine bS _ rfl _ _ rfl base _ l' rfl happ.own (UInt8.ofNat q) _ (by exact qf hlt) _ rfl rfl (by have:=HLL.out;omega) (Nat.le_trans hb happ.frm.size) ?_;intro v1 w1 happ1)
    go_ret
    refine ⟨v1,rfl,happ.trans ?_⟩;rw [←HL.out,jq hlt];exact happ1
  · go_wp2_with (at_builtin;refine bS _ rfl _ _ rfl base _ l' rfl happ.own (UInt8.ofNat (q % 128+128)) _ (by exact vZ q) _ rfl rfl (by have:=HLL.out;omega) (Nat.le_trans hb happ.frm.size) ?_;intro v1 w1 happ1)
    have hq:=HQ.out;obtain ⟨k',rfl⟩:∃k',k=k'+1:=⟨k - 1,by cases k with|zero=>simp at hq;omega|succ k=>rfl⟩;refine ⟨⟨k',q / 128,l'++ [UInt8.ofNat (q % 128+128)],by omega,?_,by omega,by go_num,?_,?_,happ.trans happ1⟩,by simp [intOf];omega⟩
    · rw [Nat.div_lt_iff_lt_mul (by decide)];rw [show 2 ^ (7 * k'+1) * 128=2 ^ (7 * (k'+1)+1) by rw [show 7 * (k'+1)+1=(7 * k'+1)+7 by omega,Nat.pow_add _ _ 7]];exact hq
    · rw [←HL.out,lZ hlt,List.append_assoc];rfl
    · have:=HLL.out;simp;omega
theorem lE(base:Nat)(v:Value)(l:List UInt8)(n:Nat)(w:World)(hn:n < 9223372036854775808)(hown:w.ownsRow base 5 1 v l.length (bc l))(hlen:l.length≤10000000)(hb:base≤w.heap.size):
 Calls Tryz.prog 84 #[v,.int .i64 n] w fun x w'=>∃v',x=.returned v'∧db base w v w' v' (l++num n):=by
 go_enter Tryz.func84,Tryz.ntmps84
 go_wp2_with (go_at_call 82;refine (dw base _ l n _ (by omega) hown hlen hb).mono ?_;rintro e w1 ⟨v1,rfl,happ⟩)
 go_ret
 exact ⟨v1,rfl,happ⟩
def oL(v:Int):Nat:=if v < 0 then (-2 * v - 1).toNat else (2 * v).toNat
theorem qe{n:Int}(h0:-9223372036854775808≤n)(h1:n≤9223372036854775807):oL n < 18446744073709551616:=by unfold oL;split<;>omega
theorem mu{x:Nat}(hx:x < 18446744073709551616):18446744073709551615 ^^^ x=18446744073709551615 - x:=by
 have h:=congrArg BitVec.toNat (BitVec.allOnes_xor (x:=BitVec.ofNat 64 x));rw [BitVec.toNat_xor,BitVec.toNat_allOnes,BitVec.toNat_ofNat,BitVec.toNat_not,BitVec.toNat_ofNat,Nat.mod_eq_of_lt hx] at h;exact h
theorem xf{n:Int}(h0:-9223372036854775808≤n)(h:n < 0):
 bits BinOp.xor IntKind.u64 IntKind.u64.max (IntKind.u64.wrap (IntKind.u64.wrap n * 2))=(oL n:Int):=by
 have e1:IntKind.u64.wrap (IntKind.u64.wrap n * 2)=((2 * n+18446744073709551616).toNat:Int):=by
  rw [IntKind.wrap_u64,IntKind.wrap_u64];omega
 rw [e1,show IntKind.u64.max=((18446744073709551615:Nat):Int) by rfl,u64_xor_nat _ _ (by omega) (by omega),mu (by omega)];unfold oL;rw [if_pos h];omega
theorem xA{n:Int}(h:¬n < 0):n * 2=(oL n:Int):=by unfold oL;rw [if_neg h];omega
theorem kg(base:Nat)(v:Value)(l:List UInt8)(n:Int)(w:World)(h0:-9223372036854775808≤n)(h1:n≤9223372036854775807)(hown:w.ownsRow base 5 1 v l.length (bc l))(hlen:l.length≤10000000)(hb:base≤w.heap.size):
 Calls Tryz.prog 56 #[v,.int .i64 n] w fun x w'=>∃v',x=.returned v'∧db base w v w' v' (l++num (oL n)):=by
 by_cases hneg:n < 0
 · go_enter Tryz.func56,Tryz.ntmps56
   go_wp2_with fail
   rw [xf h0 hneg];refine (dw base _ l (oL n) _ (qe h0 h1) hown hlen hb).mono ?_;rintro e w1 ⟨v1,rfl,happ⟩;go_wp2
   go_ret
   exact ⟨v1,rfl,happ⟩
 · go_enter Tryz.func56,Tryz.ntmps56
   go_wp2_with fail
   rw [xA (by omega)];refine (dw base _ l (oL n) _ (qe h0 h1) hown hlen hb).mono ?_;rintro e w1 ⟨v1,rfl,happ⟩;go_wp2
   go_ret
   exact ⟨v1,rfl,happ⟩
open Go.RowKit
theorem aT{W w:World}(h:Below W.heap.size W w){a:Addr}{x:Value}(hx:W.cell? a=some x):w.cell? a=some x:=
 (h.cell (World.block_lt_of_cell? W a hx)).trans hx
theorem aX.below{W w:World}{v:Value}{l:List Int}(h:aX W v l)(g:Below W.heap.size W w):aX w v l:=by
 obtain ⟨ao,cap,hv,hm,hc⟩:=h;refine ⟨ao,cap,hv,hm,fun i hi=>?_⟩;obtain ⟨b,off,h1,h2⟩:=hc i hi;exact ⟨b,off,h1,aT g h2⟩
theorem db.below{base:Nat}{w w':World}{v v':Value}{l l':List UInt8}(k:db base w v w' v' l')(hown:w.ownsRow base 5 1 v l.length (bc l))(hb:base≤w.heap.size):Below base w w':=
 (Below.refl _ _).grown k.frm hb fun i hi=>(hown.lt i hi).1
structure Wr(W w:World)(v:Value)(l:List UInt8):Prop where
 low:Below W.heap.size W w
 own:w.ownsRow W.heap.size 5 1 v l.length (bc l)
theorem Wr.base{W w:World}{v:Value}{l:List UInt8}(h:Wr W w v l):W.heap.size≤w.heap.size:=h.low.size
theorem Wr.app{W w w':World}{v v':Value}{l l':List UInt8}(h:Wr W w v l)(k:db W.heap.size w v w' v' l'):Wr W w' v' l':=
 ⟨h.low.trans (k.below h.own h.base),k.own⟩
theorem Wr.gr{W w w':World}{v:Value}{l:List UInt8}(h:Wr W w v l)(g:Gr w w'):Wr W w' v l:=
 ⟨h.low.grown g h.base (by simp),h.own.kept g (by cases v.ownBlock<;>simp)⟩
theorem Wr.refl{W w:World}{v:Value}{l:List UInt8}(h:Wr W w v l):db W.heap.size w v w v l:=db.refl h.own
section
variable {ops:Array Oper} {rest:List Oper} {o:Oper} {a:Act} {Q:Exit→Act→World→Prop}
theorem jd(w:World)(hgd:o.guard=none)(sl x:Operand)(ho:o.op=.call { callee:=.builtin .append,args:=#[sl,x],argTypes:=#[102,9] })
 (base:Nat) (v:Value) (l:List UInt8) (hs:a.eval sl=v) (hown:w.ownsRow base 5 1 v l.length (bc l)) (s:ByteArray)
 (hx:a.eval x=.string s) (hlen:l.length+s.size≤100000000) (hbase:base≤w.heap.size)
 (h:∀v' w',db base w v w' v' (l++s.data.toList)→wpList Tryz.prog ops Q rest (a.put o.dst v') w'):
 wpList Tryz.prog ops Q (o :: rest) a w:=by
 obtain ⟨i,hi,hz,hsize,hby⟩:=info_parts Tryz.info5;refine wpList_plain hgd fun K hK=>?_
 obtain ⟨v',w',hr,h2,h3,_⟩:=Go.Lib.run_append_own_string (P:=Tryz.prog) w base 102 9 o.type 5 i Tryz.underlying102 Tryz.underlying9 hi hz hsize hby v l.length (bc l) hown s (by unfold maxLen;omega) (by omega) hbase;have hsz:s.data.toList.length=s.size:=by rw [Array.length_toList];rfl
 have hlies:∀k,v'.ownBlock=some k→v.ownBlock=some k∨w.heap.size≤k:=by
  intro k hk;rcases hown.2 with ⟨rfl,hn⟩|⟨g,cap,cur,rfl,hbg,hg,hnc,hcm,hcs,htake⟩
  · obtain ⟨v2,w2,hr2,h22,_⟩:=Go.Lib.run_append_own_string (P:=Tryz.prog) w w.heap.size 102 9 o.type 5 i Tryz.underlying102 Tryz.underlying9 hi hz hsize hby _ l.length (bc l) (by rw [hn];exact ⟨by simp [ll,hn],.inl ⟨rfl,rfl⟩⟩) s (by unfold maxLen;omega) (by omega) (Nat.le_refl _);rw [hr] at hr2;simp only [Result.ok.injEq] at hr2;obtain ⟨rfl,rfl⟩:=hr2;exact .inr (h22.lt k hk).1
  · have hcs':cur.size=cap:=by simpa using hcs
    by_cases hroom:l.length+s.size≤cap
    · have hr2:=Go.Lib.run_append_room_string (P:=Tryz.prog) w 102 9 o.type 5 i Tryz.underlying102 Tryz.underlying9 hi hsize g l.length cap cur hg s hroom (by omega);rw [hr] at hr2;simp only [Result.ok.injEq] at hr2;obtain ⟨rfl,rfl⟩:=hr2;exact .inl hk
    · have hr2:=Go.Lib.run_append_grow_string (P:=Tryz.prog) w 102 9 o.type 5 i (.int .u8 0) Tryz.underlying102 Tryz.underlying9 hi hz ⟨g,0,none⟩ l.length cap (bc l) (by rw [hsize];simp [ll]) (hown.cells (g:=g) rfl) s (by omega) (by omega) (by rw [hby];exact growslice_fits (by omega) (by omega));rw [hr] at hr2;simp only [Result.ok.injEq] at hr2;obtain ⟨rfl,rfl⟩:=hr2;simp [Value.ownBlock] at hk
      right;omega
 unfold Oper.wp execOp;simp only [ho,resolve,invoke,builtin,Sem.run_bind,Sem.run_pure,Result.andThen_ok,List.map_toArray,List.map_cons,List.map_nil,hs,hx,hr];refine hK _ _ (h v' w' ⟨?_,h3,hlies⟩);rw [ue,List.length_append,hsz];exact h2
end
theorem cA(W:World)(v:Value)(l:List UInt8)(n:Int)(w:World)(h0:0≤n)(hn:n≤9223372036854775807)(hw:Wr W w v l)(hlen:l.length≤10000000):
 Calls Tryz.prog 84 #[v,.int .i64 n] w fun x w'=>∃v',x=.returned v'∧db W.heap.size w v w' v' (l++num n.toNat):=by
 obtain ⟨k,rfl⟩:=Int.eq_ofNat_of_zero_le h0;exact lE _ v l k w (by omega) hw.own hlen hw.base
theorem mQ(W:World)(v:Value)(l:List UInt8)(n:Int)(w:World)(h0:-9223372036854775808≤n)(hn:n≤9223372036854775807)(hw:Wr W w v l)(hlen:l.length≤10000000):
 Calls Tryz.prog 56 #[v,.int .i64 n] w fun x w'=>∃v',x=.returned v'∧db W.heap.size w v w' v' (l++num (oL n)):=
 kg _ v l n w h0 hn hw.own hlen hw.base
theorem pP(W:World)(v:Value)(l:List UInt8)(s:ByteArray)(w:World)(hs:s.size≤1000000)(hw:Wr W w v l)(hlen:l.length≤10000000):
 Calls Tryz.prog 87 #[v,.string s] w fun x w'=>∃v',x=.returned v'∧db W.heap.size w v w' v' (l++(num s.size++s.data.toList)):=by
 have hl2:(num s.size).length≤11:=bO _;go_enter Tryz.func87,Tryz.ntmps87
 go_wp2_with (first|(go_at_call 84;refine (cA W _ l s.size _ (by omega) (by omega) (by exact hw) hlen).mono ?_;rintro e w1 ⟨v1,rfl,happ⟩;rw [Int.toNat_natCast] at happ;have hw1:=hw.app happ)|(at_builtin;refine jd _ rfl _ _ rfl W.heap.size _ (l++num s.size) rfl hw1.own s rfl (by simp only [List.length_append];omega) hw1.base ?_;intro v2 w2 happ2))
 go_ret
 refine ⟨v2,rfl,?_⟩;rw [←List.append_assoc];exact happ.trans happ2
open Go.RowKit
def iQ(c:Nat):Nat:=if c % 2=1 then (c / 2) ^^^ 3988292384 else c / 2
def iE:Nat→Nat→Nat
 | 0,c=>c
 | k+1,c=>iQ (iE k c)
def lI(c:Nat)(b:UInt8):Nat:=iE 8 (c ^^^ b.toNat)
def oH(l:List UInt8):Nat:=l.foldl lI 4294967295
def lJ(l:List UInt8):Nat:=4294967295 - oH l
theorem tA{c:Nat}(h:c < 4294967296):iQ c < 4294967296:=by
 unfold iQ;split
 · exact Nat.xor_lt_two_pow (n:=32) (by omega) (by decide)
 · omega
theorem jo{c:Nat}(h:c < 4294967296):∀k,iE k c < 4294967296
 | 0=>h
 | k+1=>tA (jo h k)
theorem k_{c:Nat}(h:c < 4294967296)(b:UInt8):c ^^^ b.toNat < 4294967296:=
 Nat.xor_lt_two_pow (n:=32) h (by have:=b.toNat_lt;omega)
theorem rD{c:Nat}(h:c < 4294967296)(b:UInt8):lI c b < 4294967296:=jo (k_ h b) 8
theorem o7:∀(l:List UInt8) (c:Nat),c < 4294967296→l.foldl lI c < 4294967296
 | [],_,h=>h
 | b :: l,_,h=>o7 l _ (rD h b)
theorem xU(l:List UInt8):oH l < 4294967296:=o7 l _ (by decide)
theorem uk(l:List UInt8):lJ l < 4294967296:=by unfold lJ;omega
theorem t9(l:List UInt8)(b:UInt8):oH (l++ [b])=lI (oH l) b:=by unfold oH;rw [List.foldl_append];rfl
theorem uK{x:Nat}(hx:x < 4294967296):4294967295 ^^^ x=4294967295 - x:=by
 have h:=congrArg BitVec.toNat (BitVec.allOnes_xor (x:=BitVec.ofNat 32 x));rw [BitVec.toNat_xor,BitVec.toNat_allOnes,BitVec.toNat_ofNat,BitVec.toNat_not,BitVec.toNat_ofNat,Nat.mod_eq_of_lt hx] at h;exact h
theorem tu(s:ByteArray)(k:Nat)(h:k < s.size):s.data.toList.take (k+1)=s.data.toList.take k++ [s[k]]:=by
 rw [List.take_succ_eq_append_getElem (by simpa using h)];rfl
theorem zr{c:Nat}(h:c < 4294967296):bits BinOp.and IntKind.u32 (c:Int) 1=((c % 2:Nat):Int):=by
 have:=u32_and_nat c 1 h (by decide)
 rw [Nat.and_one_is_mod] at this;exact this
theorem zQ{c:Nat}(h:c < 4294967296):bits BinOp.xor IntKind.u32 ((c:Int) / 2) 3988292384=((c / 2 ^^^ 3988292384:Nat):Int):=by
 have:=u32_xor_nat (c / 2) 3988292384 (by omega) (by decide)
 rw [←this];congr 1
theorem ya{c:Nat}(h:c < 4294967296)(b:UInt8):bits BinOp.xor IntKind.u32 (c:Int) (b.toNat:Int)=((c ^^^ b.toNat:Nat):Int):=
 u32_xor_nat c b.toNat h (by have:=b.toNat_lt;omega)
theorem zN{c:Nat}(h:c < 4294967296):bits BinOp.xor IntKind.u32 IntKind.u32.max (c:Int)=((4294967295 - c:Nat):Int):=by
 have:=u32_xor_nat 4294967295 c (by decide) h
 rw [uK h] at this;exact this
theorem nF(s:ByteArray)(w:World)(hs:s.size≤maxLen):
 Calls Tryz.prog 83 #[.string s] w fun x w'=>x=.returned (.int .u32 (lJ s.data.toList))∧w'=w:=by
 unfold maxLen at hs;go_enter Tryz.func83,Tryz.ntmps83
 go_wp2
 go_loop [3,7] (fun c i=>∃k:Nat,k≤s.size∧i=.int .i64 k∧c=.int .u32 (oH (s.data.toList.take k))) (fun _ i=>s.size - (intOf i).toNat)
 case atStart=>exact ⟨0,Nat.zero_le _,rfl,rfl⟩
 case round=>
  obtain ⟨k,hk,rfl,rfl⟩:=hrel;have hlt0:=xU (s.data.toList.take k);by_cases hlt:k < s.size
  · have HS:=aH (t9 (s.data.toList.take k) s[k]);have HT:=aH (tu s k hlt);generalize hb:s[k]=b at HS HT;have hxb:=ya hlt0 b;generalize oH (s.data.toList.take k)=c at hlt0 HS hxb;have hx1:=k_ hlt0 b;have HB:=aH hb;go_wp2
    go_loop [3,16] (fun d j=>∃m:Nat,m≤8∧j=.int .i64 m∧d=.int .u32 (iE m (c ^^^ b.toNat))) (fun _ j=>8 - (intOf j).toNat)
    case atStart=>
     have hbl:=b.toNat_lt;exact ⟨0,Nat.zero_le _,rfl,by rw [show ((b.toNat:Int) % 4294967296)=b.toNat from by omega,hxb];rfl⟩
    case round=>
     obtain ⟨m,hm,rfl,rfl⟩:=hrel;have hlt2:=jo hx1 m;by_cases hm8:m < 8
     · have HN:Hid (iE (m+1) (c ^^^ b.toNat)=iQ (iE m (c ^^^ b.toNat))):=aH rfl;generalize iE m (c ^^^ b.toNat)=d at hlt2 HN;have hand:=zr hlt2;have hxor:=zQ hlt2;by_cases hodd:d % 2=1
       · have HC:Hid (iQ d=d / 2 ^^^ 3988292384):=aH (by unfold iQ;rw [if_pos hodd]);have hb1:(((d % 2:Nat):Int) == 1)=true:=by rw [hodd];rfl
         clear hodd;go_wp2
         go_round
         case rel=>exact ⟨m+1,by omega,by go_num,by rw [HN.out,HC.out]⟩
         case measure=>simp [intOf];omega
       · have HC:Hid (iQ d=d / 2):=aH (by unfold iQ;rw [if_neg hodd]);have hb1:(((d % 2:Nat):Int) == 1)=false:=by rw [beq_eq_false_iff_ne];omega
         clear hodd;go_wp2
         go_round
         case rel=>exact ⟨m+1,by omega,by go_num,by rw [HN.out,HC.out];go_num⟩
         case measure=>simp [intOf];omega
     · have h8:m=8:=by omega
       subst h8;go_wp2
       go_round
       case rel=>exact ⟨k+1,by omega,by go_num,by rw [HT.out,HS.out];rfl⟩
       case measure=>simp [intOf];omega
  · have hnot:=zN hlt0;have HE:Hid (lJ s.data.toList=4294967295 - oH (s.data.toList.take k)):=aH (by unfold lJ;rw [List.take_of_length_le (by simp;omega)]);generalize oH (s.data.toList.take k)=c at hlt0 hnot HE;go_wp2
    go_ret
    exact ⟨by rw [HE.out];rfl,rfl⟩
open Go.RowKit
attribute [local go_sem ↓] Go.wp_at_zero Go.wp_at_succ
def iA(w:World)(cb:Nat)(r:List UInt8)(e a:Int):Prop:=
 (∃s:ByteArray,w.cell? ⟨cb,0,none⟩=some (.string s)∧s.data.toList=r)∧r.length≤1000000∧w.cell? ⟨cb,1,none⟩=some (.int .i64 e)∧w.cell? ⟨cb,3,none⟩=some (.int .i64 a)∧w.frozen? ⟨cb,0,none⟩=false∧w.cell? ⟨cb,2,none⟩=some (.int .i64 0)
abbrev Gc(cb:Nat)(w w':World):Prop:=w.grownBy w' (some cb)
theorem Gc.refl(cb:Nat)(w:World):Gc cb w w:=World.grownBy.refl w _
theorem Gr.toGc{cb:Nat}{w w':World}(h:Gr w w'):Gc cb w w':=⟨h.os,h.tape,h.output,h.size,fun i hi _=>h.block i hi (by simp)⟩
theorem Gc.set{cb:Nat}{w w':World}(h:Gc cb w w')(o:Nat)(v:Value):Gc cb w (w'.setCell ⟨cb,o,none⟩ v):=
 ⟨h.os,h.tape,h.output,by simpa using h.size,fun i hi hne=>by rw [Below.heap_setCell _ _ _ _ (fun e=>hne (by rw [e]))];exact h.block i hi hne⟩
theorem Gc.drew{cb:Nat}{a b:World}(h:Gc cb a b):Gc cb a b.drew:=⟨h.os,h.tape,h.output,h.size,h.block⟩
theorem iA.gr{w w':World}{cb:Nat}{r:List UInt8}{e a:Int}(h:iA w cb r e a)(g:Gr w w'):iA w' cb r e a:=by
 obtain ⟨⟨s,h0,h1⟩,h2,h3,h4,h5,h6⟩:=h;exact ⟨⟨s,g.cell h0 (by simp),h1⟩,h2,g.cell h3 (by simp),g.cell h4 (by simp),(World.frozen?_of_block (g.block cb (World.block_lt_of_cell? w _ h3) (by simp))).trans h5,g.cell h6 (by simp)⟩
def mT{α:Type}(cb:Nat)(e a:Int)(w:World)(R:World→Value→α→Prop):Option (α×List UInt8)→Ending→World→Prop
 | some (y,r'),x,w'=>∃v,x=.returned v∧R w' v y∧iA w' cb r' e a∧Gc cb w w'
 | none,x,w'=>x=.panicked (dF e a)∧Gc cb w w'
def cm(n:Nat)(r:List UInt8):Option (List UInt8×List UInt8):=if n≤r.length then some (r.take n,r.drop n) else none
theorem xS{w:World}{cb:Nat}{e a:Int}{s':ByteArray}{l:List UInt8}(h0:∃x,w.cell? ⟨cb,0,none⟩=some x)(hs:s'.data.toList=l)(hl:l.length≤1000000)(h1:w.cell? ⟨cb,1,none⟩=some (.int .i64 e))(h2:w.cell? ⟨cb,3,none⟩=some (.int .i64 a))(hz:w.frozen? ⟨cb,0,none⟩=false)(hj:w.cell? ⟨cb,2,none⟩=some (.int .i64 0)):
 iA (w.setCell ⟨cb,0,none⟩ (.string s')) cb l e a:=by
 obtain ⟨x,hx⟩:=h0;refine ⟨⟨s',World.cell?_setCell_same w ⟨cb,0,none⟩ _ hx,hs⟩,hl,?_,?_,?_,?_⟩
 · exact (World.cell?_setCell_other w ⟨cb,0,none⟩ ⟨cb,1,none⟩ _ (by intro h;cases h)).trans h1
 · exact (World.cell?_setCell_other w ⟨cb,0,none⟩ ⟨cb,3,none⟩ _ (by intro h;cases h)).trans h2
 · rw [World.frozen?_setCell];exact hz
 · exact (World.cell?_setCell_other w ⟨cb,0,none⟩ ⟨cb,2,none⟩ _ (by intro h;cases h)).trans hj
theorem l9(s:ByteArray)(n:Nat):s.extract 0 n=⟨(s.data.toList.take n).toArray⟩:=by
 have h:(s.extract 0 n).data.toList=s.data.toList.take n:=by simp [ByteArray.data_extract]
 rw [←h]
theorem lg(s:ByteArray)(n:Nat):(s.extract n s.size).data.toList=s.data.toList.drop n:=by
 have e:s.size=s.data.toList.length:=by rw [Array.length_toList];rfl
 simp [ByteArray.data_extract]
 rw [List.take_of_length_le (by simp)]
theorem kJ(cb:Nat)(r:List UInt8)(e a:Int)(n:Nat)(hn:n < 18446744073709551616)(w:World)(hc:iA w cb r e a):
 Calls Tryz.prog 143 #[.pointer (some ⟨cb,0,none⟩),.int .u64 n] w (mT cb e a w (fun _ v y=>v=.string ⟨y.toArray⟩) (cm n r)):=by
 obtain ⟨⟨s,h0,hs⟩,hl,h1,h2,hz,hj⟩:=hc;have hsz:s.size=r.length:=by rw [←hs,Array.length_toList];rfl
 by_cases hle:n≤r.length
 · have HT:Hid (cm n r=some (r.take n,r.drop n)):=aH (by simp [cm,hle]);have hd:(n:Int)≤(s.size:Int):=by omega
   have hd0:(0:Int)≤(n:Int):=by omega
   have hss:s.size≤1000000:=by omega
   have hwr:IntKind.u64.wrap (s.size:Int)=s.size:=Go.IntWalk.u64_in _ (by omega);have HS:=aH hs;clear hs hsz hle;go_enter Tryz.func143,Tryz.ntmps143
   go_wp2
   go_region_held3 (fun w'=>w'.cell? ⟨cb,0,none⟩=some (.string s)∧w'.cell? ⟨cb,1,none⟩=some (.int .i64 e)∧w'.cell? ⟨cb,3,none⟩=some (.int .i64 a)∧w'.cell? ⟨cb,2,none⟩=some (.int .i64 0)) (first|go_keep|(refine ⟨?_,?_,?_,?_⟩<;>exact hg'.cell (by assumption) (by simp))) (first|(go_at_call 32;refine (aP _ _ _).mono ?_;rintro e w' ⟨rfl,hg'⟩))
   have h01:=hg'.cell h0 (by simp);have h11:=hg'.cell h1 (by simp);have h21:=hg'.cell h2 (by simp);have hj1:=hg'.cell hj (by simp);have hz1:w'.frozen? ⟨cb,0,none⟩=false:=(World.frozen?_of_block (hg'.block cb (World.block_lt_of_cell? w _ h1) (by simp))).trans hz;have hgc:Gc cb w w':=(Gr.trans (Gr.drew (Gr.refl w)) hg').toGc;clear hg' h0 h1 h2 hz hj;go_wp2_with fail
   go_ret
   rw [HT.out];have hcur:=xS (s':=s.extract n s.size) (l:=r.drop n) ⟨_,h01⟩ (by rw [←HS.out];exact lg s n) (by rw [List.length_drop];omega) h11 h21 hz1 hj1;refine ⟨_,rfl,?_,hcur,hgc.set 0 _⟩;show Value.string _=_
   rw [l9 s n,HS.out]
 · have HT:Hid (cm n r=none):=aH (by simp [cm,hle]);have hd:decide (n≤s.size)=false:=by rw [decide_eq_false_iff_not];omega
   have hss:s.size≤1000000:=by omega
   have hwr:IntKind.u64.wrap (s.size:Int)=s.size:=Go.IntWalk.u64_in _ (by omega);clear hs hsz hle;go_enter Tryz.func143,Tryz.ntmps143
   go_wp2
   go_region_with (first|(go_at_call 32;refine (aV _ _ _).mono ?_;rintro e w' ⟨rfl,hg'⟩;refine aQ ?_))
   all_goals exact ⟨rfl,by rw [HT.out];exact ⟨rfl,(Gr.trans (Gr.drew (Gr.refl w)) hg').toGc⟩⟩
end Go.Proofs.YtkgncijcnlfhiaaGreat
