import Derived.Test.YtkgncijcnlfhiaaGreatMq
namespace Go.Proofs.YtkgncijcnlfhiaaGreat
set_option linter.unusedVariables false
set_option linter.unusedSimpArgs false
open Go.RowKit
attribute [local go_sem ↓] Go.wp_at_zero Go.wp_at_succ
theorem Tryz.callWords(vals:Array Value)(w:World):(callFunc 135 vals).run Tryz.prog w=.ok (.enter 135 vals) w:=by kernel_rfl
section
variable {C:MC} {w w':World} {ρ:Nat→Role} {nm fbn:Nat→Nat} {cs:Nat→Int} {ct:Int} {L:List PFr} {bs:List (List PV)} {tk:Nat} {told:List Int}
theorem FrsW.names{nm':Nat→Nat}{n:Nat}(e:∀j,j < n→nm' j=nm j):∀{L:List PFr},FrsW C w ρ nm fbn L→(∀x∈L,Bd n x.slots∧Bd n x.stack)→FrsW C w ρ nm' fbn L
 | [],_,_=>trivial
 | x :: l,h,hb=>by
  obtain ⟨vc,vs,vk,f,h0⟩:=h.1;have hx:=hb x List.mem_cons_self;refine ⟨⟨vc,vs,vk,f,⟨h0.func,h0.code,h0.box,?_,?_,h0.rb,h0.rsl,h0.rst⟩⟩,FrsW.names e h.2 fun y hy=>hb y (List.mem_cons_of_mem _ hy)⟩
  · rw [rowV_congr e _ hx.1];exact h0.sl
  · rw [rowV_congr e _ hx.2];exact h0.st
theorem MW.addBlk{w0:World}{ρ0:Nat→Role}{v:Value}{fs:List PV}(h:MW C w ρ nm fbn cs ct L bs tk told)(h0:Kept w0 w ρ0 ρ)(hV:C.V.heap.size≤w0.heap.size)(hv:w.ownsRow w0.heap.size 183 2 v fs.length (rowV nm fs))(hρ:∀k,v.ownBlock=some k→ρ k=.no)(hct:0≤ct)(bL:∀x∈L,Bd bs.length x.slots∧Bd bs.length x.stack)(bB:∀r∈bs,Bd bs.length r)(bF:Bd bs.length fs):
 ∃ρ' nm' cs',nm' bs.length=w.heap.size∧MW C (w.alloc (.cells #[v,.int .i64 0] 224)) ρ' nm' fbn cs' ct L (bs++ [fs]) tk told∧Kept w0 (w.alloc (.cells #[v,.int .i64 0] 224)) ρ0 ρ':=by
 let ρ':Nat→Role:=fun b=>if b=w.heap.size then .bb bs.length else if v.ownBlock=some b then .bf bs.length else ρ b
 let nm':Nat→Nat:=fun j=>if j=bs.length then w.heap.size else nm j
 let cs':Nat→Int:=fun j=>if j=bs.length then 0 else cs j
 have hvs:∀b,v.ownBlock=some b→w0.heap.size≤b∧b < w.heap.size:=fun b hb=>hv.lt b hb
 have g:=(Gr.refl w).alloc (.cells #[v,.int .i64 0] 224);have hsz:(w.alloc (.cells #[v,.int .i64 0] 224)).heap.size=w.heap.size+1:=by simp
 have h0s:=h0.size;have hr1:ρ' w.heap.size=.bb bs.length:=if_pos rfl;have hr2:∀b,v.ownBlock=some b→ρ' b=.bf bs.length:=fun b hb=>by
  have e1:¬b=w.heap.size:=by have:=(hvs b hb).2;omega
  show (if b=w.heap.size then _ else _)=_
  rw [if_neg e1,if_pos hb]
 have hr3:∀b,b < w.heap.size→(ρ b≠.no∨b < w0.heap.size)→ρ' b=ρ b:=fun b hb hn=>by
  have e1:¬b=w.heap.size:=by omega
  have e2:¬v.ownBlock=some b:=fun e=>by
   rcases hn with hn|hn
   · exact hn (hρ b e)
   · have:=(hvs b e).1;omega
  show (if b=w.heap.size then _ else _)=_
  rw [if_neg e1,if_neg e2]
 have hn1:∀j,j < bs.length→nm' j=nm j:=fun j hj=>if_neg (by omega)
 have hn2:nm' bs.length=w.heap.size:=if_pos rfl;have s:Stays (fun r=>r≠.no) w (w.alloc (.cells #[v,.int .i64 0] 224)) ρ ρ':=fun b hb hS=>⟨g.block b hb (by simp),hr3 b hb (.inl hS)⟩
 have K:Kept w0 (w.alloc (.cells #[v,.int .i64 0] 224)) ρ0 ρ':=⟨g.os.trans h0.os,g.tape.trans h0.tape,g.output.trans h0.output,by omega,fun b hb=>(hr3 b (by omega) (.inr hb)).trans (h0.role b hb),fun b hb e=>(g.block b (by omega) (by simp)).trans (h0.keep b hb e)⟩;obtain ⟨vf,vt,hm⟩:=h.mb;refine ⟨ρ',nm',cs',hn2,⟨h.gr.trans g,fun b hb=>?_,⟨vf,vt,hm.mv s nofun nofun nofun⟩,(h.frs.mv s fun i _=>⟨nofun,nofun,nofun,rfl⟩).names hn1 bL,fun j r hj=>?_⟩,K⟩
 · have hVs:=h.gr.size;by_cases e1:b=w.heap.size
   · subst e1;exact ⟨hVs,by omega⟩
   · by_cases e2:v.ownBlock=some b
     · have:=hvs b e2;exact ⟨by omega,by omega⟩
     · have e3:ρ' b=ρ b:=by
        show (if b=w.heap.size then _ else _)=_
        rw [if_neg e1,if_neg e2]
       rw [e3] at hb;have:=h.lo b hb
       exact ⟨this.1,by omega⟩
 · by_cases e:j < bs.length
   · rw [List.getElem?_append_left e] at hj;obtain ⟨⟨v1,hB⟩,hc⟩:=h.blks j r hj;have hB1:=hB.mv s nofun nofun;have ec:cs' j=cs j:=if_neg (by omega);rw [ec];refine ⟨⟨v1,⟨?_,?_,?_,hB1.rf⟩⟩,hc⟩
     · rw [hn1 j e];exact hB1.box
     · rw [rowV_congr hn1 _ (bB r (List.mem_of_getElem? hj))];exact hB1.fl
     · rw [hn1 j e];exact hB1.rb
   · rw [List.getElem?_append_right (by omega)] at hj;have e0:j - bs.length=0:=by
      have:=(List.getElem?_eq_some_iff.1 hj).1
      simp at this;omega
     rw [e0] at hj;have ej:j=bs.length:=by omega
     subst ej;simp at hj
     subst hj;have ec:cs' bs.length=0:=if_pos rfl;rw [ec];refine ⟨⟨v,⟨?_,?_,?_,hr2⟩⟩,by omega,hct⟩
     · rw [hn2];exact heap_alloc_new w _
     · rw [rowV_congr hn1 _ bF];have:=own_gr hv g
       exact ⟨this.1,this.2.imp id (fun ⟨g,c,cur,e1,e2,e3⟩=>⟨g,c,cur,e1,Nat.zero_le _,e3⟩)⟩
     · rw [hn2];exact hr1
theorem MW.setMb{tk':Nat}{ct':Int}{vf vt:Value}(h:MW C w ρ nm fbn cs ct L bs tk told)(hm:MbW C w ρ fbn L.length (tk:Int) ct told vf vt)(hF:MbAt w' C.mb C.v1 C.v2 C.v3 C.v4 C.v5 vf (C.heap:Int) (tk':Int) ct' vt)(hct:ct≤ct')(hos:w'.os=w.os)(htp:w'.tape=w.tape)(hou:w'.output=w.output)(hsz:w.heap.size≤w'.heap.size)(hoth:∀b,b < w.heap.size→¬b=C.mb→w'.heap[b]? =w.heap[b]?):
 MW C w' ρ nm fbn cs ct' L bs tk' told∧Kept w w' ρ ρ:=by
 have s:Stays (fun r=>r≠.mach) w w' ρ ρ:=fun b hb hS=>⟨hoth b hb (fun e=>hS (e▸hm.rm)),rfl⟩
 have K:Kept w w' ρ ρ:=⟨hos,htp,hou,hsz,fun _ _=>rfl,fun b hb e=>hoth b hb (fun e2=>by rw [e2,hm.rm] at e;cases e)⟩;obtain ⟨a1,a2⟩:=own_stays hm.fr hm.rf s nofun;obtain ⟨b1,b2⟩:=own_stays hm.tl hm.rt s nofun;refine ⟨⟨K.gr h.gr h.lo,fun b hb=>⟨(h.lo b hb).1,Nat.lt_of_lt_of_le (h.lo b hb).2 hsz⟩,⟨vf,vt,⟨hF,a1,b1,hm.rm,a2,b2⟩⟩,h.frs.mv s fun i _=>⟨nofun,nofun,nofun,rfl⟩,fun j r hj=>?_⟩,K⟩;obtain ⟨⟨v,hB⟩,hc⟩:=h.blks j r hj;exact ⟨⟨v,hB.mv s nofun nofun⟩,hc.1,by omega⟩
set_option maxRecDepth 100000 in
set_option maxHeartbeats 2000000 in
theorem made_mw{w0:World}{ρ0:Nat→Role}{v:Value}{fs:List PV}(h:MW C w ρ nm fbn cs ct L bs tk told)(h0:Kept w0 w ρ0 ρ)(hV:C.V.heap.size≤w0.heap.size)(hv:w.ownsRow w0.heap.size 183 2 v fs.length (rowV nm fs))(hρ:∀k,v.ownBlock=some k→ρ k=.no)(hct:0≤ct)(bL:∀x∈L,Bd bs.length x.slots∧Bd bs.length x.stack)(bB:∀r∈bs,Bd bs.length r)(bF:Bd bs.length fs)(htk:tk≤10000000)(hf:fs.length≤1000):
 Calls Tryz.prog 105 #[.pointer (some ⟨C.mb,6,none⟩),v] w fun e w'=>∃ρ' nm' cs',e=.returned (.pointer (some ⟨nm' bs.length,0,none⟩))∧MW C w' ρ' nm' fbn cs' ct L (bs++ [fs]) (tk+(fs.length+1)) told∧Kept w0 w' ρ0 ρ':=by
 obtain ⟨va,vcp,rfl⟩:=own_shape_ hv;obtain ⟨vf,vt,hm⟩:=h.mb;have hbox:=hm.box;have hB':=(heap_setCell_same w C.mb 7 _ _ (.int .i64 ((tk+(fs.length+1):Nat):Int)) hbox).trans (by simp:_=some (.cells #[C.v1,C.v2,C.v3,C.v4,C.v5,vf,.int .i64 (C.heap:Int),.int .i64 ((tk+(fs.length+1):Nat):Int),.int .i64 ct,vt] 121 (0,0)));have h2:=h.setMb (w':=w.setCell ⟨C.mb,7,none⟩ (.int .i64 ((tk+(fs.length+1):Nat):Int))) hm hB' (Int.le_refl _) rfl rfl rfl (by simp) (fun b hb hne=>Below.heap_setCell _ _ _ _ (by show b≠C.mb;exact hne));have hv2:(w.setCell ⟨C.mb,7,none⟩ (.int .i64 ((tk+(fs.length+1):Nat):Int))).ownsRow w0.heap.size 183 2 (.slice va fs.length vcp) fs.length (rowV nm fs):=own_at_ hv fun k hk=>Below.heap_setCell _ _ _ _ (by show k≠C.mb;exact fun e=>by have:=hρ k hk;rw [e,hm.rm] at this;cases this)
 have HZ:Hid (∀w2,Gr (w.setCell ⟨C.mb,7,none⟩ (.int .i64 ((tk+(fs.length+1):Nat):Int))) w2→∃ρ' nm' cs',nm' bs.length=w2.heap.size∧MW C (w2.alloc (.cells #[.slice va fs.length vcp,.int .i64 0] 224)) ρ' nm' fbn cs' ct L (bs++ [fs]) (tk+(fs.length+1)) told∧Kept w0 (w2.alloc (.cells #[.slice va fs.length vcp,.int .i64 0] 224)) ρ0 ρ'):=hide (fun w2 gg=>(h2.1.of_gr gg).addBlk (h0.trans (h2.2.trans (Kept.of_gr gg))) hV (own_gr hv2 gg) hρ hct bL bB bF);have c7:w.cell? ⟨C.mb,7,none⟩=some (.int .i64 (tk:Int)):=by rw [hcell_ hbox];rfl
 have KS0:Hid (∀w',Gr w w'→w'.cell? ⟨C.mb,7,none⟩=some (.int .i64 (tk:Int))):=hide (fun w' g=>g.cell c7 (by simp));have z7:w.frozen? ⟨C.mb,7,none⟩=false:=hfrozen_ hbox;have hw1:IntKind.i64.wrap ((tk:Int)+((fs.length:Int)+1))=((tk+(fs.length+1):Nat):Int):=by rw [Go.IntWalk.i64_in _ (by omega)];omega
 clear hB' h2 hv2 hbox hm h h0 hv hρ bL bB bF;generalize C.mb=mb at KS0 c7 z7 HZ ⊢;generalize ((tk+(fs.length+1):Nat):Int)=TK at HZ hw1 ⊢;go_enter Tryz.func105,Tryz.ntmps105
 go_wp2_with fail
 refine wp_region_z 10 (S:=(fun w'=>w'.cell? ⟨mb,7,none⟩=some (.int .i64 (tk:Int)))) (by kernel_rfl) (KS0.out _ (Gr.drew (Gr.refl _))) (fun hH=>?_);refine tY 0 _ rfl (fun w hS=>by go_simp<;>rfl) hH ?_
 simp only [Act.put,sA,s0,s1];refine tY 1 _ rfl (fun w hS=>by go_simp<;>rfl) hH ?_
 simp only [Act.put,sA,s0,s1];refine tY 2 _ rfl (fun w hS=>by go_simp<;>rfl) hH ?_
 simp only [Act.put,sA,s0,s1];refine tY 3 _ rfl (fun w hS=>by go_simp<;>rfl) hH ?_
 simp only [Act.put,sA,s0,s1];refine tY 4 _ rfl (fun w hS=>by go_simp<;>rfl) hH ?_
 simp only [Act.put,sA,s0,s1];refine tY 5 _ rfl (fun w hS=>by go_simp<;>rfl) hH ?_
 simp only [Act.put,sA,s0,s1];refine aloneZ (i:=6) rfl (by kernel_rfl) (fun K hK=>?_);refine step_calls_w rfl 135 _ _ rfl #[.int .i64 (fs.length:Int)] (by simp [Act.eval]) (Tryz.callWords _ _) ((words_any fs.length _ (by omega)).mono ?_);rintro e w2 ⟨rfl,hw2⟩;subst hw2;refine .inl ⟨_,rfl,?_⟩;refine hK.out _ _ (fun _=>KS0.out _ (Gr.drew (Gr.refl _))) (fun hH=>?_);replace hH:=hH (by decide);clear hK;try simp only [Act.put,sA,s0,s1]
 refine tY 7 _ rfl (fun w hS=>by go_simp<;>rfl) hH ?_
 simp only [Act.put,sA,s0,s1];refine tY 8 _ rfl (fun w hS=>by go_simp<;>rfl) hH ?_
 simp only [Act.put,sA,s0,s1];refine tY 9 _ rfl (fun w hS=>by go_simp<;>rfl) hH ?_
 simp only [Act.put,sA,s0,s1];refine aloneZ (i:=10) rfl (by kernel_rfl) (fun K hK=>?_);have HK:=hide hK;clear hK;refine want_yes (by rfl) ?_;go_simp
 have hK:=HK.out;clear HK c7 z7;refine hK.out _ _ (fun h=>absurd rfl h) (fun _=>?_);clear hK;try simp only [Act.put,sA,s0,s1]
 refine doneZ (by kernel_rfl) ?_ _;clear hH KS0;obtain ⟨ρ',nm',cs',hn,hM,hK⟩:=HZ.out _ (Gr.drew (Gr.refl _));have HR:=hide (And.intro hn (And.intro hM hK));clear hn hM hK HZ;go_wp2_with fail
 go_ret
 exact ⟨ρ',nm',cs',by rw [HR.out.1];simp,HR.out.2.1,HR.out.2.2⟩
end
def reachN(L:List PFr)(bs:List (List PV)):Nat:=(reachL bs (bs.length+(rowsP L).length+1) ⟨fun _=>false,0,rowsP L⟩).all
def unm(mark:Nat→Bool)(n:Nat):Nat:=((List.range n).filter fun k=>!mark k).length
theorem unm_same{mark mark':Nat→Bool}:∀{n:Nat},(∀k,k < n→mark' k=mark k)→unm mark' n=unm mark n:=fun {n} h=>by
 unfold unm;congr 1
 exact List.filter_congr fun k hk=>by rw [h k (List.mem_range.1 hk)]
theorem unm_succ(mark:Nat→Bool)(n:Nat):unm mark (n+1)=unm mark n+(if mark n then 0 else 1):=by
 unfold unm;rw [List.range_succ,List.filter_append,List.length_append];cases h:mark n<;>simp [h]
theorem unm_mark{mark:Nat→Bool}{j:Nat}(hm:mark j=false):∀{n:Nat},j < n→unm (fun k=>decide (k=j) || mark k) n+1=unm mark n
 | 0,h=>by omega
 | n+1,h=>by
  rw [unm_succ,unm_succ];by_cases e:j=n
  · subst e;have:=unm_same (n:=j) (mark:=mark) (mark':=fun k=>decide (k=j) || mark k) (fun k hk=>by simp;omega)
    rw [this,hm];simp
  · have ih:=unm_mark hm (n:=n) (by omega);have:decide (n=j)=false:=by simp;omega
    simp only [this,Bool.false_or];omega
theorem unm_none:∀(n:Nat),unm (fun _=>false) n=n
 | 0=>rfl
 | n+1=>by rw [unm_succ,unm_none n];rfl
theorem reachL_nil{bs:List (List PV)}{st:RSt}(h:st.wt= []):∀n,reachL bs n st=st
 | 0=>rfl
 | n+1=>by simp [reachL,h]
theorem reachL_step{bs:List (List PV)}{st:RSt}{wt:List (List PV)}{r:List PV}(h:st.wt=wt++ [r])(n:Nat):reachL bs (n+1) st=reachL bs n (scanP bs r ⟨st.mark,st.all,wt⟩):=by
 simp [reachL,h]
theorem scan_none{bs:List (List PV)}{v:PV}{vs:List PV}{st:RSt}(h:v.blk=none):scanP bs (v :: vs) st=scanP bs vs st:=by
 rw [scanP,h]
theorem scan_old{bs:List (List PV)}{v:PV}{vs:List PV}{st:RSt}{j:Nat}(h:v.blk=some j)(hm:st.mark j=true):scanP bs (v :: vs) st=scanP bs vs st:=by
 rw [scanP,h];simp [hm]
theorem scan_new{bs:List (List PV)}{v:PV}{vs:List PV}{st:RSt}{j:Nat}{fs:List PV}(h:v.blk=some j)(hm:st.mark j=false)(hf:bs[j]? =some fs):scanP bs (v :: vs) st=scanP bs vs ⟨fun k=>decide (k=j) || st.mark k,st.all+(fs.length+1),st.wt++ [fs]⟩:=by
 rw [scanP,h];simp [hm,List.getD_eq_getElem?_getD,hf]
def lenV:Value→Nat
 | .slice _ n _=>n
 | _=>0
def mkA(w:World)(a:Addr):Int:=match w.cell? a with
 | some v=>intOf v
 | none=>0
def unW(nm:Nat→Nat)(n:Nat)(c:Int)(w:World):Nat:=unm (fun k=>decide (mkA w ⟨nm k,1,none⟩=c)) n
def RowRole(r:Role):Prop:=∃i,r=.fsl i∨r=.fst i∨r=.bf i
structure WE(w:World)(ρ:Nat→Role)(nm:Nat→Nat)(n:Nat)(v:Value)(r:List PV):Prop where
 own:w.ownsRow 0 183 2 v r.length (rowV nm r)
 role:∀b,v.ownBlock=some b→RowRole (ρ b)
 bd:Bd n r
 short:r.length≤1000
theorem WE.mv{w w':World}{ρ:Nat→Role}{nm:Nat→Nat}{n:Nat}{v:Value}{r:List PV}(h:WE w ρ nm n v r)(s:∀b,b < w.heap.size→RowRole (ρ b)→w'.heap[b]? =w.heap[b]?):WE w' ρ nm n v r:=
 ⟨own_at_ h.own fun k hk=>s k (h.own.lt k hk).2 (h.role k hk),h.role,h.bd,h.short⟩
structure RW(C:MC)(w0:World)(ρ:Nat→Role)(nm fbn:Nat→Nat)(c:Int)(L:List PFr)(bs:List (List PV))(tk:Nat)(told:List Int)(wr:World)(vw:Value)(st:RSt):Prop where
 mw:∃cs,MW C wr ρ nm fbn cs c L bs tk told∧∀j,j < bs.length→st.mark j=decide (cs j=c)
 kp:Kept w0 wr ρ ρ
 wt:∃es:List (Value×List PV),es.map (·.2)=st.wt∧wr.ownsRow w0.heap.size 177 1 vw es.length (es.map (·.1))∧∀e∈es,WE wr ρ nm bs.length e.1 e.2
section
variable {C:MC} {w0 wr w':World} {ρ:Nat→Role} {nm fbn:Nat→Nat} {c:Int} {L:List PFr} {bs:List (List PV)} {tk:Nat} {told:List Int} {vw:Value} {st:RSt}
theorem RW.of_gr(h:RW C w0 ρ nm fbn c L bs tk told wr vw st)(g:Gr wr w'):RW C w0 ρ nm fbn c L bs tk told w' vw st:=by
 obtain ⟨cs,hM,hc⟩:=h.mw;obtain ⟨es,h1,h2,h3⟩:=h.wt;exact ⟨⟨cs,hM.of_gr g,hc⟩,h.kp.trans (Kept.of_gr g),⟨es,h1,own_gr h2 g,fun e he=>(h3 e he).mv fun b hb _=>g.block b hb (by simp)⟩⟩
theorem RW.un(h:RW C w0 ρ nm fbn c L bs tk told wr vw st):unW nm bs.length c wr=unm st.mark bs.length:=by
 obtain ⟨cs,hM,hc⟩:=h.mw;unfold unW;refine unm_same fun k hk=>?_
 obtain ⟨⟨v,hB⟩,_⟩:=hM.blks k _ (List.getElem?_eq_getElem hk);have:wr.cell? ⟨nm k,1,none⟩=some (.int .i64 (cs k)):=by rw [hcell_ hB.box];rfl
 rw [hc k hk];unfold mkA;rw [this];rfl
theorem RW.len(h:RW C w0 ρ nm fbn c L bs tk told wr vw st):lenV vw=st.wt.length:=by
 obtain ⟨es,h1,h2,_⟩:=h.wt;obtain ⟨ao,cp,rfl⟩:=own_shape_ h2;rw [←h1];simp [lenV]
theorem RW.mark{j:Nat}{fs:List PV}(h:RW C w0 ρ nm fbn c L bs tk told wr vw st)(hno:∀b,w0.heap.size≤b→ρ b=.no)(hj:bs[j]? =some fs)(hc0:0≤c):RW C w0 ρ nm fbn c L bs tk told (wr.setCell ⟨nm j,1,none⟩ (.int .i64 c)) vw ⟨fun k=>decide (k=j) || st.mark k,st.all,st.wt⟩:=by
 obtain ⟨cs,hM,hc⟩:=h.mw;obtain ⟨es,h1,h2,h3⟩:=h.wt;obtain ⟨⟨v,hB⟩,_⟩:=hM.blks j fs hj;have hm:=hM.mark c hj hB ⟨hc0,Int.le_refl _⟩;have hoth:∀b,¬b=nm j→(wr.setCell ⟨nm j,1,none⟩ (.int .i64 c)).heap[b]? =wr.heap[b]? :=fun b hb=>Below.heap_setCell _ _ _ _ hb
 refine ⟨⟨_,hm.1,fun k hk=>?_⟩,h.kp.trans hm.2,⟨es,h1,own_at_ h2 fun k hk=>hoth k fun e=>?_,fun e he=>(h3 e he).mv fun b hb hr=>hoth b fun e2=>?_⟩⟩
 · show (decide (k=j) || st.mark k)=decide ((if k=j then c else cs k)=c)
   by_cases e:k=j
   · simp [e]
   · simp [e,hc k hk]
 · have:=hno k (h2.lt k hk).1
   rw [e,hB.rb] at this;cases this
 · rw [e2,hB.rb] at hr;obtain ⟨i,hi⟩:=hr;rcases hi with hi|hi|hi<;>cases hi
theorem RW.grow{wa:World}{vw':Value}{es new:List (Value×List PV)}{all:Nat}(h:RW C w0 ρ nm fbn c L bs tk told wr vw st)(hno:∀b,w0.heap.size≤b→ρ b=.no)(hV:C.V.heap.size≤w0.heap.size)(hg:Gr wr wa)(hga:wa.grownBy w' vw.ownBlock)(ho:w'.ownsRow w0.heap.size 177 1 vw' (es++new).length ((es++new).map (·.1)))(hes:es.map (·.2)=st.wt)(he:∀e∈es,WE wr ρ nm bs.length e.1 e.2)(hn:∀e∈new,WE wr ρ nm bs.length e.1 e.2):
 RW C w0 ρ nm fbn c L bs tk told w' vw' ⟨st.mark,all,st.wt++new.map (·.2)⟩:=by
 obtain ⟨cs,hM,hc⟩:=h.mw;obtain ⟨es0,_,h2,_⟩:=h.wt;have hvw:∀b,vw.ownBlock=some b→w0.heap.size≤b∧ρ b=.no:=fun b hb=>⟨(h2.lt b hb).1,hno b (h2.lt b hb).1⟩
 have hkeep:∀b,b < wr.heap.size→¬vw.ownBlock=some b→w'.heap[b]? =wr.heap[b]? :=fun b hb hne=>(hga.block b (Nat.lt_of_lt_of_le hb hg.size) (fun e=>hne e.symm)).trans (hg.block b hb (by simp))
 have hM':MW C w' ρ nm fbn cs c L bs tk told:=hM.other (hga.os.trans hg.os) (hga.tape.trans hg.tape) (hga.output.trans hg.output) (Nat.le_trans hg.size hga.size) fun b hb hr=>hkeep b hb fun e=>by
  rcases hr with hr|hr
  · exact hr (hvw b e).2
  · have:=(hvw b e).1;omega
 have hrow:∀b,b < wr.heap.size→RowRole (ρ b)→w'.heap[b]? =wr.heap[b]? :=fun b hb hr=>hkeep b hb fun e=>by
  obtain ⟨i,hi⟩:=hr;rw [(hvw b e).2] at hi;rcases hi with hi|hi|hi<;>cases hi
 refine ⟨⟨cs,hM',hc⟩,⟨hga.os.trans (hg.os.trans h.kp.os),hga.tape.trans (hg.tape.trans h.kp.tape),hga.output.trans (hg.output.trans h.kp.output),Nat.le_trans h.kp.size (Nat.le_trans hg.size hga.size),fun _ _=>rfl,fun b hb e=>(hkeep b (Nat.lt_of_lt_of_le hb h.kp.size) fun e2=>by have:=(hvw b e2).1;omega).trans (h.kp.keep b hb e)⟩,⟨es++new,by simp [hes],ho,fun e hx=>?_⟩⟩;rcases List.mem_append.1 hx with hx|hx
 · exact (he e hx).mv hrow
 · exact (hn e hx).mv hrow
end
theorem FrsW.at{C:MC}{w:World}{ρ:Nat→Role}{nm fbn:Nat→Nat}:∀{L:List PFr} {i:Nat},FrsW C w ρ nm fbn L→i < L.length→∃x∈L,L.drop (L.length - (i+1))=x :: L.drop (L.length - i)∧FrW C w ρ nm fbn i x
 | [],i,_,hi=>by simp at hi
 | x :: l,i,h,hi=>by
  by_cases e:i=l.length
  · subst e;exact ⟨x,List.mem_cons_self,by simp,h.1⟩
  · have hl:i < l.length:=by simp at hi;omega
    obtain ⟨y,hy,e1,e2⟩:=FrsW.at h.2 hl;refine ⟨y,List.mem_cons_of_mem _ hy,?_,e2⟩;rw [show (x :: l).length - (i+1)=(l.length - (i+1))+1 by simp;omega,show (x :: l).length - i=(l.length - i)+1 by simp;omega,List.drop_succ_cons,List.drop_succ_cons];exact e1
theorem rowsP_len:∀L:List PFr,(rowsP L).length=2 * L.length
 | []=>rfl
 | x :: l=>by simp [rowsP,rowsP_len l];omega
end Go.Proofs.YtkgncijcnlfhiaaGreat
