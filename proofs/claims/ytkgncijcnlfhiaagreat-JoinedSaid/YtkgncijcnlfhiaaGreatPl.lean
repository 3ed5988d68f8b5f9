import Derived.Test.YtkgncijcnlfhiaaGreatPk
namespace Go.Proofs.YtkgncijcnlfhiaaGreat
set_option linter.unusedVariables false
set_option linter.unusedSimpArgs false
open Go.RowKit
def DH(B:Nat)(ρ:Nat→Nat)(w:World)(v:Value)(l:List Int):Prop:=(v=.slice none 0 0∧l= [])∨∃b M t,v=.slice (some ⟨b,0,none⟩) l.length l.length∧B≤b∧ρ b=6∧w.heap[b]? =some (.cells M t (0,0))∧M.toList=eh l∧l.length≤1000
def DT(B:Nat)(ρ:Nat→Nat)(w:World)(v:Value)(l:List aw):Prop:=∃b M t,v=.slice (some ⟨b,0,none⟩) l.length l.length∧B≤b∧ρ b=6∧w.heap[b]? =some (.cells M t (0,0))∧M.toList=l.flatMap cC∧l.length≤1000
def DE(B:Nat)(ρ:Nat→Nat)(w:World)(e:LF):Prop:=DH B ρ w e.vp e.f.aF∧DH B ρ w e.vl e.f.aG∧DT B ρ w e.vc e.f.code
theorem DH.read{B:Nat}{ρ:Nat→Nat}{w:World}{v:Value}{l:List Int}(h:DH B ρ w v l):aX w v l:=by
 rcases h with ⟨rfl,rfl⟩|⟨b,M,t,rfl,_,_,h,e,hl⟩
 · exact y_ _
 · exact gK h e rfl hl
theorem DT.read{B:Nat}{ρ:Nat→Nat}{w:World}{v:Value}{l:List aw}(h:DT B ρ w v l):dM w v l:=by
 obtain ⟨b,M,t,rfl,_,_,h,e,hl⟩:=h;exact vg h e rfl hl
def CE(B:Nat)(ρ ρ':Nat→Nat)(w w':World):Prop:=∀b,B≤b→ρ b=6→b < w.heap.size→w'.heap[b]? =w.heap[b]? ∧ρ' b=6
theorem DH.mv{B:Nat}{ρ ρ':Nat→Nat}{w w':World}{v:Value}{l:List Int}(h:DH B ρ w v l)(g:CE B ρ ρ' w w'):DH B ρ' w' v l:=by
 rcases h with h|⟨b,M,t,e,h1,h2,h3,h4⟩
 · exact .inl h
 · obtain ⟨g1,g2⟩:=g b h1 h2 (Array.getElem?_eq_some_iff.1 h3).1;exact .inr ⟨b,M,t,e,h1,g2,g1.trans h3,h4⟩
theorem DT.mv{B:Nat}{ρ ρ':Nat→Nat}{w w':World}{v:Value}{l:List aw}(h:DT B ρ w v l)(g:CE B ρ ρ' w w'):DT B ρ' w' v l:=by
 obtain ⟨b,M,t,e,h1,h2,h3,h4⟩:=h;obtain ⟨g1,g2⟩:=g b h1 h2 (Array.getElem?_eq_some_iff.1 h3).1;exact ⟨b,M,t,e,h1,g2,g1.trans h3,h4⟩
theorem DE.mv{B:Nat}{ρ ρ':Nat→Nat}{w w':World}{e:LF}(h:DE B ρ w e)(g:CE B ρ ρ' w w'):DE B ρ' w' e:=⟨h.1.mv g,h.2.1.mv g,h.2.2.mv g⟩
theorem Bm{B B':Nat}{ρ:Nat→Nat}{w:World}{v:Value}{t:TypeId}{es:List LF}(h:w.ownsRow B' t 4 v es.length (es.flatMap cF))(hf:∀e∈es,DE B ρ w e):cG w v (es.map (·.f)):=by
 obtain ⟨ao,cap,rfl⟩:=aL h;refine ⟨ao,cap,by simp,by simpa using gd h,fun i x hi=>?_⟩;simp only [List.getElem?_map,Option.map_eq_some_iff] at hi;obtain ⟨e,he,rfl⟩:=hi;have hl:i < es.length:=(List.getElem?_eq_some_iff.1 he).1;obtain ⟨b,cp,e1,e2⟩:=dN h (j:=i * 4) (by omega);simp only [Value.slice.injEq,true_and] at e1;obtain ⟨rfl,rfl⟩:=e1;have hc:∀r,r < 4→w.cell? ⟨b,0+i * 4+r,none⟩=(cF e)[r]? :=fun r hr=>by
  obtain ⟨b',cp',e1',e2'⟩:=dN h (j:=i * 4+r) (by omega);simp only [Value.slice.injEq,Option.some.injEq,Addr.mk.injEq,and_true,true_and] at e1';obtain ⟨rfl,-⟩:=e1';rw [Nat.zero_add,e2'];exact dL qd es i r e he hr
 obtain ⟨p1,p2,p3⟩:=hf e (List.mem_of_getElem? he);exact ⟨b,0,e.vp,e.vl,e.vc,rfl,hc 0 (by omega),hc 1 (by omega),hc 2 (by omega),hc 3 (by omega),p1.read,p2.read,p3.read⟩
structure JS(V:World)(ρ:Nat→Nat)(ab bb ib:Nat)(a2 a4 a5 b5 fv gv cv:Value)(es gs:List LF)(cs:List Int)(I:Array Value)(w:World):Prop where
 os:w.os=V.os
 tape:w.tape=V.tape
 output:w.output=V.output
 size:V.heap.size≤w.heap.size
 lab:ab < V.heap.size∧bb < V.heap.size∧ib < V.heap.size∧ab≠bb∧ab≠ib∧bb≠ib
 old:∀b,b < V.heap.size→b≠ab→b≠bb→b≠ib→w.heap[b]? =V.heap[b]?
 ha:w.heap[ab]? =some (.cells #[.slice none 0 0,a2,fv,a4,a5] 33 (0,0))
 hb:w.heap[bb]? =some (.cells #[.slice none 0 0,cv,gv,.slice none 0 0,b5] 33 (0,0))
 hi:w.heap[ib]? =some (.cells I 53 (0,0))
 of:w.ownsRow V.heap.size 48 4 fv es.length (es.flatMap cF)
 og:w.ownsRow V.heap.size 48 4 gv gs.length (gs.flatMap cF)
 oc:w.ownsRow V.heap.size 3 1 cv cs.length (eh cs)
 rf:∀k,fv.ownBlock=some k→ρ k=3
 rg:∀k,gv.ownBlock=some k→ρ k=4
 rc:∀k,cv.ownBlock=some k→ρ k=5
 fe:∀e,e∈es→DE V.heap.size ρ w e
 fg:∀e,e∈gs→DE V.heap.size ρ w e
theorem JS.gr{V:World}{ρ:Nat→Nat}{ab bb ib:Nat}{a2 a4 a5 b5 fv gv cv:Value}{es gs:List LF}{cs:List Int}{I:Array Value}{w:World}{w':World}(h:JS V ρ ab bb ib a2 a4 a5 b5 fv gv cv es gs cs I w)(g:Gr w w'):JS V (fun b=>if b < w.heap.size then ρ b else 6) ab bb ib a2 a4 a5 b5 fv gv cv es gs cs I w':=by
 obtain ⟨l1,l2,l3,n1,n2,n3⟩:=h.lab;have hs:=h.size;have blk:∀b,b < w.heap.size→w'.heap[b]? =w.heap[b]? :=fun b hb=>g.block b hb (by simp)
 have st:CE V.heap.size ρ (fun b=>if b < w.heap.size then ρ b else 6) w w':=fun b _ hr hb=>⟨blk b hb,by show (if b < w.heap.size then ρ b else 6)=6;rw [if_pos hb];exact hr⟩
 exact ⟨g.os.trans h.os,g.tape.trans h.tape,g.output.trans h.output,Nat.le_trans hs g.size,h.lab,fun b hb x1 x2 x3=>(blk b (by omega)).trans (h.old b hb x1 x2 x3),(blk ab (by omega)).trans h.ha,(blk bb (by omega)).trans h.hb,(blk ib (by omega)).trans h.hi,
  bX h.of (fun k hk=>blk k (h.of.lt k hk).2),bX h.og (fun k hk=>blk k (h.og.lt k hk).2),bX h.oc (fun k hk=>blk k (h.oc.lt k hk).2),
  fun k hk=>by show (if k < w.heap.size then ρ k else 6)=3;rw [if_pos (h.of.lt k hk).2];exact h.rf k hk,fun k hk=>by show (if k < w.heap.size then ρ k else 6)=4;rw [if_pos (h.og.lt k hk).2];exact h.rg k hk,fun k hk=>by show (if k < w.heap.size then ρ k else 6)=5;rw [if_pos (h.oc.lt k hk).2];exact h.rc k hk,
  fun e he=>(h.fe e he).mv st,fun e he=>(h.fg e he).mv st⟩
theorem JS.import_{V:World}{ρ:Nat→Nat}{ab bb ib:Nat}{a2 a4 a5 b5 fv gv cv:Value}{es gs:List LF}{cs:List Int}{I:Array Value}{w:World}{v i0 i1 i2:Value}(h:JS V ρ ab bb ib a2 a4 a5 b5 fv gv cv es gs cs #[i0,i1,i2] w):JS V ρ ab bb ib a2 a4 a5 b5 fv gv cv es gs cs #[i0,v,i2] (w.setCell ⟨ib,1,none⟩ v):=by
 obtain ⟨l1,l2,l3,n1,n2,n3⟩:=h.lab;have hs:=h.size;have blk:∀b,b≠ib→(w.setCell ⟨ib,1,none⟩ v).heap[b]? =w.heap[b]? :=fun b hb=>Below.heap_setCell _ _ _ _ hb
 have st:CE V.heap.size ρ ρ w (w.setCell ⟨ib,1,none⟩ v):=fun b hB hr hb=>⟨blk b (by omega),hr⟩
 exact ⟨h.os,h.tape,h.output,by simpa using hs,h.lab,fun b hb x1 x2 x3=>(blk b x3).trans (h.old b hb x1 x2 x3),(blk ab n2).trans h.ha,(blk bb n3).trans h.hb,(heap_setCell_same w ib 1 _ _ v h.hi).trans (by simp),
  bX h.of (fun k hk=>blk k (by have:=(h.of.lt k hk).1;omega)),bX h.og (fun k hk=>blk k (by have:=(h.og.lt k hk).1;omega)),bX h.oc (fun k hk=>blk k (by have:=(h.oc.lt k hk).1;omega)),
  h.rf,h.rg,h.rc,fun e he=>(h.fe e he).mv st,fun e he=>(h.fg e he).mv st⟩
theorem Tryz.infFunJ:∃z,(Tryz.prog.info? 48).map (fun i=>(i.zero,i.size,i.bytes))=some (some (.agg #[.slice none 0 0,.int .i64 0,.slice none 0 0,.slice none 0 0]),4,z)∧z≤1000:=⟨80,by kernel_rfl,by decide⟩
theorem Tryz.uFunJ:Tryz.prog.underlying 29=some (.slice 48):=by kernel_rfl
theorem Tryz.infIntJ:∃z,(Tryz.prog.info? 3).map (fun i=>(i.zero,i.size,i.bytes))=some (some (.int .i64 0),1,z)∧z≤1000:=⟨8,by kernel_rfl,by decide⟩
theorem Tryz.uIntJ:Tryz.prog.underlying 22=some (.slice 3):=by kernel_rfl
theorem JS.putF{V:World}{ρ:Nat→Nat}{ab bb ib:Nat}{a2 a4 a5 b5 fv gv cv:Value}{es gs:List LF}{cs:List Int}{I:Array Value}{w:World}{e:LF}{vx:Value}(he:DE V.heap.size ρ w e)(h1:∀u∈cF e,u.oneCell'=true)(hR:qs w vx 1 (cF e))(h:JS V ρ ab bb ib a2 a4 a5 b5 fv gv cv es gs cs I w)(hn:es.length≤100):
 ∃v' w',(Builtin.append_ #[29,29] 29 #[fv,vx]).run Tryz.prog w=.ok v' w'∧w'.heap[ab]? =some (.cells #[.slice none 0 0,a2,fv,a4,a5] 33 (0,0))∧(∃ca cc,v'=.slice ca (es.length+1) cc)∧JS V (fun b=>if b < w.heap.size then ρ b else 3) ab bb ib a2 a4 a5 b5 v' gv cv (es++ [e]) gs cs I (w'.setCell ⟨ab,2,none⟩ v'):=by
 obtain ⟨l1,l2,l3,n1,n2,n3⟩:=h.lab;have hs:=h.size;obtain ⟨z,hz,hz2⟩:=Tryz.infFunJ;obtain ⟨v',w',hr,ho,hg,hl⟩:=dC (ty:=29) 29 48 _ hz Tryz.uFunJ rfl (by decide) hz2 h.of hR rfl h1 (by omega) hs;have hgs:=hg.size;have hold:∀b,b < w.heap.size→(∀k,fv.ownBlock=some k→b≠k)→w'.heap[b]? =w.heap[b]? :=fun b hb hn=>hg.block b hb (fun e=>hn b e.symm rfl)
 have hoth:∀b,b≠ab→(w'.setCell ⟨ab,2,none⟩ v').heap[b]? =w'.heap[b]? :=fun b hb=>Below.heap_setCell _ _ _ _ hb
 have low:∀b,b < V.heap.size→w'.heap[b]? =w.heap[b]? :=fun b hb=>hold b (by omega) (fun k hk=>by have:=(h.of.lt k hk).1;omega)
 have hbx:=(low ab (by omega)).trans h.ha;have st:CE V.heap.size ρ (fun b=>if b < w.heap.size then ρ b else 3) w (w'.setCell ⟨ab,2,none⟩ v'):=fun b hB hr hb=>⟨(hoth b (by omega)).trans (hold b hb (fun k hk e=>by have:=h.rf k hk;rw [←e,hr] at this;omega)),by show (if b < w.heap.size then ρ b else 3)=6;rw [if_pos hb];exact hr⟩
 have hsz:(w'.setCell ⟨ab,2,none⟩ v').heap.size=w'.heap.size:=by simp
 have howl:∀k,v'.ownBlock=some k→V.heap.size≤k:=fun k hk=>(ho.lt k hk).1
 obtain ⟨ca,cc,hcv⟩:=aL ho;refine ⟨v',w',hr,hbx,⟨ca,cc,hcv⟩,?_⟩;have hmine:w'.ownsRow V.heap.size 48 4 v' (es++ [e]).length ((es++ [e]).flatMap cF):=by
  rw [show (es++ [e]).length=es.length+1 by simp,show (es++ [e]).flatMap cF=es.flatMap cF++cF e by simp];exact ho
 exact ⟨hg.os.trans h.os,hg.tape.trans h.tape,hg.output.trans h.output,by omega,h.lab,fun b hb x1 x2 x3=>(hoth b x1).trans ((low b hb).trans (h.old b hb x1 x2 x3)),
  (heap_setCell_same w' ab 2 _ _ v' hbx).trans (by simp),(hoth bb (Ne.symm n1)).trans ((low bb l2).trans h.hb),(hoth ib (Ne.symm n2)).trans ((low ib l3).trans h.hi),
  bX hmine (fun k hk=>hoth k (by have:=howl k hk;omega)),bX h.og (fun k hk=>(hoth k (by have:=(h.og.lt k hk).1;omega)).trans (hold k (h.og.lt k hk).2 (fun k' hk' e=>by have a1:=h.rg k hk;have a2:=h.rf k' hk';rw [e] at a1;omega))),bX h.oc (fun k hk=>(hoth k (by have:=(h.oc.lt k hk).1;omega)).trans (hold k (h.oc.lt k hk).2 (fun k' hk' e=>by have a1:=h.rc k hk;have a2:=h.rf k' hk';rw [e] at a1;omega))),
  fun k hk=>by
   show (if k < w.heap.size then ρ k else 3)=3
   by_cases hk2:k < w.heap.size
   · rw [if_pos hk2];rcases hl with e|e
     · exact h.rf k (e▸hk)
     · rw [e] at hk;have:=Option.some.inj hk;omega
   · rw [if_neg hk2],fun k hk=>by show (if k < w.heap.size then ρ k else 3)=4;rw [if_pos (h.og.lt k hk).2];exact h.rg k hk,fun k hk=>by show (if k < w.heap.size then ρ k else 3)=5;rw [if_pos (h.oc.lt k hk).2];exact h.rc k hk,
  fun e' he'=>(List.mem_append.1 he').elim (fun he'=>(h.fe e' he').mv st) (fun he'=>(List.mem_singleton.1 he')▸he.mv st),fun e he=>(h.fg e he).mv st⟩
theorem JS.putG{V:World}{ρ:Nat→Nat}{ab bb ib:Nat}{a2 a4 a5 b5 fv gv cv:Value}{es gs:List LF}{cs:List Int}{I:Array Value}{w:World}{e:LF}{vx:Value}(he:DE V.heap.size ρ w e)(h1:∀u∈cF e,u.oneCell'=true)(hR:qs w vx 1 (cF e))(h:JS V ρ ab bb ib a2 a4 a5 b5 fv gv cv es gs cs I w)(hn:gs.length≤100):
 ∃v' w',(Builtin.append_ #[29,29] 29 #[gv,vx]).run Tryz.prog w=.ok v' w'∧w'.heap[bb]? =some (.cells #[.slice none 0 0,cv,gv,.slice none 0 0,b5] 33 (0,0))∧(∃ca cc,v'=.slice ca (gs.length+1) cc)∧JS V (fun b=>if b < w.heap.size then ρ b else 4) ab bb ib a2 a4 a5 b5 fv v' cv es (gs++ [e]) cs I (w'.setCell ⟨bb,2,none⟩ v'):=by
 obtain ⟨l1,l2,l3,n1,n2,n3⟩:=h.lab;have hs:=h.size;obtain ⟨z,hz,hz2⟩:=Tryz.infFunJ;obtain ⟨v',w',hr,ho,hg,hl⟩:=dC (ty:=29) 29 48 _ hz Tryz.uFunJ rfl (by decide) hz2 h.og hR rfl h1 (by omega) hs;have hgs:=hg.size;have hold:∀b,b < w.heap.size→(∀k,gv.ownBlock=some k→b≠k)→w'.heap[b]? =w.heap[b]? :=fun b hb hn=>hg.block b hb (fun e=>hn b e.symm rfl)
 have hoth:∀b,b≠bb→(w'.setCell ⟨bb,2,none⟩ v').heap[b]? =w'.heap[b]? :=fun b hb=>Below.heap_setCell _ _ _ _ hb
 have low:∀b,b < V.heap.size→w'.heap[b]? =w.heap[b]? :=fun b hb=>hold b (by omega) (fun k hk=>by have:=(h.og.lt k hk).1;omega)
 have hbx:=(low bb (by omega)).trans h.hb;have st:CE V.heap.size ρ (fun b=>if b < w.heap.size then ρ b else 4) w (w'.setCell ⟨bb,2,none⟩ v'):=fun b hB hr hb=>⟨(hoth b (by omega)).trans (hold b hb (fun k hk e=>by have:=h.rg k hk;rw [←e,hr] at this;omega)),by show (if b < w.heap.size then ρ b else 4)=6;rw [if_pos hb];exact hr⟩
 have hsz:(w'.setCell ⟨bb,2,none⟩ v').heap.size=w'.heap.size:=by simp
 have howl:∀k,v'.ownBlock=some k→V.heap.size≤k:=fun k hk=>(ho.lt k hk).1
 obtain ⟨ca,cc,hcv⟩:=aL ho;refine ⟨v',w',hr,hbx,⟨ca,cc,hcv⟩,?_⟩;have hmine:w'.ownsRow V.heap.size 48 4 v' (gs++ [e]).length ((gs++ [e]).flatMap cF):=by
  rw [show (gs++ [e]).length=gs.length+1 by simp,show (gs++ [e]).flatMap cF=gs.flatMap cF++cF e by simp];exact ho
 exact ⟨hg.os.trans h.os,hg.tape.trans h.tape,hg.output.trans h.output,by omega,h.lab,fun b hb x1 x2 x3=>(hoth b x2).trans ((low b hb).trans (h.old b hb x1 x2 x3)),
  (hoth ab n1).trans ((low ab l1).trans h.ha),(heap_setCell_same w' bb 2 _ _ v' hbx).trans (by simp),(hoth ib (Ne.symm n3)).trans ((low ib l3).trans h.hi),
  bX h.of (fun k hk=>(hoth k (by have:=(h.of.lt k hk).1;omega)).trans (hold k (h.of.lt k hk).2 (fun k' hk' e=>by have a1:=h.rf k hk;have a2:=h.rg k' hk';rw [e] at a1;omega))),bX hmine (fun k hk=>hoth k (by have:=howl k hk;omega)),bX h.oc (fun k hk=>(hoth k (by have:=(h.oc.lt k hk).1;omega)).trans (hold k (h.oc.lt k hk).2 (fun k' hk' e=>by have a1:=h.rc k hk;have a2:=h.rg k' hk';rw [e] at a1;omega))),
  fun k hk=>by show (if k < w.heap.size then ρ k else 4)=3;rw [if_pos (h.of.lt k hk).2];exact h.rf k hk,fun k hk=>by
   show (if k < w.heap.size then ρ k else 4)=4
   by_cases hk2:k < w.heap.size
   · rw [if_pos hk2];rcases hl with e|e
     · exact h.rg k (e▸hk)
     · rw [e] at hk;have:=Option.some.inj hk;omega
   · rw [if_neg hk2],fun k hk=>by show (if k < w.heap.size then ρ k else 4)=5;rw [if_pos (h.oc.lt k hk).2];exact h.rc k hk,
  fun e he=>(h.fe e he).mv st,fun e' he'=>(List.mem_append.1 he').elim (fun he'=>(h.fg e' he').mv st) (fun he'=>(List.mem_singleton.1 he')▸he.mv st)⟩
theorem JS.putC{V:World}{ρ:Nat→Nat}{ab bb ib:Nat}{a2 a4 a5 b5 fv gv cv:Value}{es gs:List LF}{cs:List Int}{I:Array Value}{w:World}{x:Int}{vx:Value}(hR:qs w vx 1 [.int .i64 x])(h:JS V ρ ab bb ib a2 a4 a5 b5 fv gv cv es gs cs I w)(hn:cs.length≤100):
 ∃v' w',(Builtin.append_ #[22,22] 22 #[cv,vx]).run Tryz.prog w=.ok v' w'∧w'.heap[bb]? =some (.cells #[.slice none 0 0,cv,gv,.slice none 0 0,b5] 33 (0,0))∧(∃ca cc,v'=.slice ca (cs.length+1) cc)∧JS V (fun b=>if b < w.heap.size then ρ b else 5) ab bb ib a2 a4 a5 b5 fv gv v' es gs (cs++ [x]) I (w'.setCell ⟨bb,1,none⟩ v'):=by
 obtain ⟨l1,l2,l3,n1,n2,n3⟩:=h.lab;have hs:=h.size;obtain ⟨z,hz,hz2⟩:=Tryz.infIntJ;obtain ⟨v',w',hr,ho,hg,hl⟩:=dC (ty:=22) 22 3 _ hz Tryz.uIntJ rfl (by decide) hz2 h.oc hR rfl (by intro q hq;rw [List.mem_singleton.1 hq];rfl) (by omega) hs;have hgs:=hg.size;have hold:∀b,b < w.heap.size→(∀k,cv.ownBlock=some k→b≠k)→w'.heap[b]? =w.heap[b]? :=fun b hb hn=>hg.block b hb (fun e=>hn b e.symm rfl)
 have hoth:∀b,b≠bb→(w'.setCell ⟨bb,1,none⟩ v').heap[b]? =w'.heap[b]? :=fun b hb=>Below.heap_setCell _ _ _ _ hb
 have low:∀b,b < V.heap.size→w'.heap[b]? =w.heap[b]? :=fun b hb=>hold b (by omega) (fun k hk=>by have:=(h.oc.lt k hk).1;omega)
 have hbx:=(low bb (by omega)).trans h.hb;have st:CE V.heap.size ρ (fun b=>if b < w.heap.size then ρ b else 5) w (w'.setCell ⟨bb,1,none⟩ v'):=fun b hB hr hb=>⟨(hoth b (by omega)).trans (hold b hb (fun k hk e=>by have:=h.rc k hk;rw [←e,hr] at this;omega)),by show (if b < w.heap.size then ρ b else 5)=6;rw [if_pos hb];exact hr⟩
 have hsz:(w'.setCell ⟨bb,1,none⟩ v').heap.size=w'.heap.size:=by simp
 have howl:∀k,v'.ownBlock=some k→V.heap.size≤k:=fun k hk=>(ho.lt k hk).1
 obtain ⟨ca,cc,hcv⟩:=aL ho;refine ⟨v',w',hr,hbx,⟨ca,cc,hcv⟩,?_⟩;have hmine:w'.ownsRow V.heap.size 3 1 v' (cs++ [x]).length (eh (cs++ [x])):=by
  rw [show (cs++ [x]).length=cs.length+1 by simp,show eh (cs++ [x])=eh cs++ [.int .i64 x] by simp [eh]];exact ho
 exact ⟨hg.os.trans h.os,hg.tape.trans h.tape,hg.output.trans h.output,by omega,h.lab,fun b hb x1 x2 x3=>(hoth b x2).trans ((low b hb).trans (h.old b hb x1 x2 x3)),
  (hoth ab n1).trans ((low ab l1).trans h.ha),(heap_setCell_same w' bb 1 _ _ v' hbx).trans (by simp),(hoth ib (Ne.symm n3)).trans ((low ib l3).trans h.hi),
  bX h.of (fun k hk=>(hoth k (by have:=(h.of.lt k hk).1;omega)).trans (hold k (h.of.lt k hk).2 (fun k' hk' e=>by have a1:=h.rf k hk;have a2:=h.rc k' hk';rw [e] at a1;omega))),bX h.og (fun k hk=>(hoth k (by have:=(h.og.lt k hk).1;omega)).trans (hold k (h.og.lt k hk).2 (fun k' hk' e=>by have a1:=h.rg k hk;have a2:=h.rc k' hk';rw [e] at a1;omega))),bX hmine (fun k hk=>hoth k (by have:=howl k hk;omega)),
  fun k hk=>by show (if k < w.heap.size then ρ k else 5)=3;rw [if_pos (h.of.lt k hk).2];exact h.rf k hk,fun k hk=>by show (if k < w.heap.size then ρ k else 5)=4;rw [if_pos (h.og.lt k hk).2];exact h.rg k hk,fun k hk=>by
   show (if k < w.heap.size then ρ k else 5)=5
   by_cases hk2:k < w.heap.size
   · rw [if_pos hk2];rcases hl with e|e
     · exact h.rc k (e▸hk)
     · rw [e] at hk;have:=Option.some.inj hk;omega
   · rw [if_neg hk2],
  fun e he=>(h.fe e he).mv st,fun e he=>(h.fg e he).mv st⟩
theorem Cu{w:World}{ib:Nat}{t:TypeId}{vp:Value}{ps:List Int}(h:w.heap[ib]? =some (.cells #[.string ⟨#[108,101,115,115]⟩,vp,.int .i64 0] t (0,0)))(hp:aX w vp ps):bK w (.slice (some ⟨ib,0,none⟩) 1 1) [⟨BW,ps,0⟩]:=by
 refine ⟨_,_,rfl,by unfold maxLen;simp,fun i x hx=>?_⟩;have hi:i=0:=by have:=(List.getElem?_eq_some_iff.1 hx).1;simp at this;omega
 subst hi;simp only [List.getElem?_cons_zero,Option.some.injEq] at hx;subst hx;exact ⟨ib,0,_,vp,rfl,by rw [aI h];rfl,by rw [aI h];rfl,by rw [aI h];rfl,⟨_,rfl,rfl,by unfold maxLen;decide⟩,hp⟩
theorem CS{w:World}{eb:Nat}{t:TypeId}{s:ByteArray}{n:List UInt8}{k:Int}(h:w.heap[eb]? =some (.cells #[.string s,.int .i64 k] t (0,0)))(hs:ii (.string s) n):b8 w (.slice (some ⟨eb,0,none⟩) 1 1) [⟨n,k⟩]:=by
 refine ⟨_,_,rfl,by unfold maxLen;simp,fun i x hx=>?_⟩;have hi:i=0:=by have:=(List.getElem?_eq_some_iff.1 hx).1;simp at this;omega
 subst hi;simp only [List.getElem?_cons_zero,Option.some.injEq] at hx;subst hx;exact ⟨eb,0,_,rfl,by rw [aI h];rfl,by rw [aI h];rfl,hs⟩
theorem JS.unitA{V:World}{ρ:Nat→Nat}{ab bb ib:Nat}{a2 a4 a5 b5 fv gv cv:Value}{es gs:List LF}{cs:List Int}{I:Array Value}{w:World}{ps:List Int}{x y:Int}{k:Nat}(h:JS V ρ ab bb ib a2 a4 a5 b5 fv gv cv es gs cs I w)(h2:aX w a2 [x,y])(h4:bK w a4 [⟨BW,ps,0⟩])(h5:b8 w a5 [⟨[109,97,105,110],k⟩])(hf:es.map (·.f)=(List.range k).map Ch++ [DY k]):cD w (.agg #[.slice none 0 0,a2,fv,a4,a5]) (jA k x y ps):=
 ⟨_,_,_,_,_,rfl,CR _,h2,by rw [show (jA k x y ps).aE=es.map (·.f) from hf.symm];exact Bm h.of h.fe,h4,h5⟩
theorem JS.unitB{V:World}{ρ:Nat→Nat}{ab bb ib:Nat}{a2 a4 a5 b5 fv gv cv:Value}{es gs:List LF}{cs:List Int}{I:Array Value}{w:World}{k:Nat}(h:JS V ρ ab bb ib a2 a4 a5 b5 fv gv cv es gs cs I w)(h5:b8 w b5 [⟨BW,k⟩])(hc:cs=BG k++ [100])(hf:gs.map (·.f)=(List.range k).map Cb++ [DZ k]):cD w (.agg #[.slice none 0 0,cv,gv,.slice none 0 0,b5]) (jB k):=
 ⟨_,_,_,_,_,rfl,CR _,by rw [show (jB k).aD=cs from hc.symm];exact j_ h.oc,by rw [show (jB k).aE=gs.map (·.f) from hf.symm];exact Bm h.og h.fg,uo _,h5⟩
end Go.Proofs.YtkgncijcnlfhiaaGreat
