import Derived.Test.YtkgncijcnlfhiaaGreatQ3
import Derived.Test.YtkgncijcnlfhiaaGreatNs
import Derived.Test.YtkgncijcnlfhiaaGreatZq
import Derived.Test.YtkgncijcnlfhiaaGreatZb
import Derived.Test.YtkgncijcnlfhiaaGreatNp
namespace Go.Proofs.YtkgncijcnlfhiaaGreat
set_option maxRecDepth 100000
set_option maxHeartbeats 2000000
set_option linter.unusedVariables false
set_option linter.unusedSimpArgs false
def Fwd{α:Type}(f:List UInt8→Option (α×List UInt8))(g:α→List UInt8)(Q:α→Prop):Prop:=∀y r,Q y→f (g y++r)=some (y,r)
theorem unzig_zig{x:Int}:unzig (zig x)=x:=by
 unfold unzig zig;split
 · rw [if_pos (by omega)];omega
 · rw [if_neg (by omega)];omega
def Fit(x:Int):Prop:=-9223372036854775808≤x∧x≤9223372036854775807
def Whole(x:Int):Prop:=0≤x∧x≤9223372036854775807
theorem signed_fwd:Fwd rdSigned encSigned Fit:=by
 intro y r h;unfold rdSigned encSigned;rw [num_fwd r (zig_lt h.1 h.2)];simp [unzig_zig]
theorem whole_fwd:Fwd rdWhole encWhole Whole:=by
 intro y r h;unfold rdWhole encWhole;have h1:=h.1;have h2:=h.2;rw [num_fwd r (by omega)];simp only;rw [if_pos (by omega)];simp;omega
theorem text_fwd:Fwd rdText encText (fun s=>s.length < 18446744073709551616):=by
 intro y r h;unfold rdText encText;rw [List.append_assoc,num_fwd _ h];exact take_fwd y r
theorem rdN_fwd{α:Type}{f:List UInt8→Option (α×List UInt8)}{g:α→List UInt8}{Q:α→Prop}(hf:Fwd f g Q):∀(ys:List α) (r:List UInt8),(∀y∈ys,Q y)→rdN f ys.length (ys.flatMap g++r)=some (ys,r)
 | [],r,_=>rfl
 | y :: ys,r,h=>by
  have h1:=hf y (ys.flatMap g++r) (h y List.mem_cons_self);have h2:=rdN_fwd hf ys r (fun z hz=>h z (List.mem_cons_of_mem _ hz));simp only [List.flatMap_cons,List.length_cons,List.append_assoc];unfold rdN;rw [h1];simp only [h2]
theorem flat_ge{α:Type}{g:α→List UInt8}(hg:∀y,1≤(g y).length):∀ys:List α,ys.length≤(ys.flatMap g).length
 | []=>by simp
 | y :: ys=>by
  have:=flat_ge hg ys
  have:=hg y
  simp only [List.flatMap_cons,List.length_cons,List.length_append];omega
theorem list_fwd{α:Type}{f:List UInt8→Option (α×List UInt8)}{g:α→List UInt8}{Q:α→Prop}(hf:Fwd f g Q)(hg:∀y,1≤(g y).length):Fwd (rdList f) (encs g) (fun ys=>ys.length < 18446744073709551616∧∀y∈ys,Q y):=by
 intro ys r h;unfold rdList encs;rw [List.append_assoc,num_fwd _ h.1];simp only;rw [if_pos (by have:=flat_ge hg ys;simp only [List.length_append];omega)];exact rdN_fwd hf ys r h.2
theorem num_ge(n:Nat):1≤(num n).length:=(numF_len 10 n).2
theorem kinds_fwd:Fwd rdKinds encKinds (fun ys=>ys.length < 18446744073709551616∧∀y∈ys,Whole y):=list_fwd whole_fwd (fun y=>num_ge _)
theorem imp_fwd:Fwd rdImp encImp (fun i=>i.name.length < 18446744073709551616∧(i.params.length < 18446744073709551616∧∀y∈i.params,Whole y)∧Whole i.result):=by
 intro y r h;unfold rdImp encImp;rw [List.append_assoc,text_fwd _ _ h.1];simp only;rw [List.append_assoc,kinds_fwd _ _ h.2.1];simp only;have:=whole_fwd y.result r h.2.2
 unfold encWhole at this;rw [this]
theorem exp_fwd:Fwd rdExp encExp (fun e=>e.name.length < 18446744073709551616∧Whole e.func):=by
 intro y r h;unfold rdExp encExp;rw [List.append_assoc,text_fwd _ _ h.1];simp only;have:=whole_fwd y.func r h.2
 unfold encWhole at this;rw [this]
theorem ins_fwd:Fwd rdIns encIns (fun i=>insOk i=true):=by
 intro y r h;unfold insOk at h;simp only [Bool.and_eq_true] at h;obtain ⟨h1,h2,h3⟩:=h;have h1':0≤y.op∧y.op≤20:=by simpa [wB] using h1
 have hb:(((UInt8.ofNat y.op.toNat).toNat:Nat):Int)=y.op:=(byte_op h1'.1 h1'.2).symm;unfold rdIns encIns;simp only [List.cons_append,rdByte,hb];rw [if_pos h1];by_cases e1:y.op=1
 · rw [if_pos e1,if_pos e1];rw [if_pos e1] at h2;have h2':-2147483648≤y.a∧y.a≤2147483647:=by simpa [wB] using h2
   have hN:operandsN y.op=1:=by rw [e1];decide
   have h3':y.b=0:=by rw [hN] at h3;simpa [operandOk] using h3
   have hs:=signed_fwd y.a r ⟨by omega,by omega⟩;unfold encSigned at hs;rw [hs];simp only;rw [←h3']
 · rw [if_neg e1,if_neg e1];rw [if_neg e1] at h2;rcases operandsN_cases y.op with hN|hN|hN
   · rw [if_pos hN];have h2':y.a=0:=by rw [hN] at h2;simpa [operandOk] using h2
     have h3':y.b=0:=by rw [hN] at h3;simpa [operandOk] using h3
     simp only [hN];simp
     cases y;simp_all
   · rw [if_neg (by omega)];have h2':0≤y.a∧y.a≤65535:=by rw [hN] at h2;simpa [operandOk,wB] using h2
     have h3':y.b=0:=by rw [hN] at h3;simpa [operandOk] using h3
     have hs:=whole_fwd y.a r ⟨by omega,by omega⟩;unfold encWhole at hs;simp only [hN];simp only [show (1:Int)≤1 by decide,show ¬(2:Int)≤1 by decide,if_true,if_false,List.append_nil,hs];rw [←h3']
   · rw [if_neg (by omega)];have h2':0≤y.a∧y.a≤65535:=by rw [hN] at h2;simpa [operandOk,wB] using h2
     have h3':0≤y.b∧y.b≤65535:=by rw [hN] at h3;simpa [operandOk,wB] using h3
     have hs:=whole_fwd y.a (num y.b.toNat++r) ⟨by omega,by omega⟩;have hs2:=whole_fwd y.b r ⟨by omega,by omega⟩;unfold encWhole at hs hs2;simp only [hN];simp only [show (1:Int)≤2 by decide,show (2:Int)≤2 by decide,if_true,List.append_assoc,hs,show ¬(2:Int)=1 by decide,if_false,hs2]
theorem inB_whole{n:Int}(hn:n≤1000000){x:Int}(h:inB n x=true):Whole x:=by
 have:0≤x∧x≤n:=by simpa [inB,wB] using h
 exact ⟨this.1,by omega⟩
theorem all_whole{n:Int}(hn:n≤1000000){l:List Int}(h:l.all (inB n)=true):∀y∈l,Whole y:=fun y hy=>inB_whole hn (List.all_eq_true.1 h y hy)
theorem wB_le{n l m:Int}(h:wB n l m=true):l≤n∧n≤m:=by simpa [wB] using h
theorem func_fwd{n:Int}(hn:n≤1000000):Fwd rdFunc encFunc (fun f=>funcOk n f=true):=by
 intro y r h;unfold funcOk sigOk codeOk at h;simp only [Bool.and_eq_true] at h;obtain ⟨⟨p1,p2,p3⟩,l1,l2,c1,c2⟩:=h;have q1:=wB_le p1;have q2:=wB_le l1;have q3:=wB_le c1;unfold rdFunc encFunc;rw [List.append_assoc,kinds_fwd _ _ ⟨by omega,all_whole hn p2⟩];simp only;rw [List.append_assoc,kinds_fwd _ _ ⟨by omega,all_whole hn l2⟩];simp only;have hs:=whole_fwd y.result (encs encIns y.code++r) (inB_whole hn p3);unfold encWhole at hs;rw [List.append_assoc,hs];simp only;rw [list_fwd ins_fwd (fun i=>by unfold encIns;simp) y.code r ⟨by omega,fun i hi=>List.all_eq_true.1 c2 i hi⟩]
theorem body_fwd{α:Type}{f:List UInt8→Option (List α×List UInt8)}{g:List α→List UInt8}{Q:List α→Prop}(hf:Fwd f g Q){y:List α}(hy:Q y):rdBody f (g y)=some y:=by
 have h:=hf y [] hy;rw [List.append_nil] at h;unfold rdBody;rw [h]
theorem unit_parts{u:PUnit}(h:unitOk u=true):shapesOk u.shapes=true∧constsOk u.consts=true∧funcsOk u.funcs u.shapes.length=true∧importsOk u.imports u.shapes.length=true∧exportsOk u.exports u.funcs.length=true:=by
 unfold unitOk at h;simp only [Bool.and_eq_true] at h;obtain ⟨h1,h2,h3,h4,h5⟩:=h;exact ⟨h1,h2,h3,h4,h5⟩
structure Bodies(u:PUnit):Prop where
 b1:rdBody (rdList rdKinds) (body1 u)=some u.shapes
 b2:rdBody (rdList rdSigned) (body2 u)=some u.consts
 b3:rdBody (rdList rdFunc) (body3 u)=some u.funcs
 b4:rdBody (rdList rdImp) (body4 u)=some u.imports
 b5:rdBody (rdList rdExp) (body5 u)=some u.exports
theorem unit_bodies{u:PUnit}(h:unitOk u=true)(hF:Fits u):Bodies u:=by
 obtain ⟨h1,h2,h3,h4,h5⟩:=unit_parts h;have k2:=wB_le h2;unfold shapesOk at h1;unfold funcsOk at h3;unfold importsOk at h4;unfold exportsOk at h5;simp only [Bool.and_eq_true] at h1 h3 h4 h5;have k1:=wB_le h1.1;have k3:=wB_le h3.1;have k4:=wB_le h4.1;have k5:=wB_le h5.1;refine ⟨?_,?_,?_,?_,?_⟩
 · refine body_fwd (list_fwd kinds_fwd (fun y=>by unfold encKinds;exact encs_pos)) ⟨by omega,fun y hy=>?_⟩;have h:=List.all_eq_true.1 h1.2 y hy;unfold shapeOk at h;simp only [Bool.and_eq_true] at h;have:=wB_le h.1
   exact ⟨by omega,all_whole (by omega) h.2⟩
 · exact body_fwd (list_fwd signed_fwd (fun y=>num_ge _)) ⟨by omega,fun y hy=>hF y hy⟩
 · refine body_fwd (list_fwd (func_fwd (n:=u.shapes.length) (by omega)) (fun y=>?_)) ⟨by omega,fun y hy=>List.all_eq_true.1 h3.2 y hy⟩;unfold encFunc;have:1≤(encKinds y.params).length:=by unfold encKinds;exact encs_pos
   simp only [List.length_append];omega
 · refine body_fwd (list_fwd imp_fwd (fun y=>?_)) ⟨by omega,fun y hy=>?_⟩
   · unfold encImp encText;have:=num_ge y.name.length;simp only [List.length_append];omega
   · have h:=List.all_eq_true.1 h4.2 y hy;unfold impOk nameOk sigOk at h;simp only [Bool.and_eq_true] at h;have q1:=wB_le h.1;have q2:=wB_le h.2.1;exact ⟨by omega,⟨by omega,all_whole (by omega) h.2.2.1⟩,inB_whole (by omega) h.2.2.2⟩
 · refine body_fwd (list_fwd exp_fwd (fun y=>?_)) ⟨by omega,fun y hy=>?_⟩
   · unfold encExp encText;have:=num_ge y.name.length;simp only [List.length_append];omega
   · have h:=List.all_eq_true.1 h5.2 y hy;unfold expOk nameOk at h;simp only [Bool.and_eq_true] at h;have q1:=wB_le h.1;have q2:=wB_le h.2;exact ⟨by omega,⟨by omega,by omega⟩⟩
theorem sect_body_len(n:Nat)(b:List UInt8):b.length≤(sect n b).length:=by unfold sect;simp only [List.length_append];omega
theorem dec_tail{u:PUnit}(h:unitOk u=true)(hF:Fits u)(z:List UInt8)(hl:(enc u++z).length≤20000):dec (enc u++z)=if z= [] then .inl u else .inr (2,(enc u).length):=by
 obtain ⟨b1,b2,b3,b4,b5⟩:=unit_bodies h hF;obtain ⟨o1,o2,o3,o4,o5⟩:=unit_parts h;have e:enc u++z=magic++(sect 1 (body1 u)++(sect 2 (body2 u)++(sect 3 (body3 u)++(sect 4 (body4 u)++(sect 5 (body5 u)++z))))):=by
  unfold enc enc4 enc3 enc2 enc1;simp only [List.append_assoc]
 have l1:=sect_body_len 1 (body1 u);have l2:=sect_body_len 2 (body2 u);have l3:=sect_body_len 3 (body3 u);have l4:=sect_body_len 4 (body4 u);have l5:=sect_body_len 5 (body5 u);have hl':=hl;rw [e] at hl';simp only [List.length_append] at hl';have hp:pl (enc u++z) z=(enc u).length:=by unfold pl;simp
 have hd:(enc u++z).drop 5=sect 1 (body1 u)++(sect 2 (body2 u)++(sect 3 (body3 u)++(sect 4 (body4 u)++(sect 5 (body5 u)++z)))):=by rw [e];rfl
 have ht:(enc u++z).take 5=magic:=by rw [e];rfl
 unfold dec;rw [if_neg (by omega),if_neg (by rw [ht];simp),hd,sect_fwd (by decide) (by omega) b1];simp only [o1];rw [if_neg (by decide),sect_fwd (by decide) (by omega) b2];simp only [o2];rw [if_neg (by decide),sect_fwd (by decide) (by omega) b3];simp only [o3];rw [if_neg (by decide),sect_fwd (by decide) (by omega) b4];simp only [o4];rw [if_neg (by decide),sect_fwd (by decide) (by omega) b5];simp only [o5];rw [if_neg (by decide),hp]
open Go.RowKit
attribute [local go_sem ↓] Go.wp_at_zero Go.wp_at_succ
theorem kop_any(o a:Int)(w:World):Calls Tryz.prog 9 #[.int .i64 o,.int .i64 a] w fun x w'=>x=.returned (.agg #[.int .i64 o,.int .i64 a,.int .i64 0])∧Gr w w':=by
 go_enter Tryz.func9,Tryz.ntmps9
 go_wp2_with fail
 exact bodyPost_ret (v:=.agg #[.int .i64 o,.int .i64 a,.int .i64 0]) (by simp [results,Tryz.results9,go_sem]) rfl ⟨rfl,(Gr.refl _).alloc _⟩
def mainV:Value:=.string ⟨#[109,97,105,110]⟩
theorem rtexts_of{w:World}{B:Nat}{e:TypeId}{v:Value}{es:List ByteArray}(h:w.ownsRow B e 1 v es.length (es.map fun s=>Value.string s))(hs:∀s∈es,s.size≤maxLen):RTexts w v (es.map fun s=>s.data.toList):=by
 obtain ⟨ao,cap,rfl⟩:=own_shape_ h;refine ⟨ao,cap,by simp,by simpa using own_len h,fun i x hi=>?_⟩;simp only [List.getElem?_map,Option.map_eq_some_iff] at hi;obtain ⟨s,he,rfl⟩:=hi;have hl:i < es.length:=(List.getElem?_eq_some_iff.1 he).1;obtain ⟨b,cp,e1,e2⟩:=own_cell h (j:=i) (by omega);simp only [Value.slice.injEq,true_and] at e1;exact ⟨b,0,s,e1.1,by rw [Nat.zero_add,e2];simp [he],rfl,hs s (List.mem_of_getElem? he)⟩
theorem Tryz.infTx:(Tryz.prog.info? 9).map (fun i=>(i.zero,i.size,i.bytes))=some (some (.string ⟨#[]⟩),1,16):=by kernel_rfl
theorem Tryz.uTx:Tryz.prog.underlying 61=some (.slice 9):=by kernel_rfl
structure Wrt(u:PUnit):Prop where
 ok:unitOk u=true
 fit:Fits u
 len:(enc u).length≤20000
theorem Wrt.dec{u:PUnit}(h:Wrt u):dec (enc u)=.inl u∧40≤(enc u).length:=by
 have hd:=dec_tail h.ok h.fit [] (by simp;exact h.len);rw [List.append_nil,if_pos rfl] at hd;exact ⟨hd,(dec_ok hd).2.2.2.2⟩
theorem Wrt.all{l:List PUnit}(h:∀u∈l,Wrt u):∀k,decAll k (l.map enc)=.inl l:=by
 induction l with
 | nil=>intro k;rfl
 | cons u l ih=>
  intro k;rw [List.map_cons,decAll,(h u List.mem_cons_self).dec.1,ih (fun v hv=>h v (List.mem_cons_of_mem _ hv)) (k+1)]
def encS(u:PUnit):ByteArray:=⟨(enc u).toArray⟩
theorem encS_size(u:PUnit):(encS u).size=(enc u).length:=by show (enc u).toArray.size=_;simp
def KrR(W:World)(o:POut)(x:Ending)(w':World):Prop:=∃vo,x=.returned (.tuple #[vo,.bool true])∧ROutF W.heap.size w' vo o∧Gr W w'
theorem krun_any(M:PUnit→POut)(fuel heap:Int)(l:List PUnit)(vl:Value)(W:World)(hR:RUnits W vl l)(hw:∀u∈l,Wrt u)(hM:MachC M fuel heap l)(hll:l.length≤1000):
 Calls Tryz.prog 12 #[vl,.int .i64 fuel,.int .i64 heap] W (KrR W (runP M (l.map enc) fuel heap)):=by
 obtain ⟨ao,cap,rfl,hm,hc⟩:=hR;have HC:=hide hc;have HW:=hide hw;have HM:=hide hM;have HB0:=hide (heap_alloc_new W (.cells #[.int .i64 0,.int .i64 0,.int .i64 0,.int .i64 0,.int .i64 0,.slice none 0 0,.int .i64 0] 39));have HGV:Hid (Gr W (W.alloc (.cells #[.int .i64 0,.int .i64 0,.int .i64 0,.int .i64 0,.int .i64 0,.slice none 0 0,.int .i64 0] 39))):=hide ((Gr.refl W).alloc _);have HSV:Hid ((W.alloc (.cells #[.int .i64 0,.int .i64 0,.int .i64 0,.int .i64 0,.int .i64 0,.slice none 0 0,.int .i64 0] 39)).heap.size=W.heap.size+1):=hide (by simp);clear hc hw hM hm;go_enter Tryz.func12,Tryz.ntmps12
 go_wp2_with fail
 generalize (W.alloc (.cells #[.int .i64 0,.int .i64 0,.int .i64 0,.int .i64 0,.int .i64 0,.slice none 0 0,.int .i64 0] 39))=V at HB0 HGV HSV ⊢;go_loopw [8,9] (fun vb i wr=>∃k:Nat,i=.int .i64 (k:Int)∧k≤l.length∧wr.ownsRow V.heap.size 9 1 vb ((l.take k).map encS).length (((l.take k).map encS).map fun s=>Value.string s)∧Gr V wr) (fun _ i _=>l.length - (intOf i).toNat)
 case atStart=>exact ⟨0,rfl,Nat.zero_le _,World.ownsRow_nil _ _ _ _,Gr.refl _⟩
 case round=>
  obtain ⟨k,rfl,hk,hown,hgr⟩:=hrel;have HOW:=hide hown;have HGR:=hide hgr;obtain ⟨bao,bcp,rfl⟩:=own_shape_ hown;clear hown hgr;generalize hnb:((l.take k).map encS).length=nb at HOW ⊢;have HNB:=hide hnb;clear hnb;by_cases hlt:k < l.length
  · obtain ⟨u,hu⟩:=getElem?_lt hlt;obtain ⟨b,off,v1,v2,v3,v4,v5,rfl,k1,k2,k3,k4,k5,hru⟩:=HC.out k u hu;have hgW:=HGV.out.trans HGR.out;have k1:=hgW.cell k1 (by simp);have k2:=hgW.cell k2 (by simp);have k3:=hgW.cell k3 (by simp);have k4:=hgW.cell k4 (by simp);have k5:=hgW.cell k5 (by simp);have hwt:=HW.out u (List.mem_of_getElem? hu);have e1:encErr u=0:=by unfold encErr;rw [hwt.ok,if_pos rfl,if_pos hwt.len]
    have e2:encStr u=enc u:=by unfold encStr;rw [hwt.ok,if_pos rfl,if_pos hwt.len]
    have HEN:=hide (encode_any u _ wr (hru.gr hgW) hwt.fit);rw [e1,e2] at HEN;have hge:=hwt.dec.2;have hle:=hwt.len;obtain ⟨S,hS⟩:∃S:ByteArray,S=⟨(enc u).toArray⟩:=⟨_,rfl⟩;rw [←hS] at HEN;have hSz:S.size=(enc u).length:=by rw [hS];exact encS_size u
    have hS40:¬(S.size:Int) < 40:=by omega
    have hd40:decide ((S.size:Int) < 40)=false:=by simpa using hS40
    have hS40n:¬S.size < 40:=by omega
    have hki:(k:Int) < (l.length:Int):=by omega
    have hw1:IntKind.i64.wrap ((k:Int)+1)=(k:Int)+1:=Go.IntWalk.i64_in _ (by omega);have HTK:Hid ((l.take (k+1)).map encS=(l.take k).map encS++ [S]):=hide (by
     obtain ⟨hk',rfl⟩:=List.getElem?_eq_some_iff.1 hu;rw [List.take_succ_eq_append_getElem hk',List.map_append,hS];rfl)
    obtain ⟨⟨a1,c1,rfl⟩,⟨a2,c2,rfl⟩,⟨a3,c3,rfl⟩,⟨a4,c4,rfl⟩,⟨a5,c5,rfl⟩⟩:=hru.slices;have hbl:nb≤1000:=by have:=HNB.out;simp at this;omega
    clear hu hru hwt e1 e2 hge hle hS hSz hgW;go_wp2_with fail
    refine HEN.out.mono ?_;rintro x w2 ⟨rfl,hb2⟩;have hg2:=below_Gr hb2;have gA:=hg2.alloc (.cells #[.string S] 9);obtain ⟨v6,w6,hr6,ho6,hg6,hl6⟩:=app_rows (ty:=61) 61 9 _ Tryz.infTx Tryz.uTx rfl (by decide) (by decide) (own_gr HOW.out gA) (rrow_new w2 #[.string S] 9 1) rfl (by intro q hq;simp at hq;subst hq;rfl) (by omega) (by have:=HGR.out.size;have:=gA.size;omega);obtain ⟨bao6,bcp6,rfl⟩:=own_shape_ ho6;have hgn:Gr V w6:=⟨hg6.os.trans (HGR.out.trans gA).os,hg6.tape.trans (HGR.out.trans gA).tape,hg6.output.trans (HGR.out.trans gA).output,Nat.le_trans (HGR.out.trans gA).size hg6.size,fun i hi hne=>(hg6.block i (Nat.lt_of_lt_of_le hi (HGR.out.trans gA).size) (fun e=>by have:=(HOW.out.lt i e.symm).1;omega)).trans ((HGR.out.trans gA).block i hi hne)⟩;have HR6:=hide hr6;have HO6:=hide ho6;have HGN:=hide hgn;clear hb2 hg2 gA hr6 ho6 hg6 hl6 hgn HEN k1 k2 k3 k4 k5;go_wp2_with (at_builtin;refine Lib.wpList_append_run _ rfl _ _ _ _ rfl _ _ rfl rfl _ _ HR6.out ?_)
    refine ⟨⟨k+1,by simp,hlt,?_,HGN.out⟩,by simp [intOf];omega⟩;rw [HTK.out,List.length_append,List.map_append,HNB.out];exact HO6.out
  · have hkk:k=l.length:=by omega
    subst hkk;have HRT:=hide (rtexts_of (es:=(l.take l.length).map encS) (by rw [HNB.out];exact HOW.out) (fun s hs=>by
     simp only [List.mem_map] at hs;obtain ⟨u,hu,rfl⟩:=hs;have:=(HW.out u (List.mem_of_mem_take hu)).len
     rw [encS_size];unfold maxLen;omega))
    rw [List.take_length] at HRT;have e:(l.map encS).map (fun s=>s.data.toList)=l.map enc:=by rw [List.map_map];rfl
    rw [e] at HRT;have HRN:=hide (run_any M fuel heap (l.map enc) _ wr (fun u=>through_any u) HRT.out (fun us h=>by rw [Wrt.all HW.out 0] at h;obtain rfl:=Sum.inl.inj h;exact HM.out) (by simp;omega));clear hlt hk e;go_wp2_with fail
    refine HRN.out.mono ?_;rintro x w2 ⟨vo,rfl,⟨vt,rfl,hvt⟩,hg2⟩;obtain ⟨ta,tc,rfl⟩:=hvt.shape;generalize hoo:runP M (l.map enc) fuel heap=o at hvt HRN ⊢;have HOO:=hide hoo;clear hoo;have gA:=(Gr.refl w2).alloc (.cells #[.int .i64 o.why,.int .i64 o.unit,.int .i64 o.at_,.int .i64 o.e,.int .i64 o.result,.slice ta o.told.length tc,.int .i64 o.steps] 39);have HGF:=hide (HGR.out.trans (hg2.trans gA));have hbk:=(HGF.out.block W.heap.size (by have:=HSV.out;omega) (by simp)).trans HB0.out;have HBK:=hide hbk;have HVT:=hide (hvt.kp (B:=wr.heap.size) gA.kp);have HXB:=hide (heap_alloc_new w2 (.cells #[.int .i64 o.why,.int .i64 o.unit,.int .i64 o.at_,.int .i64 o.e,.int .i64 o.result,.slice ta o.told.length tc,.int .i64 o.steps] 39));obtain ⟨⟨o0,o1,o2,o3,o4,o5,o6⟩,f0,f1,f2,f3,f4,f5,f6⟩:=out_cells hbk;have hlt2:W.heap.size < w2.heap.size:=by have:=HSV.out;have:=HGR.out.size;have:=hg2.size;omega
    have hnw:¬W.heap.size=w2.heap.size:=by omega
    clear hvt hg2 gA HRN;go_upto_region 10 with fail
    generalize w2.alloc (.cells #[.int .i64 o.why,.int .i64 o.unit,.int .i64 o.at_,.int .i64 o.e,.int .i64 o.result,.slice ta o.told.length tc,.int .i64 o.steps] 39)=wE at HGF HBK HVT HXB hbk o0 o1 o2 o3 o4 o5 o6 f0 f1 f2 f3 f4 f5 f6 ⊢;have x0:wE.cell? ⟨w2.heap.size,0,none⟩=some (.int .i64 o.why):=by rw [hcell_ HXB.out];rfl
    have x1:wE.cell? ⟨w2.heap.size,1,none⟩=some (.int .i64 o.unit):=by rw [hcell_ HXB.out];rfl
    have x2:wE.cell? ⟨w2.heap.size,2,none⟩=some (.int .i64 o.at_):=by rw [hcell_ HXB.out];rfl
    have x3:wE.cell? ⟨w2.heap.size,3,none⟩=some (.int .i64 o.e):=by rw [hcell_ HXB.out];rfl
    have x4:wE.cell? ⟨w2.heap.size,4,none⟩=some (.int .i64 o.result):=by rw [hcell_ HXB.out];rfl
    have x5:wE.cell? ⟨w2.heap.size,5,none⟩=some (.slice ta o.told.length tc):=by rw [hcell_ HXB.out];rfl
    have x6:wE.cell? ⟨w2.heap.size,6,none⟩=some (.int .i64 o.steps):=by rw [hcell_ HXB.out];rfl
    clear hbk;go_wp2_with fail
    rw [put7_eq];have hwb:=put7_same (y0:=.int .i64 o.why) (y1:=.int .i64 o.unit) (y2:=.int .i64 o.at_) (y3:=.int .i64 o.e) (y4:=.int .i64 o.result) (y5:=.slice ta o.told.length tc) (y6:=.int .i64 o.steps) HBK.out;have hwf:∀q,¬q=W.heap.size→(put7 wE W.heap.size (.int .i64 o.why) (.int .i64 o.unit) (.int .i64 o.at_) (.int .i64 o.e) (.int .i64 o.result) (.slice ta o.told.length tc) (.int .i64 o.steps)).heap[q]? =wE.heap[q]? :=fun q hq=>put7_other hq
    have hws:(put7 wE W.heap.size (.int .i64 o.why) (.int .i64 o.unit) (.int .i64 o.at_) (.int .i64 o.e) (.int .i64 o.result) (.slice ta o.told.length tc) (.int .i64 o.steps)).heap.size=wE.heap.size:=put7_size;have hWEe:=put7_e wE W.heap.size (.int .i64 o.why) (.int .i64 o.unit) (.int .i64 o.at_) (.int .i64 o.e) (.int .i64 o.result) (.slice ta o.told.length tc) (.int .i64 o.steps);generalize put7 wE W.heap.size (.int .i64 o.why) (.int .i64 o.unit) (.int .i64 o.at_) (.int .i64 o.e) (.int .i64 o.result) (.slice ta o.told.length tc) (.int .i64 o.steps)=WE at hwb hwf hws hWEe ⊢;have t0:WE.cell? ⟨W.heap.size,0,none⟩=some (.int .i64 o.why):=by rw [hcell_ hwb];rfl
    have t1:WE.cell? ⟨W.heap.size,1,none⟩=some (.int .i64 o.unit):=by rw [hcell_ hwb];rfl
    have t2:WE.cell? ⟨W.heap.size,2,none⟩=some (.int .i64 o.at_):=by rw [hcell_ hwb];rfl
    have t3:WE.cell? ⟨W.heap.size,3,none⟩=some (.int .i64 o.e):=by rw [hcell_ hwb];rfl
    have t4:WE.cell? ⟨W.heap.size,4,none⟩=some (.int .i64 o.result):=by rw [hcell_ hwb];rfl
    have t5:WE.cell? ⟨W.heap.size,5,none⟩=some (.slice ta o.told.length tc):=by rw [hcell_ hwb];rfl
    have t6:WE.cell? ⟨W.heap.size,6,none⟩=some (.int .i64 o.steps):=by rw [hcell_ hwb];rfl
    refine bodyPost_ret (v:=.tuple #[.agg #[.int .i64 o.why,.int .i64 o.unit,.int .i64 o.at_,.int .i64 o.e,.int .i64 o.result,.slice ta o.told.length tc,.int .i64 o.steps],.bool true]) (by simp [results,Tryz.results12,go_sem,t0,t1,t2,t3,t4,t5,t6]) rfl ?_;have hgf:=HGV.out.trans HGF.out;rw [HOO.out];exact ⟨_,rfl,⟨_,rfl,(HVT.out.kp (fun q hq _=>hwf q (by have:=HGR.out.size;have:=HSV.out;omega))).mono (B:=W.heap.size) (by have:=HGR.out.size;have:=HSV.out;omega)⟩,⟨hWEe.1.trans hgf.os,hWEe.2.1.trans hgf.tape,hWEe.2.2.trans hgf.output,by rw [hws];exact hgf.size,fun i hi hne=>(hwf i (by omega)).trans (hgf.block i hi hne)⟩⟩
open Go.RowKit
attribute [local go_sem ↓] Go.wp_at_zero Go.wp_at_succ
theorem run_one{u:PUnit}{f h:Nat}(hw:Wrt u)(hl:linkP [u]=.inl u)(hv:verifyP u=(0,0,0))(hf:f≤200000)(hh:h≤5000):runP (machP f h) ([u].map enc) (f:Int) (h:Int)=machP f h u:=by
 unfold runP;rw [if_neg (by omega),Wrt.all (l:= [u]) (fun v hv=>by rw [List.mem_singleton.1 hv];exact hw) 0];simp only [hl,hv];rfl
def pickK(c n:Int):Int:=if c < 0 then (-(c+1)) % n else c % n
theorem pickK_lt{c n:Int}(hn:0 < n):0≤pickK c n∧pickK c n < n:=by
 unfold pickK;split
 · exact ⟨Int.emod_nonneg _ (by omega),Int.emod_lt_of_pos _ hn⟩
 · exact ⟨Int.emod_nonneg _ (by omega),Int.emod_lt_of_pos _ hn⟩
theorem kpick_any(c n:Int)(w:World)(hc:-9223372036854775808≤c∧c≤9223372036854775807)(hn:0 < n)(hn2:n≤9223372036854775807):
 Calls Tryz.prog 8 #[.int .i64 c,.int .i64 n] w fun x w'=>x=.returned (.int .i64 (pickK c n))∧w'=w:=by
 go_enter Tryz.func8,Tryz.ntmps8
 go_wp2
 · rename_i h
   have e:pickK c n=-(c+1).tmod n:=by
    unfold pickK;rw [if_pos h,←Int.tmod_eq_emod_of_nonneg (by omega),Int.neg_tmod]
   rw [e];go_ret
   exact ⟨rfl,rfl⟩
 · rename_i h
   have e:pickK c n=c % n:=by
    unfold pickK;rw [if_neg (by omega)]
   rw [e];go_ret
   exact ⟨rfl,rfl⟩
theorem kpick_nat(c:Int)(n:Nat)(hc:-9223372036854775808≤c∧c≤9223372036854775807)(hn:0 < n)(hn2:n≤1000000):∃k:Nat,k < n∧∀w,Calls Tryz.prog 8 #[.int .i64 c,.int .i64 (n:Int)] w fun x w'=>x=.returned (.int .i64 (k:Int))∧w'=w:=by
 have h:=pickK_lt (c:=c) (n:=(n:Int)) (by omega);refine ⟨(pickK c n).toNat,by omega,fun w=>?_⟩;have e:((pickK c n).toNat:Int)=pickK c n:=by omega
 rw [e];exact kpick_any c n w hc (by omega) (by omega)
theorem rcode_at{wx:World}{b n:Nat}{M:Array Value}{t:TypeId}{l:List PIns}(h:wx.heap[b]? =some (.cells M t (0,0)))(hM:M.toList=l.flatMap cC)(hn:n=l.length)(hl:l.length≤1000):RCode wx (.slice (some ⟨b,0,none⟩) n n) l:=by
 subst hn;refine ⟨_,_,rfl,by unfold maxLen;omega,fun i x hx=>?_⟩;have hc:∀r,r < 3→wx.cell? ⟨b,0+i * 3+r,none⟩=(cC x)[r]? :=fun r hr=>by
  rw [hcell_ h,Nat.zero_add,←Array.getElem?_toList,hM];exact flat_put cC_len l i r x hx hr
 exact ⟨b,0,rfl,hc 0 (by omega),hc 1 (by omega),hc 2 (by omega)⟩
theorem rints_at{wx:World}{b n:Nat}{M:Array Value}{t:TypeId}{l:List Int}(h:wx.heap[b]? =some (.cells M t (0,0)))(hM:M.toList=ivL l)(hn:n=l.length)(hl:l.length≤1000):RInts wx (.slice (some ⟨b,0,none⟩) n n) l:=by
 subst hn;refine ⟨_,_,rfl,by unfold maxLen;omega,fun i hi=>⟨b,0,rfl,?_⟩⟩;rw [hcell_ h,Nat.zero_add,←Array.getElem?_toList,hM,ivL,List.getElem?_map,List.getElem?_eq_getElem hi,List.getD_eq_getElem?_getD,List.getElem?_eq_getElem hi];rfl
theorem rfuncs_at{wx:World}{b n:Nat}{M:Array Value}{t:TypeId}{es:List LF}(h:wx.heap[b]? =some (.cells M t (0,0)))(hM:M.toList=es.flatMap cF)(hn:n=es.length)(hl:es.length≤1000)(he:∀e∈es,RInts wx e.vp e.f.params∧RInts wx e.vl e.f.locals∧RCode wx e.vc e.f.code):RFuncs wx (.slice (some ⟨b,0,none⟩) n n) (es.map (·.f)):=by
 subst hn;refine ⟨some ⟨b,0,none⟩,es.length,by simp,by unfold maxLen;simp;omega,fun i x hx=>?_⟩;rw [List.getElem?_map] at hx;obtain ⟨e,hxe,rfl⟩:=Option.map_eq_some_iff.1 hx;have hc:∀r,r < 4→wx.cell? ⟨b,0+i * 4+r,none⟩=(cF e)[r]? :=fun r hr=>by
  rw [hcell_ h,Nat.zero_add,←Array.getElem?_toList,hM];exact flat_put cF_len es i r e hxe hr
 obtain ⟨h1,h2,h3⟩:=he e (List.mem_of_getElem? hxe);exact ⟨b,0,e.vp,e.vl,e.vc,rfl,hc 0 (by omega),hc 1 (by omega),hc 2 (by omega),hc 3 (by omega),h1,h2,h3⟩
theorem nilR(w:World):RInts w (.slice none 0 0) []:=⟨none,0,rfl,Nat.zero_le _,fun i hi=>by simp at hi⟩
theorem nilSh(w:World):RShapes w (.slice none 0 0) []:=⟨none,0,rfl,Nat.zero_le _,fun i x hi=>by simp at hi⟩
theorem nilIm(w:World):RImports w (.slice none 0 0) []:=⟨none,0,rfl,Nat.zero_le _,fun i x hi=>by simp at hi⟩
theorem exp_at{wx:World}{eb:Nat}{t:TypeId}(he:wx.heap[eb]? =some (.cells #[mainV,.int .i64 0] t (0,0))):RExports wx (.slice (some ⟨eb,0,none⟩) 1 1) [mainX]:=by
 refine ⟨_,_,rfl,by unfold maxLen;decide,fun i x hx=>?_⟩;have hi:i=0:=by have:=(List.getElem?_eq_some_iff.1 hx).1;simp at this;omega
 subst hi;simp only [List.getElem?_cons_zero,Option.some.injEq] at hx;subst hx;exact ⟨eb,0,mainV,rfl,by rw [hcell_ he];rfl,by rw [hcell_ he];rfl,_,rfl,rfl,by unfold maxLen;decide⟩
theorem units1{w:World}{b:Nat}{t:TypeId}{y0 y1 y2 y3 y4:Value}{u:PUnit}(h:w.heap[b]? =some (.cells #[y0,y1,y2,y3,y4] t (0,0)))(hu:RUnit w (.agg #[y0,y1,y2,y3,y4]) u):RUnits w (.slice (some ⟨b,0,none⟩) 1 1) [u]:=by
 refine ⟨_,_,rfl,by simp [maxLen],fun i x hx=>?_⟩;have hi:i=0:=by have:=(List.getElem?_eq_some_iff.1 hx).1;simp at this;omega
 subst hi;simp only [List.getElem?_cons_zero,Option.some.injEq] at hx;subst hx;exact ⟨b,0,y0,y1,y2,y3,y4,rfl,by rw [hcell_ h];rfl,by rw [hcell_ h];rfl,by rw [hcell_ h];rfl,by rw [hcell_ h];rfl,by rw [hcell_ h];rfl,hu⟩
theorem krun_one{W:World}{vl:Value}{u:PUnit}{f h:Nat}(hR:RUnits W vl [u])(hw:Wrt u)(hl:linkP [u]=.inl u)(hv:verifyP u=(0,0,0))(hf:f≤200000)(hh:h≤5000):Calls Tryz.prog 12 #[vl,.int .i64 (f:Int),.int .i64 (h:Int)] W (KrR W (machP f h u)):=by
 have:=krun_any (machP f h) (f:Int) (h:Int) [u] vl W hR (fun v hv=>by rw [List.mem_singleton.1 hv];exact hw) (mach_c f h hf (by omega) [u]) (by simp)
 rw [run_one hw hl hv hf hh] at this;exact this
open Go.RowKit
attribute [local go_sem ↓] Go.wp_at_zero Go.wp_at_succ
theorem encFunc_len{f:PFunc}(h1:f.params.length≤6)(h2:f.locals.length≤10)(h3:f.code.length≤60):(encFunc f).length≤1700:=by
 have a1:=encKinds_len (l:=f.params) (N:=6) h1;have a2:=encKinds_len (l:=f.locals) (N:=10) h2;have a3:=num_len f.result.toNat;have a4:=encs_len (f:=encIns) (B:=23) (N:=60) (xs:=f.code) (fun x _=>encIns_len x) h3;unfold encFunc;simp only [List.length_append];omega
theorem wrt_of{u:PUnit}(hu:unitOk u=true)(hf:Fits u)(h1:u.funcs.length≤6)(h2:∀f∈u.funcs,f.code.length≤60)(h3:u.imports.length≤1)(h3':∀i∈u.imports,i.name.length≤100)(h4:u.exports.length≤1)(h4':∀e∈u.exports,e.name.length≤100):Wrt u:=by
 refine ⟨hu,hf,?_⟩;have ho:=UOk.of hu;have b1:(body1 u).length≤11+20 * 99:=encs_len (fun x hx=>encKinds_len (N:=8) (ho.shape x hx).2.1) ho.few.1;have b2:(body2 u).length≤11+50 * 11:=encs_len (fun x _=>num_len _) ho.few.2.1;have b3:(body3 u).length≤11+6 * 1700:=encs_len (fun f hf=>encFunc_len (ho.func f hf).1 (ho.func f hf).2.1 (h2 f hf)) h1;have b4:(body4 u).length≤11+1 * 250:=encs_len (fun i hi=>by
  have a1:=encKinds_len (l:=i.params) (N:=6) (by
   have h:=hu;unfold unitOk importsOk at h;simp only [Bool.and_eq_true] at h;have h:=List.all_eq_true.1 h.2.2.2.1.2 i hi;unfold impOk sigOk at h;simp only [Bool.and_eq_true,wB,decide_eq_true_eq] at h;omega)
  have a2:=num_len i.result.toNat;have a3:=num_len i.name.length;have a4:=h3' i hi;unfold encImp encText;simp only [List.length_append];omega) h3
 have b5:(body5 u).length≤11+1 * 130:=encs_len (fun e he=>by
  have a2:=num_len e.func.toNat;have a3:=num_len e.name.length;have a4:=h4' e he;unfold encExp encText;simp only [List.length_append];omega) h4
 have hs:∀(n:Nat) (b:List UInt8),(sect n b).length≤16+b.length:=fun n b=>by
  have:=num_len b.length
  have hk:∀(x k:Nat),(leK x k).length=k:=fun x k=>by simp [leK]
  unfold sect;simp only [List.length_append,List.length_cons,List.length_nil,hk];omega
 have s1:=hs 1 (body1 u);have s2:=hs 2 (body2 u);have s3:=hs 3 (body3 u);have s4:=hs 4 (body4 u);have s5:=hs 5 (body5 u);unfold enc enc4 enc3 enc2 enc1 magic;simp only [List.length_append,List.length_cons,List.length_nil];omega
end Go.Proofs.YtkgncijcnlfhiaaGreat
