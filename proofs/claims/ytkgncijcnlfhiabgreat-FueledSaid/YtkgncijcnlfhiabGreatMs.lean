import Derived.Test.YtkgncijcnlfhiabGreatMr
namespace Go.Proofs.YtkgncijcnlfhiabGreat
set_option linter.unusedVariables false
set_option linter.unusedSimpArgs false
open Go.RowKit
attribute [local go_sem ↓] Go.wp_at_zero Go.wp_at_succ
theorem Tryz.infRow:(Tryz.prog.info? 160).map (fun i=>(i.zero,i.size,i.bytes))=some (some (.slice none 0 0),1,24):=Q7
theorem Tryz.uRows:Tryz.prog.underlying 237=some (.slice 160):=Q7
theorem pm{w0 w1:World}{vw:Value}{es:List (Value×List PV)}(new:List (Value×List PV))(ho:w1.ownsRow w0.heap.size 160 1 vw es.length (es.map (·.1)))(hw:w0.heap.size<=w1.heap.size)(M:Array Value)(hM:M.toList=new.map (·.1))(h1:∀v∈new.map (·.1),∃a n c,v=.slice a n c)(hn:es.length+new.length<=1000000)(ty:TypeId):
 ∃v' w',(Builtin.append_ #[237,237] ty #[vw,.slice (some ⟨w1.heap.size,0,none⟩) new.length new.length]).run Tryz.prog (w1.alloc (.cells M 160))=.ok v' w'/\w'.ownsRow w0.heap.size 160 1 v' (es++new).length ((es++new).map (·.1))/\(w1.alloc (.cells M 160)).grownBy w' vw.ownBlock:=by
 have hR:=dx w1 M 160 new.length;rw [hM] at hR;obtain ⟨v',w',hr,Xz,hg,_⟩:=dK (ty:=ty) 237 160 _ Tryz.infRow Tryz.uRows rfl Q9 Q9 (dA ho ((Gr.refl w1).alloc (.cells M 160))) hR Q6 (by intro u hu;obtain ⟨a,n,c,rfl⟩:=h1 u hu;rfl) hn gS;refine ⟨v',w',hr,?_,hg⟩;rw [List.length_append,List.map_append];exact Xz
section
variable {C:MC} {w:World} {ρ:Nat->bD} {nm I0:Nat->Nat} {cs:Nat->Int} {ct:Int} {L:List ch} {bs:List (List PV)} {tk:Nat} {told:List Int}
set_option maxRecDepth 100000 in
set_option maxHeartbeats 2000000 in
theorem sX{vf vt:Value}(h:MW C w ρ nm I0 cs ct L bs tk told)(hm:ya C w ρ I0 L.length (tk:Int) ct told vf vt)(hL:0 < L.length)(WK:L.length<=1000)(Cs:0<=ct/\ct<=10000000)(R8:bs.length<=200000)(h8:∀r∈bs,r.length<=1000)(bL:∀x∈L,Bd bs.length x.slots/\Bd bs.length x.stack)(sL:∀x∈L,x.slots.length<=1000/\x.stack.length<=1000)(bB:∀r∈bs,Bd bs.length r):
 Calls Tryz.prog 128 #[.pointer (some ⟨C.mb,6,none⟩),vf] w fun e w'=>∃T7,e=.returned (.int .i64 (cq L bs:Int))/\cq L bs<=1001 * bs.length/\MW C w' ρ nm I0 T7 (ct+1) L bs tk told/\am w w' ρ ρ:=by
 obtain ⟨gf,fc,rfl⟩:∃g cap,vf=.slice (some ⟨g,0,none⟩) L.length cap:=by
  rcases hm.fr.2 with ⟨_,e⟩|⟨g,cap,cur,e,_⟩
  · omega
  · exact ⟨g,cap,e⟩
 have N3:=hm.box;have Hn:=(heap_setCell_same w C.mb 8 _ _ (.int .i64 (ct+1)) N3).trans (by simp:_=some (.cells #[C.v1,C.v2,C.v3,C.v4,C.v5,.slice (some ⟨gf,0,none⟩) L.length fc,.int .i64 (C.heap:Int),.int .i64 (tk:Int),.int .i64 (ct+1),vt] 108 (0,0)));have h2:=h.setMb (w':=w.setCell ⟨C.mb,8,none⟩ (.int .i64 (ct+1))) hm Hn Q5 rfl rfl rfl Q6 (fun b hb hne=>Below.heap_setCell _ _ _ _ (by show b≠C.mb;exact hne));have Pb:Hid (RW C w ρ nm I0 (ct+1) L bs tk told (w.setCell ⟨C.mb,8,none⟩ (.int .i64 (ct+1))) (.slice none 0 0) ⟨fun _=>false,0,cA []⟩):=aH ⟨⟨cs,h2.1,fun j hj=>by
  have:=(h.blks j _ (List.getElem?_eq_getElem hj)).2.2
  simp;omega⟩,h2.2,⟨[],rfl,World.ownsRow_nil _ _ _ _,fun e he=>by cases he⟩⟩
 have Oh:Hid ((w.setCell ⟨C.mb,8,none⟩ (.int .i64 (ct+1))).ownsRow 0 109 1 (.slice (some ⟨gf,0,none⟩) L.length fc) L.length (ko I0 L.length)):=aH (bS hm.fr fun k hk=>Below.heap_setCell _ _ _ _ (by show k≠C.mb;exact fun e=>by have:=hm.rf k hk;rw [e,hm.rm] at this;cases this));have TD:Hid (∀b,w.heap.size<=b->ρ b=.no):=aH fun b hb=>h.new_no hb
 have HV:=aH h.gr.size;have ZQ:Hid (∀b,(Value.slice (some ⟨gf,0,none⟩) L.length fc).ownBlock=some b->ρ b=.frs):=aH hm.rf;have HBL:=aH bL;have XZ:=aH sL;have HLB:=aH WK;have Kd:=aH R8;have HBB2:=aH bB;have H8:=aH h8;have JS:=aH Cs;obtain ⟨R,hR⟩:∃R,fV bs (bs.length+(cA L).length+1) ⟨fun _=>false,0,cA L⟩=R:=⟨_,rfl⟩;have HR:=aH hR;have HRN:Hid (cq L bs=R.all):=aH (by unfold cq;rw [hR]);have c8:w.cell? ⟨C.mb,8,none⟩=some (.int .i64 ct):=by rw [aJ N3];rfl
 have z8:w.frozen? ⟨C.mb,8,none⟩=false:=aS N3;have hwc:IntKind.i64.wrap (ct+1)=ct+1:=Q_;rw [HRN.out];clear h2 Hn N3 hm h hR bL sL bB h8 Cs R8 WK HRN;go_enter Tryz.func128,Tryz.ntmps128
 go_upto_region 2 with fail
 generalize w.setCell ⟨C.mb,8,none⟩ (.int .i64 (ct+1))=W1 at Pb Oh |-;clear c8 z8 hwc;go_wp2_with fail
 go_loopw [5,22] (fun vw i wr=>∃k:Nat,i=.int .i64 (k:Int)/\k<=L.length/\wr.ownsRow 0 109 1 (.slice (some ⟨gf,0,none⟩) L.length fc) L.length (ko I0 L.length)/\RW C w ρ nm I0 (ct+1) L bs tk told wr vw ⟨fun _=>false,0,cA (L.drop (L.length - k))⟩) (fun _ i _=>L.length - (intOf i).toNat)
 case atStart=>exact ⟨0,rfl,Nat.zero_le _,Oh.out,by
  have e:L.drop (L.length - 0)= []:=Q6
  rw [e];exact Pb.out⟩
 case round=>
  obtain ⟨k,rfl,hk,Cn,Kn⟩:=hrel;have Zi:=aH Kn;have Dn:=aH Cn;clear Kn Cn;by_cases J0:k < L.length
  · have Hf:(k:Int) < (L.length:Int):=by omega
    have hw:IntKind.i64.wrap ((k:Int)+1)=(k:Int)+1:=Go.IntWalk.i64_in _ (by have:=HLB.out;omega);have ck:wr.cell? ⟨gf,k,none⟩=some (.pointer (some ⟨I0 k,0,none⟩)):=(Dn.out.cellAt k Q5).trans (tP I0 J0);obtain ⟨XK,KA,_⟩:=Zi.out.mw;obtain ⟨x,hx,hdr,vc,vs,vk,f,ht⟩:=KA.frs.at J0;obtain ⟨es,N4,D9,he3⟩:=Zi.out.wt;obtain ⟨wa,wc,rfl⟩:=aL D9;obtain ⟨sa,sc,rfl⟩:=aL ht.sl;obtain ⟨qa,qc,rfl⟩:=aL ht.st;have KS0:Hid (∀w',Gr wr w'->w'.cell? ⟨I0 k,2,none⟩=some (.slice sa x.slots.length sc)/\w'.cell? ⟨I0 k,3,none⟩=some (.slice qa x.stack.length qc)):=aH (fun w' gg=>⟨gg.cell (by rw [aJ ht.box];rfl) Q6,gg.cell (by rw [aJ ht.box];rfl) Q6⟩);have S9:es.length=2 * k:=by
     have:=congrArg List.length N4
     rw [List.length_map] at this;rw [this];show (cA (L.drop (L.length - k))).length=_
     rw [lg,List.length_drop];omega
    have hwe:∀e∈[(Value.slice sa x.slots.length sc,x.slots),(Value.slice qa x.stack.length qc,x.stack)],WE wr ρ nm bs.length e.1 e.2:=by
     intro e he;have b1:=HBL.out x hx;have b2:=XZ.out x hx;simp only [List.mem_cons,List.not_mem_nil,or_false] at he;rcases he with rfl|rfl
     · exact ⟨ht.sl,fun b hb=>⟨k,.inl (ht.rsl b hb)⟩,b1.1,b2.1⟩
     · exact ⟨ht.st,fun b hb=>⟨k,.inr (.inl (ht.rst b hb))⟩,b1.2,b2.2⟩
    obtain ⟨v6,w6,Ma,T9,P2⟩:=pm (w0:=w) (w1:=wr.drew) (ty:=237) [(Value.slice sa x.slots.length sc,x.slots),(Value.slice qa x.stack.length qc,x.stack)] (dA D9 (Gr.drew (Gr.refl _))) Zi.out.kp.size #[.slice sa x.slots.length sc,.slice qa x.stack.length qc] rfl (by intro v hv;simp at hv;rcases hv with rfl|rfl<;>exact ⟨_,_,_,rfl⟩) (by rw [S9];have:=HLB.out;simp;omega)
    have YK:RW C w ρ nm I0 (ct+1) L bs tk told w6 v6 ⟨fun _=>false,0,cA (L.drop (L.length - (k+1)))⟩:=by
     have E':Gr wr (wr.drew.alloc (.cells #[.slice sa x.slots.length sc,.slice qa x.stack.length qc] 160)):=(Gr.drew (Gr.refl wr)).alloc _;have h6:=Zi.out.grow (all:=0) TD.out HV.out E' P2 T9 N4 he3 hwe;rw [hdr,cA];exact h6
    have ZK:w6.ownsRow 0 109 1 (.slice (some ⟨gf,0,none⟩) L.length fc) L.length (ko I0 L.length):=bS Dn.out fun b hb=>by
     have hl:=(Dn.out.lt b hb).2;have E':Gr wr (wr.drew.alloc (.cells #[.slice sa x.slots.length sc,.slice qa x.stack.length qc] 160)):=(Gr.drew (Gr.refl wr)).alloc _;refine (P2.block b (Nat.lt_of_lt_of_le hl E'.size) (fun e=>?_)).trans (E'.block b hl Q6);have e1:=TD.out b (D9.lt b e.symm).1;rw [ZQ.out b hb] at e1;cases e1
    have LA:=aH YK;have HFR6:=aH ZK;have Ce:=aH Ma;have Dl:Hid (∀w',Gr wr w'->w'.cell? ⟨I0 k,2,none⟩=some (.slice sa x.slots.length sc)/\w'.cell? ⟨I0 k,3,none⟩=some (.slice qa x.stack.length qc)):=KS0;have KS6:Hid (w6.cell? ⟨I0 k,2,none⟩=some (.slice sa x.slots.length sc)/\w6.cell? ⟨I0 k,3,none⟩=some (.slice qa x.stack.length qc)):=aH (by
     have E':Gr wr (wr.drew.alloc (.cells #[.slice sa x.slots.length sc,.slice qa x.stack.length qc] 160)):=(Gr.drew (Gr.refl wr)).alloc _;obtain ⟨s1,s2⟩:=KS0.out _ E';have hne:¬some (I0 k)=(Value.slice wa es.length wc).ownBlock:=fun e=>by
      have e1:=TD.out _ (D9.lt _ e.symm).1;rw [ht.rb] at e1;cases e1
     exact ⟨P2.cell s1 hne,P2.cell s2 hne⟩)
    clear ht KA N4 D9 he3 hwe Ma T9 P2 YK ZK Dl hdr hx Zi Dn;generalize x.slots.length=ns at KS0 Ce KS6;generalize x.stack.length=nk at KS0 Ce KS6;generalize hne:es.length=ne at Ce |-;clear hne S9;generalize I0 k=fb at KS0 ck KS6 |-;go_wp2_with fail
    refine wp_region_held_drew (S:=(fun w'=>w'.cell? ⟨fb,2,none⟩=some (.slice sa ns sc)/\w'.cell? ⟨fb,3,none⟩=some (.slice qa nk qc))) Q7 (KS0.out _ (Gr.drew (Gr.refl _))) (fun hH=>?_);refine tL 0 ?_;simp only [Act.put,sA,s0,s1];refine tL 1 ?_;simp only [Act.put,sA,s0,s1];refine tL 2 ?_;simp only [Act.put,sA,s0,s1];refine tL 3 ?_;simp only [Act.put,sA,s0,s1];refine tL 4 ?_;simp only [Act.put,sA,s0,s1];refine tL 5 ?_;simp only [Act.put,sA,s0,s1];refine tL 6 ?_;simp only [Act.put,sA,s0,s1];refine tL 7 ?_;simp only [Act.put,sA,s0,s1];refine tL 8 ?_;simp only [Act.put,sA,s0,s1];refine aq (i:=9) rfl Q7 (fun K hK=>?_);refine ae cw ?_;have HK:=aH hK;clear hK;go_simp
    have hK:=HK.out;clear HK;refine hK.out _ _ (KS0.out _ ((Gr.drew (Gr.refl _)).alloc _)) (fun hH=>?_);clear hK;try simp only [Act.put,sA,s0,s1]
    refine aq (i:=10) rfl Q7 (fun K hK=>?_);refine ae cw (Lib.wp_append_run _ _ _ _ _ rfl (.slice wa ne wc) (.slice (some ⟨wr.heap.size,0,none⟩) 2 2) fk fk _ _ Ce.out ?_);refine hK.out _ _ (KS6.out) (fun hH=>?_);clear hK;try simp only [Act.put,sA,s0,s1]
    refine tL 11 ?_;simp only [Act.put,sA,s0,s1];refine wpAnyH_done Q7 ?_ _;clear hH KS0 KS6;go_wp2_with fail
    exact ⟨⟨k+1,Q6,J0,HFR6.out,LA.out⟩,by simp [intOf];omega⟩
  · have L7:k=L.length:=by omega
    subst L7;have e:L.drop (L.length - L.length)=L:=Q6
    have Kn:=Zi.out;rw [e] at Kn;have Cj:=aH Kn;clear Kn e Zi Dn J0 hk Oh Pb;go_wp2_with fail
    go_loopw [5,8] (fun vw va wr=>∃(st:pT) (n:Nat) (v0:Value),v0=vw/\va=.int .i64 (st.all:Int)/\fV bs n st=R/\st.wt.length+oT st.mark bs.length<=n/\n<=300000/\st.all+1001 * oT st.mark bs.length<=1001 * bs.length/\RW C w ρ nm I0 (ct+1) L bs tk told wr vw st) (fun vw _ wr=>AH vw+CA nm bs.length (ct+1) wr)
    case atStart=>exact ⟨_,_,_,rfl,rfl,HR.out,by rw [nR];show (cA L).length+bs.length<=_;omega,by have:=Kd.out;have:=HLB.out;have:=lg L;omega,by rw [nR];show 0+_<=_;omega,Cj.out⟩
    case round=>
     obtain ⟨st,n,vw,rfl,rfl,DL,EL,Oe,G5,Kn⟩:=hrel;have Dj:=aH Kn;have Xe:=aH (And.intro DL (And.intro EL (And.intro Oe G5)));clear Kn DL EL Oe G5;obtain ⟨es,N4,D9,he3⟩:=Dj.out.wt;rcases List.eq_nil_or_concat es with rfl|⟨Qb,el,rfl⟩
     · have O9:st.wt= []:=by rw [<-N4];rfl
       have Ih:Hid (st.all=R.all):=aH (by rw [<-Xe.out.1,nF O9]);obtain ⟨wa,wc,rfl⟩:=aL D9;obtain ⟨cs9,hM9,_⟩:=Dj.out.mw;have LS:=aH hM9;have HK9:=aH Dj.out.kp;have HAB9:=aH Xe.out.2.2.2;clear N4 D9 he3 O9 hM9 Dj Xe;go_wp2_with fail
       go_ret
       exact ⟨cs9,by rw [<-Ih.out];rfl,by rw [<-Ih.out];have:=HAB9.out;omega,LS.out,HK9.out⟩
     · obtain ⟨pv,r⟩:=el;rw [List.concat_eq_append] at N4 D9 he3;have O9:st.wt=Qb.map (·.2)++ [r]:=by rw [<-N4];simp
       have S3:WE wr ρ nm bs.length pv r:=he3 (pv,r) Q6;have Ff:=D9;rw [List.length_append,List.map_append] at Ff;have Ff:wr.ownsRow w.heap.size 160 1 vw (Qb.length+1) (Qb.map (·.1)++ [pv]):=Ff;obtain ⟨g,cap,rfl⟩:∃g cap,vw=.slice (some ⟨g,0,none⟩) (Qb.length+1) cap:=by
        rcases Ff.2 with ⟨_,e⟩|⟨g,cap,cur,e,_⟩
        · omega
        · exact ⟨g,cap,e⟩
       have Il:Qb.length+1<=cap:=by
        rcases Ff.2 with ⟨h,_⟩|⟨g',Se,cur,e,_,_,h,_⟩
        · cases h
        · cases e;omega
       have clast:wr.cell? ⟨g,Qb.length,none⟩=some pv:=by
        rw [Ff.cellAt _ Q5,List.getElem?_append_right Q6];simp
       have FL:=ownsRow_pop (xs:=Qb.map (·.1)) (last:= [pv]) Q6 Ff;obtain ⟨pa,pc,rfl⟩:=aL S3.own;obtain ⟨m,rfl⟩:∃m,n=m+1:=⟨n - 1,by
        have:=Xe.out.2.1
        rw [O9] at this;simp at this
        omega⟩
       have GL:Hid (fV bs m (cK bs r ⟨st.mark,st.all,Qb.map (·.2)⟩)=R):=aH (by rw [<-Xe.out.1,mC O9]);have IL:Hid (RW C w ρ nm I0 (ct+1) L bs tk told wr (.slice (some ⟨g,0,none⟩) Qb.length cap) ⟨st.mark,st.all,Qb.map (·.2)⟩):=aH ⟨Dj.out.mw,Dj.out.kp,⟨Qb,rfl,FL,fun e he=>he3 e (by simp [he])⟩⟩;have HWE:=aH S3;have SG:=aH Xe.out.2.2.2;have JL:=aH Dj.out.un;have Jn:Hid ((Qb.map (·.2)).length+oT st.mark bs.length<=m/\m<=300000):=aH ⟨by have:=Xe.out.2.1;rw [O9] at this;simp at this;simp;omega,by have:=Xe.out.2.2.1;omega⟩;have S9:Qb.length<=300000:=by have:=Jn.out;simp at this;omega
       have D2:IntKind.i64.wrap ((Qb.length:Int)+1 - 1)=(Qb.length:Int):=by rw [Q_];omega
       have D3:IntKind.i64.wrap (((Qb.length+1:Nat):Int) - 1)=(Qb.length:Int):=by rw [Q_];omega
       have V5:IntKind.i64.wrap (Qb.length:Int)=(Qb.length:Int):=Q_;have Ol:Hid ((Qb.map (·.2)).length=Qb.length):=aH Q6;clear N4 D9 he3 O9 S3 Ff FL Xe;generalize Ql:(⟨st.mark,st.all,Qb.map (·.2)⟩:pT)=Sl at GL IL;have Wg:Hid (Sl.wt=Qb.map (·.2)/\Sl.mark=st.mark/\Sl.all=st.all):=aH (by subst Ql;exact ⟨rfl,rfl,rfl⟩);clear Ql;generalize Qb.length=VD at *;have hni:(VD:Int) < (VD:Int)+1:=Q5
       have hgt:(0:Int) < (VD:Int)+1:=Q5
       have Gt:(VD:Int)<=(cap:Int):=Q5
       have hncn:VD<=cap:=Q5
       go_wp2_with fail
       go_loopw [5,8,53] (fun vw va i wr=>∃(k:Nat) (st:pT) (v0:Value),v0=vw/\i=.int .i64 (k:Int)/\va=.int .i64 (st.all:Int)/\k<=r.length/\cK bs (r.drop k) st=cK bs r Sl/\st.wt.length+oT st.mark bs.length<=Sl.wt.length+oT Sl.mark bs.length/\st.all+1001 * oT st.mark bs.length<=1001 * bs.length/\RW C w ρ nm I0 (ct+1) L bs tk told wr vw st/\WE wr ρ nm bs.length (.slice pa r.length pc) r) (fun _ _ i _=>r.length - (intOf i).toNat)
       case atStart=>exact ⟨0,Sl,_,rfl,rfl,by rw [Wg.out.2.2],Nat.zero_le _,rfl,Nat.le_refl _,by rw [Wg.out.2.1,Wg.out.2.2];exact SG.out,IL.out,HWE.out⟩
       case round=>
        obtain ⟨k,st1,vw,rfl,rfl,rfl,hk,QG,EL,G5,Kn,hwe⟩:=hrel;have Od:=aH Kn;have Lc:=aH hwe;have Ej:=aH (And.intro QG (And.intro EL G5));clear Kn hwe QG EL G5;by_cases J0:k < r.length
        · have Hf:(k:Int) < (r.length:Int):=by omega
          have hw:IntKind.i64.wrap ((k:Int)+1)=(k:Int)+1:=Go.IntWalk.i64_in _ (by have:=Lc.out.short;omega);obtain ⟨gp,rfl⟩:∃gp,pa=some ⟨gp,0,none⟩:=by
           rcases Lc.out.own.2 with ⟨_,e⟩|⟨g,cap,cur,e,_⟩
           · omega
           · cases e;exact ⟨g,rfl⟩
          obtain ⟨v,hv⟩:∃v,r[k]? =some v:=⟨_,List.getElem?_eq_getElem J0⟩;have KL:r.drop k=v :: r.drop (k+1):=by
           rw [List.drop_eq_getElem_cons J0];rw [List.getElem?_eq_getElem J0] at hv;cases hv;rfl
          have hat:=lA nm r k v hv;have e0:=(Lc.out.own.cellAt (k * 2) Q5).trans hat.1;have e1:=(Lc.out.own.cellAt (k * 2+1) Q5).trans hat.2;have WD:=aH KL;have MS:=aH (Lc.out.bd v (List.mem_of_getElem? hv));clear hat hv KL;have gA:=(Gr.refl wr).alloc (.cells #[.int .i64 v.num,.pointer (di nm v.blk)] 166);have Hv:=heap_alloc_new wr (.cells #[.int .i64 v.num,.pointer (di nm v.blk)] 166);have S7:=aH gA;have Pc:=aH Hv;clear gA Hv;cases hb:v.blk with
          | none=>
           have Xq:Hid (cK bs (r.drop (k+1)) st1=cK bs r Sl):=aH (by rw [<-Ej.out.1,WD.out,oS hb]);rw [hb] at e1 S7 Pc;replace e1:wr.cell? ⟨gp,k * 2+1,none⟩=some (.pointer none):=e1;replace S7:Hid (Gr wr (wr.alloc (.cells #[.int .i64 v.num,.pointer none] 166))):=S7;replace Pc:Hid ((wr.alloc (.cells #[.int .i64 v.num,.pointer none] 166)).heap[wr.heap.size]? =some (.cells #[.int .i64 v.num,.pointer none] 166 (0,0))):=Pc;have KS0:Hid (∀w',Gr (wr.alloc (.cells #[.int .i64 v.num,.pointer none] 166)) w'->w'.cell? ⟨wr.heap.size,1,none⟩=some (.pointer none)):=aH (fun w' gg=>gg.cell (by rw [aJ Pc.out];rfl) Q6);have Ye:=aH (Od.out.of_gr (Gr.drew S7.out));have Ze:=aH (Lc.out.mv (w':=(wr.alloc (.cells #[.int .i64 v.num,.pointer none] 166)).drew) fun b hb _=>(Gr.drew S7.out).block b hb Q6);have Ip:=Tryz.blkNil;clear S7 Pc hb MS WD Od Lc;generalize v.num=num at e0 KS0 Ye Ze;go_wp2_with fail
           generalize wr.alloc (.cells #[.int .i64 num,.pointer none] 166)=W1 at KS0 Ye Ze |-;refine wp_region_held_drew (S:=(fun w'=>w'.cell? ⟨wr.heap.size,1,none⟩=some (.pointer none))) Q7 (KS0.out _ (Gr.drew (Gr.refl _))) (fun hH=>?_);refine tL 0 ?_;simp only [Act.put,sA,s0,s1];refine tL 1 ?_;simp only [Act.put,sA,s0,s1];refine tL 2 ?_;simp only [Act.put,sA,s0,s1];refine tL 3 ?_;simp only [Act.put,sA,s0,s1];refine eJ (i:=4) rfl Q7 Q7 Q7 (fun _ _ _ h=>h) cw hH ?_;simp only [Act.put,sA,s0,s1];refine eJ (i:=5) rfl Q7 Q7 Q7 (fun _ _ _ h=>h) cw hH ?_;simp only [Act.put,sA,s0,s1];refine eJ (i:=6) rfl Q7 Q7 Q7 (fun _ _ _ h=>h) cw hH ?_;simp only [Act.put,sA,s0,s1];refine eJ (i:=7) rfl Q7 Q7 Q7 (fun _ _ _ h=>h) cw hH ?_;simp only [Act.put,sA,s0,s1];refine eJ (i:=8) rfl Q7 Q7 Q7 (fun _ _ _ h=>h) cw hH ?_;simp only [Act.put,sA,s0,s1];refine eJ (i:=9) rfl Q7 Q7 Q7 (fun _ _ _ h=>h) cw hH ?_;simp only [Act.put,sA,s0,s1];refine eJ (i:=10) rfl Q7 Q7 Q7 (fun _ _ _ h=>h) cw hH ?_;simp only [Act.put,sA,s0,s1];refine eJ (i:=11) rfl Q7 Q7 Q7 (fun _ _ _ h=>h) cw hH ?_;simp only [Act.put,sA,s0,s1];refine eJ (i:=12) rfl Q7 Q7 Q7 (fun _ _ _ h=>h) cw hH ?_;simp only [Act.put,sA,s0,s1];refine eJ (i:=13) rfl Q7 Q7 Q7 (fun _ _ _ h=>h) cw hH ?_;simp only [Act.put,sA,s0,s1];refine tL 14 ?_;simp only [Act.put,sA,s0,s1];refine wpAnyH_done Q7 ?_ _;clear hH KS0;go_wp2_with fail
           exact ⟨⟨k+1,st1,_,rfl,Q6,Q6,J0,Xq.out,Ej.out.2.1,Ej.out.2.2,Ye.out,Ze.out⟩,by simp [intOf];omega⟩
          | some j=>
           rw [hb] at e1 S7 Pc;replace e1:wr.cell? ⟨gp,k * 2+1,none⟩=some (.pointer (some ⟨nm j,0,none⟩)):=e1;replace S7:Hid (Gr wr (wr.alloc (.cells #[.int .i64 v.num,.pointer (some ⟨nm j,0,none⟩)] 166))):=S7;replace Pc:Hid ((wr.alloc (.cells #[.int .i64 v.num,.pointer (some ⟨nm j,0,none⟩)] 166)).heap[wr.heap.size]? =some (.cells #[.int .i64 v.num,.pointer (some ⟨nm j,0,none⟩)] 166 (0,0))):=Pc;have D':=MS.out j hb;obtain ⟨fs,hj⟩:∃fs,bs[j]? =some fs:=⟨_,List.getElem?_eq_getElem D'⟩;obtain ⟨XK,KA,MA⟩:=Od.out.mw;obtain ⟨⟨vfl,hB⟩,_⟩:=KA.blks j fs hj;obtain ⟨vf1,vt1,P5⟩:=KA.mb;have Tl:=hB.box;have Yj:=P5.box;have Rc:=MA j D';have hne:=fun (w:World)=>Tryz.blkNe ⟨nm j,0,none⟩ w
           have Ye:=aH (Od.out.of_gr (Gr.drew S7.out));have Ze:=aH (Lc.out.mv (w':=(wr.alloc (.cells #[.int .i64 v.num,.pointer (some ⟨nm j,0,none⟩)] 166)).drew) fun b hb _=>(Gr.drew S7.out).block b hb Q6);by_cases J5:XK j=ct+1
           · have Xq:Hid (cK bs (r.drop (k+1)) st1=cK bs r Sl):=aH (by rw [<-Ej.out.1,WD.out,rF hb (by rw [Rc];simp [J5])]);rw [J5] at Tl;have KS0:Hid (∀w',Gr (wr.alloc (.cells #[.int .i64 v.num,.pointer (some ⟨nm j,0,none⟩)] 166)) w'->w'.cell? ⟨wr.heap.size,1,none⟩=some (.pointer (some ⟨nm j,0,none⟩))/\w'.cell? ⟨nm j,1,none⟩=some (.int .i64 (ct+1))/\w'.cell? ⟨C.mb,8,none⟩=some (.int .i64 (ct+1))):=aH (fun w' gg=>⟨gg.cell (by rw [aJ Pc.out];rfl) Q6,(S7.out.trans gg).cell (by rw [aJ Tl];rfl) Q6,(S7.out.trans gg).cell (by rw [aJ Yj];rfl) Q6⟩);clear S7 Pc hb MS WD Od Lc Tl Yj KA P5 hB Rc MA J5 hj D';generalize v.num=num at e0 KS0 Ye Ze;generalize nm j=bj at e1 KS0 Ye Ze hne;generalize C.mb=mb at KS0 |-;go_wp2_with fail
             generalize wr.alloc (.cells #[.int .i64 num,.pointer (some ⟨bj,0,none⟩)] 166)=W1 at KS0 Ye Ze |-;refine wp_region_held_drew (S:=(fun w'=>w'.cell? ⟨wr.heap.size,1,none⟩=some (.pointer (some ⟨bj,0,none⟩))/\w'.cell? ⟨bj,1,none⟩=some (.int .i64 (ct+1))/\w'.cell? ⟨mb,8,none⟩=some (.int .i64 (ct+1)))) Q7 (KS0.out _ (Gr.drew (Gr.refl _))) (fun hH=>?_);refine tL 0 ?_;simp only [Act.put,sA,s0,s1];refine tL 1 ?_;simp only [Act.put,sA,s0,s1];refine tL 2 ?_;simp only [Act.put,sA,s0,s1];refine tL 3 ?_;simp only [Act.put,sA,s0,s1];refine tL 4 ?_;simp only [Act.put,sA,s0,s1];refine tL 5 ?_;simp only [Act.put,sA,s0,s1];refine tL 6 ?_;simp only [Act.put,sA,s0,s1];refine tL 7 ?_;simp only [Act.put,sA,s0,s1];refine tL 8 ?_;simp only [Act.put,sA,s0,s1];refine tL 9 ?_;simp only [Act.put,sA,s0,s1];refine tL 10 ?_;simp only [Act.put,sA,s0,s1];refine tL 11 ?_;simp only [Act.put,sA,s0,s1];refine tL 12 ?_;simp only [Act.put,sA,s0,s1];refine tL 13 ?_;simp only [Act.put,sA,s0,s1];refine tL 14 ?_;simp only [Act.put,sA,s0,s1];refine wpAnyH_done Q7 ?_ _;clear hH KS0;go_wp2_with fail
             exact ⟨⟨k+1,st1,_,rfl,Q6,Q6,J0,Xq.out,Ej.out.2.1,Ej.out.2.2,Ye.out,Ze.out⟩,by simp [intOf];omega⟩
           · have Kf:st1.mark j=false:=by rw [Rc];simp [J5]
             have Xq:Hid (cK bs (r.drop (k+1)) ⟨fun k=>decide (k=j) || st1.mark k,st1.all+(fs.length+1),st1.wt++ [fs]⟩=cK bs r Sl):=aH (by rw [<-Ej.out.1,WD.out,wS hb Kf hj]);have Jo:=qS Kf D';have DU:=H8.out fs (List.mem_of_getElem? hj);have NA:Hid ((st1.wt++ [fs]).length+oT (fun k=>decide (k=j) || st1.mark k) bs.length<=Sl.wt.length+oT Sl.mark bs.length/\st1.all+(fs.length+1)+1001 * oT (fun k=>decide (k=j) || st1.mark k) bs.length<=1001 * bs.length):=aH ⟨by have:=Ej.out.2.1;simp;omega,by have:=Ej.out.2.2;omega⟩;have C2:st1.all<=1001 * 200000:=by have:=Ej.out.2.2;have:=Kd.out;omega
             have KS0:Hid (∀w',Gr (wr.alloc (.cells #[.int .i64 v.num,.pointer (some ⟨nm j,0,none⟩)] 166)) w'->w'.cell? ⟨wr.heap.size,1,none⟩=some (.pointer (some ⟨nm j,0,none⟩))/\w'.cell? ⟨nm j,1,none⟩=some (.int .i64 (XK j))/\w'.cell? ⟨C.mb,8,none⟩=some (.int .i64 (ct+1))):=aH (fun w' gg=>⟨gg.cell (by rw [aJ Pc.out];rfl) Q6,(S7.out.trans gg).cell (by rw [aJ Tl];rfl) Q6,(S7.out.trans gg).cell (by rw [aJ Yj];rfl) Q6⟩);have HH:Hid (∀w',Gr (wr.alloc (.cells #[.int .i64 v.num,.pointer (some ⟨nm j,0,none⟩)] 166)) w'->w'.heap[nm j]? =some (.cells #[vfl,.int .i64 (XK j)] 216 (0,0))/\w'.heap[wr.heap.size]? =some (.cells #[.int .i64 v.num,.pointer (some ⟨nm j,0,none⟩)] 166 (0,0))):=aH (fun w' gg=>⟨((S7.out.trans gg).block _ hB.lt Q6).trans Tl,(gg.block _ Q6 Q6).trans Pc.out⟩);have HNE:Hid (¬wr.heap.size=nm j):=aH (by have:=hB.lt;omega);obtain ⟨fa,Ob,rfl⟩:=aL hB.fl;have Ya:Hid (∀w',Gr wr w'->WE w' ρ nm bs.length (.slice fa fs.length Ob) fs):=aH (fun w' gg=>(⟨hB.fl,fun b hb=>⟨j,.inr (.inr (hB.rf b hb))⟩,HBB2.out fs (List.mem_of_getElem? hj),DU⟩:WE wr ρ nm bs.length (.slice fa fs.length Ob) fs).mv fun b hb _=>gg.block b hb Q6);have Fj:Hid (∀w',Gr (wr.alloc (.cells #[.int .i64 v.num,.pointer (some ⟨nm j,0,none⟩)] 166)) w'->RW C w ρ nm I0 (ct+1) L bs tk told (w'.setCell ⟨nm j,1,none⟩ (.int .i64 (ct+1))) vw ⟨fun k=>decide (k=j) || st1.mark k,st1.all,st1.wt⟩/\(∀(v:Value) (r:List PV),WE w' ρ nm bs.length v r->WE (w'.setCell ⟨nm j,1,none⟩ (.int .i64 (ct+1))) ρ nm bs.length v r)):=aH (fun w' gg=>⟨(Od.out.of_gr (S7.out.trans gg)).mark TD.out hj (by have:=JS.out;omega),fun v r hwe=>hwe.mv fun b hb hr=>Below.heap_setCell _ _ _ _ (by
              show b≠nm j
              intro e2;rw [e2,hB.rb] at hr;obtain ⟨i,hi⟩:=hr;rcases hi with hi|hi|hi<;>cases hi)⟩)
             have Ci:=S7;clear S7 Pc hb MS WD Od Tl Yj KA P5 hB Rc MA hj D' Jo Kf Ye Ze Ej;generalize hcj:XK j=q at KS0 HH J5;clear hcj;go_wp2_with fail
             generalize wr.alloc (.cells #[.int .i64 v.num,.pointer (some ⟨nm j,0,none⟩)] 166)=W1 at KS0 HH Fj Ci |-;refine wp_region_held_drew (S:=(fun w'=>w'.cell? ⟨wr.heap.size,1,none⟩=some (.pointer (some ⟨nm j,0,none⟩))/\w'.cell? ⟨nm j,1,none⟩=some (.int .i64 q)/\w'.cell? ⟨C.mb,8,none⟩=some (.int .i64 (ct+1)))) Q7 (KS0.out _ (Gr.drew (Gr.refl _))) (fun hH=>?_);refine tL 0 ?_;simp only [Act.put,sA,s0,s1];refine tL 1 ?_;simp only [Act.put,sA,s0,s1];refine tL 2 ?_;simp only [Act.put,sA,s0,s1];refine tL 3 ?_;simp only [Act.put,sA,s0,s1];refine tL 4 ?_;simp only [Act.put,sA,s0,s1];refine tL 5 ?_;simp only [Act.put,sA,s0,s1];refine tL 6 ?_;simp only [Act.put,sA,s0,s1];refine tL 7 ?_;simp only [Act.put,sA,s0,s1];refine tL 8 ?_;simp only [Act.put,sA,s0,s1];refine tL 9 ?_;simp only [Act.put,sA,s0,s1];refine tL 10 ?_;simp only [Act.put,sA,s0,s1];refine tL 11 ?_;simp only [Act.put,sA,s0,s1];refine tL 12 ?_;simp only [Act.put,sA,s0,s1];refine tL 13 ?_;simp only [Act.put,sA,s0,s1];refine tL 14 ?_;simp only [Act.put,sA,s0,s1];refine wpAnyH_done Q7 ?_ _;clear hH;go_wp2_with fail
             have GD:Gr W1 W1.drew:=Gr.drew (Gr.refl W1);have Yc:=aH GD;clear GD;generalize W1.drew=W2 at Yc |-;refine cJ 8 (S:=(fun w'=>w'.cell? ⟨wr.heap.size,1,none⟩=some (.pointer (some ⟨nm j,0,none⟩))/\w'.cell? ⟨nm j,1,none⟩=some (.int .i64 q)/\w'.cell? ⟨C.mb,8,none⟩=some (.int .i64 (ct+1)))) Q7 (KS0.out _ (Yc.out.trans (Gr.drew (Gr.refl _)))) (fun hH=>?_);refine tY 0 ?_;simp only [Act.put,sA,s0,s1];refine tY 1 ?_;simp only [Act.put,sA,s0,s1];refine tY 2 ?_;simp only [Act.put,sA,s0,s1];refine tY 3 ?_;simp only [Act.put,sA,s0,s1];refine tY 4 ?_;simp only [Act.put,sA,s0,s1];refine tY 5 ?_;simp only [Act.put,sA,s0,s1];refine tY 6 ?_;simp only [Act.put,sA,s0,s1];refine tY 7 ?_;simp only [Act.put,sA,s0,s1];refine cg (i:=8) rfl Q7 (fun K hK=>?_);have f0:=(HH.out _ Yc.out).1;have m1:W2.cell? ⟨nm j,1,none⟩=some (.int .i64 q):=by rw [aJ f0];rfl
             have z1:W2.frozen? ⟨nm j,1,none⟩=false:=aS f0;have HK:=aH hK;clear hK f0;refine ae cw ?_;go_simp
             have hK:=HK.out;clear HK m1 z1;refine hK.out _ _ (fun h=>absurd rfl h) (fun _=>?_);clear hK;try simp only [Act.put,sA,s0,s1]
             refine jJ Q7 ?_ _;clear hH KS0;have b3:=(heap_setCell_same W2 (nm j) 1 _ _ (.int .i64 (ct+1)) (HH.out _ Yc.out).1).trans (by simp:_=some (.cells #[.slice fa fs.length Ob,.int .i64 (ct+1)] 216 (0,0)));have b4:=(Below.heap_setCell W2 ⟨nm j,1,none⟩ (.int .i64 (ct+1)) wr.heap.size HNE.out).trans (HH.out _ Yc.out).2;have h3:=(Fj.out _ Yc.out);have Cj:=aH (h3.1.of_gr (Gr.drew (Gr.refl _)));have OA:=aH ((h3.2 _ _ (Ya.out _ (Ci.out.trans Yc.out))).mv (w':=(W2.setCell ⟨nm j,1,none⟩ (.int .i64 (ct+1))).drew) fun b hb _=>rfl);have PA:=aH ((h3.2 _ _ (Lc.out.mv (w':=W2) fun b hb _=>(Ci.out.trans Yc.out).block b hb Q6)).mv (w':=(W2.setCell ⟨nm j,1,none⟩ (.int .i64 (ct+1))).drew) fun b hb _=>rfl);have Oj:Hid ((W2.setCell ⟨nm j,1,none⟩ (.int .i64 (ct+1))).drew.heap[nm j]? =_):=aH b3;have Wp:Hid ((W2.setCell ⟨nm j,1,none⟩ (.int .i64 (ct+1))).drew.heap[wr.heap.size]? =_):=aH b4;clear h3 b3 b4 Fj Ya Lc HH Yc Ci;generalize (W2.setCell ⟨nm j,1,none⟩ (.int .i64 (ct+1))).drew=W3 at Cj OA PA Oj Wp |-;have k0:W3.cell? ⟨nm j,0,none⟩=some (.slice fa fs.length Ob):=by rw [aJ Oj.out];rfl
             have k1:W3.cell? ⟨wr.heap.size,1,none⟩=some (.pointer (some ⟨nm j,0,none⟩)):=by rw [aJ Wp.out];rfl
             obtain ⟨es,N4,D9,he3⟩:=Cj.out.wt;obtain ⟨wa,wc,rfl⟩:=aL D9;have S9:es.length+1<=1000000:=by
              have h1:=congrArg List.length N4;rw [List.length_map] at h1;have h1:es.length=st1.wt.length:=h1;have h2:=NA.out.1;have h3:=Jn.out;rw [Wg.out.1,Wg.out.2.1] at h2;simp at h2 h3
              omega
             have hwf:∀e∈[(Value.slice fa fs.length Ob,fs)],WE W3 ρ nm bs.length e.1 e.2:=by
              intro e he;simp only [List.mem_cons,List.not_mem_nil,or_false] at he;subst he;exact OA.out
             obtain ⟨v6,w6,Ma,T9,P2⟩:=pm (w0:=w) (w1:=W3) (ty:=237) [(Value.slice fa fs.length Ob,fs)] D9 Cj.out.kp.size #[.slice fa fs.length Ob] rfl (by intro v hv;simp at hv;subst hv;exact ⟨_,_,_,rfl⟩) S9;have E':Gr W3 (W3.alloc (.cells #[.slice fa fs.length Ob] 160)):=(Gr.refl W3).alloc _;have LA:=aH (Cj.out.grow (all:=st1.all+(fs.length+1)) TD.out HV.out E' P2 T9 N4 he3 hwf);have HWE6:=aH (PA.out.mv (w':=w6) fun b hb hr=>(P2.block b (Nat.lt_of_lt_of_le hb E'.size) (fun e=>by
              have e1:=TD.out b (D9.lt b e.symm).1;rw [e1] at hr;obtain ⟨i,hi⟩:=hr;rcases hi with hi|hi|hi<;>cases hi)).trans (E'.block b hb Q6))
             have Ce:=aH Ma;have hwa:IntKind.i64.wrap ((st1.all:Int)+((fs.length:Int)+1))=((st1.all+(fs.length+1):Nat):Int):=by rw [Q_];omega
             clear N4 D9 he3 hwf Ma T9 P2 E' S9 Cj OA PA Oj Wp;generalize hESL:es.length=ne at Ce |-;clear hESL;go_wp2_with fail
             refine (gY fs.length _ Q5).mono ?_;rintro e w5 ⟨rfl,XC⟩;subst XC;go_wp2_with (at_builtin;refine Lib.wpList_append_run _ rfl _ _ _ _ rfl _ _ rfl rfl _ _ Ce.out ?_)
             exact ⟨⟨k+1,_,_,rfl,Q6,Q6,J0,Xq.out,NA.out.1,NA.out.2,LA.out,HWE6.out⟩,by simp [intOf];omega⟩
        · have L7:k=r.length:=by omega
          subst L7;have Xq:Hid (st1=cK bs r Sl):=aH (by rw [<-Ej.out.1];simp [cK]);have Nb:=aH Od.out.len;have Za:=aH Od.out.un;clear J0 hk;go_wp2_with fail
          refine ⟨⟨st1,m,_,rfl,Q6,by rw [Xq.out];exact GL.out,by have:=Ej.out.2.1;have:=Jn.out;rw [Wg.out.1,Wg.out.2.1] at *;omega,Jn.out.2,Ej.out.2.2,Od.out⟩,?_⟩;have h1:=Nb.out;have h2:=Za.out;have h3:=JL.out;have h4:=Ej.out.2.1;have h5:=Ol.out;have h6:=Wg.out;rw [h6.1,h6.2.1,h5] at h4;rw [h1,h2,h3];show _ < VD+1+_
          omega
end
end Go.Proofs.YtkgncijcnlfhiabGreat
