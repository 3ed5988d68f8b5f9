import Derived.Test.YtkgncijcnlfhiaaGreatRg2
namespace Go.Proofs.YtkgncijcnlfhiaaGreat
set_option linter.unusedVariables false
set_option linter.unusedSimpArgs false
open Go.RowKit
section
variable {P:Program} {ops:Array Oper} {Q:Exit→Act→World→Prop} {md:Region.Mode} {S:World→Prop}
def fV(P:Program)(ops:Array Oper)(S:World→Prop)(o:Oper)(v:Value)(a:Act):Prop:=Region.wanted o (yielded ops a.tmps)=true∧∃f vals,(∀w,(execOp a.eval o).run P w=.ok (.enter f vals) w)∧∀w,S w→Calls P f vals w fun x w'=>x=.returned v∧w'=w
theorem fV.same{o:Oper}{v:Value}{a a':Act}(h:fV P ops S o v a)(he:execOp a'.eval o=execOp a.eval o)(hw:Region.wanted o (yielded ops a'.tmps)=Region.wanted o (yielded ops a.tmps)):fV P ops S o v a':=by
 obtain ⟨h1,f,vals,h2,h3⟩:=h;exact ⟨hw.trans h1,f,vals,fun w=>by rw [he];exact h2 w,h3⟩
theorem fV.step{i:Nat}{o:Oper}{v:Value}{a:Act}(hi:ops[i]? =some o)(hy:fV P ops S o v a){K:Act→World→Prop}{w:World}(hS:S w)(h:K (a.put o.dst v) w):wpOp P ops Q i K a w:=by
 obtain ⟨h1,f,vals,h2,h3⟩:=hy;unfold wpOp;simp only [hi,h1,if_true];refine .inl ?_;unfold Oper.wp;rw [h2 w];simp only [Oper.upon];refine (h3 w hS).mono ?_;rintro x w' ⟨rfl,rfl⟩;exact h
theorem fV.beside{j:Nat}{oi oj:Oper}{v:Value}(hj:ops[j]? =some oj)(hap:oi.apart ops oj=true)(hsi:∀cs b,oi.op≠.select cs b)(hsj:∀cs b,oj.op≠.select cs b)(hQ:∀c a w,Q (.panic c) (a.put oi.dst v) w→Q (.panic c) a w){K:Act→World→Prop}{a:Act}{w:World}(hy:fV P ops S oi v a)(h:wpOp P ops Q j K (a.put oi.dst v) w):
 wpOp P ops Q j (fun a' w'=>fV P ops S oi v a'∧K (a'.put oi.dst v) w') a w:=by
 obtain ⟨p1,p2,p3⟩:=Oper.apart_spec hap;have stay:∀(b:Act) (u:Value),fV P ops S oi v b→fV P ops S oi v (b.put oj.dst u):=fun b u hb=>hb.same (execOp_put oi hsi b oj.dst u p3) (wanted_put oi b oj.dst u p3)
 have turn:∀u w',K ((a.put oi.dst v).put oj.dst u) w'→fV P ops S oi v (a.put oj.dst u)∧K ((a.put oj.dst u).put oi.dst v) w':=fun u w' hk=>⟨stay a u hy,by rw [←Act.put_comm a v u p2];exact hk⟩
 unfold wpOp at *;simp only [hj] at *;rw [wanted_put oj a oi.dst v p1] at h;by_cases hw:Region.wanted oj (yielded ops a.tmps)=true
 · simp only [hw,if_true] at h ⊢;rcases h with h|⟨h1,h2⟩
   · refine .inl ?_;unfold Oper.wp at *;rw [execOp_put oj hsj a oi.dst v p1] at h;revert h
     generalize (execOp a.eval oj).run P w=r;intro h;match r,h with
     | .ok (.value u) w',h=>exact turn u w' h
     | .ok .skip w',h=>exact turn undef w' h
     | .ok (.defer d) w',h=>
      refine ⟨stay _ _ (hy.same rfl rfl),?_⟩;rw [←Act.put_comm _ v undef p2,←Act.put_defers];exact h
     | .ok (.enter f args) w',h=>
      refine Calls.mono h fun e w'' he=>?_
      match e,he with
      | .returned u,he=>exact turn u w'' he
      | .panicked c,he=>exact hQ _ _ _ he
      | .outgrown,he=>exact he
     | .ok (.row row args) w',h=>exact Rows.mono h fun u w'' he=>turn u w'' he
     | .halt (.panic u) w',h=>exact hQ _ _ _ h
   · exact .inr ⟨by unfold Oper.asks at *;rw [execOp_put oj hsj a oi.dst v p1] at h1;exact h1,h2⟩
 · simp only [hw] at h ⊢;exact turn undef w h
theorem mZ{i:Nat}{oi:Oper}{v:Value}(hi:ops[i]? =some oi)(hsel:∀(j:Nat) (o:Oper) cs b,ops[j]? =some o→o.op≠.select cs b)
 (hQ:∀c a w,Q (.panic c) (a.put oi.dst v) w→Q (.panic c) a w):
 ∀(fuel:Nat) (listed:Array Bool) (a:Act) (w:World),
  (∀j oj,ops[j]? =some oj→j≠i→listed.getD j true=false→(∀e∈oj.after,Region.binds md e=true→e.on≠i)→oi.apart ops oj=true)→
  i∈Region.ready md ops listed→fV P ops S oi v a→S w→
  wpAnyH P md ops Q S fuel (listed.setIfInBounds i true) (a.put oi.dst v) w→wpAnyH P md ops Q S (fuel+1) listed a w:=by
 intro fuel
 induction fuel with
 | zero=>
  intro listed a w _ hr hy hS H;refine ⟨fun h=>(by rw [h] at hr;cases hr),fun j hj=>?_⟩;by_cases hji:j=i
  · subst hji;exact hy.step hi hS ⟨hS,H⟩
  · have:=ready_mono hj hji
    rw [H.1] at this;cases this
 | succ fuel ih=>
  intro listed a w hfree hr hy hS H;refine ⟨fun h=>(by rw [h] at hr;cases hr),fun j hj=>?_⟩;by_cases hji:j=i
  · subst hji;exact hy.step hi hS ⟨hS,H⟩
  · have h1:=H.2 j (ready_mono hj hji);obtain ⟨hjun,oj,hoj,hall⟩:=mem_ready.1 hj;have hnot:∀e∈oj.after,Region.binds md e=true→e.on≠i:=fun e he hb heq=>by
     have h1:=hall e he hb;have h0:=(mem_ready.1 hr).1;rw [heq] at h1;rcases Nat.lt_or_ge i listed.size with h'|h'
     · simp [h'] at h0 h1;rw [h0] at h1;cases h1
     · simp [Array.getElem?_eq_none h'] at h1
    have h2:=hy.beside hoj (hfree j oj hoj hji hjun hnot) (fun cs b=>hsel i oi cs b hi) (fun cs b=>hsel j oj cs b hoj) hQ h1;have hfree':∀k ok,ops[k]? =some ok→k≠i→(listed.setIfInBounds j true).getD k true=false→
     (∀e∈ok.after,Region.binds md e=true→e.on≠i)→oi.apart ops ok=true:=fun k ok hk hki hun hno=>by
     refine hfree k ok hk hki ?_ hno;by_cases hjk:j=k
     · subst hjk;exact hjun
     · rw [getD_set_ne true hjk] at hun;exact hun
    refine wpOp_mono (fun a' w' h3=>⟨h3.2.1,ih (listed.setIfInBounds j true) a' w' hfree' (ready_mono hr (Ne.symm hji)) h3.1 h3.2.1 ?_⟩) h2;rw [Array.setIfInBounds_comm _ _ hji];exact h3.2.2
end
section
variable {l:List Oper} {Q:Exit→Act→World→Prop} {md:Region.Mode} {S:World→Prop}
theorem yJ{i:Nat}{oi:Oper}{v:Value}{fuel:Nat}{listed:Array Bool}{a:Act}{w:World}(hi:l[i]? =some oi)(hs:Region.noSelect l.toArray=true)(hf:Region.free md l.toArray listed i=true)(hr:(Region.ready md l.toArray listed).contains i=true)
 (hQ:∀c a w,Q (.panic c) (a.put oi.dst v) w→Q (.panic c) a w) (hw:Region.wanted oi (yielded l.toArray a.tmps)=true) (f:FuncId) (args:Array Operand) (ats:Array TypeId) (ho:oi.op=.call { callee:=.value (.func f),args:=args,argTypes:=ats }) (vals:Array Value) (hv:args.map a.eval=vals) (hcf:∀w,(callFunc f vals).run Tryz.prog w=.ok (.enter f vals) w) (hc:∀w,S w→Calls Tryz.prog f vals w fun x w'=>x=.returned v∧w'=w) (hS:S w)
 (h:wpAnyH Tryz.prog md l.toArray Q S fuel (listed.setIfInBounds i true) (a.put oi.dst v) w):wpAnyH Tryz.prog md l.toArray Q S (fuel+1) listed a w:=by
 refine mZ (by simpa using hi) (Region.noSelect_spec hs) hQ fuel listed a w (Region.free_spec (by simpa using hi) hf) (by simpa using hr) ⟨hw,f,vals,fun w=>?_,hc⟩ hS h;subst hv;simp [execOp,ho,resolve,invoke,Act.eval,go_sem]
 exact hcf w
theorem vA{P:Program}{x y z t1 t2 t3:Nat}{ox oy oz p1 p2 p3:Oper}{fuel:Nat}{listed:Array Bool}{a:Act}{w:World}(hx:l[x]? =some ox)(hy:l[y]? =some oy)(hz:l[z]? =some oz)(h1:l[t1]? =some p1)(h2:l[t2]? =some p2)(h3:l[t3]? =some p3)(hs:Region.noSelect l.toArray=true)
 (hxz:ox.apart l.toArray oz=true) (hyz:oy.apart l.toArray oz=true) (h1z:p1.apart l.toArray oz=true) (h2z:p2.apart l.toArray oz=true) (h3z:p3.apart l.toArray oz=true) (nxz:x≠z) (nyz:y≠z) (n1z:t1≠z) (n2z:t2≠z) (n3z:t3≠z)
 (hr:Region.ready md l.toArray listed= [x,z]) (hrx:Region.ready md l.toArray (listed.setIfInBounds x true)= [y,z]) (hrz:Region.ready md l.toArray (listed.setIfInBounds z true)= [x])
 (hrxz:Region.ready md l.toArray ((listed.setIfInBounds x true).setIfInBounds z true)= [y])
 (r1:((Region.ready md l.toArray ((listed.setIfInBounds x true).setIfInBounds y true)).contains t1 && Region.free md l.toArray ((listed.setIfInBounds x true).setIfInBounds y true) t1)=true)
 (r2:((Region.ready md l.toArray (((listed.setIfInBounds x true).setIfInBounds y true).setIfInBounds t1 true)).contains t2 && Region.free md l.toArray (((listed.setIfInBounds x true).setIfInBounds y true).setIfInBounds t1 true) t2)=true)
 (r3:((Region.ready md l.toArray ((((listed.setIfInBounds x true).setIfInBounds y true).setIfInBounds t1 true).setIfInBounds t2 true)).contains t3 && Region.free md l.toArray ((((listed.setIfInBounds x true).setIfInBounds y true).setIfInBounds t1 true).setIfInBounds t2 true) t3)=true)
 (r4:Region.ready md l.toArray (((((listed.setIfInBounds x true).setIfInBounds y true).setIfInBounds t1 true).setIfInBounds t2 true).setIfInBounds t3 true)= [z])
 (q1:((Region.ready md l.toArray (((listed.setIfInBounds x true).setIfInBounds y true).setIfInBounds z true)).contains t1 && Region.free md l.toArray (((listed.setIfInBounds x true).setIfInBounds y true).setIfInBounds z true) t1)=true)
 (q2:((Region.ready md l.toArray ((((listed.setIfInBounds x true).setIfInBounds y true).setIfInBounds z true).setIfInBounds t1 true)).contains t2 && Region.free md l.toArray ((((listed.setIfInBounds x true).setIfInBounds y true).setIfInBounds z true).setIfInBounds t1 true) t2)=true)
 (q3:((Region.ready md l.toArray (((((listed.setIfInBounds x true).setIfInBounds y true).setIfInBounds z true).setIfInBounds t1 true).setIfInBounds t2 true)).contains t3 && Region.free md l.toArray (((((listed.setIfInBounds x true).setIfInBounds y true).setIfInBounds z true).setIfInBounds t1 true).setIfInBounds t2 true) t3)=true)
 (hwx:Region.wanted ox (yielded l.toArray a.tmps)=true) (hwy:∀v,Region.wanted oy (yielded l.toArray (a.put ox.dst v).tmps)=true) (hwz:Region.wanted oz (yielded l.toArray a.tmps)=true)
 (hQ:∀c a d v w,Q (.panic c) a w→Q (.panic c) (a.put d v) w) (hQ':∀c a d v w,Q (.panic c) (a.put d v) w→Q (.panic c) a w) (J:World→Prop) (Ax Az:Value→World→Prop) (Ay:Value→Value→World→Prop) (hJS:∀w,J w→S w) (hJ:J w)
 (stepX:∀w',J w'→∀K:Act→World→Prop,(∀v w2,(J w2∧Ax v w2∧∀u,Az u w'→Az u w2)→K (a.put ox.dst v) w2)→ox.wp P a w' K Q)
 (stepY:∀vx w',J w'→Ax vx w'→∀K:Act→World→Prop,(∀v w2,(J w2∧Ax vx w2∧Ay vx v w2∧∀u,Az u w'→Az u w2)→K ((a.put ox.dst vx).put oy.dst v) w2)→oy.wp P (a.put ox.dst vx) w' K Q)
 (stepZ:∀w',J w'→∀K:Act→World→Prop,(∀v w2,(J w2∧Az v w2∧(∀u,Ax u w'→Ax u w2)∧∀t u,Ay t u w'→Ay t u w2)→K (a.put oz.dst v) w2)→oz.wp P a w' K Q)
 (stepT:∀vx vy w',J w'→Ay vx vy w'→∃v1 v2 v3,(Region.wanted p1 (yielded l.toArray ((a.put ox.dst vx).put oy.dst vy).tmps)=true∧∀w,S w→(execOp ((a.put ox.dst vx).put oy.dst vy).eval p1).run P w=.ok (.value v1) w)∧(Region.wanted p2 (yielded l.toArray (((a.put ox.dst vx).put oy.dst vy).put p1.dst v1).tmps)=true∧∀w,S w→(execOp (((a.put ox.dst vx).put oy.dst vy).put p1.dst v1).eval p2).run P w=.ok (.value v2) w)∧(Region.wanted p3 (yielded l.toArray ((((a.put ox.dst vx).put oy.dst vy).put p1.dst v1).put p2.dst v2).tmps)=true∧∀w,S w→(execOp ((((a.put ox.dst vx).put oy.dst vy).put p1.dst v1).put p2.dst v2).eval p3).run P w=.ok (.value v3) w)∧
  ∀vz w',J w'→Ay vx vy w'→Az vz w'→wpAnyH P md l.toArray Q S fuel ((((((listed.setIfInBounds x true).setIfInBounds y true).setIfInBounds t1 true).setIfInBounds t2 true).setIfInBounds t3 true).setIfInBounds z true) ((((((a.put ox.dst vx).put oy.dst vy).put p1.dst v1).put p2.dst v2).put p3.dst v3).put oz.dst vz) w'):
 wpAnyH P md l.toArray Q S (fuel+1+1+1+1+1+1) listed a w:=by
 obtain ⟨xz1,xz2,xz3⟩:=Oper.apart_spec hxz;obtain ⟨yz1,yz2,yz3⟩:=Oper.apart_spec hyz;obtain ⟨a1,a2,a3⟩:=Oper.apart_spec h1z;obtain ⟨b1,b2,b3⟩:=Oper.apart_spec h2z;obtain ⟨c1,c2,c3⟩:=Oper.apart_spec h3z;simp only [Bool.and_eq_true] at r1 r2 r3 q1 q2 q3;have sel:∀{k:Nat} {o:Oper},l[k]? =some o→∀cs b,o.op≠.select cs b:=fun {k o} hk cs b=>Region.noSelect_spec hs k o cs b (by simpa using hk)
 have zx:∀d,oz.dst=some d→ox.dst≠some d:=fun d hd e=>xz2 d e hd
 have zy:∀d,oz.dst=some d→oy.dst≠some d:=fun d hd e=>yz2 d e hd
 -- x and y have come up,z has not
 have mid:∀vx vy w',J w'→Ax vx w'→Ay vx vy w'→wpAnyH P md l.toArray Q S (fuel+1+1+1+1) ((listed.setIfInBounds x true).setIfInBounds y true) ((a.put ox.dst vx).put oy.dst vy) w':=by
  intro vx vy w' j ax ay;obtain ⟨v1,v2,v3,⟨e1,f1⟩,⟨e2,f2⟩,⟨e3,f3⟩,rest⟩:=stepT vx vy w' j ay;refine kK h1 hs r1.2 r1.1 (fun c a w=>hQ' c a _ _ w) e1 f1 (hJS _ j) ?_;refine kK h2 hs r2.2 r2.1 (fun c a w=>hQ' c a _ _ w) e2 f2 (hJS _ j) ?_;refine kK h3 hs r3.2 r3.1 (fun c a w=>hQ' c a _ _ w) e3 f3 (hJS _ j) ?_;refine wpAnyH_all r4 (by simp) fun k hk=>?_
  obtain rfl:k=z:=by simpa using hk
  refine cy hz ((wanted_put oz _ p3.dst v3 c1).trans ((wanted_put oz _ p2.dst v2 b1).trans ((wanted_put oz _ p1.dst v1 a1).trans ((wanted_put oz _ oy.dst vy yz1).trans ((wanted_put oz a ox.dst vx xz1).trans hwz))))) (R:=fun v w2=>J w2∧Az v w2∧Ay vx vy w2) ?_ ?_
  · refine bM (ops:=l.toArray) (sel hz) c1 c2 (fun c a v w=>hQ c a _ v w) (bM (ops:=l.toArray) (sel hz) b1 b2 (fun c a v w=>hQ c a _ v w) (bM (ops:=l.toArray) (sel hz) a1 a2 (fun c a v w=>hQ c a _ v w) (bM (ops:=l.toArray) (sel hz) yz1 yz2 (fun c a v w=>hQ c a _ v w) (bM (ops:=l.toArray) (sel hz) xz1 xz2 (fun c a v w=>hQ c a _ v w) (fun K hK=>stepZ w' j K (fun v w2 h=>hK v w2 ⟨h.1,h.2.1,h.2.2.2 _ _ ay⟩))))))
  · rintro vz w2 ⟨j2,az,ay2⟩;exact ⟨hJS _ j2,rest vz w2 j2 ay2 az⟩
 -- all three have come up
 have fin:∀vx vy vz w',J w'→Ay vx vy w'→Az vz w'→wpAnyH P md l.toArray Q S (fuel+1+1+1) (((listed.setIfInBounds x true).setIfInBounds y true).setIfInBounds z true) (((a.put ox.dst vx).put oy.dst vy).put oz.dst vz) w':=by
  intro vx vy vz w' j ay az;obtain ⟨v1,v2,v3,⟨e1,f1⟩,⟨e2,f2⟩,⟨e3,f3⟩,rest⟩:=stepT vx vy w' j ay;have k1:((((a.put ox.dst vx).put oy.dst vy).put oz.dst vz).put p1.dst v1)=((((a.put ox.dst vx).put oy.dst vy).put p1.dst v1).put oz.dst vz):=(Act.put_comm _ v1 vz a2).symm;refine kK h1 hs q1.2 q1.1 (fun c a w=>hQ' c a _ _ w) ((wanted_put p1 _ oz.dst vz a3).trans e1) (fun w hw=>by rw [execOp_put (ops:=l.toArray) p1 (sel h1) _ oz.dst vz a3];exact f1 w hw) (hJS _ j) ?_;rw [k1];have k2:(((((a.put ox.dst vx).put oy.dst vy).put p1.dst v1).put oz.dst vz).put p2.dst v2)=(((((a.put ox.dst vx).put oy.dst vy).put p1.dst v1).put p2.dst v2).put oz.dst vz):=(Act.put_comm _ v2 vz b2).symm;refine kK h2 hs q2.2 q2.1 (fun c a w=>hQ' c a _ _ w) ((wanted_put p2 _ oz.dst vz b3).trans e2) (fun w hw=>by rw [execOp_put (ops:=l.toArray) p2 (sel h2) _ oz.dst vz b3];exact f2 w hw) (hJS _ j) ?_;rw [k2];have k3:((((((a.put ox.dst vx).put oy.dst vy).put p1.dst v1).put p2.dst v2).put oz.dst vz).put p3.dst v3)=((((((a.put ox.dst vx).put oy.dst vy).put p1.dst v1).put p2.dst v2).put p3.dst v3).put oz.dst vz):=(Act.put_comm _ v3 vz c2).symm;refine kK h3 hs q3.2 q3.1 (fun c a w=>hQ' c a _ _ w) ((wanted_put p3 _ oz.dst vz c3).trans e3) (fun w hw=>by rw [execOp_put (ops:=l.toArray) p3 (sel h3) _ oz.dst vz c3];exact f3 w hw) (hJS _ j) ?_;rw [k3];have h:=rest vz w' j ay az;rw [Array.setIfInBounds_comm _ _ n3z,Array.setIfInBounds_comm (xs:=((listed.setIfInBounds x true).setIfInBounds y true).setIfInBounds t1 true) _ _ n2z,Array.setIfInBounds_comm (xs:=(listed.setIfInBounds x true).setIfInBounds y true) _ _ n1z] at h;exact h
 refine wpAnyH_all hr (by simp) fun i hi=>?_
 have hi:i=x∨i=z:=by simpa using hi
 rcases hi with rfl|rfl
 · refine cy hx hwx (stepX w hJ) ?_;rintro vx w2 ⟨j2,ax,_⟩;refine ⟨hJS _ j2,wpAnyH_all hrx (by simp) fun k hk=>?_⟩;have hk:k=y∨k=z:=by simpa using hk
   rcases hk with rfl|rfl
   · refine cy hy (hwy vx) (R:=fun v w3=>J w3∧Ax vx w3∧Ay vx v w3) (fun K hK=>stepY vx w2 j2 ax K (fun v w3 h=>hK v w3 ⟨h.1,h.2.1,h.2.2.1⟩)) ?_;rintro vy w3 ⟨j3,ax3,ay3⟩;exact ⟨hJS _ j3,mid vx vy w3 j3 ax3 ay3⟩
   · refine cy hz ((wanted_put oz a ox.dst vx xz1).trans hwz) (R:=fun v w3=>J w3∧Az v w3∧Ax vx w3) (bM (ops:=l.toArray) (sel hz) xz1 xz2 (fun c a v w=>hQ c a _ v w) (fun K hK=>stepZ w2 j2 K (fun v w3 h=>hK v w3 ⟨h.1,h.2.1,h.2.2.1 _ ax⟩))) ?_;rintro vz w3 ⟨j3,az3,ax3⟩;refine ⟨hJS _ j3,wpAnyH_all hrxz (by simp) fun q hq=>?_⟩;obtain rfl:q=y:=by simpa using hq
     refine cy hy ((wanted_put oy _ oz.dst vz yz3).trans (hwy vx)) (R:=fun v w4=>J w4∧Ay vx v w4∧Az vz w4) (bM (ops:=l.toArray) (sel hy) yz3 zy (fun c a v w=>hQ c a _ v w) (fun K hK=>stepY vx w3 j3 ax3 K (fun v w4 h=>hK v w4 ⟨h.1,h.2.2.1,h.2.2.2 _ az3⟩))) ?_;rintro vy w4 ⟨j4,ay,az4⟩;have h:=fin vx vy vz w4 j4 ay az4;rw [Array.setIfInBounds_comm (xs:=listed.setIfInBounds i true) _ _ nyz,Act.put_comm (a.put ox.dst vx) vy vz yz2] at h;exact ⟨hJS _ j4,h⟩
 · refine cy hz hwz (stepZ w hJ) ?_;rintro vz w2 ⟨j2,az,_,_⟩;refine ⟨hJS _ j2,wpAnyH_all hrz (by simp) fun k hk=>?_⟩;obtain rfl:k=x:=by simpa using hk
   refine cy hx ((wanted_put ox a oz.dst vz xz3).trans hwx) (R:=fun v w3=>J w3∧Ax v w3∧Az vz w3) (bM (ops:=l.toArray) (sel hx) xz3 zx (fun c a v w=>hQ c a _ v w) (fun K hK=>stepX w2 j2 K (fun v w3 h=>hK v w3 ⟨h.1,h.2.1,h.2.2 _ az⟩))) ?_;rintro vx w3 ⟨j3,ax,az3⟩;rw [Array.setIfInBounds_comm _ _ (Ne.symm nxz),←Act.put_comm a vx vz xz2];refine ⟨hJS _ j3,wpAnyH_all hrxz (by simp) fun q hq=>?_⟩;obtain rfl:q=y:=by simpa using hq
   refine cy hy ((wanted_put oy _ oz.dst vz yz3).trans (hwy vx)) (R:=fun v w4=>J w4∧Ay vx v w4∧Az vz w4) (bM (ops:=l.toArray) (sel hy) yz3 zy (fun c a v w=>hQ c a _ v w) (fun K hK=>stepY vx w3 j3 ax K (fun v w4 h=>hK v w4 ⟨h.1,h.2.2.1,h.2.2.2 _ az3⟩))) ?_;rintro vy w4 ⟨j4,ay,az4⟩;have h:=fin vx vy vz w4 j4 ay az4;rw [Array.setIfInBounds_comm (xs:=listed.setIfInBounds k true) _ _ nyz,Act.put_comm (a.put ox.dst vx) vy vz yz2] at h;exact ⟨hJS _ j4,h⟩
end
end Go.Proofs.YtkgncijcnlfhiaaGreat
