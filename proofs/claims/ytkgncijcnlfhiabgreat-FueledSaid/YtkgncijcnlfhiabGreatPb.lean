import Derived.Test.YtkgncijcnlfhiabGreatMa
import Derived.Test.YtkgncijcnlfhiabGreatPa
namespace Go.Proofs.YtkgncijcnlfhiabGreat
set_option linter.unusedVariables false
set_option linter.unusedSimpArgs false
open Go.RowKit
attribute [local go_sem ↓] Go.wp_at_zero Go.wp_at_succ
def jK(c n:Int):Int:=if c < 0 then (-(c+1)) % n else c % n
theorem yD{c n:Int}(hn:0 < n):0<=jK c n/\jK c n < n:=by
 unfold jK;split
 · exact ⟨Int.emod_nonneg _ Q5,Int.emod_lt_of_pos _ hn⟩
 · exact ⟨Int.emod_nonneg _ Q5,Int.emod_lt_of_pos _ hn⟩
set_option maxRecDepth 100000 in
theorem vD(c n:Int)(w:World)(hc:-9223372036854775808<=c/\c<=9223372036854775807)(hn:0 < n)(T6:n<=9223372036854775807):
 Calls Tryz.prog 7 #[.int .i64 c,.int .i64 n] w fun x w'=>x=.returned (.int .i64 (jK c n))/\w'=w:=by
 go_enter Tryz.func7,Tryz.ntmps7
 go_wp2
 · rename_i h
   have e:jK c n=-(c+1).tmod n:=by
    unfold jK;rw [if_pos h,<-Int.tmod_eq_emod_of_nonneg Q5,Int.neg_tmod]
   rw [e];go_ret
   exact ⟨rfl,rfl⟩
 · rename_i h
   have e:jK c n=c % n:=by
    unfold jK;rw [if_neg Q5]
   rw [e];go_ret
   exact ⟨rfl,rfl⟩
theorem jp(c:Int)(n:Nat)(hc:-9223372036854775808<=c/\c<=9223372036854775807)(hn:0 < n)(T6:n<=1000000):∃k:Nat,k < n/\∀w,Calls Tryz.prog 7 #[.int .i64 c,.int .i64 (n:Int)] w fun x w'=>x=.returned (.int .i64 (k:Int))/\w'=w:=by
 have h:=yD (c:=c) (n:=(n:Int)) Q5;refine ⟨(jK c n).toNat,Q5,fun w=>?_⟩;have e:((jK c n).toNat:Int)=jK c n:=Q5
 rw [e];exact vD c n w hc Q5 Q5
theorem v_{wx:World}{b n:Nat}{M:Array Value}{t:TypeId}{l:List aw}(h:wx.heap[b]? =some (.cells M t (0,0)))(hM:M.toList=l.flatMap cC)(hn:n=l.length)(hl:l.length<=1000):eH wx (.slice (some ⟨b,0,none⟩) n n) l:=by
 subst hn;refine ⟨_,_,rfl,by unfold maxLen;omega,fun i x hx=>?_⟩;have hc:∀r,r < 3->wx.cell? ⟨b,0+i * 3+r,none⟩=(cC x)[r]? :=fun r hr=>by
  rw [aJ h,Nat.zero_add,<-Array.getElem?_toList,hM];exact de jU l i r x hx hr
 exact ⟨b,0,rfl,hc 0 Q5,hc 1 Q5,hc 2 Q5⟩
theorem mW{wx:World}{b n:Nat}{M:Array Value}{t:TypeId}{l:List Int}(h:wx.heap[b]? =some (.cells M t (0,0)))(hM:M.toList=fP l)(hn:n=l.length)(hl:l.length<=1000):aW wx (.slice (some ⟨b,0,none⟩) n n) l:=by
 subst hn;refine ⟨_,_,rfl,by unfold maxLen;omega,fun i hi=>⟨b,0,rfl,?_⟩⟩;rw [aJ h,Nat.zero_add,<-Array.getElem?_toList,hM,fP,List.getElem?_map,List.getElem?_eq_getElem hi,List.getD_eq_getElem?_getD,List.getElem?_eq_getElem hi];rfl
theorem sG{wx:World}{b n:Nat}{v:Value}{t:TypeId}{l:List Int}(h:wx.heap[b]? =some (.cells #[v] t (0,0)))(hv:aW wx v l):bM wx (.slice (some ⟨b,0,none⟩) 1 1) [l]:=by
 refine ⟨_,_,rfl,by unfold maxLen;simp,fun i x hx=>?_⟩;have hi:i=0:=by have:=(List.getElem?_eq_some_iff.1 hx).1;simp at this;omega
 subst hi;simp only [List.getElem?_cons_zero,Option.some.injEq] at hx;subst hx;exact ⟨b,0,v,rfl,by rw [aJ h];rfl,hv⟩
theorem vY{wx:World}{b n:Nat}{M:Array Value}{t:TypeId}{es:List LF}(h:wx.heap[b]? =some (.cells M t (0,0)))(hM:M.toList=es.flatMap cF)(hn:n=es.length)(hl:es.length<=1000)(he:∀e∈es,aW wx e.vp e.f.aF/\aW wx e.vl e.f.aG/\eH wx e.vc e.f.code):dH wx (.slice (some ⟨b,0,none⟩) n n) (es.map (·.f)):=by
 subst hn;refine ⟨some ⟨b,0,none⟩,es.length,Q6,by unfold maxLen;simp;omega,fun i x hx=>?_⟩;rw [List.getElem?_map] at hx;obtain ⟨e,FG,rfl⟩:=Option.map_eq_some_iff.1 hx;have hc:∀r,r < 4->wx.cell? ⟨b,0+i * 4+r,none⟩=(cF e)[r]? :=fun r hr=>by
  rw [aJ h,Nat.zero_add,<-Array.getElem?_toList,hM];exact de ww es i r e FG hr
 obtain ⟨h1,h2,h3⟩:=he e (List.mem_of_getElem? FG);exact ⟨b,0,e.vp,e.vl,e.vc,rfl,hc 0 Q5,hc 1 Q5,hc 2 Q5,hc 3 Q5,h1,h2,h3⟩
theorem Br(w:World):aW w (.slice none 0 0) []:=⟨none,0,rfl,Nat.zero_le _,fun i hi=>by simp at hi⟩
theorem A'(w:World):bo w (.slice none 0 0) []:=⟨none,0,rfl,Nat.zero_le _,fun i x hi=>by simp at hi⟩
theorem Ak{wx:World}{eb:Nat}{t:TypeId}(he:wx.heap[eb]? =some (.cells #[tt,.int .i64 0] t (0,0))):dJ wx (.slice (some ⟨eb,0,none⟩) 1 1) [xV]:=by
 refine ⟨_,_,rfl,by unfold maxLen;decide,fun i x hx=>?_⟩;have hi:i=0:=by have:=(List.getElem?_eq_some_iff.1 hx).1;simp at this;omega
 subst hi;simp only [List.getElem?_cons_zero,Option.some.injEq] at hx;subst hx;exact ⟨eb,0,tt,rfl,by rw [aJ he];rfl,by rw [aJ he];rfl,_,rfl,rfl,by unfold maxLen;decide⟩
theorem xN{w wx:World}{M:Array Value}{t:TypeId}(g:Gr (w.alloc (.cells M t)) wx):wx.heap[w.heap.size]? =some (.cells M t (0,0)):=(g.block _ Q6 Q6).trans (heap_alloc_new w _)
end Go.Proofs.YtkgncijcnlfhiabGreat
