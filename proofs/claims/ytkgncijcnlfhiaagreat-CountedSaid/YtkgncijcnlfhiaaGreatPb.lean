import Derived.Test.YtkgncijcnlfhiaaGreatMa
import Derived.Test.YtkgncijcnlfhiaaGreatPa
namespace Go.Proofs.YtkgncijcnlfhiaaGreat
set_option linter.unusedVariables false
set_option linter.unusedSimpArgs false
open Go.RowKit
attribute [local go_sem ↓] Go.wp_at_zero Go.wp_at_succ
theorem nO{u:aK}{f h:Nat}(hw:qH u)(hl:bw [u]=.inl u)(hv:aa u=(0,0,0))(hf:f≤200000)(hh:h≤5000):js (dH f h) ([u].map enc) (f:Int) (h:Int)=dH f h u:=by
 unfold js;rw [if_neg (by omega),qH.all (l:= [u]) (fun v hv=>by rw [List.mem_singleton.1 hv];exact hw) 0];simp only [hl,hv];rfl
def dk(c n:Int):Int:=if c < 0 then (-(c+1)) % n else c % n
theorem lO{c n:Int}(hn:0 < n):0≤dk c n∧dk c n < n:=by
 unfold dk;split
 · exact ⟨Int.emod_nonneg _ (by omega),Int.emod_lt_of_pos _ hn⟩
 · exact ⟨Int.emod_nonneg _ (by omega),Int.emod_lt_of_pos _ hn⟩
set_option maxRecDepth 100000 in
theorem kf(c n:Int)(w:World)(hc:-9223372036854775808≤c∧c≤9223372036854775807)(hn:0 < n)(hn2:n≤9223372036854775807):
 Calls Tryz.prog 8 #[.int .i64 c,.int .i64 n] w fun x w'=>x=.returned (.int .i64 (dk c n))∧w'=w:=by
 go_enter Tryz.func8,Tryz.ntmps8
 go_wp2
 · rename_i h
   have e:dk c n=-(c+1).tmod n:=by
    unfold dk;rw [if_pos h,←Int.tmod_eq_emod_of_nonneg (by omega),Int.neg_tmod]
   rw [e];go_ret
   exact ⟨rfl,rfl⟩
 · rename_i h
   have e:dk c n=c % n:=by
    unfold dk;rw [if_neg (by omega)]
   rw [e];go_ret
   exact ⟨rfl,rfl⟩
theorem g9(c:Int)(n:Nat)(hc:-9223372036854775808≤c∧c≤9223372036854775807)(hn:0 < n)(hn2:n≤1000000):∃k:Nat,k < n∧∀w,Calls Tryz.prog 8 #[.int .i64 c,.int .i64 (n:Int)] w fun x w'=>x=.returned (.int .i64 (k:Int))∧w'=w:=by
 have h:=lO (c:=c) (n:=(n:Int)) (by omega);refine ⟨(dk c n).toNat,by omega,fun w=>?_⟩;have e:((dk c n).toNat:Int)=dk c n:=by omega
 rw [e];exact kf c n w hc (by omega) (by omega)
theorem kT{wx:World}{b n:Nat}{M:Array Value}{t:TypeId}{es:List LF}(h:wx.heap[b]? =some (.cells M t (0,0)))(hM:M.toList=es.flatMap cF)(hn:n=es.length)(hl:es.length≤1000)(he:∀e∈es,aX wx e.vp e.f.aF∧aX wx e.vl e.f.aG∧dM wx e.vc e.f.code):cG wx (.slice (some ⟨b,0,none⟩) n n) (es.map (·.f)):=by
 subst hn;refine ⟨some ⟨b,0,none⟩,es.length,by simp,by unfold maxLen;simp;omega,fun i x hx=>?_⟩;rw [List.getElem?_map] at hx;obtain ⟨e,hxe,rfl⟩:=Option.map_eq_some_iff.1 hx;have hc:∀r,r < 4→wx.cell? ⟨b,0+i * 4+r,none⟩=(cF e)[r]? :=fun r hr=>by
  rw [aI h,Nat.zero_add,←Array.getElem?_toList,hM];exact dL qd es i r e hxe hr
 obtain ⟨h1,h2,h3⟩:=he e (List.mem_of_getElem? hxe);exact ⟨b,0,e.vp,e.vl,e.vc,rfl,hc 0 (by omega),hc 1 (by omega),hc 2 (by omega),hc 3 (by omega),h1,h2,h3⟩
theorem y_(w:World):aX w (.slice none 0 0) []:=⟨none,0,rfl,Nat.zero_le _,fun i hi=>by simp at hi⟩
theorem CR(w:World):bG w (.slice none 0 0) []:=⟨none,0,rfl,Nat.zero_le _,fun i x hi=>by simp at hi⟩
theorem uo(w:World):bK w (.slice none 0 0) []:=⟨none,0,rfl,Nat.zero_le _,fun i x hi=>by simp at hi⟩
theorem qM{wx:World}{eb:Nat}{t:TypeId}(he:wx.heap[eb]? =some (.cells #[ms,.int .i64 0] t (0,0))):b8 wx (.slice (some ⟨eb,0,none⟩) 1 1) [mI]:=by
 refine ⟨_,_,rfl,by unfold maxLen;decide,fun i x hx=>?_⟩;have hi:i=0:=by have:=(List.getElem?_eq_some_iff.1 hx).1;simp at this;omega
 subst hi;simp only [List.getElem?_cons_zero,Option.some.injEq] at hx;subst hx;exact ⟨eb,0,ms,rfl,by rw [aI he];rfl,by rw [aI he];rfl,_,rfl,rfl,by unfold maxLen;decide⟩
theorem rL{w:World}{b:Nat}{t:TypeId}{y0 y1 y2 y3 y4:Value}{u:aK}(h:w.heap[b]? =some (.cells #[y0,y1,y2,y3,y4] t (0,0)))(hu:cD w (.agg #[y0,y1,y2,y3,y4]) u):dh w (.slice (some ⟨b,0,none⟩) 1 1) [u]:=by
 refine ⟨_,_,rfl,by simp [maxLen],fun i x hx=>?_⟩;have hi:i=0:=by have:=(List.getElem?_eq_some_iff.1 hx).1;simp at this;omega
 subst hi;simp only [List.getElem?_cons_zero,Option.some.injEq] at hx;subst hx;exact ⟨b,0,y0,y1,y2,y3,y4,rfl,by rw [aI h];rfl,by rw [aI h];rfl,by rw [aI h];rfl,by rw [aI h];rfl,by rw [aI h];rfl,hu⟩
theorem l8{W:World}{vl:Value}{u:aK}{f h:Nat}(hR:dh W vl [u])(hw:qH u)(hl:bw [u]=.inl u)(hv:aa u=(0,0,0))(hf:f≤200000)(hh:h≤5000):Calls Tryz.prog 12 #[vl,.int .i64 (f:Int),.int .i64 (h:Int)] W (AE W (dH f h u)):=by
 have:=pu (dH f h) (f:Int) (h:Int) [u] vl W hR (fun v hv=>by rw [List.mem_singleton.1 hv];exact hw) (wC f h hf (by omega) [u]) (by simp)
 rw [nO hw hl hv hf hh] at this;exact this
end Go.Proofs.YtkgncijcnlfhiaaGreat
