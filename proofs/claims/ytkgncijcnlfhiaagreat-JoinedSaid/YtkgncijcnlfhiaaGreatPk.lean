import Derived.Test.YtkgncijcnlfhiaaGreatPf
namespace Go.Proofs.YtkgncijcnlfhiaaGreat
set_option linter.unusedVariables false
set_option linter.unusedSimpArgs false
open Go.RowKit
theorem Cm{l:List aK}{u:aK}{f h:Nat}(hw:∀v∈l,qH v)(hl:bw l=.inl u)(hv:aa u=(0,0,0))(hf:f≤200000)(hh:h≤5000):js (dH f h) (l.map enc) (f:Int) (h:Int)=dH f h u:=by
 unfold js;rw [if_neg (by omega),qH.all hw 0];simp only [hl,hv];rfl
theorem Bt{W:World}{vl:Value}{l:List aK}{u:aK}{f h:Nat}(hR:dh W vl l)(hw:∀v∈l,qH v)(hl:bw l=.inl u)(hv:aa u=(0,0,0))(hf:f≤200000)(hh:h≤5000)(hll:l.length≤1000):Calls Tryz.prog 12 #[vl,.int .i64 (f:Int),.int .i64 (h:Int)] W (AE W (dH f h u)):=by
 have:=pu (dH f h) (f:Int) (h:Int) l vl W hR hw (wC f h hf (by omega) l) hll
 rw [Cm hw hl hv hf hh] at this;exact this
def BW:List UInt8:= [108,101,115,115]
def Ch(i:Nat):aO:=⟨[],0,[],[o1 1 i,o1 14 0]⟩
def Cb(i:Nat):aO:=⟨[],0,[],[o1 0 i,o1 14 0]⟩
def DY(k:Nat):aO:=⟨[],0,[],[o1 0 0,o1 0 1,o1 13 ((k:Int)+1),o1 14 0]⟩
def DZ(k:Nat):aO:=⟨[0,0],0,[],[o1 2 0,o1 2 1,o1 7 0,o1 0 k,o1 6 0,o1 14 0]⟩
def BG(k:Nat):List Int:=(List.range k).map fun (i:Nat)=>(i:Int)
def jA(k:Nat)(x y:Int)(ps:List Int):aK:=⟨[],[x,y],(List.range k).map Ch++ [DY k],[⟨BW,ps,0⟩],[⟨[109,97,105,110],k⟩]⟩
def jB(k:Nat):aK:=⟨[],BG k++ [100],(List.range k).map Cb++ [DZ k],[],[⟨BW,k⟩]⟩
def B6(l:List aK):aK:=match bw l with
 | .inl u=>u
 | .inr _=>⟨[],[],[],[],[]⟩
theorem Bb{k:Nat}(h:k < 5){Q:Nat→Prop}(h0:Q 0)(h1:Q 1)(h2:Q 2)(h3:Q 3)(h4:Q 4):Q k:=by
 match k,h with
 | 0,_=>exact h0
 | 1,_=>exact h1
 | 2,_=>exact h2
 | 3,_=>exact h3
 | 4,_=>exact h4
theorem CH{k:Nat}(hk:k < 5)(x y:Int):bw [jA k x y [0,0],jB k]=.inl (B6 [jA k x y [0,0],jB k]):=Bb (Q:=fun k=>bw [jA k x y [0,0],jB k]=.inl (B6 [jA k x y [0,0],jB k])) hk (by kernel_rfl) (by kernel_rfl) (by kernel_rfl) (by kernel_rfl) (by kernel_rfl)
theorem Cr{k:Nat}(hk:k < 5)(x y:Int):bw [jB k,jA k x y [0,0]]=.inl (B6 [jB k,jA k x y [0,0]]):=Bb (Q:=fun k=>bw [jB k,jA k x y [0,0]]=.inl (B6 [jB k,jA k x y [0,0]])) hk (by kernel_rfl) (by kernel_rfl) (by kernel_rfl) (by kernel_rfl) (by kernel_rfl)
theorem CP{k:Nat}(hk:k < 5)(x y:Int):aa (B6 [jA k x y [0,0],jB k])=(0,0,0):=Bb (Q:=fun k=>aa (B6 [jA k x y [0,0],jB k])=(0,0,0)) hk (by kernel_rfl) (by kernel_rfl) (by kernel_rfl) (by kernel_rfl) (by kernel_rfl)
theorem C2{k:Nat}(hk:k < 5)(x y:Int):aa (B6 [jB k,jA k x y [0,0]])=(0,0,0):=Bb (Q:=fun k=>aa (B6 [jB k,jA k x y [0,0]])=(0,0,0)) hk (by kernel_rfl) (by kernel_rfl) (by kernel_rfl) (by kernel_rfl) (by kernel_rfl)
theorem DD{k:Nat}(hk:k < 5)(x y:Int):dH 100 0 (B6 [jA k x y [0,0],jB k])=⟨6,0,0,0,wrap64 (wrap64 (x - y)+100),[],10⟩:=Bb (Q:=fun k=>dH 100 0 (B6 [jA k x y [0,0],jB k])=⟨6,0,0,0,wrap64 (wrap64 (x - y)+100),[],10⟩) hk (by kernel_rfl) (by kernel_rfl) (by kernel_rfl) (by kernel_rfl) (by kernel_rfl)
theorem DA{k:Nat}(hk:k < 5)(x y:Int):dH 100 0 (B6 [jB k,jA k x y [0,0]])=⟨6,0,0,0,wrap64 (wrap64 (x - y)+100),[],10⟩:=Bb (Q:=fun k=>dH 100 0 (B6 [jB k,jA k x y [0,0]])=⟨6,0,0,0,wrap64 (wrap64 (x - y)+100),[],10⟩) hk (by kernel_rfl) (by kernel_rfl) (by kernel_rfl) (by kernel_rfl) (by kernel_rfl)
theorem Cy{k:Nat}(hk:k < 5)(x y:Int):(B6 [jA k x y [0,0],jB k]).aB.length=0∧(B6 [jA k x y [0,0],jB k]).aE.length=2 * k+2:=Bb (Q:=fun k=>(B6 [jA k x y [0,0],jB k]).aB.length=0∧(B6 [jA k x y [0,0],jB k]).aE.length=2 * k+2) hk ⟨by kernel_rfl,by kernel_rfl⟩ ⟨by kernel_rfl,by kernel_rfl⟩ ⟨by kernel_rfl,by kernel_rfl⟩ ⟨by kernel_rfl,by kernel_rfl⟩ ⟨by kernel_rfl,by kernel_rfl⟩
theorem C3{k:Nat}(hk:k < 5)(x y:Int):bw [jB k,jA k x y [0,0],jB k]=.inr (6,2):=Bb (Q:=fun k=>bw [jB k,jA k x y [0,0],jB k]=.inr (6,2)) hk (by kernel_rfl) (by kernel_rfl) (by kernel_rfl) (by kernel_rfl) (by kernel_rfl)
theorem DI{k:Nat}(hk:k < 5)(x y:Int):bw [jA k x y [0,0]]=.inr (7,0):=Bb (Q:=fun k=>bw [jA k x y [0,0]]=.inr (7,0)) hk (by kernel_rfl) (by kernel_rfl) (by kernel_rfl) (by kernel_rfl) (by kernel_rfl)
theorem DW{k:Nat}(hk:k < 5)(x y:Int):bw [jB k,jA k x y [0]]=.inr (8,1):=Bb (Q:=fun k=>bw [jB k,jA k x y [0]]=.inr (8,1)) hk (by kernel_rfl) (by kernel_rfl) (by kernel_rfl) (by kernel_rfl) (by kernel_rfl)
theorem DV{k:Nat}(hk:k < 5)(x y:Int):ak (jA k x y [0,0])=true:=Bb (Q:=fun k=>ak (jA k x y [0,0])=true) hk (by kernel_rfl) (by kernel_rfl) (by kernel_rfl) (by kernel_rfl) (by kernel_rfl)
theorem DX{k:Nat}(hk:k < 5):ak (jB k)=true:=Bb (Q:=fun k=>ak (jB k)=true) hk (by kernel_rfl) (by kernel_rfl) (by kernel_rfl) (by kernel_rfl) (by kernel_rfl)
theorem DN{k:Nat}(hk:k < 5){x y:Int}(hx:-9223372036854775808≤x∧x≤9223372036854775807)(hy:-9223372036854775808≤y∧y≤9223372036854775807):qH (jA k x y [0,0]):=rS (DV hk x y) (fun z hz=>by
 have:z=x∨z=y:=by simpa [jA] using hz
 rcases this with rfl|rfl<;>omega) (by simp [jA];omega) (fun f hf=>by
 have hf:(∃a,a < k∧Ch a=f)∨f=DY k:=by simpa [jA] using hf
 rcases hf with ⟨a,_,rfl⟩|rfl
 · show 2≤60;omega
 · show 4≤60;omega) (by simp [jA]) (fun i hi=>by
 have:i=⟨BW,[0,0],0⟩:=by simpa [jA] using hi
 subst this;decide) (by simp [jA]) (fun e he=>by
 have:e=⟨[109,97,105,110],k⟩:=by simpa [jA] using he
 subst this;show 4≤100;omega)
theorem DQ{k:Nat}(hk:k < 5):qH (jB k):=rS (DX hk) (fun z hz=>by
 have hz:(∃a:Nat,a < k∧(a:Int)=z)∨z=100:=by simpa [jB,BG] using hz
 rcases hz with ⟨a,h,rfl⟩|rfl<;>omega) (by simp [jB];omega) (fun f hf=>by
 have hf:(∃a,a < k∧Cb a=f)∨f=DZ k:=by simpa [jB] using hf
 rcases hf with ⟨a,_,rfl⟩|rfl
 · show 2≤60;omega
 · show 6≤60;omega) (by simp [jB]) (fun i hi=>by simp [jB] at hi) (by simp [jB]) (fun e he=>by
 have:e=⟨BW,k⟩:=by simpa [jB] using he
 subst this;show 4≤100;omega)
end Go.Proofs.YtkgncijcnlfhiaaGreat
