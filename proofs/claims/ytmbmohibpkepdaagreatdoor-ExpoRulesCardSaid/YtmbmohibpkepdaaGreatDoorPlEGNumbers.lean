/-
 Plain lemmas on numbers that are written as digits of some base: f 0 is the lowest digit.
 Shifts, masks and the length of words, in plain numbers; the division of a half by trial. No program is named here.
 Shifts of numbers that are written as words; how many bits a number has. No program is named here.
 Dyads in plain numbers: how many zeros a number ends in, its odd part, how many bits it has; what a plain dyad is made of. No program is named here.
 The division of long numbers word by word, in plain numbers: a guess by the highest words, set right. No program is named here.
 The root by halves, in plain numbers. No program is named here.
 One step of the root by halves: all of its numbers, and their sizes. No program is named here.
 What is cut to p bits, in plain numbers: bits behind those that are kept tell no more than whether there are any. No program is named here.
-/
import Derived.Laws.BitsAllLaws
import Derived.Laws.Bits64
import Derived.IntWalk
import Derived.Lib.ItoaNum
import Derived.Lib.TrailingZeros
namespace Go.Proofs.YtmbmohibpkepdaaGreatDoor
def B64:Nat:=18446744073709551616
theorem B64_pos:0 < B64:=by unfold B64;omega
def vs (b:Nat) (f:Nat→Nat):Nat→Nat
 | 0=>0
 | n+1=>vs b f n+f n*b^n
def Cn (n:Nat) (f:Nat→Nat):Prop:=n=0∨f (n-1)≠0
def tl (f:Nat→Nat):Nat→Nat
 | 0=>0
 | k+1=>if f k=0 then tl f k else k+1
def upd (f:Nat→Nat) (i x:Nat):Nat→Nat:=fun j=>if j=i then x else f j
theorem upd_same (f:Nat→Nat) (i x:Nat):upd f i x i=x:=by simp [upd]
theorem upd_other (f:Nat→Nat) (i x j:Nat) (h:j≠i):upd f i x j=f j:=by simp [upd,h]
theorem vs_zero (b:Nat) (f:Nat→Nat):vs b f 0=0:=rfl
theorem vs_succ (b:Nat) (f:Nat→Nat) (n:Nat):vs b f (n+1)=vs b f n+f n*b^n:=rfl
theorem vs_congr {b:Nat} {f g:Nat→Nat} {n:Nat} (h:∀ j,j < n→f j=g j):vs b f n=vs b g n:=by
 induction n with
 | zero=>rfl
 | succ n ih=>rw [vs_succ,vs_succ,ih (fun j hj=>h j (by omega)),h n (by omega)]
theorem vs_lt {b:Nat} {f:Nat→Nat} {n:Nat} (h:∀ j,j < n→f j < b):vs b f n < b^n:=by
 induction n with
 | zero=>simp [vs_zero]
 | succ n ih =>
  have h1:=ih (fun j hj=>h j (by omega))
  have h2:=h n (by omega)
  rw [vs_succ,Nat.pow_succ]
  have h3:(f n+1)*b^n≤b*b^n:=Nat.mul_le_mul_right _ h2
  rw [Nat.add_mul,Nat.one_mul] at h3
  rw [Nat.mul_comm (b^n) b]
  omega
theorem vs_add (b:Nat) (f:Nat→Nat) (m n:Nat):vs b f (m+n)=vs b f m+b^m*vs b (fun j=>f (m+j)) n:=by
 induction n with
 | zero=>simp [vs_zero]
 | succ n ih =>
  rw [← Nat.add_assoc,vs_succ,ih,vs_succ,Nat.mul_add,Nat.pow_add]
  have:f (m+n)*(b^m*b^n)=b^m*(f (m+n)*b^n):=by ac_rfl
  omega
theorem vs_upd_ge (b:Nat) (f:Nat→Nat) (i x n:Nat) (h:n≤i):vs b (upd f i x) n=vs b f n :=
 vs_congr fun j hj=>upd_other f i x j (by omega)
theorem vs_tl (b:Nat) (f:Nat→Nat) (n:Nat):vs b f (tl f n)=vs b f n:=by
 induction n with
 | zero=>rfl
 | succ n ih =>
  unfold tl
  by_cases h:f n=0
  · rw [if_pos h,ih,vs_succ,h,Nat.zero_mul,Nat.add_zero]
  · rw [if_neg h]
theorem tl_le (f:Nat→Nat) (n:Nat):tl f n≤n:=by
 induction n with
 | zero=>exact Nat.le_refl _
 | succ n ih=>unfold tl;split <;> omega
theorem tl_cn (f:Nat→Nat) (n:Nat):Cn (tl f n) f:=by
 induction n with
 | zero=>exact .inl rfl
 | succ n ih =>
  unfold tl
  by_cases h:f n=0
  · rw [if_pos h];exact ih
  · rw [if_neg h];exact .inr (by simpa using h)
theorem vs_ge {b n:Nat} {f:Nat→Nat} (h:Cn n f) (hn:0 < n):b^(n-1)≤vs b f n:=by
 rcases h with h | h
 · omega
 · obtain ⟨k,rfl⟩:∃ k,n=k+1:=⟨n-1,by omega⟩
   rw [vs_succ]
   have:1*b^k≤f k*b^k:=Nat.mul_le_mul_right _ (by simp only [Nat.add_sub_cancel] at h;omega)
   simp only [Nat.add_sub_cancel]
   omega
theorem vs_eq_zero {b n:Nat} {f:Nat→Nat} (hb:0 < b) (h:Cn n f) (hv:vs b f n=0):n=0:=by
 rcases Nat.eq_zero_or_pos n with h0 | h0
 · exact h0
 · have h1:=vs_ge (b:=b) h h0
   have h2:0 < b^(n-1):=Nat.pow_pos hb
   omega
theorem cn_le {b n m:Nat} {f:Nat→Nat} (hb:1 < b) (h:Cn n f) (hv:vs b f n < b^m):n≤m:=by
 rcases Nat.eq_zero_or_pos n with h0 | h0
 · omega
 · have h1:=vs_ge (b:=b) h h0
   have h2:b^(n-1) < b^m:=by omega
   have h3:=(Nat.pow_lt_pow_iff_right hb).1 h2
   omega
theorem digits_eq {b:Nat} {f g:Nat→Nat} {n:Nat} (hf:∀ j,j < n→f j < b) (hg:∀ j,j < n→g j < b) (hv:vs b f n=vs b g n):∀ j,j < n→f j=g j:=by
 induction n with
 | zero=>intro j hj;omega
 | succ n ih =>
  have h1:=vs_lt (fun j hj=>hf j (by omega):∀ j,j < n→f j < b)
  have h2:=vs_lt (fun j hj=>hg j (by omega):∀ j,j < n→g j < b)
  rw [vs_succ,vs_succ] at hv
  have hp:0 < b^n:=by omega
  have e1:f n=g n:=by
   have a1:(vs b f n+f n*b^n)/b^n=f n:=by rw [Nat.add_mul_div_right _ _ hp,Nat.div_eq_of_lt h1,Nat.zero_add]
   have a2:(vs b g n+g n*b^n)/b^n=g n:=by rw [Nat.add_mul_div_right _ _ hp,Nat.div_eq_of_lt h2,Nat.zero_add]
   rw [← a1,← a2,hv]
  have e2:vs b f n=vs b g n:=by rw [e1] at hv;omega
  intro j hj
  rcases Nat.lt_or_ge j n with hlt | hge
  · exact ih (fun j hj=>hf j (by omega)) (fun j hj=>hg j (by omega)) e2 j hlt
  · have:j=n:=by omega
    subst this;exact e1
theorem canon_eq {b n m:Nat} {f g:Nat→Nat} (hb:1 < b) (hf:∀ j,j < n→f j < b) (hg:∀ j,j < m→g j < b) (cf:Cn n f) (cg:Cn m g) (hv:vs b f n=vs b g m) :
 n=m∧∀ j,j < n→f j=g j:=by
 have h1:=cn_le hb cf (hv ▸ vs_lt hg)
 have h2:=cn_le hb cg (hv ▸ vs_lt hf)
 have:n=m:=by omega
 subst this
 exact ⟨rfl,digits_eq hf hg hv⟩
theorem vs_mul (b x:Nat) (y:Nat→Nat) (n:Nat):vs b (fun j=>x*y j) n=x*vs b y n:=by
 induction n with
 | zero=>simp [vs_zero]
 | succ n ih=>rw [vs_succ,vs_succ,ih,Nat.mul_add,Nat.mul_assoc]
theorem step_add {V S Y c b n s y r d:Nat} (h:V+c*b^n=S+Y) (hr:r+d*b=s+y+c):V+r*b^n+d*b^(n+1)=S+s*b^n+(Y+y*b^n):=by
 have h1:(r+d*b)*b^n=(s+y+c)*b^n:=by rw [hr]
 rw [Nat.add_mul,Nat.add_mul,Nat.add_mul] at h1
 have h2:d*b^(n+1)=d*b*b^n:=by rw [Nat.pow_succ];ac_rfl
 omega
end Go.Proofs.YtmbmohibpkepdaaGreatDoor
namespace Go.Proofs.YtmbmohibpkepdaaGreatDoor
theorem B64_pow:B64=2^64:=by unfold B64;decide
theorem len_bounds (x:Nat) (h0:0 < x) (h:x < B64):1≤Lib.bitLen x∧Lib.bitLen x≤64∧2^(Lib.bitLen x-1)≤x∧x < 2^Lib.bitLen x:=by
 rw [B64_pow] at h
 obtain ⟨h1,h2,h3⟩:=Lib.bitLenAux_bounds 64 x h (by omega)
 refine ⟨h1,?_,h2,h3⟩
 have h4:2^(Lib.bitLenAux 64 x-1) < 2^64:=Nat.lt_of_le_of_lt h2 h
 have h5:=(Nat.pow_lt_pow_iff_right (by omega)).1 h4
 show Lib.bitLenAux 64 x≤64
 omega
theorem shl_word (x s:Nat):IntKind.u64.wrap ((x:Int)*2^s)=((x*2^s%B64:Nat):Int):=by
 rw [IntKind.wrap_u64]
 have e:((x:Int)*2^s)=((x*2^s:Nat):Int):=by simp
 rw [e]
 unfold B64
 omega
theorem shr_word (x s:Nat):((x:Int))/2^s=((x/2^s:Nat):Int):=by simp
theorem and_mask (x:Nat) (h:x < B64):bits .and .u64 (x:Int) 4294967295=((x%4294967296:Nat):Int):=by
 have e:=u64_and_nat x 4294967295 h (by omega)
 rw [show (((4294967295:Nat)):Int)=4294967295 from rfl] at e
 rw [e,show (4294967295:Nat)=2^32-1 from rfl,Nat.and_two_pow_sub_one_eq_mod]
theorem or_word (x y s:Nat) (hy:y < B64) (hs:s≤64):(x*2^s%B64) ||| (y/2^(64-s))=x*2^s%B64+y/2^(64-s):=by
 have e:x*2^s%B64=2^s*(x%2^(64-s)):=by
  rw [B64_pow,show (2:Nat)^64=2^s*2^(64-s) by rw [← Nat.pow_add];congr 1;omega,Nat.mul_comm x,Nat.mul_mod_mul_left]
 have hlt:y/2^(64-s) < 2^s:=by
  apply Nat.div_lt_of_lt_mul
  rw [← Nat.pow_add,show 64-s+s=64 by omega,← B64_pow]
  exact hy
 rw [e,← Nat.two_pow_add_eq_or_of_lt hlt]
theorem or_word_int (x y s:Nat) (hy:y < B64) (hs:s≤64):bits .or .u64 ((x*2^s%B64:Nat):Int) ((y/2^(64-s):Nat):Int)=((x*2^s%B64+y/2^(64-s):Nat):Int):=by
 have h1:x*2^s%B64 < B64:=Nat.mod_lt _ B64_pos
 have h2:y/2^(64-s) < B64:=Nat.lt_of_le_of_lt (Nat.div_le_self _ _) hy
 rw [u64_or_nat _ _ h1 h2,or_word x y s hy hs]
theorem or_word_sum (x y s:Nat) (hy:y < B64) (hs:s≤64):x*2^s%B64+y/2^(64-s)=(x*B64+y)*2^s/B64%B64:=by
 have e:(x*B64+y)*2^s/B64=x*2^s+y/2^(64-s):=by
  have h1:(x*B64+y)*2^s=x*2^s*B64+y*2^s:=by rw [Nat.add_mul];congr 1;ac_rfl
  have h2:y*2^s/B64=y/2^(64-s):=by
   rw [B64_pow,show (2:Nat)^64=2^(64-s)*2^s by rw [← Nat.pow_add];congr 1;omega,Nat.mul_div_mul_right _ _ (Nat.two_pow_pos s)]
  rw [h1,Nat.add_comm,Nat.add_mul_div_right _ _ B64_pos,h2,Nat.add_comm]
 rw [e]
 have h1:x*2^s%B64 < B64:=Nat.mod_lt _ B64_pos
 have e2:x*2^s%B64=2^s*(x%2^(64-s)):=by
  rw [B64_pow,show (2:Nat)^64=2^s*2^(64-s) by rw [← Nat.pow_add];congr 1;omega,Nat.mul_comm x,Nat.mul_mod_mul_left]
 have hlt:y/2^(64-s) < 2^s:=by
  apply Nat.div_lt_of_lt_mul
  rw [← Nat.pow_add,show 64-s+s=64 by omega,← B64_pow]
  exact hy
 have hsum:x*2^s%B64+y/2^(64-s) < B64:=by
  have h3:x%2^(64-s) < 2^(64-s):=Nat.mod_lt _ (Nat.two_pow_pos _)
  have h4:2^s*(x%2^(64-s)+1)≤2^s*2^(64-s):=Nat.mul_le_mul_left _ h3
  rw [← Nat.pow_add,show s+(64-s)=64 by omega,← B64_pow,Nat.mul_add,Nat.mul_one] at h4
  rw [e2];omega
 rw [Nat.add_mod,← Nat.add_mod,Nat.add_mod]
 have h5:y/2^(64-s)%B64=y/2^(64-s):=Nat.mod_eq_of_lt (Nat.lt_of_le_of_lt (Nat.div_le_self _ _) hy)
 rw [h5,Nat.mod_eq_of_lt hsum]
def Half (U a1 a0 u q r:Nat):Prop:=q*a1+r=U∧(U*4294967296+u)/(a1*4294967296+a0)≤q
section
variable {U a1 a0 u q r:Nat}
theorem Half.start (ha:2147483648≤a1) (hu:u < 4294967296):Half U a1 a0 u (U/a1) (U%a1):=by
 refine ⟨by rw [Nat.mul_comm];exact Nat.div_add_mod U a1,?_⟩
 rw [Nat.le_div_iff_mul_le (by omega)]
 generalize hQ:(U*4294967296+u)/(a1*4294967296+a0)=Q
 have h1:Q*(a1*4294967296+a0)≤U*4294967296+u:=by rw [← hQ];exact Nat.div_mul_le_self _ _
 rw [Nat.mul_add,← Nat.mul_assoc] at h1
 omega
theorem Half.down (h:Half U a1 a0 u q r) (hU:U < a1*4294967296+a0) (hu:u < 4294967296) (hc:4294967296≤q∨4294967296*r+u < q*a0):0 < q∧Half U a1 a0 u (q-1) (r+a1):=by
 obtain ⟨h1,h2⟩:=h
 have hlt:(U*4294967296+u)/(a1*4294967296+a0) < q:=by
  rcases hc with hc | hc
  · refine Nat.lt_of_lt_of_le (Nat.div_lt_of_lt_mul ?_) hc
    have:(U+1)*4294967296≤(a1*4294967296+a0)*4294967296:=Nat.mul_le_mul_right _ hU
    omega
  · apply Nat.div_lt_of_lt_mul
    have e:(a1*4294967296+a0)*q=q*a1*4294967296+q*a0:=by rw [Nat.add_mul];congr 1 <;> ac_rfl
    rw [e];omega
 have hq:0 < q:=Nat.lt_of_le_of_lt (Nat.zero_le _) hlt
 refine ⟨hq,?_,Nat.le_sub_one_of_lt hlt⟩
 clear hlt h2
 obtain ⟨k,rfl⟩:∃ k,q=k+1:=⟨q-1,by omega⟩
 rw [Nat.add_mul,Nat.one_mul] at h1
 simp only [Nat.add_sub_cancel]
 omega
theorem Half.done (h:Half U a1 a0 u q r) (ha:2147483648≤a1) (hc:q*a0≤4294967296*r+u):q=(U*4294967296+u)/(a1*4294967296+a0):=by
 obtain ⟨h1,h2⟩:=h
 apply Nat.le_antisymm _ h2
 rw [Nat.le_div_iff_mul_le (by omega)]
 have e:q*(a1*4294967296+a0)=q*a1*4294967296+q*a0:=by rw [Nat.mul_add];congr 1;ac_rfl
 rw [e];omega
theorem Half.far (h:Half U a1 a0 u q r) (ha:2147483648≤a1) (ha0:a0 < 4294967296) (hU:U < a1*4294967296+a0) (hr:4294967296≤r):q=(U*4294967296+u)/(a1*4294967296+a0):=by
 have hq:q < 4294967296:=by
  rcases Nat.lt_or_ge q 4294967296 with h5 | h5
  · exact h5
  · have:4294967296*a1≤q*a1:=Nat.mul_le_mul_right _ h5
    have:=h.1
    omega
 refine h.done ha ?_
 have:q*a0≤4294967295*4294967295:=Nat.mul_le_mul (by omega) (by omega)
 omega
end
theorem left_word {U u p V:Nat} (h:U*4294967296+u=p+V) (hV:V < B64) :
 IntKind.u64.wrap (IntKind.u64.wrap (IntKind.u64.wrap ((U:Int)*4294967296)+(u:Int))-IntKind.u64.wrap (p:Int))=(V:Int):=by
 simp only [IntKind.wrap_u64]
 unfold B64 at hV
 omega
end Go.Proofs.YtmbmohibpkepdaaGreatDoor
namespace Go.Proofs.YtmbmohibpkepdaaGreatDoor
theorem shl_div (x r:Nat) (hr:r≤64):x*2^r/B64=x/2^(64-r):=by
 rw [B64_pow,show (2:Nat)^64=2^(64-r)*2^r by rw [← Nat.pow_add];congr 1;omega,Nat.mul_div_mul_right _ _ (Nat.two_pow_pos r)]
theorem shl_split (x r:Nat) (hr:r≤64):x*2^r%B64+x/2^(64-r)*B64=x*2^r:=by
 rw [← shl_div x r hr,Nat.mul_comm (x*2^r/B64)];exact Nat.mod_add_div _ _
theorem shr_lt (x r:Nat) (hr:r≤64) (hx:x < B64):x/2^(64-r) < 2^r:=by
 apply Nat.div_lt_of_lt_mul
 rw [← Nat.pow_add,show 64-r+r=64 by omega,← B64_pow];exact hx
theorem shl_mod (x r:Nat) (hr:r≤64):x*2^r%B64=2^r*(x%2^(64-r)):=by
 rw [B64_pow,show (2:Nat)^64=2^r*2^(64-r) by rw [← Nat.pow_add];congr 1;omega,Nat.mul_comm x,Nat.mul_mod_mul_left]
theorem low_or (s x r:Nat) (hr:r≤64) (hs:s < 2^r):s ||| x*2^r%B64=s+x*2^r%B64:=by
 rw [shl_mod x r hr,Nat.or_comm,← Nat.two_pow_add_eq_or_of_lt hs,Nat.add_comm]
theorem low_add_lt (s x r:Nat) (hr:r≤64) (hs:s < 2^r):s+x*2^r%B64 < B64:=by
 rw [shl_mod x r hr]
 have h3:x%2^(64-r) < 2^(64-r):=Nat.mod_lt _ (Nat.two_pow_pos _)
 have h4:2^r*(x%2^(64-r)+1)≤2^r*2^(64-r):=Nat.mul_le_mul_left _ h3
 rw [← Nat.pow_add,show r+(64-r)=64 by omega,← B64_pow,Nat.mul_add,Nat.mul_one] at h4
 omega
theorem low_or_int (s x r:Nat) (hr:r≤64) (hs:s < 2^r) (hs':s < B64):bits .or .u64 (s:Int) ((x*2^r%B64:Nat):Int)=((s+x*2^r%B64:Nat):Int):=by
 have h1:x*2^r%B64 < B64:=Nat.mod_lt _ B64_pos
 rw [u64_or_nat s (x*2^r%B64) hs' h1,low_or s x r hr hs]
theorem pow_le_B64 (r:Nat) (hr:r≤64):2^r≤B64:=by rw [B64_pow];exact Nat.pow_le_pow_right (by omega) hr
theorem or64 (a b:Nat) (ha:a < B64) (hb:b < B64):bits .or .u64 (a:Int) (b:Int)=((a ||| b:Nat):Int):=u64_or_nat a b ha hb
theorem step_shl {V X i s x r:Nat} (hr:r≤64) (h:V+s*B64^i=X*2^r):V+(s+x*2^r%B64)*B64^i+x/2^(64-r)*B64^(i+1)=(X+x*B64^i)*2^r:=by
 have h1:=shl_split x r hr
 have h2:(x*2^r%B64+x/2^(64-r)*B64)*B64^i=x*2^r*B64^i:=by rw [h1]
 rw [Nat.add_mul] at h2
 have e1:x/2^(64-r)*B64^(i+1)=x/2^(64-r)*B64*B64^i:=by rw [Nat.pow_succ];ac_rfl
 have e2:(X+x*B64^i)*2^r=X*2^r+x*2^r*B64^i:=by rw [Nat.add_mul];congr 1;ac_rfl
 rw [e1,e2,Nat.add_mul]
 omega
def lw (y:Nat→Nat) (r i:Nat):Nat:=y i/2^r+y (i+1)*2^(64-r)%B64
theorem lw_or (y z r:Nat) (hr:r≤64) (hy:y < B64):y/2^r ||| z*2^(64-r)%B64=y/2^r+z*2^(64-r)%B64:=by
 have h:=shr_lt y (64-r) (by omega) hy
 rw [show 64-(64-r)=r by omega] at h
 exact low_or _ z (64-r) (by omega) h
theorem lw_lt (y z r:Nat) (hr:r≤64) (hy:y < B64):y/2^r+z*2^(64-r)%B64 < B64:=by
 have h:=shr_lt y (64-r) (by omega) hy
 rw [show 64-(64-r)=r by omega] at h
 exact low_add_lt _ z (64-r) (by omega) h
theorem vs_lw (y:Nat→Nat) (r:Nat) (hr:r≤64) (k:Nat):2^r*vs B64 (lw y r) k+y 0%2^r=vs B64 y k+y k%2^r*B64^k:=by
 induction k with
 | zero=>simp [vs_zero]
 | succ k ih =>
  rw [vs_succ,vs_succ,Nat.mul_add]
  have h1:2^r*(y (k+1)*2^(64-r)%B64)=y (k+1)%2^r*B64:=by
   rw [shl_mod _ _ (by omega),show 64-(64-r)=r by omega,← Nat.mul_assoc,← Nat.pow_add,show r+(64-r)=64 by omega,← B64_pow,Nat.mul_comm]
  have h2:=Nat.div_add_mod (y k) (2^r)
  have e:2^r*(lw y r k*B64^k)=(2^r*(y k/2^r)+y (k+1)%2^r*B64)*B64^k:=by
   unfold lw
   rw [← Nat.mul_assoc,Nat.mul_add,h1]
  have e2:(2^r*(y k/2^r)+y k%2^r)*B64^k=y k*B64^k:=by rw [h2]
  rw [Nat.add_mul] at e2
  rw [e,Nat.add_mul]
  have e3:y (k+1)%2^r*B64*B64^k=y (k+1)%2^r*B64^(k+1):=by rw [Nat.pow_succ];ac_rfl
  omega
theorem vs_lw_div (y:Nat→Nat) (r L:Nat) (hr:r≤64) (h0:y L=0):vs B64 (lw y r) L=vs B64 y L/2^r:=by
 have h:=vs_lw y r hr L
 rw [h0] at h
 simp only [Nat.zero_mod,Nat.zero_mul,Nat.add_zero] at h
 have hlt:y 0%2^r < 2^r:=Nat.mod_lt _ (Nat.two_pow_pos _)
 rw [← h,Nat.mul_comm,Nat.add_comm,Nat.add_mul_div_right _ _ (Nat.two_pow_pos _),Nat.div_eq_of_lt hlt,Nat.zero_add]
theorem pow_split (n:Nat):2^n=B64^(n/64)*2^(n%64):=by
 rw [B64_pow,← Nat.pow_mul,← Nat.pow_add];congr 1;omega
theorem vs_from (x:Nat→Nat) (n W:Nat) (hx:∀ j,j < n→x j < B64) (hW:W≤n):vs B64 (fun j=>x (W+j)) (n-W)=vs B64 x n/B64^W:=by
 have h:=vs_add B64 x W (n-W)
 rw [Nat.add_sub_cancel' hW] at h
 have hlt:=vs_lt (fun j hj=>hx j (by omega):∀ j,j < W→x j < B64)
 rw [h,Nat.mul_comm,Nat.add_mul_div_right _ _ (Nat.pow_pos B64_pos),Nat.div_eq_of_lt hlt,Nat.zero_add]
theorem shr_small (x:Nat→Nat) (n W:Nat) (hx:∀ j,j < n→x j < B64) (hW:n≤W) (r:Nat):vs B64 x n/(B64^W*2^r)=0:=by
 apply Nat.div_eq_of_lt
 have h1:=vs_lt hx
 have h2:B64^n≤B64^W:=Nat.pow_le_pow_right B64_pos hW
 have h3:B64^W*1≤B64^W*2^r:=Nat.mul_le_mul_left _ (Nat.two_pow_pos r)
 omega
def IsBits (V B:Nat):Prop:=V < 2^B∧(V=0→B=0)∧(V≠0→0 < B∧2^(B-1)≤V)
theorem IsBits.unique {V B C:Nat} (h:IsBits V B) (k:IsBits V C):B=C:=by
 obtain ⟨h1,h2,h3⟩:=h
 obtain ⟨k1,k2,k3⟩:=k
 rcases Nat.eq_zero_or_pos V with h0 | h0
 · rw [h2 h0,k2 h0]
 · obtain ⟨p1,p2⟩:=h3 (by omega)
   obtain ⟨q1,q2⟩:=k3 (by omega)
   have a:=(Nat.pow_lt_pow_iff_right (by omega:1 < 2)).1 (Nat.lt_of_le_of_lt p2 k1)
   have b:=(Nat.pow_lt_pow_iff_right (by omega:1 < 2)).1 (Nat.lt_of_le_of_lt q2 h1)
   omega
theorem IsBits.zero:IsBits 0 0:=⟨by simp,fun _=>rfl,fun h=>absurd rfl h⟩
theorem bits_top {f:Nat→Nat} {n L:Nat} (hf:∀ j,j < n+1→f j < B64) (h1:1≤L) (h2:2^(L-1)≤f n) (h3:f n < 2^L):IsBits (vs B64 f (n+1)) (64*n+L):=by
 have hlow:=vs_lt (fun j hj=>hf j (by omega):∀ j,j < n→f j < B64)
 have hB:B64^n=2^(64*n):=by rw [B64_pow,← Nat.pow_mul]
 rw [vs_succ]
 have hge:2^(64*n+L-1)≤vs B64 f n+f n*B64^n:=by
  rw [show 64*n+L-1=(L-1)+64*n by omega,Nat.pow_add,← hB]
  have:=Nat.mul_le_mul_right (B64^n) h2
  omega
 have hlt:vs B64 f n+f n*B64^n < 2^(64*n+L):=by
  rw [show 64*n+L=L+64*n by omega,Nat.pow_add,← hB]
  have:=Nat.mul_le_mul_right (B64^n) h3
  rw [Nat.succ_mul] at this
  omega
 refine ⟨hlt,fun h=>?_,fun _=>⟨by omega,hge⟩⟩
 have:0 < 2^(64*n+L-1):=Nat.two_pow_pos _
 omega
end Go.Proofs.YtmbmohibpkepdaaGreatDoor
namespace Go.Proofs.YtmbmohibpkepdaaGreatDoor
def v2 (V:Nat):Nat:=Lib.ctzFrom V V
def od (V:Nat):Nat:=V/2^v2 V
theorem v2_spec {V:Nat} (h:0 < V):∃ m,V=2^v2 V*(2*m+1):=by
 obtain ⟨m,h1,_⟩:=Lib.ctzFrom_spec V V h Nat.lt_two_pow_self
 exact ⟨m,h1⟩
theorem od_spec {V:Nat} (h:0 < V):V=od V*2^v2 V∧od V%2=1:=by
 obtain ⟨m,hm⟩:=v2_spec h
 have e:od V=2*m+1:=by
  unfold od
  exact Nat.div_eq_of_eq_mul_left (Nat.two_pow_pos _) (by rw [Nat.mul_comm];exact hm)
 rw [e]
 exact ⟨by rw [Nat.mul_comm];exact hm,by omega⟩
theorem odd_pow_unique {T U z y:Nat} (hT:T%2=1) (hU:U%2=1) (h:T*2^z=U*2^y):T=U∧z=y:=by
 have key:∀ {T U z y:Nat},T%2=1→T*2^z=U*2^y→y≤z:=fun {T U z y} hT h=>by
  rcases Nat.lt_or_ge z y with hlt | hge
  · exfalso
    have e:U*2^y=U*2^(y-z)*2^z:=by rw [Nat.mul_assoc,← Nat.pow_add];congr 2;omega
    rw [e] at h
    have h1:=Nat.eq_of_mul_eq_mul_right (Nat.two_pow_pos z) h
    have h2:2^(y-z)=2*2^(y-z-1):=by rw [← Nat.pow_succ'];congr 1;omega
    rw [h1,h2,← Nat.mul_assoc,Nat.mul_comm U 2,Nat.mul_assoc,Nat.mul_mod_right] at hT
    omega
  · exact hge
 have h1:=key hT h
 have h2:=key hU h.symm
 have e:z=y:=by omega
 subst e
 exact ⟨Nat.eq_of_mul_eq_mul_right (Nat.two_pow_pos z) h,rfl⟩
theorem od_unique {V T z:Nat} (h:V=T*2^z) (hT:T%2=1):od V=T∧v2 V=z:=by
 have h0:0 < V:=by
  rw [h];exact Nat.mul_pos (by omega) (Nat.two_pow_pos z)
 obtain ⟨h1,h2⟩:=od_spec h0
 exact odd_pow_unique h2 hT (h1.symm.trans h)
theorem od_pow (V z:Nat) (h0:0 < V):od (V*2^z)=od V∧v2 (V*2^z)=v2 V+z:=by
 obtain ⟨h1,h2⟩:=od_spec h0
 refine od_unique ?_ h2
 rw [Nat.pow_add,← Nat.mul_assoc,← h1]
theorem od_le (V:Nat):od V≤V:=Nat.div_le_self _ _
theorem od_pos {V:Nat} (h:0 < V):0 < od V:=by have:=(od_spec h).2;omega
def nb (V:Nat):Nat:=if V=0 then 0 else Nat.log2 V+1
theorem nb_spec (V:Nat):IsBits V (nb V):=by
 unfold nb
 by_cases h:V=0
 · subst h;exact IsBits.zero
 · rw [if_neg h]
   exact ⟨Nat.lt_log2_self,fun e=>absurd e h,fun _=>⟨by omega,by rw [Nat.add_sub_cancel];exact Nat.log2_self_le h⟩⟩
theorem nb_eq {V B:Nat} (h:IsBits V B):B=nb V:=h.unique (nb_spec V)
theorem nb_zero:nb 0=0:=rfl
theorem nb_pos {V:Nat} (h:0 < V):0 < nb V:=((nb_spec V).2.2 (by omega)).1
theorem nb_lt (V:Nat):V < 2^nb V:=(nb_spec V).1
theorem nb_ge {V:Nat} (h:0 < V):2^(nb V-1)≤V:=((nb_spec V).2.2 (by omega)).2
theorem nb_of {V B:Nat} (h1:V < 2^(B+1)) (h2:2^B≤V):nb V=B+1 :=
 (nb_eq ⟨h1,fun e=>by subst e;have:=Nat.two_pow_pos B;omega,fun _=>⟨by omega,h2⟩⟩).symm
theorem nb_le_iff (V k:Nat):nb V≤k ↔ V < 2^k:=by
 constructor
 · intro h
   exact Nat.lt_of_lt_of_le (nb_lt V) (Nat.pow_le_pow_right (by omega) h)
 · intro h
   rcases Nat.eq_zero_or_pos V with h0 | h0
   · subst h0;rw [nb_zero];omega
   · have:=(Nat.pow_lt_pow_iff_right (by omega:1 < 2)).1 (Nat.lt_of_le_of_lt (nb_ge h0) h)
     omega
theorem nb_mul_pow {V:Nat} (h0:0 < V) (z:Nat):nb (V*2^z)=nb V+z:=by
 obtain ⟨k,hk⟩:∃ k,nb V=k+1:=⟨nb V-1,by have:=nb_pos h0;omega⟩
 have h1:=nb_lt V
 have h2:=nb_ge h0
 rw [hk] at h1 h2
 rw [hk,show k+1+z=(k+z)+1 by omega]
 refine nb_of ?_ ?_
 · rw [show k+z+1=(k+1)+z by omega,Nat.pow_add]
   exact Nat.mul_lt_mul_of_pos_right h1 (Nat.two_pow_pos z)
 · rw [Nat.pow_add]
   exact Nat.mul_le_mul_right _ (by simpa using h2)
theorem nb_div_pow (V z:Nat):nb (V/2^z)=nb V-z:=by
 rcases Nat.lt_or_ge V (2^z) with h | h
 · rw [Nat.div_eq_of_lt h,nb_zero]
   have:=(nb_le_iff V z).2 h;omega
 · have h0:0 < V:=Nat.lt_of_lt_of_le (Nat.two_pow_pos z) h
   have hz:z < nb V:=by
    rcases Nat.lt_or_ge z (nb V) with h' | h'
    · exact h'
    · have:=(nb_le_iff V z).1 h';omega
   obtain ⟨k,hk⟩:∃ k,nb V=k+1+z:=⟨nb V-1-z,by omega⟩
   have h1:=nb_lt V
   have h2:=nb_ge h0
   rw [hk] at h1 h2
   rw [hk,Nat.add_sub_cancel]
   refine nb_of ?_ ?_
   · rw [Nat.div_lt_iff_lt_mul (Nat.two_pow_pos z),← Nat.pow_add];exact h1
   · rw [Nat.le_div_iff_mul_le (Nat.two_pow_pos z),← Nat.pow_add]
     rw [show k+1+z-1=k+z by omega] at h2;exact h2
def MB:Nat:=16384
theorem MB_eq:MB=16384:=rfl
def fitE (e:Int):Prop:=-262144≤e∧e≤262144
instance (e:Int):Decidable (fitE e):=by unfold fitE;infer_instance
structure DR where
 ok:Bool
 neg:Bool
 m:Nat
 e:Int
def DR.zero:DR:=⟨true,false,0,0⟩
def DR.no:DR:=⟨false,false,0,0⟩
def mkD (neg:Bool) (V:Nat) (e:Int):DR :=
 if V=0 then .zero else if nb (od V)≤MB∧fitE (e+(v2 V:Int)) then ⟨true,neg,od V,e+(v2 V:Int)⟩ else .no
def cutD (neg:Bool) (V:Nat) (e:Int) (more:Bool) (p:Nat) (up:Bool):DR :=
 mkD neg (V/2^(nb V-p)+(if (more || decide (V/2^(nb V-p)*2^(nb V-p)≠V)) && (up != neg) then 1 else 0)) (e+((nb V-p:Nat):Int))
end Go.Proofs.YtmbmohibpkepdaaGreatDoor
namespace Go.Proofs.YtmbmohibpkepdaaGreatDoor
def HalfD (D U a1 a0 u q r:Nat):Prop:=q*a1+r=U∧(U*D+u)/(a1*D+a0)≤q
section
variable {D U a1 a0 u q r:Nat}
theorem HalfD.start (ha:0 < a1) (hu:u < D):HalfD D U a1 a0 u (U/a1) (U%a1):=by
 refine ⟨by rw [Nat.mul_comm];exact Nat.div_add_mod U a1,?_⟩
 rw [Nat.le_div_iff_mul_le ha]
 generalize hQ:(U*D+u)/(a1*D+a0)=Q
 have h1:Q*(a1*D+a0)≤U*D+u:=by rw [← hQ];exact Nat.div_mul_le_self _ _
 rw [Nat.mul_add,← Nat.mul_assoc] at h1
 rcases Nat.lt_or_ge U (Q*a1) with h | h
 · have h2:(U+1)*D≤Q*a1*D:=Nat.mul_le_mul_right _ h
   rw [Nat.add_mul,Nat.one_mul] at h2
   omega
 · exact h
theorem HalfD.down (h:HalfD D U a1 a0 u q r) (hc:D*r+u < q*a0):0 < q∧HalfD D U a1 a0 u (q-1) (r+a1):=by
 obtain ⟨h1,h2⟩:=h
 have hlt:(U*D+u)/(a1*D+a0) < q:=by
  apply Nat.div_lt_of_lt_mul
  have e:(a1*D+a0)*q=q*a1*D+q*a0:=by rw [Nat.add_mul];congr 1 <;> ac_rfl
  have e2:U*D=q*a1*D+D*r:=by rw [← h1,Nat.add_mul,Nat.mul_comm r]
  rw [e];omega
 have hq:0 < q:=Nat.lt_of_le_of_lt (Nat.zero_le _) hlt
 refine ⟨hq,?_,Nat.le_sub_one_of_lt hlt⟩
 clear hlt h2
 obtain ⟨k,rfl⟩:∃ k,q=k+1:=⟨q-1,by omega⟩
 rw [Nat.add_mul,Nat.one_mul] at h1
 simp only [Nat.add_sub_cancel]
 omega
theorem HalfD.done (h:HalfD D U a1 a0 u q r) (hp:0 < a1*D+a0) (hc:q*a0≤D*r+u):q=(U*D+u)/(a1*D+a0):=by
 obtain ⟨h1,h2⟩:=h
 apply Nat.le_antisymm _ h2
 rw [Nat.le_div_iff_mul_le hp]
 have e:q*(a1*D+a0)=q*a1*D+q*a0:=by rw [Nat.mul_add];congr 1;ac_rfl
 have e2:U*D=q*a1*D+D*r:=by rw [← h1,Nat.add_mul,Nat.mul_comm r]
 rw [e];omega
theorem HalfD.far (h:HalfD D U a1 a0 u q r) (hp:0 < a1*D+a0) (hq:q < D) (ha:a0 < D) (hr:D≤r):q=(U*D+u)/(a1*D+a0):=by
 refine h.done hp ?_
 have h1:q*a0≤D*D:=Nat.mul_le_mul (by omega) (by omega)
 have h2:D*D≤D*r:=Nat.mul_le_mul_left _ hr
 omega
end
theorem over_gt {x y r u o v:Nat} (h:o*B64+v=x*y) (hu:u < B64) (hv:v < B64):B64*r+u < x*y ↔ (r < o∨(o=r∧u < v)):=by
 rw [← h,Nat.mul_comm B64]
 constructor
 · intro hlt
   rcases Nat.lt_or_ge r o with h1 | h1
   · exact .inl h1
   · rcases Nat.lt_or_ge o r with h2 | h2
     · have:(o+1)*B64≤r*B64:=Nat.mul_le_mul_right _ h2
       rw [Nat.add_mul,Nat.one_mul] at this
       omega
     · have:o=r:=by omega
       subst this
       exact .inr ⟨rfl,by omega⟩
 · rintro (h1 | ⟨rfl,h1⟩)
   · have:(r+1)*B64≤o*B64:=Nat.mul_le_mul_right _ h1
     rw [Nat.add_mul,Nat.one_mul] at this
     omega
   · omega
def GuessIs (l0 l1 l2 d0 d1 q:Nat):Prop:=q < B64∧((d1≤l2∧q=B64-1)∨(l2 < d1∧q=((l2*B64+l1)*B64+l0)/(d1*B64+d0)))
theorem guess_near {l0 l1 l2 d0 d1 q P a v:Nat} (h:GuessIs l0 l1 l2 d0 d1 q) (hd:B64≤2*d1) (hd0:d0 < B64) (ha:a < P) (hv:v < P)
 (hlt:a+P*((l2*B64+l1)*B64+l0) < (v+P*(d1*B64+d0))*B64) :
 ∃ R,R < v+P*(d1*B64+d0)∧((a+P*((l2*B64+l1)*B64+l0)=q*(v+P*(d1*B64+d0))+R)∨(0 < q∧a+P*((l2*B64+l1)*B64+l0)=(q-1)*(v+P*(d1*B64+d0))+R∧a+P*((l2*B64+l1)*B64+l0) < q*(v+P*(d1*B64+d0)))):=by
 have hB:=B64_pos
 have hP:0 < P:=by omega
 have hd1:0 < d1:=by omega
 have hD2:B64≤d1*B64+d0:=by have:1*B64≤d1*B64:=Nat.mul_le_mul_right _ hd1;omega
 obtain ⟨hqB,hq⟩:=h
 have key:(q-1)*(v+P*(d1*B64+d0))≤a+P*((l2*B64+l1)*B64+l0)∧a+P*((l2*B64+l1)*B64+l0) < (q+1)*(v+P*(d1*B64+d0)):=by
  rcases hq with ⟨hge,rfl⟩ | ⟨hl,hqe⟩
  · refine ⟨?_,?_⟩
    · have h1:(v+P*(d1*B64+d0))≤P*(d1*B64+d0+1):=by rw [Nat.mul_add P (d1*B64+d0)];omega
      have h2:(B64-1-1)*(d1*B64+d0+1)≤l2*B64*B64:=by
       have h3:d1*B64+d0+1≤(d1+1)*B64:=by rw [Nat.add_mul,Nat.one_mul];omega
       have h4:(B64-1-1)*(d1*B64+d0+1)≤(B64-1-1)*((d1+1)*B64):=Nat.mul_le_mul_left _ h3
       have h5:(B64-1-1)*(d1+1)≤d1*B64:=by
        obtain ⟨k,hk⟩:∃ k,B64=k+2:=⟨B64-2,by unfold B64;omega⟩
        rw [hk];simp only [show k+2-1-1=k by omega]
        rw [Nat.mul_add,Nat.mul_add,Nat.mul_comm k d1];omega
       have h6:(B64-1-1)*((d1+1)*B64)≤d1*B64*B64:=by rw [← Nat.mul_assoc];exact Nat.mul_le_mul_right _ h5
       have h7:d1*B64*B64≤l2*B64*B64:=Nat.mul_le_mul_right _ (Nat.mul_le_mul_right _ hge)
       omega
      have h8:(B64-1-1)*(v+P*(d1*B64+d0))≤(B64-1-1)*(P*(d1*B64+d0+1)):=Nat.mul_le_mul_left _ h1
      have h9:(B64-1-1)*(P*(d1*B64+d0+1))=P*((B64-1-1)*(d1*B64+d0+1)):=by ac_rfl
      have h10:P*((B64-1-1)*(d1*B64+d0+1))≤P*((l2*B64+l1)*B64+l0):=by
       apply Nat.mul_le_mul_left
       rw [Nat.add_mul];omega
      omega
    · rw [show B64-1+1=B64 by omega,Nat.mul_comm B64];exact hlt
  · have hdm:=Nat.div_add_mod ((l2*B64+l1)*B64+l0) (d1*B64+d0)
    have hm:((l2*B64+l1)*B64+l0)%(d1*B64+d0) < d1*B64+d0:=Nat.mod_lt _ (by omega)
    rw [← hqe] at hdm
    generalize ((l2*B64+l1)*B64+l0)%(d1*B64+d0)=m at *
    generalize (l2*B64+l1)*B64+l0=T at *
    generalize d1*B64+d0=D2 at *
    refine ⟨?_,?_⟩
    · rcases Nat.eq_zero_or_pos q with h0 | h0
      · subst h0;simp
      · obtain ⟨k,rfl⟩:∃ k,q=k+1:=⟨q-1,by omega⟩
        simp only [Nat.add_sub_cancel]
        have h1:k*(v+P*D2)≤k*(P+P*D2):=Nat.mul_le_mul_left _ (by omega)
        have h2:k*(P+P*D2)=P*(k*(1+D2)):=by rw [show P+P*D2=P*(1+D2) by rw [Nat.mul_add,Nat.mul_one]];ac_rfl
        have h3:k*(1+D2)≤T:=by
         rw [Nat.mul_add,Nat.mul_one]
         have:D2*(k+1)=k*D2+D2:=by rw [Nat.mul_add,Nat.mul_one,Nat.mul_comm]
         omega
        have h4:P*(k*(1+D2))≤P*T:=Nat.mul_le_mul_left _ h3
        omega
    · have h1:P*(T+1)≤P*(D2*q+D2):=Nat.mul_le_mul_left _ (by omega)
      have h2:P*(D2*q+D2)=(q+1)*(P*D2):=by rw [show D2*q+D2=D2*(q+1) by rw [Nat.mul_add,Nat.mul_one]];ac_rfl
      have h3:(q+1)*(P*D2)≤(q+1)*(v+P*D2):=Nat.mul_le_mul_left _ (by omega)
      rw [Nat.mul_add,Nat.mul_one] at h1
      omega
 generalize v+P*(d1*B64+d0)=V at *
 generalize a+P*((l2*B64+l1)*B64+l0)=Z at *
 obtain ⟨k1,k2⟩:=key
 rw [Nat.add_mul,Nat.one_mul] at k2
 rcases Nat.lt_or_ge Z (q*V) with h1 | h1
 · have hq0:0 < q:=by
    rcases Nat.eq_zero_or_pos q with h0 | h0
    · subst h0;omega
    · exact h0
   refine ⟨Z-(q-1)*V,?_,.inr ⟨hq0,by omega,h1⟩⟩
   have e:q*V=(q-1)*V+V:=by
    obtain ⟨k,rfl⟩:∃ k,q=k+1:=⟨q-1,by omega⟩
    rw [Nat.add_mul,Nat.one_mul];simp
   omega
 · exact ⟨Z-q*V,by omega,.inl (by omega)⟩
end Go.Proofs.YtmbmohibpkepdaaGreatDoor
namespace Go.Proofs.YtmbmohibpkepdaaGreatDoor
def IsRoot (a s r:Nat):Prop:=s*s+r=a∧r≤2*s
theorem IsRoot.zero:IsRoot 0 0 0:=⟨rfl,Nat.le_refl _⟩
end Go.Proofs.YtmbmohibpkepdaaGreatDoor
namespace Go.Proofs.YtmbmohibpkepdaaGreatDoor
theorem few_lt {V n:Nat} (c:Nat) (hc:c≤1000) (h:V < B64^n):c*V+1000 < B64^(n+1):=by
 rw [Nat.pow_succ]
 have h0:1≤B64^n:=by omega
 have h1:c*V≤1000*V:=Nat.mul_le_mul_right _ hc
 have h2:B64^n*2001≤B64^n*B64:=Nat.mul_le_mul_left _ (by unfold B64;omega)
 omega
end Go.Proofs.YtmbmohibpkepdaaGreatDoor
namespace Go.Proofs.YtmbmohibpkepdaaGreatDoor
theorem cut_zero (neg up:Bool) (e:Int) (p:Nat):cutD neg 0 e false p up=DR.zero:=by
 unfold cutD
 simp [mkD]
theorem quo_bits {Va Vb r p:Nat} (ha:0 < Va) (hb:0 < Vb) (hr:p+nb Vb≤nb Va+r) (hp:1≤p):p≤nb (Va*2^r/Vb)∧0 < Va*2^r/Vb:=by
 have h1:=nb_ge ha
 have h2:=nb_lt Vb
 have h3:=nb_pos ha
 have h4:2^(p-1)*Vb≤Va*2^r:=by
  have e1:2^(p-1)*Vb≤2^(p-1)*2^nb Vb:=Nat.mul_le_mul_left _ (Nat.le_of_lt h2)
  have e2:2^(nb Va-1)*2^r≤Va*2^r:=Nat.mul_le_mul_right _ h1
  rw [← Nat.pow_add] at e1 e2
  have e3:2^(p-1+nb Vb)≤2^(nb Va-1+r):=Nat.pow_le_pow_right (by omega) (by omega)
  omega
 have h5:2^(p-1)≤Va*2^r/Vb:=(Nat.le_div_iff_mul_le hb).2 h4
 have h6:0 < Va*2^r/Vb:=Nat.lt_of_lt_of_le (Nat.two_pow_pos _) h5
 refine ⟨?_,h6⟩
 rcases Nat.lt_or_ge (nb (Va*2^r/Vb)) p with h | h
 · have:=(nb_le_iff (Va*2^r/Vb) (p-1)).1 (by omega);omega
 · exact h
end Go.Proofs.YtmbmohibpkepdaaGreatDoor
