/-
 volvelleref02.Make.
-/
import Derived.Test.YtmbmohibpkepdaaGreatDoorPlEGDy4
import Derived.Test.YtmbmohibpkepdaaGreatDoorPlEGDy5
namespace Go.Proofs.YtmbmohibpkepdaaGreatDoor
open Go.RowKit
theorem bit_at (f:Nat→Nat) (p z:Nat) (hf:∀ j,j < p→f j < B64) (hz:z/64 < p):f (z/64)/2^(z%64)%2=vs B64 f p/2^z%2:=by
 obtain ⟨q,hq⟩:∃ q,p=z/64+(q+1):=⟨p-z/64-1,by omega⟩
 have h1:vs B64 f (z/64) < B64^(z/64):=vs_lt fun j hj=>hf j (by omega)
 rw [pow_split z,← Nat.div_div_eq_div_mul,hq,vs_add,Nat.add_mul_div_left _ _ (Nat.pow_pos B64_pos),Nat.div_eq_of_lt h1,Nat.zero_add,vs_cons]
 have hr:z%64≤63:=by omega
 generalize z%64=r at *
 rw [Nat.add_zero]
 generalize vs B64 (fun j=>f (z/64+(j+1))) q=T
 rw [B64_pow,show (2:Nat)^64=2^r*(2*2^(63-r)) by rw [← Nat.pow_succ',← Nat.pow_add];congr 1;omega,Nat.mul_assoc,Nat.add_mul_div_left _ _ (Nat.two_pow_pos r),Nat.mul_assoc,Nat.add_mul_mod_self_left]
theorem even_iff {V z:Nat} (h0:0 < V) (hz:z≤v2 V):V/2^z%2=(if z < v2 V then 0 else 1):=by
 obtain ⟨h1,h2⟩:=od_spec h0
 have e:V/2^z=od V*2^(v2 V-z):=by
  have:V=od V*2^(v2 V-z)*2^z:=by rw [Nat.mul_assoc,← Nat.pow_add,Nat.sub_add_cancel hz];exact h1
  exact Nat.div_eq_of_eq_mul_left (Nat.two_pow_pos z) this
 rw [e]
 by_cases h:z < v2 V
 · rw [if_pos h,show v2 V-z=(v2 V-z-1)+1 by omega,Nat.pow_succ,← Nat.mul_assoc,Nat.mul_mod_left]
 · rw [if_neg h,show v2 V-z=0 by omega,Nat.pow_zero,Nat.mul_one];exact h2
theorem v2_lt {V p:Nat} (h0:0 < V) (h:V < B64^p):v2 V < 64*p:=by
 obtain ⟨h1,h2⟩:=od_spec h0
 rw [B64_pow,← Nat.pow_mul] at h
 have h3:1*2^v2 V≤od V*2^v2 V:=Nat.mul_le_mul_right _ (od_pos h0)
 exact (Nat.pow_lt_pow_iff_right (by omega:1 < 2)).1 (by omega)
end Go.Proofs.YtmbmohibpkepdaaGreatDoor
