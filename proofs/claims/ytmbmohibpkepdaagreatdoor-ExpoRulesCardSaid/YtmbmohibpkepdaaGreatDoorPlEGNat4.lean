/-
 math/bits.Div64: two words over one.
 nat.guess: the word that a quotient seems to be.
 nat.divStep: one word of a quotient; what is left stays in left.
 nat.DivMod where the divisor is 0, is the greater one, or has one word.
-/
import Derived.Test.YtmbmohibpkepdaaGreatDoorShelf
import Derived.Deep.QuietTactic
import Derived.BigQuiet
import Derived.Deep.DeepCutAuto
import Derived.Deep.CutBlock
import Derived.Test.YtmbmohibpkepdaaGreatDoorPlEGNumbers
import Derived.Test.YtmbmohibpkepdaaGreatDoorPlEGLists
import Derived.Test.YtmbmohibpkepdaaGreatDoorPlEGNat1
import Derived.Test.YtmbmohibpkepdaaGreatDoorPlEGNat3
namespace Go.Proofs.YtmbmohibpkepdaaGreatDoor
open Go.RowKit
def HalfRel (U a1 a0 u:Nat) (s15 s16:Value):Prop:=∃ q r:Nat,s15=.int .u64 (q:Int)∧s16=.int .u64 (r:Int)∧Half U a1 a0 u q r∧r < 4294967296∧q≤U
def HalfEnd (w:World) (Q:Nat) (s15:Value) (wc:World):Prop:=w=wc∧s15=.int .u64 (Q:Int)
theorem half_facts (U a1 a0 u:Nat) (ha1:2147483648≤a1) (hu:u < 4294967296) (hU:U≤18446744073709551615):∃ q r:Nat,
 IntKind.u64.wrap ((U:Int).tdiv (a1:Int))=(q:Int)∧IntKind.u64.wrap ((U:Int)/(a1:Int))=(q:Int)∧IntKind.u64.wrap ((U:Int)-IntKind.u64.wrap ((q:Int)*(a1:Int)))=(r:Int)∧Half U a1 a0 u q r∧r < a1∧q≤U:=by
 have hdm:=Nat.div_add_mod U a1
 rw [Nat.mul_comm] at hdm
 have hle:U/a1≤U:=Nat.div_le_self _ _
 have hm:U%a1 < a1:=Nat.mod_lt _ (by omega)
 refine ⟨U/a1,U%a1,?_,?_,?_,Half.start ha1 hu,hm,hle⟩
 · rw [IntWalk.u64_quo _ _ ⟨by omega,by omega,by omega⟩];rfl
 · rw [show ((U:Int)/(a1:Int))=((U/a1:Nat):Int) from rfl];exact u64_nat _ (Nat.le_trans hle hU)
 · have hc:(((U/a1:Nat):Int)*(a1:Int))=((U/a1*a1:Nat):Int):=by simp
   rw [hc]
   generalize U/a1*a1=z at *
   generalize U%a1=z2 at *
   rw [IntWalk.u64_in (z:Int) (by omega),IntWalk.u64_in _ (by omega)]
   omega
set_option maxHeartbeats 4000000 in
set_option maxRecDepth 100000 in
theorem div64_core (hi lo y s Y a1 a0 U1 U0 u1 u0 Q1 Q0 V1 V0 R:Nat) (w:World) (h0:0 < hi) (h1:hi < y) (h2:y < B64) (h3:lo < B64) (hs:s≤63)
 (hz:Hid (Calls Tryz.prog 191 #[.int .u64 (y:Int)] w fun e w'=>e=.returned (.int .i64 (s:Int))∧w=w'))
 (e1:IntKind.u64.wrap ((y:Int)*2^s)=(Y:Int)) (e2:((Y:Int))/4294967296=(a1:Int)) (e3:bits .and .u64 (Y:Int) 4294967295=(a0:Int))
 (e4:bits .or .u64 (IntKind.u64.wrap ((hi:Int)*2^s)) ((lo:Int)/2^(64-s))=(U1:Int)) (e5:IntKind.u64.wrap ((lo:Int)*2^s)=(U0:Int)) (e6:((U0:Int))/4294967296=(u1:Int))
 (e7:bits .and .u64 (U0:Int) 4294967295=(u0:Int)) (ha1:2147483648≤a1) (ha1':a1 < 4294967296) (ha0:a0 < 4294967296) (hu1:u1 < 4294967296) (hu0:u0 < 4294967296)
 (hU1:U1 < a1*4294967296+a0) (hU1':U1≤18446744073709551615) (hQ1:Hid (Q1=(U1*4294967296+u1)/(a1*4294967296+a0)))
 (e8:IntKind.u64.wrap (IntKind.u64.wrap (IntKind.u64.wrap ((U1:Int)*4294967296)+(u1:Int))-IntKind.u64.wrap ((Q1:Int)*(Y:Int)))=(V1:Int))
 (hV1:V1 < a1*4294967296+a0) (hV1':V1≤18446744073709551615) (hQ0:Hid (Q0=(V1*4294967296+u0)/(a1*4294967296+a0))) (hQ1b:Q1≤4294967295) (hQ0b:Q0≤4294967295)
 (e12:IntKind.u64.wrap (IntKind.u64.wrap (IntKind.u64.wrap ((V1:Int)*4294967296)+(u0:Int))-IntKind.u64.wrap ((Q0:Int)*(Y:Int)))=(V0:Int)) (e13:(V0:Int)/2^s=(R:Int)) :
 Calls Tryz.prog 199 #[.int .u64 (hi:Int),.int .u64 (lo:Int),.int .u64 (y:Int)] w (PairPost w (Q1*4294967296+Q0) R):=by
 have hy0:((y:Int) == 0)=false:=by simp;omega
 have hi0:((hi:Int) == 0)=false:=by simp;omega
 have hhi:hi≤18446744073709551615:=by unfold B64 at *;omega
 have hy6:y≤18446744073709551615:=by unfold B64 at *;omega
 have hlo:lo≤18446744073709551615:=by unfold B64 at *;omega
 obtain ⟨q0,r0,e9,e9',e10,hst,hr0,hq0⟩:=half_facts U1 a1 a0 u1 ha1 hu1 hU1'
 obtain ⟨q2,r2,f9,f9',f10,gst,gr0,gq0⟩:=half_facts V1 a1 a0 u0 ha1 hu0 hV1'
 go_enter Tryz.func199,Tryz.ntmps199
 go_wp2_with fail
 refine hz.out.mono ?_
 rintro e w' ⟨rfl,rfl⟩
 go_upto_block 0 with (fail)
 go_cut [15,16] (fun s15 _ wc=>HalfEnd w Q1 s15 wc)
 case first =>
  go_wp2
  go_loop [15,16] (fun sq sr=>HalfRel U1 a1 a0 u1 sq sr) (fun sq _=>(intOf sq).toNat)
  case atStart=>exact ⟨q0,r0,rfl,rfl,hst,by omega,hq0⟩
  case round =>
   clear hst hr0 hq0 e9 e9' e10 e8 e12 e13 f9 f9' f10 gst gr0 gq0
   obtain ⟨q,r,rfl,rfl,hH,hr,hqU⟩:=hrel
   by_cases hq:4294967296≤q
   · obtain ⟨hpos,hdn⟩:=hH.down hU1 hu1 (.inl hq)
     have hqB:decide ((4294967296:Int)≤(q:Int))=true:=by simp;omega
     obtain ⟨q',hq'⟩:∃ q',q'=q-1:=⟨_,rfl⟩
     obtain ⟨r',hr'⟩:∃ r',r'=r+a1:=⟨_,rfl⟩
     rw [← hq',← hr'] at hdn
     have eq':(q:Int)-1=(q':Int):=by omega
     have er':(r:Int)+(a1:Int)=(r':Int):=by omega
     have hb1:1≤q:=hpos
     have hb2:r'≤8589934591:=by omega
     have hb3:q'≤U1:=by omega
     have hb4:Hid (q' < q):=Lib.hid (by omega)
     clear hq' hr'
     by_cases hr2:4294967296≤r'
     · have hfin:=Lib.hid (hdn.far ha1 ha0 hU1 hr2)
       have hrB:decide ((4294967296:Int)≤(r':Int))=true:=by simp;omega
       go_wp2
       go_meet
       exact ⟨rfl,by rw [hQ1.out,← hfin.out]⟩
     · have hrB:decide ((4294967296:Int)≤(r':Int))=false:=by simp;omega
       go_wp2
       go_round
       case rel=>exact ⟨q',r',rfl,rfl,hdn,by omega,hb3⟩
       case measure=>simp [intOf];exact hb4.out
   · have hqB:decide ((4294967296:Int)≤(q:Int))=false:=by simp;omega
     have hmb:q*a0≤18446744065119617025:=by have:q*a0≤4294967295*4294967295:=Nat.mul_le_mul (by omega) (by omega);omega
     have em:IntKind.u64.wrap ((q:Int)*(a0:Int))=((q*a0:Nat):Int):=by rw [← Int.natCast_mul];exact u64_nat _ (by omega)
     by_cases hc:4294967296*r+u1 < q*a0
     · obtain ⟨hpos,hdn⟩:=hH.down hU1 hu1 (.inr hc)
       generalize q*a0=z at *
       obtain ⟨q',hq'⟩:∃ q',q'=q-1:=⟨_,rfl⟩
       obtain ⟨r',hr'⟩:∃ r',r'=r+a1:=⟨_,rfl⟩
       rw [← hq',← hr'] at hdn
       have eq':(q:Int)-1=(q':Int):=by omega
       have er':(r:Int)+(a1:Int)=(r':Int):=by omega
       have hb1:1≤q:=hpos
       have hb2:r'≤8589934591:=by omega
       have hb3:q'≤U1:=by omega
       have hb4:Hid (q' < q):=Lib.hid (by omega)
       clear hq' hr'
       by_cases hr2:4294967296≤r'
       · have hfin:=Lib.hid (hdn.far ha1 ha0 hU1 hr2)
         have hrB:decide ((4294967296:Int)≤(r':Int))=true:=by simp;omega
         go_wp2
         go_meet
         exact ⟨rfl,by rw [hQ1.out,← hfin.out]⟩
       · have hrB:decide ((4294967296:Int)≤(r':Int))=false:=by simp;omega
         go_wp2
         go_round
         case rel=>exact ⟨q',r',rfl,rfl,hdn,by omega,hb3⟩
         case measure=>simp [intOf];exact hb4.out
     · have hfin:=Lib.hid (hH.done ha1 (by omega))
       generalize q*a0=z at *
       go_wp2
       go_meet
       exact ⟨rfl,by rw [hQ1.out,← hfin.out]⟩
 case rest =>
  obtain ⟨rfl,rfl⟩:=hcut
  clear hst hr0 hq0 e9 e9' e10
  go_upto_block 2 with (fail)
  go_cut [18,16] (fun s18 _ wc=>HalfEnd w Q0 s18 wc)
  case first =>
   go_wp2
   go_loop [18,16] (fun sq sr=>HalfRel V1 a1 a0 u0 sq sr) (fun sq _=>(intOf sq).toNat)
   case atStart=>exact ⟨q2,r2,rfl,rfl,gst,by omega,gq0⟩
   case round =>
    clear gst gr0 gq0 f9 f9' f10 e8 e12 e13
    obtain ⟨q,r,rfl,rfl,hH,hr,hqU⟩:=hrel
    by_cases hq:4294967296≤q
    · obtain ⟨hpos,hdn⟩:=hH.down hV1 hu0 (.inl hq)
      have hqB:decide ((4294967296:Int)≤(q:Int))=true:=by simp;omega
      obtain ⟨q',hq'⟩:∃ q',q'=q-1:=⟨_,rfl⟩
      obtain ⟨r',hr'⟩:∃ r',r'=r+a1:=⟨_,rfl⟩
      rw [← hq',← hr'] at hdn
      have eq':(q:Int)-1=(q':Int):=by omega
      have er':(r:Int)+(a1:Int)=(r':Int):=by omega
      have hb1:1≤q:=hpos
      have hb2:r'≤8589934591:=by omega
      have hb3:q'≤V1:=by omega
      have hb4:Hid (q' < q):=Lib.hid (by omega)
      clear hq' hr'
      by_cases hr2:4294967296≤r'
      · have hfin:=Lib.hid (hdn.far ha1 ha0 hV1 hr2)
        have hrB:decide ((4294967296:Int)≤(r':Int))=true:=by simp;omega
        go_wp2
        go_meet
        exact ⟨rfl,by rw [hQ0.out,← hfin.out]⟩
      · have hrB:decide ((4294967296:Int)≤(r':Int))=false:=by simp;omega
        go_wp2
        go_round
        case rel=>exact ⟨q',r',rfl,rfl,hdn,by omega,hb3⟩
        case measure=>simp [intOf];exact hb4.out
    · have hqB:decide ((4294967296:Int)≤(q:Int))=false:=by simp;omega
      have hmb:q*a0≤18446744065119617025:=by have:q*a0≤4294967295*4294967295:=Nat.mul_le_mul (by omega) (by omega);omega
      have em:IntKind.u64.wrap ((q:Int)*(a0:Int))=((q*a0:Nat):Int):=by rw [← Int.natCast_mul];exact u64_nat _ (by omega)
      by_cases hc:4294967296*r+u0 < q*a0
      · obtain ⟨hpos,hdn⟩:=hH.down hV1 hu0 (.inr hc)
        generalize q*a0=z at *
        obtain ⟨q',hq'⟩:∃ q',q'=q-1:=⟨_,rfl⟩
        obtain ⟨r',hr'⟩:∃ r',r'=r+a1:=⟨_,rfl⟩
        rw [← hq',← hr'] at hdn
        have eq':(q:Int)-1=(q':Int):=by omega
        have er':(r:Int)+(a1:Int)=(r':Int):=by omega
        have hb1:1≤q:=hpos
        have hb2:r'≤8589934591:=by omega
        have hb3:q'≤V1:=by omega
        have hb4:Hid (q' < q):=Lib.hid (by omega)
        clear hq' hr'
        by_cases hr2:4294967296≤r'
        · have hfin:=Lib.hid (hdn.far ha1 ha0 hV1 hr2)
          have hrB:decide ((4294967296:Int)≤(r':Int))=true:=by simp;omega
          go_wp2
          go_meet
          exact ⟨rfl,by rw [hQ0.out,← hfin.out]⟩
        · have hrB:decide ((4294967296:Int)≤(r':Int))=false:=by simp;omega
          go_wp2
          go_round
          case rel=>exact ⟨q',r',rfl,rfl,hdn,by omega,hb3⟩
          case measure=>simp [intOf];exact hb4.out
      · have hfin:=Lib.hid (hH.done ha1 (by omega))
        generalize q*a0=z at *
        go_wp2
        go_meet
        exact ⟨rfl,by rw [hQ0.out,← hfin.out]⟩
  case rest =>
   obtain ⟨rfl,rfl⟩:=hcut
   go_wp2_with fail
   go_ret2
   exact ⟨rfl,0,rfl⟩
theorem mul_left_word {U u Q Y V:Nat} (h:U*4294967296+u=Q*Y+V) (hV:V < B64) :
 IntKind.u64.wrap (IntKind.u64.wrap (IntKind.u64.wrap ((U:Int)*4294967296)+(u:Int))-IntKind.u64.wrap ((Q:Int)*(Y:Int)))=(V:Int):=by
 rw [← Int.natCast_mul];exact left_word h hV
theorem halves {D N y s U1 U0 Y Q1 Q0 V1 V0 u1 u0:Nat} (hB:B64=D*D) (hU:N*2^s=U1*B64+U0) (hY:Y=y*2^s) (hu:U0=u1*D+u0) (h1:U1*D+u1=Q1*Y+V1) (h2:V1*D+u0=Q0*Y+V0) (hV:V0 < Y) (hy:0 < y) :
 N/y=Q1*D+Q0∧N%y=V0/2^s:=by
 have e1:N*2^s=(Q1*D+Q0)*Y+V0:=by
  have e2:(U1*D+u1)*D=(Q1*Y+V1)*D:=by rw [h1]
  have e3:Q1*D*Y=Q1*Y*D:=by ac_rfl
  have e4:U1*B64=U1*D*D:=by rw [hB];ac_rfl
  rw [Nat.add_mul] at e2
  rw [Nat.add_mul] at e2
  have e5:V1*D=Q0*Y+V0-u0:=by omega
  rw [hU,e4,hu,Nat.add_mul,e3]
  omega
 generalize Q1*D+Q0=q at *
 have hp:0 < 2^s:=Nat.two_pow_pos s
 have e5:q*Y=q*y*2^s:=by rw [hY];ac_rfl
 have hle:q*y≤N:=by
  have:q*y*2^s≤N*2^s:=by omega
  exact Nat.le_of_mul_le_mul_right this hp
 have e6:V0=(N-q*y)*2^s:=by rw [Nat.sub_mul];omega
 have e7:V0/2^s=N-q*y:=by rw [e6,Nat.mul_div_cancel _ hp]
 have e8:N-q*y < y:=by
  rw [e6,hY] at hV
  exact Nat.lt_of_mul_lt_mul_right hV
 have e9:N=q*y+(N-q*y):=by omega
 refine ⟨?_,?_⟩
 · rw [e9,Nat.add_comm,Nat.add_mul_div_right _ _ hy,Nat.div_eq_of_lt (by omega),Nat.zero_add]
 · rw [e7,e9,Nat.add_comm,Nat.add_mul_mod_self_right,Nat.mod_eq_of_lt (by omega)]
   omega
theorem div64_any (hi lo y:Nat) (w:World) (h1:hi < y) (h2:y < B64) (h3:lo < B64) :
 Calls Tryz.prog 199 #[.int .u64 (hi:Int),.int .u64 (lo:Int),.int .u64 (y:Int)] w (PairPost w ((hi*B64+lo)/y) ((hi*B64+lo)%y)):=by
 rcases Nat.eq_zero_or_pos hi with h0 | h0
 · subst h0
   rw [Nat.zero_mul,Nat.zero_add]
   exact div64_zero lo y w (by omega) h2 h3
 obtain ⟨l1,l2,l3,l4⟩:=len_bounds y (by omega) h2
 have LZ:=Tryz.bits_LeadingZeros64 (y:Int) w (by omega) (by unfold B64 at h2;omega)
 rw [Int.toNat_natCast] at LZ
 generalize Lib.bitLen y=L at *
 obtain ⟨s,hs⟩:∃ s,s=64-L:=⟨_,rfl⟩
 rw [show (64:Int)-(L:Int)=(s:Int) by omega] at LZ
 have hB:=B64_pow
 have hYlo:2^63≤y*2^s:=by
  have h:=Nat.mul_le_mul_right (2^s) l3
  rw [← Nat.pow_add,show L-1+s=63 by omega] at h
  exact h
 have hYhi:y*2^s < B64:=by
  have h:=Nat.mul_lt_mul_of_pos_right l4 (Nat.two_pow_pos s)
  rw [← Nat.pow_add,show L+s=64 by omega,← B64_pow] at h
  exact h
 have hUlt:(hi*B64+lo)*2^s/B64 < y*2^s:=by
  apply Nat.div_lt_of_lt_mul
  have h:(hi+1)*B64≤y*B64:=Nat.mul_le_mul_right _ h1
  rw [Nat.add_mul,Nat.one_mul] at h
  have h':(hi*B64+lo)*2^s < y*B64*2^s:=Nat.mul_lt_mul_of_pos_right (by omega) (Nat.two_pow_pos s)
  rw [show B64*(y*2^s)=y*B64*2^s by ac_rfl];exact h'
 have eU1:=or_word_sum hi lo s h3 (by omega)
 rw [Nat.mod_eq_of_lt (Nat.lt_trans hUlt hYhi)] at eU1
 have e4:bits .or .u64 (IntKind.u64.wrap ((hi:Int)*2^s)) ((lo:Int)/2^(64-s))=(((hi*B64+lo)*2^s/B64:Nat):Int):=by
  rw [shl_word,shr_word,or_word_int _ _ _ h3 (by omega),eU1]
 have eU0:lo*2^s%B64=(hi*B64+lo)*2^s%B64:=by
  rw [Nat.add_mul,show hi*B64*2^s=hi*2^s*B64 by ac_rfl,Nat.add_comm,Nat.add_mul_mod_self_right]
 have hUdm:=Nat.div_add_mod ((hi*B64+lo)*2^s) B64
 have e5:IntKind.u64.wrap ((lo:Int)*2^s)=(((hi*B64+lo)*2^s%B64:Nat):Int):=by rw [shl_word,eU0]
 have hU0lt:(hi*B64+lo)*2^s%B64 < B64:=Nat.mod_lt _ B64_pos
 have e1:IntKind.u64.wrap ((y:Int)*2^s)=((y*2^s:Nat):Int):=by rw [shl_word,Nat.mod_eq_of_lt hYhi]
 clear eU1 eU0 l3 l4
 have hY:Hid (y*2^s=y*2^s):=Lib.hid rfl
 generalize hYe:y*2^s=Y at *
 generalize (hi*B64+lo)*2^s/B64=U1 at *
 generalize (hi*B64+lo)*2^s%B64=U0 at *
 have e3:=and_mask Y hYhi
 have e7:=and_mask U0 hU0lt
 have hY6:Y≤18446744073709551615:=by unfold B64 at hYhi;omega
 have hU6:U0≤18446744073709551615:=by unfold B64 at hU0lt;omega
 have hYs:Y=Y/4294967296*4294967296+Y%4294967296:=by omega
 have hT1:=Nat.div_add_mod (U1*4294967296+U0/4294967296) Y
 have hV1:(U1*4294967296+U0/4294967296)%Y < Y:=Nat.mod_lt _ (by omega)
 have hQ1:(U1*4294967296+U0/4294967296)/Y < 4294967296:=by
  apply Nat.div_lt_of_lt_mul
  have:(U1+1)*4294967296≤Y*4294967296:=Nat.mul_le_mul_right _ hUlt
  omega
 obtain ⟨Q1,hQ1e⟩:∃ q,q=(U1*4294967296+U0/4294967296)/Y:=⟨_,rfl⟩
 rw [← hQ1e] at hT1 hQ1
 generalize (U1*4294967296+U0/4294967296)%Y=V1 at *
 have hT0:=Nat.div_add_mod (V1*4294967296+U0%4294967296) Y
 have hV0:(V1*4294967296+U0%4294967296)%Y < Y:=Nat.mod_lt _ (by omega)
 have hQ0:(V1*4294967296+U0%4294967296)/Y < 4294967296:=by
  apply Nat.div_lt_of_lt_mul
  have:(V1+1)*4294967296≤Y*4294967296:=Nat.mul_le_mul_right _ hV1
  omega
 obtain ⟨Q0,hQ0e⟩:∃ q,q=(V1*4294967296+U0%4294967296)/Y:=⟨_,rfl⟩
 rw [← hQ0e] at hT0 hQ0
 generalize (V1*4294967296+U0%4294967296)%Y=V0 at *
 rw [Nat.mul_comm Y] at hT1 hT0
 have hfin:=halves (D:=4294967296) (N:=hi*B64+lo) (y:=y) (s:=s) (by unfold B64;rfl) (by rw [Nat.mul_comm B64] at hUdm;exact hUdm.symm) hYe.symm (show U0=U0/4294967296*4294967296+U0%4294967296 by omega) hT1.symm hT0.symm hV0 (by omega)
 rw [hfin.1,hfin.2]
 refine div64_core hi lo y s Y (Y/4294967296) (Y%4294967296) U1 U0 (U0/4294967296) (U0%4294967296) Q1 Q0 V1 V0 (V0/2^s) w h0 h1 h2 h3 (by omega) ?_ e1 rfl e3 e4 e5 rfl e7 (by omega) (by omega) (by omega) (by omega) (by omega)
  (by omega) (by omega) (Lib.hid (by rw [← hYs];exact hQ1e)) (mul_left_word hT1.symm (by omega)) (by omega) (by omega) (Lib.hid (by rw [← hYs];exact hQ0e)) (by omega) (by omega) (mul_left_word hT0.symm (by omega)) (shr_word V0 s)
 exact Lib.hid (LZ.mono fun e w' ⟨he,hw⟩=>⟨he,hw.symm⟩)
end Go.Proofs.YtmbmohibpkepdaaGreatDoor
namespace Go.Proofs.YtmbmohibpkepdaaGreatDoor
open Go.RowKit
def GuessPost (w:World) (l0 l1 l2 d0 d1:Nat) (e:Ending) (w':World):Prop:=∃ q:Nat,e=.returned (.int .u64 (q:Int))∧GuessIs l0 l1 l2 d0 d1 q∧∃ k,w'=w.drewN k
def Five (w:World) (a b:Addr) (l0 l1 l2 d0 d1:Nat):Prop :=
 w.cell? a=some (.int .u64 (l0:Int))∧w.cell? ⟨a.block,a.off+1,none⟩=some (.int .u64 (l1:Int))∧w.cell? ⟨a.block,a.off+2,none⟩=some (.int .u64 (l2:Int)) ∧
  w.cell? b=some (.int .u64 (d0:Int))∧w.cell? ⟨b.block,b.off+1,none⟩=some (.int .u64 (d1:Int))
def GuessRel (U d1 d0 l0:Nat) (s7 s8 s9 s10:Value):Prop :=
 ∃ q r o v:Nat,s7=.int .u64 (q:Int)∧s8=.int .u64 (r:Int)∧s9=.int .u64 (o:Int)∧s10=.int .u64 (v:Int)∧HalfD B64 U d1 d0 l0 q r∧q < B64∧r < B64∧o*B64+v=q*d0∧o < B64∧v < B64
theorem GuessIs.mk {l0 l1 l2 d0 d1 q:Nat} (h1:l2 < d1) (h2:q < B64) (h3:q=((l2*B64+l1)*B64+l0)/(d1*B64+d0)):GuessIs l0 l1 l2 d0 d1 q:=⟨h2,.inr ⟨h1,h3⟩⟩
theorem u64_wrap_lt (z:Nat) (h:z < B64):IntKind.u64.wrap (z:Int)=(z:Int):=IntWalk.u64_in _ (by unfold B64 at h;omega)
theorem u64_wrap_over (r d:Nat) (hr:r < B64) (hd:d < B64) (h:B64≤r+d):IntKind.u64.wrap ((r:Int)+(d:Int))=((r+d-B64:Nat):Int):=by
 rw [IntKind.wrap_u64];unfold B64 at *;omega
set_option maxHeartbeats 1000000 in
theorem guess_any (a b:Addr) (n m c d:Nat) (l0 l1 l2 d0 d1:Nat) (w:World) (h5:Five w a b l0 l1 l2 d0 d1) (hn:3≤n) (hm:2≤m) (hn':n≤1000000) (hm':m≤1000000) (hl0:l0 < B64) (hl1:l1 < B64) (hd0:d0 < B64) (hd1:d1 < B64) (hd:0 < d1) :
 Calls Tryz.prog 201 #[.slice (some a) n c,.slice (some b) m d] w (GuessPost w l0 l1 l2 d0 d1):=by
 obtain ⟨c0,c1,c2,k0,k1⟩:=h5
 by_cases hge:d1≤l2
 · go_enter Tryz.func201,Tryz.ntmps201
   go_wp2_with fail
   go_quiet (fail)
   go_wp2_with fail
   go_ret
   exact ⟨18446744073709551615,rfl,⟨by unfold B64;omega,.inl ⟨hge,by unfold B64;omega⟩⟩,_,rfl⟩
 · have hlt:l2 < d1:=by omega
   go_enter Tryz.func201,Tryz.ntmps201
   go_wp2_with fail
   go_quiet (fail)
   go_wp2_with fail
   have c0':(w.drewN nq).cell? a=some (.int .u64 (l0:Int)):=c0
   have c1':(w.drewN nq).cell? ⟨a.block,a.off+1,none⟩=some (.int .u64 (l1:Int)):=c1
   have c2':(w.drewN nq).cell? ⟨a.block,a.off+2,none⟩=some (.int .u64 (l2:Int)):=c2
   have hw1:Hid (∃ k,w.drewN nq=w.drewN k):=Lib.hid ⟨nq,rfl⟩
   clear c0 c1 c2 k0 k1
   generalize w.drewN nq=w1 at *
   have D64:Hid (∀ u:World,Calls Tryz.prog 199 #[.int .u64 (l2:Int),.int .u64 (l1:Int),.int .u64 (d1:Int)] u fun e w'=>e=.returned (.tuple #[.int .u64 (((l2*B64+l1)/d1:Nat):Int),.int .u64 (((l2*B64+l1)%d1:Nat):Int)])∧∃ k,w'=u.drewN k) :=
    Lib.hid fun u=>div64_any l2 l1 d1 u hlt hd1 hl1
   have hst:=HalfD.start (U:=l2*B64+l1) (a0:=d0) hd hl0
   have hq0:(l2*B64+l1)/d1 < B64:=by
    apply Nat.div_lt_of_lt_mul
    have:(l2+1)*B64≤d1*B64:=Nat.mul_le_mul_right _ hlt
    rw [Nat.add_mul,Nat.one_mul] at this
    omega
   have hr0:(l2*B64+l1)%d1 < B64:=Nat.lt_trans (Nat.mod_lt _ hd) hd1
   have hpp:Hid (0 < d1*B64+d0):=Lib.hid (by have:1*B64≤d1*B64:=Nat.mul_le_mul_right _ hd;have:=B64_pos;omega)
   obtain ⟨U,hU⟩:∃ U,U=l2*B64+l1:=⟨_,rfl⟩
   rw [← hU] at D64 hst hq0 hr0
   have HU:=Lib.hid hU
   clear hU
   generalize U/d1=q0 at *
   generalize U%d1=r0 at *
   go_quiet ((go_at_call 199;exact Calls.quiet_of (D64.out _)))
   have FIN:Hid (∃ k,w1.drewN nq=w.drewN k):=Lib.hid (by obtain ⟨k,hk⟩:=hw1.out;exact ⟨k+nq,by rw [hk,World.drewN_drewN]⟩)
   have c0'':(w1.drewN nq).cell? a=some (.int .u64 (l0:Int)):=c0'
   clear c0' c1' c2' D64 hw1
   generalize w1.drewN nq=w2 at *
   obtain ⟨H0,L0,hp0,hH0,hL0,hmul0⟩:=mul64_run q0 d0 hq0 hd0 w2
   have HM0:=Lib.hid hmul0
   have HP0:=Lib.hid hp0
   clear hmul0 hp0
   go_wp2_with fail
   refine HM0.out.mono ?_
   rintro e w3 ⟨rfl,rfl⟩
   go_wp2_with fail
   go_loop [7,8,9,10] (fun s7 s8 s9 s10=>GuessRel U d1 d0 l0 s7 s8 s9 s10) (fun s7 _ _ _=>(intOf s7).toNat)
   case atStart=>exact ⟨q0,r0,H0,L0,rfl,rfl,rfl,rfl,hst,hq0,hr0,HP0.out,hH0,hL0⟩
   case round =>
    clear hst hq0 hr0 HM0 HP0
    obtain ⟨q,r,o,v,rfl,rfl,rfl,rfl,hH,hq64,hr64,hov,ho64,hv64⟩:=hrel
    rw [HU.out] at hH
    have HOV:=Lib.hid hov
    by_cases h1:r < o
    · have h1B:decide (r < o)=true:=by simpa using h1
      have hov:=HOV.out
      obtain ⟨hpos,hdn⟩:=hH.down (over_gt hov hl0 hv64 |>.2 (.inl h1))
      obtain ⟨q',hq'⟩:∃ q',q'=q-1:=⟨_,rfl⟩
      rw [← hq'] at hdn
      have eq':IntKind.u64.wrap ((q:Int)-1)=(q':Int):=by rw [IntWalk.u64_in _ (by unfold B64 at hq64;omega)];omega
      have eq2:IntKind.u64.wrap (q':Int)=(q':Int):=u64_wrap_lt _ (by omega)
      have hq'64:q' < B64:=by omega
      have hb4:Hid (q' < q):=Lib.hid (by omega)
      clear hq'
      by_cases hovf:r+d1 < B64
      · obtain ⟨r',hr'⟩:∃ r',r'=r+d1:=⟨_,rfl⟩
        rw [← hr'] at hdn hovf
        have er':IntKind.u64.wrap ((r:Int)+(d1:Int))=(r':Int):=by rw [show (r:Int)+(d1:Int)=((r':Nat):Int) by omega];exact u64_wrap_lt _ hovf
        have hnl:¬ r' < d1:=by omega
        have hnlB:decide (r' < d1)=false:=by simp;omega
        obtain ⟨H,L,hp,hH',hL',hmul⟩:=mul64_run q' d0 hq'64 hd0 w3
        have HM:=Lib.hid hmul
        have HP:=Lib.hid hp
        have HD:=Lib.hid hdn
        clear hmul hp hdn hr' hH hov HOV
        go_wp2_with fail
        refine HM.out.mono ?_
        rintro e w4 ⟨rfl,rfl⟩
        go_wp2_with fail
        go_round
        case rel=>exact ⟨q',r',H,L,rfl,rfl,rfl,rfl,by rw [HU.out];exact HD.out,hq'64,hovf,HP.out,hH',hL'⟩
        case measure=>simp [intOf];exact hb4.out
      · have hfin:=Lib.hid (hdn.far hpp.out hq'64 hd0 (by omega))
        have er':=u64_wrap_over r d1 hr64 hd1 (by omega)
        obtain ⟨r',hr'⟩:∃ r',r'=r+d1-B64:=⟨_,rfl⟩
        rw [← hr'] at er'
        have hnl:r' < d1:=by omega
        have hnlB:decide (r' < d1)=true:=by simp;omega
        clear hdn hr' hH hov HOV
        go_wp2_with fail
        go_ret
        exact ⟨q',rfl,GuessIs.mk hlt hq'64 hfin.out,FIN.out⟩
    · have h1B:decide (r < o)=false:=by simpa using h1
      by_cases h2:o=r
      · subst h2
        have h2B:((o:Int) == (o:Int))=true:=by simp
        by_cases h3:l0 < v
        · have h3B:decide (l0 < v)=true:=by simpa using h3
          have hov:=HOV.out
          obtain ⟨hpos,hdn⟩:=hH.down (over_gt hov hl0 hv64 |>.2 (.inr ⟨rfl,h3⟩))
          obtain ⟨q',hq'⟩:∃ q',q'=q-1:=⟨_,rfl⟩
          rw [← hq'] at hdn
          have eq':IntKind.u64.wrap ((q:Int)-1)=(q':Int):=by rw [IntWalk.u64_in _ (by unfold B64 at hq64;omega)];omega
          have eq2:IntKind.u64.wrap (q':Int)=(q':Int):=u64_wrap_lt _ (by omega)
          have hq'64:q' < B64:=by omega
          have hb4:Hid (q' < q):=Lib.hid (by omega)
          clear hq'
          by_cases hovf:o+d1 < B64
          · obtain ⟨r',hr'⟩:∃ r',r'=o+d1:=⟨_,rfl⟩
            rw [← hr'] at hdn hovf
            have er':IntKind.u64.wrap ((o:Int)+(d1:Int))=(r':Int):=by rw [show (o:Int)+(d1:Int)=((r':Nat):Int) by omega];exact u64_wrap_lt _ hovf
            have hnl:¬ r' < d1:=by omega
            have hnlB:decide (r' < d1)=false:=by simp;omega
            obtain ⟨H,L,hp,hH',hL',hmul⟩:=mul64_run q' d0 hq'64 hd0 w3
            have HM:=Lib.hid hmul
            have HP:=Lib.hid hp
            have HD:=Lib.hid hdn
            clear hmul hp hdn hr' hH hov HOV
            go_wp2_with fail
            refine HM.out.mono ?_
            rintro e w4 ⟨rfl,rfl⟩
            go_wp2_with fail
            go_round
            case rel=>exact ⟨q',r',H,L,rfl,rfl,rfl,rfl,by rw [HU.out];exact HD.out,hq'64,hovf,HP.out,hH',hL'⟩
            case measure=>simp [intOf];exact hb4.out
          · have hfin:=Lib.hid (hdn.far hpp.out hq'64 hd0 (by omega))
            have er':=u64_wrap_over o d1 hr64 hd1 (by omega)
            obtain ⟨r',hr'⟩:∃ r',r'=o+d1-B64:=⟨_,rfl⟩
            rw [← hr'] at er'
            have hnl:r' < d1:=by omega
            have hnlB:decide (r' < d1)=true:=by simp;omega
            clear hdn hr' hH hov HOV
            go_wp2_with fail
            go_ret
            exact ⟨q',rfl,GuessIs.mk hlt hq'64 hfin.out,FIN.out⟩
        · have h3B:decide (l0 < v)=false:=by simpa using h3
          have hfin:=Lib.hid (hH.done hpp.out (Nat.le_of_not_lt fun h=>(over_gt HOV.out hl0 hv64 |>.1 h).elim (fun h=>by omega) (fun h=>h3 h.2)))
          clear hov hH HOV
          go_wp2_with fail
          go_ret
          exact ⟨q,rfl,GuessIs.mk hlt hq64 hfin.out,FIN.out⟩
      · have h2B:((o:Int) == (r:Int))=false:=by simp;omega
        have hfin:=Lib.hid (hH.done hpp.out (Nat.le_of_not_lt fun h=>(over_gt HOV.out hl0 hv64 |>.1 h).elim (fun h=>h1 h) (fun h=>h2 h.1)))
        clear hov hH HOV
        go_wp2_with fail
        go_ret
        exact ⟨q,rfl,GuessIs.mk hlt hq64 hfin.out,FIN.out⟩
end Go.Proofs.YtmbmohibpkepdaaGreatDoor
namespace Go.Proofs.YtmbmohibpkepdaaGreatDoor
open Go.RowKit
def gq (l0 l1 l2 d0 d1:Nat):Nat:=if d1≤l2 then B64-1 else ((l2*B64+l1)*B64+l0)/(d1*B64+d0)
theorem gq_of {l0 l1 l2 d0 d1 q:Nat} (h:GuessIs l0 l1 l2 d0 d1 q):q=gq l0 l1 l2 d0 d1:=by
 unfold gq
 rcases h.2 with ⟨h1,h2⟩ | ⟨h1,h2⟩
 · rw [if_pos h1];exact h2
 · rw [if_neg (by omega)];exact h2
theorem gq_is {l0 l1 l2 d0 d1:Nat} (hl1:l1 < B64) (hl0:l0 < B64):GuessIs l0 l1 l2 d0 d1 (gq l0 l1 l2 d0 d1):=by
 have hB:=B64_pos
 unfold gq
 by_cases h:d1≤l2
 · rw [if_pos h];exact ⟨by omega,.inl ⟨h,rfl⟩⟩
 · rw [if_neg h]
   refine ⟨?_,.inr ⟨by omega,rfl⟩⟩
   apply Nat.div_lt_of_lt_mul
   have h1:(l2+1)*B64≤d1*B64:=Nat.mul_le_mul_right _ (by omega)
   rw [Nat.add_mul,Nat.one_mul] at h1
   have h2:(l2*B64+l1+1)*B64≤(d1*B64+d0)*B64:=Nat.mul_le_mul_right _ (by omega)
   rw [Nat.add_mul,Nat.one_mul] at h2
   omega
theorem guess_fix (a b:Addr) (n m c d:Nat) (l0 l1 l2 d0 d1:Nat) (w:World) (h5:Five w a b l0 l1 l2 d0 d1) (hn:3≤n) (hm:2≤m) (hn':n≤1000000) (hm':m≤1000000) (hl0:l0 < B64) (hl1:l1 < B64) (hd0:d0 < B64) (hd1:d1 < B64) (hd:0 < d1) :
 Calls Tryz.prog 201 #[.slice (some a) n c,.slice (some b) m d] w fun e w'=>e=.returned (.int .u64 ((gq l0 l1 l2 d0 d1:Nat):Int))∧∃ k,w'=w.drewN k :=
 (guess_any a b n m c d l0 l1 l2 d0 d1 w h5 hn hm hn' hm' hl0 hl1 hd0 hd1 hd).mono fun e w' ⟨q,he,hq,hw⟩=>⟨by rw [← gq_of hq];exact he,hw⟩
theorem vs_three (b:Nat) (f:Nat→Nat):vs b f 3=(f 2*b+f 1)*b+f 0:=by
 simp only [vs,Nat.pow_zero,Nat.mul_one,Nat.zero_add,Nat.pow_one]
 rw [Nat.add_mul,show f 2*b^2=f 2*b*b by rw [Nat.pow_two,Nat.mul_assoc]]
 omega
theorem vs_two (b:Nat) (f:Nat→Nat):vs b f 2=f 1*b+f 0:=by
 simp only [vs,Nat.pow_zero,Nat.mul_one,Nat.zero_add,Nat.pow_one]
 omega
theorem step_right {A1 A bor ln Pn q V Z R:Nat} (hZ:Z=A+ln*Pn) (hs:A1+q*V=A+bor*Pn) (hge:bor≤ln) (hV:V≤Pn) (hR:R < V)
 (hn:Z=q*V+R∨(0 < q∧Z=(q-1)*V+R∧Z < q*V)):Z=q*V+A1∧A1 < V:=by
 obtain ⟨d,rfl⟩:∃ d,ln=bor+d:=⟨ln-bor,by omega⟩
 rw [Nat.add_mul] at hZ
 have e:Z=q*V+A1+d*Pn:=by omega
 rcases hn with h | ⟨_,_,h⟩
 · have h1:d*Pn < Pn:=by omega
   have:d=0:=by
    rcases Nat.eq_zero_or_pos d with h0 | h0
    · exact h0
    · have:1*Pn≤d*Pn:=Nat.mul_le_mul_right _ h0
      omega
   subst this
   rw [Nat.zero_mul] at e
   omega
 · omega
theorem step_back {A1 A2 A bor ln Pn q V Z R c:Nat} (hZ:Z=A+ln*Pn) (hs:A1+q*V=A+bor*Pn) (hlt:ln < bor) (hA1:A1 < Pn) (hV:V≤Pn) (hA2:A2 < Pn) (hR:R < V)
 (hn:Z=q*V+R∨(0 < q∧Z=(q-1)*V+R∧Z < q*V)) (ha:A2+c*Pn=A1+V):0 < q∧Z=(q-1)*V+A2∧A2 < V:=by
 obtain ⟨d,rfl⟩:∃ d,bor=ln+(d+1):=⟨bor-ln-1,by omega⟩
 rw [Nat.add_mul,Nat.add_mul,Nat.one_mul] at hs
 rcases hn with h | ⟨h0,h1,_⟩
 · omega
 · obtain ⟨k,rfl⟩:∃ k,q=k+1:=⟨q-1,by omega⟩
   simp only [Nat.add_sub_cancel] at h1 ⊢
   rw [Nat.add_mul,Nat.one_mul] at hs
   have e:A2+c*Pn=R+(d+1)*Pn:=by rw [Nat.add_mul,Nat.one_mul];omega
   have e2:A2=R:=by
    have a1:(A2+c*Pn)%Pn=A2:=by rw [Nat.add_mul_mod_self_right,Nat.mod_eq_of_lt hA2]
    have a2:(R+(d+1)*Pn)%Pn=R:=by rw [Nat.add_mul_mod_self_right,Nat.mod_eq_of_lt (by omega)]
    rw [← a1,← a2,e]
   subst e2
   exact ⟨h0,h1,hR⟩
theorem back_pos {A1 A bor ln Pn q V Z R:Nat} (hA1:A1 < Pn) (hZ:Z=A+ln*Pn) (hs:A1+q*V=A+bor*Pn) (hlt:ln < bor) (hn:Z=q*V+R∨(0 < q∧Z=(q-1)*V+R∧Z < q*V)):0 < q:=by
 rcases hn with h | ⟨h,_⟩
 · rcases Nat.eq_zero_or_pos q with h0 | h0
   · subst h0
     have h3:(ln+1)*Pn≤bor*Pn:=Nat.mul_le_mul_right _ hlt
     rw [Nat.add_mul,Nat.one_mul] at h3
     rw [Nat.zero_mul] at hs h
     omega
   · exact h0
 · exact h
def StepPost (t:TypeId) (w:World) (g N off n V Z:Nat) (F:Nat→Nat) (e:Ending) (w':World):Prop :=
 ∃ q F',e=.returned (.int .u64 ((q:Nat):Int))∧q < B64∧Row t w' g N F'∧Only w w' g∧(∀ j,j < off∨off+n+1≤j→F' j=F j)∧F' (off+n)=0∧Z=q*V+vs B64 (fun j=>F' (off+j)) n∧vs B64 (fun j=>F' (off+j)) n < V
theorem only_drewN {a w:World} {g:Nat} (h:Only a w g) (n:Nat):Only a (w.drewN n) g:=⟨h.os,h.tape,h.output,h.size,h.block⟩
set_option maxHeartbeats 2000000 in
theorem divStep_any (g off k c N cd:Nat) (F y:Nat→Nat) (bd:Addr) (w:World) (hr:Row 51 w g N F) (hoff:off+(k+3)≤N) (hN:N≤1000000) (hcap:k+3≤c) (hy:Sl w (some bd) (k+2) cd y) (hne:bd.block≠g)
 (htop:B64≤2*y (k+1)) (hlt:vs B64 (fun j=>F (off+j)) (k+3) < vs B64 y (k+2)*B64) :
 Calls Tryz.prog 200 #[.slice (some ⟨g,off,none⟩) (k+3) c,.slice (some bd) (k+2) cd] w (StepPost 51 w g N off (k+2) (vs B64 y (k+2)) (vs B64 (fun j=>F (off+j)) (k+3)) F):=by
 have hB:=B64_pos
 have hcd:=hy.cap
 have c0:=hr.cell (i:=off+k) (by omega)
 have c1:=hr.cell (i:=off+k+1) (by omega)
 have c2:=hr.cell (i:=off+k+2) (by omega)
 have b0:=hr.2 (off+k) (by omega)
 have b1:=hr.2 (off+k+1) (by omega)
 have b2:=hr.2 (off+k+2) (by omega)
 obtain ⟨_,e0,_,d0,v0⟩:=hy.at_ (k:=k) (by omega)
 injection e0 with e0
 subst e0
 obtain ⟨_,e1,_,d1,v1⟩:=hy.at_ (k:=k+1) (by omega)
 injection e1 with e1
 subst e1
 have h5:Hid (∀ m,Five (w.drewN m) ⟨g,off+k,none⟩ (bd.add k) (F (off+k)) (F (off+k+1)) (F (off+k+2)) (y k) (y (k+1))):=Lib.hid fun m=>by
  refine ⟨c0,c1,c2,v0,?_⟩
  rw [show (⟨(bd.add k).block,(bd.add k).off+1,none⟩:Addr)=bd.add (k+1) from by rw [← add_of_add];simp [Addr.add]]
  exact v1
 have hd1:0 < y (k+1):=by omega
 have hnear:=guess_near (P:=B64^k) (a:=vs B64 (fun j=>F (off+j)) k) (v:=vs B64 y k) (gq_is (l0:=F (off+k)) (l1:=F (off+k+1)) (l2:=F (off+k+2)) (d0:=y k) b1 b0) htop d0
  (vs_lt fun j hj=>hr.2 _ (by omega)) (vs_lt fun j hj=>hy.small j (by omega))
 have eZ:vs B64 (fun j=>F (off+j)) (k+3)=vs B64 (fun j=>F (off+j)) k+B64^k*((F (off+k+2)*B64+F (off+k+1))*B64+F (off+k)):=by
  rw [vs_add,vs_three];simp only [Nat.add_zero,Nat.add_assoc]
 have eV:vs B64 y (k+2)=vs B64 y k+B64^k*(y (k+1)*B64+y k):=by rw [vs_add,vs_two];simp only [Nat.add_zero]
 rw [← eZ,← eV] at hnear
 obtain ⟨R,hR,hn⟩:=hnear hlt
 have hqB:=(gq_is (l0:=F (off+k)) (l1:=F (off+k+1)) (l2:=F (off+k+2)) (d0:=y k) (d1:=y (k+1)) b1 b0).1
 have hVlt:=vs_lt hy.small
 have hZs:vs B64 (fun j=>F (off+j)) (k+3)=vs B64 (fun j=>F (off+j)) (k+2)+F (off+(k+2))*B64^(k+2):=vs_succ _ _ _
 have G:Hid (∀ u m,u=w.drewN m→Calls Tryz.prog 201 #[.slice (some ⟨g,off+k,none⟩) 3 (c-k),.slice (some (bd.add k)) 2 (cd-k)] u fun e w'=>e=.returned (.int .u64 ((gq (F (off+k)) (F (off+k+1)) (F (off+k+2)) (y k) (y (k+1)):Nat):Int))∧∃ j,w'=u.drewN j) :=
  Lib.hid fun u m hu=>by rw [hu];exact guess_fix _ _ 3 2 _ _ _ _ _ _ _ _ (h5.out m) (by omega) (by omega) (by omega) (by omega) b0 b1 d0 d1 hd1
 generalize gq (F (off+k)) (F (off+k+1)) (F (off+k+2)) (y k) (y (k+1))=q at *
 clear c0 c1 v0 v1 h5 eZ eV hlt
 have hc1:¬ c=k:=by omega
 have hc2:¬ cd=k:=by omega
 have q1:IntKind.i64.wrap (((k+2:Nat):Int)-2)=(k:Int):=by rw [IntWalk.i64_in _ (by omega)];omega
 have q2:IntKind.i64.wrap ((k:Int)+2-2)=(k:Int):=by rw [IntWalk.i64_in _ (by omega)];omega
 have HR:=Lib.hid hR
 have HN:=Lib.hid hn
 have HZ:=Lib.hid hZs
 clear hR hn hZs
 generalize hVV:vs B64 y (k+2)=V at *
 have HV:=Lib.hid hVV
 clear hVV
 go_enter Tryz.func200,Tryz.ntmps200
 go_wp2_with fail
 go_quiet ((go_at_call 201;exact Calls.quiet_of (G.out _ _ rfl)))
 have hr1:=hr.drewN nq
 have hy1:=hy.drewN nq
 have on1:Only w (w.drewN nq) g:=only_drewN (Only.refl _ _) nq
 have far1:0 < k+2→∀ ad,some bd=some ad→ad.block≠g:=fun _ ad h=>by injection h with h;rw [← h];exact hne
 clear q1 q2 G c2
 generalize w.drewN nq=w1 at *
 go_wp2_with fail
 refine (subTimes_any g off (k+2) c N F (some bd) (k+2) cd y q w1 hr1 (by omega) hN (by omega) hy1 (Nat.le_refl _) far1 hqB).mono ?_
 rintro e w2 ⟨F1,bor,rfl,hinv⟩
 obtain ⟨hborB,hr2,on2,hag2,hs2⟩:=hinv
 rw [vs_pad _ _ _ _ (Nat.le_refl _),vs_mul,HV.out] at hs2
 have hln:Hid (F1 (off+(k+2))=F (off+(k+2))):=Lib.hid (hag2 _ (by omega))
 have hrc:=hr2.cell (i:=off+(k+2)) (by omega)
 have hrf:=hr2.frozen (off+(k+2))
 have hA1:=vs_lt (f:=fun j=>F1 (off+j)) (n:=k+2) (fun j hj=>hr2.2 _ (by omega))
 have hlnB:=hr2.2 (off+(k+2)) (by omega)
 rw [hln.out] at hrc hlnB
 have HS:=Lib.hid hs2
 have HAG:=Lib.hid hag2
 clear hs2 hag2 hr1
 have on12:=on1.trans on2
 generalize hlne:F (off+(k+2))=ln at *
 have HLN:=Lib.hid hlne
 clear hlne
 by_cases hge:bor≤ln
 · have hres:=Lib.hid (step_right HZ.out HS.out hge (Nat.le_of_lt hVlt) HR.out HN.out)
   have hgeB:¬ ln < bor:=by omega
   go_wp2_with fail
   go_ret
   refine ⟨q,upd F1 (off+(k+2)) 0,rfl,hqB,hr2.set_ _ 0 hB,on12.set_ _ _,fun j hj=>?_,upd_same _ _ _,?_,?_⟩
   · rw [upd_other _ _ _ _ (by omega)];exact HAG.out j (by omega)
   · rw [vs_congr (g:=fun j=>F1 (off+j)) fun j hj=>upd_other _ _ _ _ (by omega)];exact hres.out.1
   · rw [vs_congr (g:=fun j=>F1 (off+j)) fun j hj=>upd_other _ _ _ _ (by omega)];exact hres.out.2
 · have hltB:ln < bor:=by omega
   obtain ⟨q',hq'⟩:∃ q',q'=q-1:=⟨_,rfl⟩
   have hq0:0 < q:=back_pos hA1 HZ.out HS.out hltB HN.out
   have eq':IntKind.u64.wrap ((q:Int)-1)=(q':Int):=by rw [IntWalk.u64_in _ (by unfold B64 at hqB;omega)];omega
   have eq2:IntKind.u64.wrap (q':Int)=(q':Int):=u64_wrap_lt _ (by omega)
   have HQ:=Lib.hid hq'
   clear hq'
   have hy2:=hy1.only on2 far1
   go_wp2_with fail
   refine (addInto_any g off (k+2) c N F1 (some bd) (k+2) cd y w2 hr2 (by omega) hN hy2 (Nat.le_refl _) far1).mono ?_
   rintro e w3 ⟨F2,cy,rfl,hinv3⟩
   obtain ⟨_,hr3,on3,hag3,hs3⟩:=hinv3
   rw [vs_pad _ _ _ _ (Nat.le_refl _),HV.out] at hs3
   have hA2:=vs_lt (f:=fun j=>F2 (off+j)) (n:=k+2) (fun j hj=>hr3.2 _ (by omega))
   have hres:=Lib.hid (step_back HZ.out HS.out hltB hA1 (Nat.le_of_lt hVlt) hA2 HR.out HN.out hs3)
   have hrc3:=hr3.cell (i:=off+(k+2)) (by omega)
   have hrf3:=hr3.frozen (off+(k+2))
   have HAG3:=Lib.hid hag3
   clear hs3 hag3
   go_wp2_with fail
   go_ret
   refine ⟨q',upd F2 (off+(k+2)) 0,rfl,by have:=HQ.out;omega,hr3.set_ _ 0 hB,(on12.trans on3).set_ _ _,fun j hj=>?_,upd_same _ _ _,?_,?_⟩
   · rw [upd_other _ _ _ _ (by omega),HAG3.out j (by omega)];exact HAG.out j (by omega)
   · rw [vs_congr (g:=fun j=>F2 (off+j)) fun j hj=>upd_other _ _ _ _ (by omega),HQ.out];exact hres.out.2.1
   · rw [vs_congr (g:=fun j=>F2 (off+j)) fun j hj=>upd_other _ _ _ _ (by omega)];exact hres.out.2.2
end Go.Proofs.YtmbmohibpkepdaaGreatDoor
namespace Go.Proofs.YtmbmohibpkepdaaGreatDoor
open Go.RowKit
def QuoPost (w:World) (Q R:Nat) (e:Ending) (w':World):Prop:=∃ v u,e=.returned (.tuple #[v,u,.bool true])∧Num w' v Q∧Num w' u R∧Below w.heap.size w w'
theorem one_sl (t:TypeId) (w:World) (r:Nat) (hr:r < B64):Sl (w.alloc (.cells #[.int .u64 ((r:Nat):Int)] t)) (some ⟨w.heap.size,0,none⟩) 1 1 (fun _=>r) :=
 ⟨Nat.le_refl _,fun _ _=>hr,fun _=>⟨_,rfl,by simp,fun j hj=>by
  obtain rfl:j=0:=by omega
  rw [add_mk,World.cell?_alloc_at _ _ _ _ rfl];rfl⟩⟩
theorem vs_one (b r:Nat):vs b (fun _=>r) 1=r:=by simp [vs]
set_option maxHeartbeats 400000 in
theorem divmod_word (A B:Option Addr) (n m c d:Nat) (x y:Nat→Nat) (w:World) (ha:Sl w A n c x) (hb:Sl w B m d y) (hn:n≤1000000) (hm:m≤1000000) (ht:tl y m=1) (hle:vs B64 y m≤vs B64 x n)
 (hD:Hid (∀ (hi lo:Nat) (w:World),hi < y 0→lo < B64→(tl x n=1→hi=0)→Calls Tryz.prog 199 #[.int .u64 (hi:Int),.int .u64 (lo:Int),.int .u64 (y 0:Int)] w (PairPost w ((hi*B64+lo)/y 0) ((hi*B64+lo)%y 0)))) :
 Calls Tryz.prog 183 #[.slice A n c,.slice B m d] w (QuoPost w (vs B64 x n/vs B64 y m) (vs B64 x n%vs B64 y m)):=by
 obtain ⟨A1,c1,e1,s1⟩:=viewV_sl ha
 obtain ⟨B1,d1,e2,s2⟩:=viewV_sl hb
 have l1:=tl_le x n
 have V1:=view_raw A n c x w ha (by omega)
 have V2:=view_raw B m d y w hb (by omega)
 have cy:=tl_cn y m
 rw [e1] at V1
 rw [e2] at V2
 rw [← vs_tl B64 x n,← vs_tl B64 y m] at hle ⊢
 rw [ht] at V2 s2 cy hle ⊢
 clear e1 e2 ht
 generalize tl x n=p at *
 have ey:vs B64 y 1=y 0:=by rw [vs_succ,vs_zero];simp
 rw [ey] at hle ⊢
 have hy0:0 < y 0:=by rcases cy with h | h <;> simp at h;omega
 have hy1:=s2.small 0 (by omega)
 have hp0:0 < p:=by
  rcases Nat.eq_zero_or_pos p with h | h
  · subst h;rw [vs_zero] at hle;omega
  · exact h
 have V3:=cmp_any A1 B1 p 1 c1 d1 x y w s1 s2 (by omega) (by omega)
 rw [ey] at V3
 obtain ⟨r,hr0,hr1⟩:∃ r:Nat,cmpN (vs B64 x p) (y 0)=(r:Int)∧r≤1:=by
  rcases Nat.lt_or_ge (y 0) (vs B64 x p) with h | h
  · exact ⟨1,by rw [cmpN_gt h];rfl,by omega⟩
  · exact ⟨0,by rw [Nat.le_antisymm h hle,cmpN_eq];rfl,by omega⟩
 rw [hr0] at V3
 clear hr0
 have H1:=Lib.hid V1
 have H2:=Lib.hid V2
 have H3:=Lib.hid V3
 clear V1 V2 V3 ey
 go_enter Tryz.func183,Tryz.ntmps183
 go_wp2_with fail
 refine H1.out.mono ?_
 rintro e w' ⟨rfl,rfl⟩
 go_wp2_with fail
 refine H2.out.mono ?_
 rintro e w' ⟨rfl,rfl⟩
 go_wp2_with fail
 refine H3.out.mono ?_
 rintro e w1 ⟨rfl,hb1⟩
 obtain ⟨bd,rfl,hbb,hy64,hcell⟩:=(s2.below hb1).at_ (k:=0) (by omega)
 rw [show bd.add 0=bd from by simp [Addr.add]] at hcell
 go_wp2_with fail
 refine (divWord_any A1 p c1 x (y 0) w1 (s1.below hb1) (by omega) hp0 hy0 hD).mono ?_
 rintro e w2 ⟨v,rfl,hnum,hb2⟩
 have hR:vs B64 x p%y 0 < B64:=Nat.lt_trans (Nat.mod_lt _ hy0) hy1
 generalize vs B64 x p/y 0=Q at *
 generalize vs B64 x p%y 0=R at *
 have s3:=one_sl 51 w2 R hR
 go_wp2_with fail
 refine (view_raw _ 1 1 _ _ s3 (by omega)).mono ?_
 rintro e w5 ⟨rfl,rfl⟩
 have hnum2:=viewV_num s3
 rw [vs_one] at hnum2
 go_wp2_with fail
 go_ret3
 have hb3:Below w2.heap.size w2 (w2.alloc (.cells #[.int .u64 ((R:Nat):Int)] 51)):=(Below.refl _ _).alloc (Nat.le_refl _) _
 exact ⟨_,_,rfl,hnum.below hb3,hnum2,(hb1.trans (hb2.mono hb1.size)).trans (hb3.mono (Nat.le_trans hb1.size hb2.size))⟩
end Go.Proofs.YtmbmohibpkepdaaGreatDoor
