/-
  math/bits.Div64: two words over one.
-/
import Derived.Test.YtodjldhppbbhdaaGreatDoorShelf
import Derived.Deep.QuietTactic
import Derived.BigQuiet
import Derived.Deep.DeepCutAuto
import Derived.Deep.CutBlock
import Derived.Test.YtodjldhppbbhdaaGreatDoorPlSerGNumbers
import Derived.Test.YtodjldhppbbhdaaGreatDoorPlSerGLists
import Derived.Test.YtodjldhppbbhdaaGreatDoorPlSerGNat3
namespace Go.Proofs.YtodjldhppbbhdaaGreatDoor
open Go.RowKit

/-- A half's quotient is looked for, in two slots. -/
def HalfRel (U a1 a0 u : Nat) (s15 s16 : Value) : Prop := ∃ q r : Nat, s15 = .int .u64 (q : Int) ∧ s16 = .int .u64 (r : Int) ∧ Half U a1 a0 u q r ∧ r < 4294967296 ∧ q ≤ U
/-- It is found. -/
def HalfEnd (w : World) (Q : Nat) (s15 : Value) (wc : World) : Prop := w = wc ∧ s15 = .int .u64 (Q : Int)

/-- The first guess of a half, as the walk spells it. -/
theorem half_facts (U a1 a0 u : Nat) (ha1 : 2147483648 ≤ a1) (hu : u < 4294967296) (hU : U ≤ 18446744073709551615) : ∃ q r : Nat,
    IntKind.u64.wrap ((U : Int).tdiv (a1 : Int)) = (q : Int) ∧ IntKind.u64.wrap ((U : Int) / (a1 : Int)) = (q : Int) ∧ IntKind.u64.wrap ((U : Int) - IntKind.u64.wrap ((q : Int) * (a1 : Int))) = (r : Int) ∧ Half U a1 a0 u q r ∧ r < a1 ∧ q ≤ U := by
  have hdm := Nat.div_add_mod U a1
  rw [Nat.mul_comm] at hdm
  have hle : U / a1 ≤ U := Nat.div_le_self _ _
  have hm : U % a1 < a1 := Nat.mod_lt _ (by omega)
  refine ⟨U / a1, U % a1, ?_, ?_, ?_, Half.start ha1 hu, hm, hle⟩
  · rw [IntWalk.u64_quo _ _ ⟨by omega, by omega, by omega⟩]; rfl
  · rw [show ((U : Int) / (a1 : Int)) = ((U / a1 : Nat) : Int) from rfl]; exact u64_nat _ (Nat.le_trans hle hU)
  · have hc : (((U / a1 : Nat) : Int) * (a1 : Int)) = ((U / a1 * a1 : Nat) : Int) := by simp
    rw [hc]
    generalize U / a1 * a1 = z at *
    generalize U % a1 = z2 at *
    rw [IntWalk.u64_in (z : Int) (by omega), IntWalk.u64_in _ (by omega)]
    omega

set_option maxHeartbeats 4000000 in
set_option maxRecDepth 100000 in
theorem div64_core (hi lo y s Y a1 a0 U1 U0 u1 u0 Q1 Q0 V1 V0 R : Nat) (w : World) (h0 : 0 < hi) (h1 : hi < y) (h2 : y < B64) (h3 : lo < B64) (hs : s ≤ 63)
    (hz : Hid (Calls Tryz.prog 126 #[.int .u64 (y : Int)] w fun e w' => e = .returned (.int .i64 (s : Int)) ∧ w = w'))
    (e1 : IntKind.u64.wrap ((y : Int) * 2 ^ s) = (Y : Int)) (e2 : ((Y : Int)) / 4294967296 = (a1 : Int)) (e3 : bits .and .u64 (Y : Int) 4294967295 = (a0 : Int))
    (e4 : bits .or .u64 (IntKind.u64.wrap ((hi : Int) * 2 ^ s)) ((lo : Int) / 2 ^ (64 - s)) = (U1 : Int)) (e5 : IntKind.u64.wrap ((lo : Int) * 2 ^ s) = (U0 : Int)) (e6 : ((U0 : Int)) / 4294967296 = (u1 : Int))
    (e7 : bits .and .u64 (U0 : Int) 4294967295 = (u0 : Int)) (ha1 : 2147483648 ≤ a1) (ha1' : a1 < 4294967296) (ha0 : a0 < 4294967296) (hu1 : u1 < 4294967296) (hu0 : u0 < 4294967296)
    (hU1 : U1 < a1 * 4294967296 + a0) (hU1' : U1 ≤ 18446744073709551615) (hQ1 : Hid (Q1 = (U1 * 4294967296 + u1) / (a1 * 4294967296 + a0))) 
    (e8 : IntKind.u64.wrap (IntKind.u64.wrap (IntKind.u64.wrap ((U1 : Int) * 4294967296) + (u1 : Int)) - IntKind.u64.wrap ((Q1 : Int) * (Y : Int))) = (V1 : Int))
    (hV1 : V1 < a1 * 4294967296 + a0) (hV1' : V1 ≤ 18446744073709551615) (hQ0 : Hid (Q0 = (V1 * 4294967296 + u0) / (a1 * 4294967296 + a0))) (hQ1b : Q1 ≤ 4294967295) (hQ0b : Q0 ≤ 4294967295)
    (e12 : IntKind.u64.wrap (IntKind.u64.wrap (IntKind.u64.wrap ((V1 : Int) * 4294967296) + (u0 : Int)) - IntKind.u64.wrap ((Q0 : Int) * (Y : Int))) = (V0 : Int)) (e13 : (V0 : Int) / 2 ^ s = (R : Int)) :
    Calls Tryz.prog 125 #[.int .u64 (hi : Int), .int .u64 (lo : Int), .int .u64 (y : Int)] w (PairPost w (Q1 * 4294967296 + Q0) R) := by
  have hy0 : ((y : Int) == 0) = false := by simp; omega
  have hi0 : ((hi : Int) == 0) = false := by simp; omega
  have hhi : hi ≤ 18446744073709551615 := by unfold B64 at *; omega
  have hy6 : y ≤ 18446744073709551615 := by unfold B64 at *; omega
  have hlo : lo ≤ 18446744073709551615 := by unfold B64 at *; omega
  obtain ⟨q0, r0, e9, e9', e10, hst, hr0, hq0⟩ := half_facts U1 a1 a0 u1 ha1 hu1 hU1'
  obtain ⟨q2, r2, f9, f9', f10, gst, gr0, gq0⟩ := half_facts V1 a1 a0 u0 ha1 hu0 hV1'
  go_enter Tryz.func125, Tryz.ntmps125
  go_wp2_with fail
  refine hz.out.mono ?_
  rintro e w' ⟨rfl, rfl⟩
  go_upto_block 0 with (fail)
  go_cut [15, 16] (fun s15 _ wc => HalfEnd w Q1 s15 wc)
  case first =>
    go_wp2
    go_loop [15, 16] (fun sq sr => HalfRel U1 a1 a0 u1 sq sr) (fun sq _ => (intOf sq).toNat)
    case atStart => exact ⟨q0, r0, rfl, rfl, hst, by omega, hq0⟩
    case round =>
      clear hst hr0 hq0 e9 e9' e10 e8 e12 e13 f9 f9' f10 gst gr0 gq0
      obtain ⟨q, r, rfl, rfl, hH, hr, hqU⟩ := hrel
      by_cases hq : 4294967296 ≤ q
      · obtain ⟨hpos, hdn⟩ := hH.down hU1 hu1 (.inl hq)
        have hqB : decide ((4294967296 : Int) ≤ (q : Int)) = true := by simp; omega
        obtain ⟨q', hq'⟩ : ∃ q', q' = q - 1 := ⟨_, rfl⟩
        obtain ⟨r', hr'⟩ : ∃ r', r' = r + a1 := ⟨_, rfl⟩
        rw [← hq', ← hr'] at hdn
        have eq' : (q : Int) - 1 = (q' : Int) := by omega
        have er' : (r : Int) + (a1 : Int) = (r' : Int) := by omega
        have hb1 : 1 ≤ q := hpos
        have hb2 : r' ≤ 8589934591 := by omega
        have hb3 : q' ≤ U1 := by omega
        have hb4 : Hid (q' < q) := Lib.hid (by omega)
        clear hq' hr'
        by_cases hr2 : 4294967296 ≤ r'
        · have hfin := Lib.hid (hdn.far ha1 ha0 hU1 hr2)
          have hrB : decide ((4294967296 : Int) ≤ (r' : Int)) = true := by simp; omega
          go_wp2
          go_meet
          exact ⟨rfl, by rw [hQ1.out, ← hfin.out]⟩
        · have hrB : decide ((4294967296 : Int) ≤ (r' : Int)) = false := by simp; omega
          go_wp2
          go_round
          case rel => exact ⟨q', r', rfl, rfl, hdn, by omega, hb3⟩
          case measure => simp [intOf]; exact hb4.out
      · have hqB : decide ((4294967296 : Int) ≤ (q : Int)) = false := by simp; omega
        have hmb : q * a0 ≤ 18446744065119617025 := by have : q * a0 ≤ 4294967295 * 4294967295 := Nat.mul_le_mul (by omega) (by omega); omega
        have em : IntKind.u64.wrap ((q : Int) * (a0 : Int)) = ((q * a0 : Nat) : Int) := by rw [← Int.natCast_mul]; exact u64_nat _ (by omega)
        by_cases hc : 4294967296 * r + u1 < q * a0
        · obtain ⟨hpos, hdn⟩ := hH.down hU1 hu1 (.inr hc)
          generalize q * a0 = z at *
          obtain ⟨q', hq'⟩ : ∃ q', q' = q - 1 := ⟨_, rfl⟩
          obtain ⟨r', hr'⟩ : ∃ r', r' = r + a1 := ⟨_, rfl⟩
          rw [← hq', ← hr'] at hdn
          have eq' : (q : Int) - 1 = (q' : Int) := by omega
          have er' : (r : Int) + (a1 : Int) = (r' : Int) := by omega
          have hb1 : 1 ≤ q := hpos
          have hb2 : r' ≤ 8589934591 := by omega
          have hb3 : q' ≤ U1 := by omega
          have hb4 : Hid (q' < q) := Lib.hid (by omega)
          clear hq' hr'
          by_cases hr2 : 4294967296 ≤ r'
          · have hfin := Lib.hid (hdn.far ha1 ha0 hU1 hr2)
            have hrB : decide ((4294967296 : Int) ≤ (r' : Int)) = true := by simp; omega
            go_wp2
            go_meet
            exact ⟨rfl, by rw [hQ1.out, ← hfin.out]⟩
          · have hrB : decide ((4294967296 : Int) ≤ (r' : Int)) = false := by simp; omega
            go_wp2
            go_round
            case rel => exact ⟨q', r', rfl, rfl, hdn, by omega, hb3⟩
            case measure => simp [intOf]; exact hb4.out
        · have hfin := Lib.hid (hH.done ha1 (by omega))
          generalize q * a0 = z at *
          go_wp2
          go_meet
          exact ⟨rfl, by rw [hQ1.out, ← hfin.out]⟩
  case rest =>
    obtain ⟨rfl, rfl⟩ := hcut
    clear hst hr0 hq0 e9 e9' e10
    go_upto_block 2 with (fail)
    go_cut [18, 16] (fun s18 _ wc => HalfEnd w Q0 s18 wc)
    case first =>
      go_wp2
      go_loop [18, 16] (fun sq sr => HalfRel V1 a1 a0 u0 sq sr) (fun sq _ => (intOf sq).toNat)
      case atStart => exact ⟨q2, r2, rfl, rfl, gst, by omega, gq0⟩
      case round =>
        clear gst gr0 gq0 f9 f9' f10 e8 e12 e13
        obtain ⟨q, r, rfl, rfl, hH, hr, hqU⟩ := hrel
        by_cases hq : 4294967296 ≤ q
        · obtain ⟨hpos, hdn⟩ := hH.down hV1 hu0 (.inl hq)
          have hqB : decide ((4294967296 : Int) ≤ (q : Int)) = true := by simp; omega
          obtain ⟨q', hq'⟩ : ∃ q', q' = q - 1 := ⟨_, rfl⟩
          obtain ⟨r', hr'⟩ : ∃ r', r' = r + a1 := ⟨_, rfl⟩
          rw [← hq', ← hr'] at hdn
          have eq' : (q : Int) - 1 = (q' : Int) := by omega
          have er' : (r : Int) + (a1 : Int) = (r' : Int) := by omega
          have hb1 : 1 ≤ q := hpos
          have hb2 : r' ≤ 8589934591 := by omega
          have hb3 : q' ≤ V1 := by omega
          have hb4 : Hid (q' < q) := Lib.hid (by omega)
          clear hq' hr'
          by_cases hr2 : 4294967296 ≤ r'
          · have hfin := Lib.hid (hdn.far ha1 ha0 hV1 hr2)
            have hrB : decide ((4294967296 : Int) ≤ (r' : Int)) = true := by simp; omega
            go_wp2
            go_meet
            exact ⟨rfl, by rw [hQ0.out, ← hfin.out]⟩
          · have hrB : decide ((4294967296 : Int) ≤ (r' : Int)) = false := by simp; omega
            go_wp2
            go_round
            case rel => exact ⟨q', r', rfl, rfl, hdn, by omega, hb3⟩
            case measure => simp [intOf]; exact hb4.out
        · have hqB : decide ((4294967296 : Int) ≤ (q : Int)) = false := by simp; omega
          have hmb : q * a0 ≤ 18446744065119617025 := by have : q * a0 ≤ 4294967295 * 4294967295 := Nat.mul_le_mul (by omega) (by omega); omega
          have em : IntKind.u64.wrap ((q : Int) * (a0 : Int)) = ((q * a0 : Nat) : Int) := by rw [← Int.natCast_mul]; exact u64_nat _ (by omega)
          by_cases hc : 4294967296 * r + u0 < q * a0
          · obtain ⟨hpos, hdn⟩ := hH.down hV1 hu0 (.inr hc)
            generalize q * a0 = z at *
            obtain ⟨q', hq'⟩ : ∃ q', q' = q - 1 := ⟨_, rfl⟩
            obtain ⟨r', hr'⟩ : ∃ r', r' = r + a1 := ⟨_, rfl⟩
            rw [← hq', ← hr'] at hdn
            have eq' : (q : Int) - 1 = (q' : Int) := by omega
            have er' : (r : Int) + (a1 : Int) = (r' : Int) := by omega
            have hb1 : 1 ≤ q := hpos
            have hb2 : r' ≤ 8589934591 := by omega
            have hb3 : q' ≤ V1 := by omega
            have hb4 : Hid (q' < q) := Lib.hid (by omega)
            clear hq' hr'
            by_cases hr2 : 4294967296 ≤ r'
            · have hfin := Lib.hid (hdn.far ha1 ha0 hV1 hr2)
              have hrB : decide ((4294967296 : Int) ≤ (r' : Int)) = true := by simp; omega
              go_wp2
              go_meet
              exact ⟨rfl, by rw [hQ0.out, ← hfin.out]⟩
            · have hrB : decide ((4294967296 : Int) ≤ (r' : Int)) = false := by simp; omega
              go_wp2
              go_round
              case rel => exact ⟨q', r', rfl, rfl, hdn, by omega, hb3⟩
              case measure => simp [intOf]; exact hb4.out
          · have hfin := Lib.hid (hH.done ha1 (by omega))
            generalize q * a0 = z at *
            go_wp2
            go_meet
            exact ⟨rfl, by rw [hQ0.out, ← hfin.out]⟩
    case rest =>
      obtain ⟨rfl, rfl⟩ := hcut
      go_wp2_with fail
      go_ret2
      exact ⟨rfl, 0, rfl⟩

theorem mul_left_word {U u Q Y V : Nat} (h : U * 4294967296 + u = Q * Y + V) (hV : V < B64) :
    IntKind.u64.wrap (IntKind.u64.wrap (IntKind.u64.wrap ((U : Int) * 4294967296) + (u : Int)) - IntKind.u64.wrap ((Q : Int) * (Y : Int))) = (V : Int) := by
  rw [← Int.natCast_mul]; exact left_word h hV

/-- Two halves make the whole. -/
theorem halves {D N y s U1 U0 Y Q1 Q0 V1 V0 u1 u0 : Nat} (hB : B64 = D * D) (hU : N * 2 ^ s = U1 * B64 + U0) (hY : Y = y * 2 ^ s) (hu : U0 = u1 * D + u0) (h1 : U1 * D + u1 = Q1 * Y + V1) (h2 : V1 * D + u0 = Q0 * Y + V0) (hV : V0 < Y) (hy : 0 < y) :
    N / y = Q1 * D + Q0 ∧ N % y = V0 / 2 ^ s := by
  have e1 : N * 2 ^ s = (Q1 * D + Q0) * Y + V0 := by
    have e2 : (U1 * D + u1) * D = (Q1 * Y + V1) * D := by rw [h1]
    have e3 : Q1 * D * Y = Q1 * Y * D := by ac_rfl
    have e4 : U1 * B64 = U1 * D * D := by rw [hB]; ac_rfl
    rw [Nat.add_mul] at e2
    rw [Nat.add_mul] at e2
    have e5 : V1 * D = Q0 * Y + V0 - u0 := by omega
    rw [hU, e4, hu, Nat.add_mul, e3]
    omega
  generalize Q1 * D + Q0 = q at *
  have hp : 0 < 2 ^ s := Nat.two_pow_pos s
  have e5 : q * Y = q * y * 2 ^ s := by rw [hY]; ac_rfl
  have hle : q * y ≤ N := by
    have : q * y * 2 ^ s ≤ N * 2 ^ s := by omega
    exact Nat.le_of_mul_le_mul_right this hp
  have e6 : V0 = (N - q * y) * 2 ^ s := by rw [Nat.sub_mul]; omega
  have e7 : V0 / 2 ^ s = N - q * y := by rw [e6, Nat.mul_div_cancel _ hp]
  have e8 : N - q * y < y := by
    rw [e6, hY] at hV
    exact Nat.lt_of_mul_lt_mul_right hV
  have e9 : N = q * y + (N - q * y) := by omega
  refine ⟨?_, ?_⟩
  · rw [e9, Nat.add_comm, Nat.add_mul_div_right _ _ hy, Nat.div_eq_of_lt (by omega), Nat.zero_add]
  · rw [e7, e9, Nat.add_comm, Nat.add_mul_mod_self_right, Nat.mod_eq_of_lt (by omega)]
    omega

theorem div64_any (hi lo y : Nat) (w : World) (h1 : hi < y) (h2 : y < B64) (h3 : lo < B64) :
    Calls Tryz.prog 125 #[.int .u64 (hi : Int), .int .u64 (lo : Int), .int .u64 (y : Int)] w (PairPost w ((hi * B64 + lo) / y) ((hi * B64 + lo) % y)) := by
  rcases Nat.eq_zero_or_pos hi with h0 | h0
  · subst h0
    rw [Nat.zero_mul, Nat.zero_add]
    exact div64_zero lo y w (by omega) h2 h3
  obtain ⟨l1, l2, l3, l4⟩ := len_bounds y (by omega) h2
  have LZ := Tryz.bits_LeadingZeros64 (y : Int) w (by omega) (by unfold B64 at h2; omega)
  rw [Int.toNat_natCast] at LZ
  generalize Lib.bitLen y = L at *
  obtain ⟨s, hs⟩ : ∃ s, s = 64 - L := ⟨_, rfl⟩
  rw [show (64 : Int) - (L : Int) = (s : Int) by omega] at LZ
  have hB := B64_pow
  have hYlo : 2 ^ 63 ≤ y * 2 ^ s := by
    have h := Nat.mul_le_mul_right (2 ^ s) l3
    rw [← Nat.pow_add, show L - 1 + s = 63 by omega] at h
    exact h
  have hYhi : y * 2 ^ s < B64 := by
    have h := Nat.mul_lt_mul_of_pos_right l4 (Nat.two_pow_pos s)
    rw [← Nat.pow_add, show L + s = 64 by omega, ← B64_pow] at h
    exact h
  have hUlt : (hi * B64 + lo) * 2 ^ s / B64 < y * 2 ^ s := by
    apply Nat.div_lt_of_lt_mul
    have h : (hi + 1) * B64 ≤ y * B64 := Nat.mul_le_mul_right _ h1
    rw [Nat.add_mul, Nat.one_mul] at h
    have h' : (hi * B64 + lo) * 2 ^ s < y * B64 * 2 ^ s := Nat.mul_lt_mul_of_pos_right (by omega) (Nat.two_pow_pos s)
    rw [show B64 * (y * 2 ^ s) = y * B64 * 2 ^ s by ac_rfl]; exact h'
  have eU1 := or_word_sum hi lo s h3 (by omega)
  rw [Nat.mod_eq_of_lt (Nat.lt_trans hUlt hYhi)] at eU1
  have e4 : bits .or .u64 (IntKind.u64.wrap ((hi : Int) * 2 ^ s)) ((lo : Int) / 2 ^ (64 - s)) = (((hi * B64 + lo) * 2 ^ s / B64 : Nat) : Int) := by
    rw [shl_word, shr_word, or_word_int _ _ _ h3 (by omega), eU1]
  have eU0 : lo * 2 ^ s % B64 = (hi * B64 + lo) * 2 ^ s % B64 := by
    rw [Nat.add_mul, show hi * B64 * 2 ^ s = hi * 2 ^ s * B64 by ac_rfl, Nat.add_comm, Nat.add_mul_mod_self_right]
  have hUdm := Nat.div_add_mod ((hi * B64 + lo) * 2 ^ s) B64
  have e5 : IntKind.u64.wrap ((lo : Int) * 2 ^ s) = (((hi * B64 + lo) * 2 ^ s % B64 : Nat) : Int) := by rw [shl_word, eU0]
  have hU0lt : (hi * B64 + lo) * 2 ^ s % B64 < B64 := Nat.mod_lt _ B64_pos
  have e1 : IntKind.u64.wrap ((y : Int) * 2 ^ s) = ((y * 2 ^ s : Nat) : Int) := by rw [shl_word, Nat.mod_eq_of_lt hYhi]
  clear eU1 eU0 l3 l4
  have hY : Hid (y * 2 ^ s = y * 2 ^ s) := Lib.hid rfl
  generalize hYe : y * 2 ^ s = Y at *
  generalize (hi * B64 + lo) * 2 ^ s / B64 = U1 at *
  generalize (hi * B64 + lo) * 2 ^ s % B64 = U0 at *
  have e3 := and_mask Y hYhi
  have e7 := and_mask U0 hU0lt
  have hY6 : Y ≤ 18446744073709551615 := by unfold B64 at hYhi; omega
  have hU6 : U0 ≤ 18446744073709551615 := by unfold B64 at hU0lt; omega
  have hYs : Y = Y / 4294967296 * 4294967296 + Y % 4294967296 := by omega
  have hT1 := Nat.div_add_mod (U1 * 4294967296 + U0 / 4294967296) Y
  have hV1 : (U1 * 4294967296 + U0 / 4294967296) % Y < Y := Nat.mod_lt _ (by omega)
  have hQ1 : (U1 * 4294967296 + U0 / 4294967296) / Y < 4294967296 := by
    apply Nat.div_lt_of_lt_mul
    have : (U1 + 1) * 4294967296 ≤ Y * 4294967296 := Nat.mul_le_mul_right _ hUlt
    omega
  obtain ⟨Q1, hQ1e⟩ : ∃ q, q = (U1 * 4294967296 + U0 / 4294967296) / Y := ⟨_, rfl⟩
  rw [← hQ1e] at hT1 hQ1
  generalize (U1 * 4294967296 + U0 / 4294967296) % Y = V1 at *
  have hT0 := Nat.div_add_mod (V1 * 4294967296 + U0 % 4294967296) Y
  have hV0 : (V1 * 4294967296 + U0 % 4294967296) % Y < Y := Nat.mod_lt _ (by omega)
  have hQ0 : (V1 * 4294967296 + U0 % 4294967296) / Y < 4294967296 := by
    apply Nat.div_lt_of_lt_mul
    have : (V1 + 1) * 4294967296 ≤ Y * 4294967296 := Nat.mul_le_mul_right _ hV1
    omega
  obtain ⟨Q0, hQ0e⟩ : ∃ q, q = (V1 * 4294967296 + U0 % 4294967296) / Y := ⟨_, rfl⟩
  rw [← hQ0e] at hT0 hQ0
  generalize (V1 * 4294967296 + U0 % 4294967296) % Y = V0 at *
  rw [Nat.mul_comm Y] at hT1 hT0
  have hfin := halves (D := 4294967296) (N := hi * B64 + lo) (y := y) (s := s) (by unfold B64; rfl) (by rw [Nat.mul_comm B64] at hUdm; exact hUdm.symm) hYe.symm (show U0 = U0 / 4294967296 * 4294967296 + U0 % 4294967296 by omega) hT1.symm hT0.symm hV0 (by omega)
  rw [hfin.1, hfin.2]
  refine div64_core hi lo y s Y (Y / 4294967296) (Y % 4294967296) U1 U0 (U0 / 4294967296) (U0 % 4294967296) Q1 Q0 V1 V0 (V0 / 2 ^ s) w h0 h1 h2 h3 (by omega) ?_ e1 rfl e3 e4 e5 rfl e7 (by omega) (by omega) (by omega) (by omega) (by omega)
    (by omega) (by omega) (Lib.hid (by rw [← hYs]; exact hQ1e)) (mul_left_word hT1.symm (by omega)) (by omega) (by omega) (Lib.hid (by rw [← hYs]; exact hQ0e)) (by omega) (by omega) (mul_left_word hT0.symm (by omega)) (shr_word V0 s)
  exact Lib.hid (LZ.mono fun e w' ⟨he, hw⟩ => ⟨he, hw.symm⟩)
end Go.Proofs.YtodjldhppbbhdaaGreatDoor
