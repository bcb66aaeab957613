/-
  Num of both.
  Scale of the code.
  Scale of the reference.
-/
import Derived.Test.YtljioadppdpdiaaGreatDoorPkNat5
import Derived.Test.YtljioadppdpdiaaGreatDoorPkDy10
import Derived.Test.YtljioadppdpdiaaGreatDoorPkDy13
import Derived.Test.YtljioadppdpdiaaGreatDoorPkSp3
namespace Go.Proofs.YtljioadppdpdiaaGreatDoor
open Go.RowKit

def numS (p : Int) (bad : Bool) (n : Int) : SRes := ptI p bad (mkD (decide (n < 0)) n.natAbs 0)
theorem mk_num (neg : Bool) (N : Nat) (hN : N ≤ 9223372036854775808) : (mkD neg N 0).ok = true ∧ plainV (mkD neg N 0).neg (mkD neg N 0).m (mkD neg N 0).e = true := by
  have hok : (mkD neg N 0).ok = true := by
    unfold mkD
    by_cases h0 : N = 0
    · rw [if_pos h0]; rfl
    · rw [if_neg h0]
      have h1 : nb (od N) ≤ 64 := by
        have := nb_mono (od_le N)
        have := (nb_le_iff N 64).2 (by omega)
        omega
      have h2 := v2_lt_nb (show 0 < N by omega)
      have h3 := (nb_le_iff N 64).2 (by omega)
      rw [if_pos ⟨by rw [MB_eq]; omega, by unfold fitE; omega⟩]
  exact ⟨hok, plIf_mk _ _ _ hok⟩
theorem sgood_num {p : Int} {bad : Bool} {n : Int} (h1 : -9223372036854775808 ≤ n) (h2 : n ≤ 9223372036854775807) : SGood (numS p bad n) :=
  sgood_pt (fun _ => plainR_of (mk_num _ _ (by omega)).2)
set_option maxRecDepth 8000 in
set_option maxHeartbeats 4000000 in
theorem num_any (n : Int) (g : Nat) (p : Int) (bad : Bool) (w : World) (hW : Wk 37 w g p bad) (hT : Tab w) (hn1 : -9223372036854775808 ≤ n) (hn2 : n ≤ 9223372036854775807) :
    Calls Tryz.prog 20 #[.pointer (some ⟨g, 0, none⟩), .int .i64 n] w (SPost 37 w g p (numS p bad n)) := by
  by_cases h0 : n < 0
  · skip
    have hd : decide (n < 0) = true := by simpa using h0
    obtain ⟨N, hN⟩ : ∃ N : Nat, n = -(N : Int) := ⟨n.natAbs, by omega⟩
    obtain ⟨K, hK⟩ : ∃ K : Nat, (K : Int) = 18446744073709551616 - (N : Int) := ⟨18446744073709551616 - N, by omega⟩
    have hN1 : 1 ≤ N := by omega
    have hN2 : N ≤ 9223372036854775808 := by omega
    have hc : IntKind.u64.wrap n = (K : Int) := by rw [IntKind.wrap_u64]; omega
    have hc2 : IntKind.u64.wrap (-(K : Int)) = (N : Int) := by rw [IntKind.wrap_u64]; omega
    have hsg : decide (n < 0) = true := hd
    have hab : n.natAbs = N := by omega
    clear hN hK
    have S := (St.start hW).alloc 28 zs
    have HT : Hid (numS p bad n = ptI p bad (mkD true N 0)) := Lib.hid (by unfold numS; rw [hsg, hab])
    have HM : Hid (∀ w', Only w w' g → ∀ z : Int, z = (N : Int) → Calls Tryz.prog 43 #[.bool true, .slice (some ⟨w'.heap.size, 0, none⟩) 1 1, .int .i64 0] (w'.alloc (.cells #[.int .u64 z] 42)) (DP (w'.alloc (.cells #[.int .u64 z] 42)) (mkD true N 0))) := Lib.hid (fun w' o z hz => by
      subst hz
      have := make_any true _ 1 1 (fun _ => N) 0 _ (one_sl 42 w' N (by unfold B64; omega)) (by omega) ((hT.wk hW o).below (alloc_bel _ _)) (by omega) (by omega)
      rw [vs_one] at this
      exact this.mono fun _ _ h => h.dp)
    have hpl := mk_num true N (by omega)
    clear hsg hab
    generalize mkD true N 0 = r at *
    have k0 := S.ks.1.1
    have k0_0 := k0.at_ 0 _ rfl
    have k0_1 := k0.at_ 1 _ rfl
    have k0_2 := k0.at_ 2 _ rfl
    have k0_3 := k0.at_ 3 _ rfl
    have k0_4 := k0.at_ 4 _ rfl
    have k0_5 := k0.at_ 5 _ rfl
    have k0l := k0.2
    clear k0
    go_enter Tryz.func20, Tryz.ntmps20
    go_wp2_with fail
    generalize hw1 : w.alloc z6 = w1 at *
    have hs1 : w.heap.size + 1 = w1.heap.size := by rw [← hw1]; simp
    have MK := HM.out w1 S.O _ rfl
    rw [← hs1] at MK
    have HMK := Lib.hid MK
    have SA := S.below (alloc_bel w1 (.cells #[.int .u64 (N : Int)] 42))
    clear MK hw1 HM hs1 S
    clear k0_0 k0_1 k0_2 k0_3 k0_4 k0_5 k0l
    refine HMK.out.mono ?_
    clear HMK
    rintro e' v1 ⟨A1, n1, c1, rfl, m1, b1⟩
    have S := (SA.below b1).num m1
    clear SA b1 m1
    have k1 := S.ks.1.1
    have k1_0 := k1.at_ 0 _ rfl
    have k1_1 := k1.at_ 1 _ rfl
    have k1_2 := k1.at_ 2 _ rfl
    have k1_3 := k1.at_ 3 _ rfl
    have k1_4 := k1.at_ 4 _ rfl
    have k1_5 := k1.at_ 5 _ rfl
    have k1l := k1.2
    clear k1
    go_wp2_with fail
    replace S := S.alloc 26 #[.bool r.neg, .slice A1 n1 c1, .int .i64 r.e]
    generalize v1.alloc (.cells #[.bool r.neg, .slice A1 n1 c1, .int .i64 r.e] 26) = y1 at *
    clear k1_0 k1_1 k1_2 k1_3 k1_4 k1_5 k1l
    refine (point_I g p bad y1 S.W (DIn.of_num S.ns.1 hpl.2 hpl.1)).mono ?_
    rintro e' w3 ⟨A9, p9, c9, B9, q9, d9, rfl, m1, m2, hW9, o9⟩
    replace S := S.only o9 hW9
    clear o9 hW9
    generalize ptI p bad r = r1 at *
    have kR := S.ks.2.1.1
    have s0 := kR.at_ 0 _ rfl
    have s1 := kR.at_ 1 _ rfl
    have s2 := kR.at_ 2 _ rfl
    have s3 := kR.at_ 3 _ rfl
    have s4 := kR.at_ 4 _ rfl
    have s5 := kR.at_ 5 _ rfl
    have rf0 := kR.fr 0
    have rf1 := kR.fr 1
    have rf2 := kR.fr 2
    have rf3 := kR.fr 3
    have rf4 := kR.fr 4
    have rf5 := kR.fr 5
    go_wp2_with fail
    rw [HT.out]
    obtain ⟨q1, q2, q3, q4⟩ := S.give (lo := r1.lo) (hi := r1.hi) m1 m2 kR (by omega)
    exact bodyPost_ret (v := spv r1.lo.neg A9 p9 c9 r1.lo.e r1.hi.neg B9 q9 d9 r1.hi.e) (by simp [results, Tryz.results20, go_sem, s0, s1, s2, s3, s4, s5]) rfl ⟨A9, p9, c9, B9, q9, d9, rfl, q1, q2, q3, q4⟩
  · skip
    have hd : decide (n < 0) = false := by simpa using h0
    obtain ⟨N, hN⟩ : ∃ N : Nat, n = (N : Int) := ⟨n.natAbs, by omega⟩
    have hN2 : N ≤ 9223372036854775808 := by omega
    have hc : IntKind.u64.wrap n = (N : Int) := by rw [IntKind.wrap_u64]; omega
    have hsg : decide (n < 0) = false := hd
    have hab : n.natAbs = N := by omega
    clear hN
    have S := (St.start hW).alloc 28 zs
    have HT : Hid (numS p bad n = ptI p bad (mkD false N 0)) := Lib.hid (by unfold numS; rw [hsg, hab])
    have HM : Hid (∀ w', Only w w' g → ∀ z : Int, z = (N : Int) → Calls Tryz.prog 43 #[.bool false, .slice (some ⟨w'.heap.size, 0, none⟩) 1 1, .int .i64 0] (w'.alloc (.cells #[.int .u64 z] 42)) (DP (w'.alloc (.cells #[.int .u64 z] 42)) (mkD false N 0))) := Lib.hid (fun w' o z hz => by
      subst hz
      have := make_any false _ 1 1 (fun _ => N) 0 _ (one_sl 42 w' N (by unfold B64; omega)) (by omega) ((hT.wk hW o).below (alloc_bel _ _)) (by omega) (by omega)
      rw [vs_one] at this
      exact this.mono fun _ _ h => h.dp)
    have hpl := mk_num false N (by omega)
    clear hsg hab
    generalize mkD false N 0 = r at *
    have k0 := S.ks.1.1
    have k0_0 := k0.at_ 0 _ rfl
    have k0_1 := k0.at_ 1 _ rfl
    have k0_2 := k0.at_ 2 _ rfl
    have k0_3 := k0.at_ 3 _ rfl
    have k0_4 := k0.at_ 4 _ rfl
    have k0_5 := k0.at_ 5 _ rfl
    have k0l := k0.2
    clear k0
    go_enter Tryz.func20, Tryz.ntmps20
    go_wp2_with fail
    generalize hw1 : w.alloc z6 = w1 at *
    have hs1 : w.heap.size + 1 = w1.heap.size := by rw [← hw1]; simp
    have MK := HM.out w1 S.O _ rfl
    rw [← hs1] at MK
    have HMK := Lib.hid MK
    have SA := S.below (alloc_bel w1 (.cells #[.int .u64 (N : Int)] 42))
    clear MK hw1 HM hs1 S
    clear k0_0 k0_1 k0_2 k0_3 k0_4 k0_5 k0l
    refine HMK.out.mono ?_
    clear HMK
    rintro e' v1 ⟨A1, n1, c1, rfl, m1, b1⟩
    have S := (SA.below b1).num m1
    clear SA b1 m1
    have k1 := S.ks.1.1
    have k1_0 := k1.at_ 0 _ rfl
    have k1_1 := k1.at_ 1 _ rfl
    have k1_2 := k1.at_ 2 _ rfl
    have k1_3 := k1.at_ 3 _ rfl
    have k1_4 := k1.at_ 4 _ rfl
    have k1_5 := k1.at_ 5 _ rfl
    have k1l := k1.2
    clear k1
    go_wp2_with fail
    replace S := S.alloc 26 #[.bool r.neg, .slice A1 n1 c1, .int .i64 r.e]
    generalize v1.alloc (.cells #[.bool r.neg, .slice A1 n1 c1, .int .i64 r.e] 26) = y1 at *
    clear k1_0 k1_1 k1_2 k1_3 k1_4 k1_5 k1l
    refine (point_I g p bad y1 S.W (DIn.of_num S.ns.1 hpl.2 hpl.1)).mono ?_
    rintro e' w3 ⟨A9, p9, c9, B9, q9, d9, rfl, m1, m2, hW9, o9⟩
    replace S := S.only o9 hW9
    clear o9 hW9
    generalize ptI p bad r = r1 at *
    have kR := S.ks.2.1.1
    have s0 := kR.at_ 0 _ rfl
    have s1 := kR.at_ 1 _ rfl
    have s2 := kR.at_ 2 _ rfl
    have s3 := kR.at_ 3 _ rfl
    have s4 := kR.at_ 4 _ rfl
    have s5 := kR.at_ 5 _ rfl
    have rf0 := kR.fr 0
    have rf1 := kR.fr 1
    have rf2 := kR.fr 2
    have rf3 := kR.fr 3
    have rf4 := kR.fr 4
    have rf5 := kR.fr 5
    go_wp2_with fail
    rw [HT.out]
    obtain ⟨q1, q2, q3, q4⟩ := S.give (lo := r1.lo) (hi := r1.hi) m1 m2 kR (by omega)
    exact bodyPost_ret (v := spv r1.lo.neg A9 p9 c9 r1.lo.e r1.hi.neg B9 q9 d9 r1.hi.e) (by simp [results, Tryz.results20, go_sem, s0, s1, s2, s3, s4, s5]) rfl ⟨A9, p9, c9, B9, q9, d9, rfl, q1, q2, q3, q4⟩
end Go.Proofs.YtljioadppdpdiaaGreatDoor

namespace Go.Proofs.YtljioadppdpdiaaGreatDoor
open Go.RowKit

def kBad (k : Int) : Bool := decide (k < -262144) || decide (262144 < k)
def scaleS (p : Int) (bad : Bool) (lo hi : DR) (k : Int) : SRes := twoS (bad1 p bad lo hi || kBad k) (mkD lo.neg lo.m (lo.e + k)) (mkD hi.neg hi.m (hi.e + k))
end Go.Proofs.YtljioadppdpdiaaGreatDoor

namespace Go.Proofs.YtljioadppdpdiaaGreatDoor
open Go.RowKit

end Go.Proofs.YtljioadppdpdiaaGreatDoor
