/-
  volvellelaw13.SpecialOne.
-/
import Derived.Test.YtembfhepinfmnaaDoorPlPGPk4
import Derived.Test.YtembfhepinfmnaaDoorPlPGPk5
namespace Go.Proofs.YtembfhepinfmnaaDoor
open Go.RowKit

theorem spec_zero {tag : Int} {a b c d : Nat} (h : isSp tag a b c d = false) : specN tag a b c d = TW.zero := by unfold specN; rw [h, if_neg (by simp)]
theorem spec_told {tag : Int} {a b c d : Nat} (h : isSp tag a b c d = true) : specN tag a b c d = toldN tag (spN tag a b c d) := by unfold specN; rw [h, if_pos rfl]
/-- The number of NaNs among the first k of two words. -/
def cnt2 (ka kb : Bool) (k : Nat) : Int := if k = 0 then 0 else if k = 1 then (if ka then 1 else 0) else (if ka then 1 else 0) + (if kb then 1 else 0)
theorem cnt_two (ka kb : Bool) : (cnt2 ka kb 2 == 2) = (ka && kb) := by cases ka <;> cases kb <;> decide
theorem flag_25 {f : Int} (h : f = 0 ∨ f = 1 ∨ f = 8 ∨ f = 16 ∨ f = 17) : (Go.bits .andNot .i64 f 25 != 0) = false := by rcases h with rfl | rfl | rfl | rfl | rfl <;> decide +kernel
theorem flag_8 {f : Int} (h : f = 0 ∨ f = 1 ∨ f = 8 ∨ f = 16 ∨ f = 17) : (Go.bits .and .i64 f 8 != 0) = decide (f = 8) := by rcases h with rfl | rfl | rfl | rfl | rfl <;> decide +kernel
theorem flag_16 {f : Int} (h : f = 0 ∨ f = 1 ∨ f = 8 ∨ f = 16 ∨ f = 17) : (Go.bits .and .i64 f 16 == 0) = !(decide (f = 16) || decide (f = 17)) := by rcases h with rfl | rfl | rfl | rfl | rfl <;> decide +kernel
theorem index0_run (x y : Int) (u : World) : (Instr.index 26 (.agg #[.int .u64 x, .int .u64 y]) (.int .i64 0)).run Tryd.prog u = .ok (.int .u64 x) u := rfl
theorem index1_run (x y : Int) (u : World) : (Instr.index 26 (.agg #[.int .u64 x, .int .u64 y]) (.int .i64 1)).run Tryd.prog u = .ok (.int .u64 y) u := rfl
theorem kindnot (b : Nat) : ((kindN b : Int) == 4) = notB b := by
  unfold notB
  rw [Bool.eq_iff_iff]
  simp
  omega
set_option maxRecDepth 100000 in
set_option maxHeartbeats 8000000 in
theorem lspone_no (tag : Int) (a b c d : Nat) (w : World) (hT : Tab w) (ha : a < B64) (hb : b < B64) (hc : c < B64) (hd : d < B64) (hw : wideT tag = false) (h4 : (tag == 4) = false) (h5 : (tag == 5) = false) : Calls Tryd.prog 4 #[.int .i64 tag, .agg (fourC a b c d)] w (TruePost w) := by
  have k1 := KB.made 24 w (fourC a b c d)
  have b1 := alloc_bel w (.cells (fourC a b c d) 24)
  have AW := Lib.hid (awake13 (w.alloc (.cells (fourC a b c d) 24)) (hT.below b1))
  have SP := Lib.hid (fun w' (b' : Below w.heap.size w w') => special_any tag a b c d w' (hT.below b') ha hb hc hd)
  have KF := Lib.hid (fun k w' => rkind_any (fourF a b c d k) w' (four_lt (k := k) ha hb hc hd))
  have HNO := Lib.hid (fun h => spec_zero (tag := tag) (a := a) (b := b) (c := c) (d := d) h)
  have HYES := Lib.hid (fun h => spec_told (tag := tag) (a := a) (b := b) (c := c) (d := d) h)
  obtain ⟨ka, kb, HO⟩ := told_one tag a b c d ha hb
  have HEND : Hid (preN (fourF a b c d) 2 = anyN tag a b c d) := Lib.hid (by
    unfold anyN
    rw [hw]
    simp [preN, fourF])
  generalize toldN tag (spN tag a b c d) = t at *
  generalize specN tag a b c d = r at *
  generalize isSp tag a b c d = ok at *
  generalize anyN tag a b c d = nn at *
  clear hw
  have EQ0 := eq2_run 0 0 0 0
  go_enter Tryd.func4, Tryd.ntmps4
  go_wp2_with fail
  refine AW.out.mono ?_
  rintro e' w2 ⟨rfl, bb⟩
  have k1 := k1.adv bb
  have b1 := below_step b1 bb
  clear bb AW
  have j0 := k1.at_ 0 (v := .int .u64 (a : Int)) rfl
  have j1 := k1.at_ 1 (v := .int .u64 (b : Int)) rfl
  have j2 := k1.at_ 2 (v := .int .u64 (c : Int)) rfl
  have j3 := k1.at_ 3 (v := .int .u64 (d : Int)) rfl
  go_wp2_with fail
  refine (SP.out _ b1).mono ?_
  rintro e' w3 ⟨rfl, bb⟩
  have k1 := k1.adv bb
  have b1 := below_step b1 bb
  clear bb SP j0 j1 j2 j3
  cases ok
  · obtain rfl : r = ⟨0, 0, 0⟩ := HNO.out rfl
    clear HNO HYES HO HEND KF
    as_aux_lemma =>
      go_wp2_with fail
      go_ret
      exact ⟨rfl, below_step b1 (alloc_bel _ _)⟩
  · obtain rfl := HYES.out rfl
    clear HNO HYES EQ0
    obtain ⟨ta, tb, f⟩ := r
    obtain ⟨⟨X, hX, hX1, hX2, hX3⟩, ⟨Y, hY, hY1, hY2, hY3⟩, hf, hcc⟩ := HO
    simp only at hX hY hf hcc
    subst hX hY
    have g1 := flag_25 hf
    have g2 := flag_8 hf
    have g3 := flag_16 hf
    generalize decide (f = 8) = e8 at *
    generalize (decide (f = 16) || decide (f = 17)) = e16 at *
    clear hf
    have HC := Lib.hid hcc
    clear hcc
    have KX := Lib.hid (fun w' => rkind_any X w' hX1)
    have KY := Lib.hid (fun w' => rkind_any Y w' hY1)
    have cx := kindnot X
    have cy := kindnot Y
    rw [hX2] at cx
    rw [hY2] at cy
    have nx : Hid (ka = true → ((X : Int) != 9221120237041090560) = false) := Lib.hid (fun h => by rw [hX3 h]; rfl)
    have ny : Hid (kb = true → ((Y : Int) != 9221120237041090560) = false) := Lib.hid (fun h => by rw [hY3 h]; rfl)
    clear hX1 hX2 hX3 hY1 hY2 hY3
    generalize kindN X = kX at *
    generalize kindN Y = kY at *
    have G := Lib.hid (And.intro g1 (And.intro g2 g3))
    clear g1 g2 g3
    go_upto_region 6 with fail
    have kq := KB.made 26 w3 #[.int .u64 (X : Int), .int .u64 (Y : Int)]
    have al := alloc_bel w3 (.cells #[.int .u64 (X : Int), .int .u64 (Y : Int)] 26)
    have k1 := k1.adv al
    have b1 := below_step b1 al
    clear al
    generalize hw : w3.alloc _ = w4 at *
    clear hw
    have x0 := kq.at_ 0 (v := .int .u64 (X : Int)) rfl
    have x1 := kq.at_ 1 (v := .int .u64 (Y : Int)) rfl
    go_wp2_with fail
    clear x0 x1
    go_loop [8, 34] (fun s8 s34 => ∃ k : Nat, k ≤ 2 ∧ s34 = .int .i64 (k : Int) ∧ s8 = .int .i64 (cnt2 ka kb k)) (fun _ s34 => 2 - (intOf s34).toNat)
    case atStart => exact ⟨0, by omega, rfl, rfl⟩
    case round =>
      obtain ⟨k, hk, rfl, rfl⟩ := hrel
      rcases k with _ | _ | _ | k
      · clear ny cy KY HC G HEND KF
        cases ka
        · as_aux_lemma =>
            have IX := index0_run (X : Int) (Y : Int)
            go_wp2_with fail
            refine (KX.out _).mono ?_
            rintro e' w5 ⟨rfl, rfl⟩
            clear IX
            go_wp2_with fail
            go_round
            case rel => exact ⟨1, by omega, by go_num, by cases kb <;> exact congrArg (Value.int .i64) (by decide +kernel)⟩
            case measure => simp [intOf]
        · have n1 := nx.out rfl
          clear nx
          as_aux_lemma =>
            have IX := index0_run (X : Int) (Y : Int)
            go_wp2_with fail
            refine (KX.out _).mono ?_
            rintro e' w5 ⟨rfl, rfl⟩
            clear IX
            go_wp2_with fail
            go_round
            case rel => exact ⟨1, by omega, by go_num, by cases kb <;> exact congrArg (Value.int .i64) (by decide +kernel)⟩
            case measure => simp [intOf]
      · clear nx cx KX HC G HEND KF
        cases kb
        · as_aux_lemma =>
            have IX := index1_run (X : Int) (Y : Int)
            go_wp2_with fail
            refine (KY.out _).mono ?_
            rintro e' w5 ⟨rfl, rfl⟩
            clear IX
            go_wp2_with fail
            go_round
            case rel => exact ⟨2, by omega, by go_num, by cases ka <;> exact congrArg (Value.int .i64) (by decide +kernel)⟩
            case measure => simp [intOf]
        · have n1 := ny.out rfl
          clear ny
          as_aux_lemma =>
            have IX := index1_run (X : Int) (Y : Int)
            go_wp2_with fail
            refine (KY.out _).mono ?_
            rintro e' w5 ⟨rfl, rfl⟩
            clear IX
            go_wp2_with fail
            go_round
            case rel => exact ⟨2, by omega, by go_num, by cases ka <;> exact congrArg (Value.int .i64) (by decide +kernel)⟩
            case measure => simp [intOf]
      · clear nx ny cx cy KX KY
        obtain ⟨g1, g2, g3⟩ := G.out
        have gc := cnt_two ka kb
        generalize cnt2 ka kb 2 = cc at *
        generalize (ka && kb) = p at *
        have SLR : ∀ u : World, (Instr.sliceAt 24 (.pointer (some ⟨w.heap.size, 0, none⟩)) none (some (.int .i64 2)) none).run Tryd.prog u = .ok (.slice (some ⟨w.heap.size, 0, none⟩) 2 4) u := slice_run 2 (.inl rfl) w.heap.size
        have GG := Lib.hid (And.intro g2 (And.intro g3 gc))
        clear G g2 g3 gc kq
        go_wp2_with fail
        clear SLR g1
        go_loop [12, 57] (fun s12 s57 => ∃ k : Nat, k ≤ 2 ∧ s57 = .int .i64 (k : Int) ∧ s12 = .bool (preN (fourF a b c d) k)) (fun _ s57 => 2 - (intOf s57).toNat)
        case atStart => exact ⟨0, by omega, rfl, rfl⟩
        case round =>
          obtain ⟨k, hk, rfl, rfl⟩ := hrel
          by_cases hlt : k < 2
          · have j := k1.at_ k (four_at (by omega))
            have hz := k1.2
            have K1 := Lib.hid (fun w' => KF.out k w')
            have cv := kindnot (fourF a b c d k)
            obtain ⟨o', HO'⟩ : ∃ o', Hid (Value.bool o' = .bool (preN (fourF a b c d) (k + 1))) := ⟨_, Lib.hid rfl⟩
            have HP : Hid (o' = (preN (fourF a b c d) k || notB (fourF a b c d k))) := Lib.hid (Value.bool.inj HO'.out)
            clear KF HC GG HEND
            generalize preN (fourF a b c d) k = o at *
            generalize notB (fourF a b c d k) = m at *
            generalize kindN (fourF a b c d k) = kk at *
            generalize fourF a b c d k = v at *
            cases o
            · as_aux_lemma =>
                go_wp2_with (first
                  | (go_at_call 9; refine (K1.out _).mono ?_; rintro e' w5 ⟨rfl, rfl⟩))
                go_round
                case rel => exact ⟨k + 1, by omega, by go_num, by rw [← HO'.out, HP.out]; rfl⟩
                case measure => simp [intOf]; omega
            · as_aux_lemma =>
                go_wp2_with fail
                go_round
                case rel => exact ⟨k + 1, by omega, by go_num, by rw [← HO'.out, HP.out]; rfl⟩
                case measure => simp [intOf]; omega
          · obtain rfl : k = 2 := by omega
            rw [HEND.out]
            obtain ⟨g2, g3, gc⟩ := GG.out
            clear HEND GG KF hlt hk
            go_upto_region 26 with fail
            cases p <;> cases nn <;> cases e16
            all_goals
              obtain rfl := HC.out
              clear HC
              as_aux_lemma =>
                go_wp2_with fail
                go_ret
                exact ⟨rfl, b1⟩
      · exfalso; omega
set_option maxRecDepth 100000 in
set_option maxHeartbeats 8000000 in
theorem lspone_4 (a b c d : Nat) (w : World) (hT : Tab w) (ha : a < B64) (hb : b < B64) (hc : c < B64) (hd : d < B64) : Calls Tryd.prog 4 #[.int .i64 4, .agg (fourC a b c d)] w (TruePost w) := by
  have k1 := KB.made 24 w (fourC a b c d)
  have b1 := alloc_bel w (.cells (fourC a b c d) 24)
  have AW := Lib.hid (awake13 (w.alloc (.cells (fourC a b c d) 24)) (hT.below b1))
  have SP := Lib.hid (fun w' (b' : Below w.heap.size w w') => special_any 4 a b c d w' (hT.below b') ha hb hc hd)
  have KF := Lib.hid (fun k w' => rkind_any (fourF a b c d k) w' (four_lt (k := k) ha hb hc hd))
  have HNO := Lib.hid (fun h => spec_zero (tag := 4) (a := a) (b := b) (c := c) (d := d) h)
  have HYES := Lib.hid (fun h => spec_told (tag := 4) (a := a) (b := b) (c := c) (d := d) h)
  obtain ⟨ka, kb, HO⟩ := told_one 4 a b c d ha hb
  have HEND : Hid (preN (fourF a b c d) 4 = anyN 4 a b c d) := Lib.hid (by
    unfold anyN
    rw [show wideT 4 = true from rfl]
    simp [preN, fourF, Bool.or_assoc])
  generalize toldN 4 (spN 4 a b c d) = t at *
  generalize specN 4 a b c d = r at *
  generalize isSp 4 a b c d = ok at *
  generalize anyN 4 a b c d = nn at *
  have EQ0 := eq2_run 0 0 0 0
  go_enter Tryd.func4, Tryd.ntmps4
  go_wp2_with fail
  refine AW.out.mono ?_
  rintro e' w2 ⟨rfl, bb⟩
  have k1 := k1.adv bb
  have b1 := below_step b1 bb
  clear bb AW
  have j0 := k1.at_ 0 (v := .int .u64 (a : Int)) rfl
  have j1 := k1.at_ 1 (v := .int .u64 (b : Int)) rfl
  have j2 := k1.at_ 2 (v := .int .u64 (c : Int)) rfl
  have j3 := k1.at_ 3 (v := .int .u64 (d : Int)) rfl
  go_wp2_with fail
  refine (SP.out _ b1).mono ?_
  rintro e' w3 ⟨rfl, bb⟩
  have k1 := k1.adv bb
  have b1 := below_step b1 bb
  clear bb SP j0 j1 j2 j3
  cases ok
  · obtain rfl : r = ⟨0, 0, 0⟩ := HNO.out rfl
    clear HNO HYES HO HEND KF
    as_aux_lemma =>
      go_wp2_with fail
      go_ret
      exact ⟨rfl, below_step b1 (alloc_bel _ _)⟩
  · obtain rfl := HYES.out rfl
    clear HNO HYES EQ0
    obtain ⟨ta, tb, f⟩ := r
    obtain ⟨⟨X, hX, hX1, hX2, hX3⟩, ⟨Y, hY, hY1, hY2, hY3⟩, hf, hcc⟩ := HO
    simp only at hX hY hf hcc
    subst hX hY
    have g1 := flag_25 hf
    have g2 := flag_8 hf
    have g3 := flag_16 hf
    generalize decide (f = 8) = e8 at *
    generalize (decide (f = 16) || decide (f = 17)) = e16 at *
    clear hf
    have HC := Lib.hid hcc
    clear hcc
    have KX := Lib.hid (fun w' => rkind_any X w' hX1)
    have KY := Lib.hid (fun w' => rkind_any Y w' hY1)
    have cx := kindnot X
    have cy := kindnot Y
    rw [hX2] at cx
    rw [hY2] at cy
    have nx : Hid (ka = true → ((X : Int) != 9221120237041090560) = false) := Lib.hid (fun h => by rw [hX3 h]; rfl)
    have ny : Hid (kb = true → ((Y : Int) != 9221120237041090560) = false) := Lib.hid (fun h => by rw [hY3 h]; rfl)
    clear hX1 hX2 hX3 hY1 hY2 hY3
    generalize kindN X = kX at *
    generalize kindN Y = kY at *
    have G := Lib.hid (And.intro g1 (And.intro g2 g3))
    clear g1 g2 g3
    go_upto_region 6 with fail
    have kq := KB.made 26 w3 #[.int .u64 (X : Int), .int .u64 (Y : Int)]
    have al := alloc_bel w3 (.cells #[.int .u64 (X : Int), .int .u64 (Y : Int)] 26)
    have k1 := k1.adv al
    have b1 := below_step b1 al
    clear al
    generalize hw : w3.alloc _ = w4 at *
    clear hw
    have x0 := kq.at_ 0 (v := .int .u64 (X : Int)) rfl
    have x1 := kq.at_ 1 (v := .int .u64 (Y : Int)) rfl
    go_wp2_with fail
    clear x0 x1
    go_loop [8, 34] (fun s8 s34 => ∃ k : Nat, k ≤ 2 ∧ s34 = .int .i64 (k : Int) ∧ s8 = .int .i64 (cnt2 ka kb k)) (fun _ s34 => 2 - (intOf s34).toNat)
    case atStart => exact ⟨0, by omega, rfl, rfl⟩
    case round =>
      obtain ⟨k, hk, rfl, rfl⟩ := hrel
      rcases k with _ | _ | _ | k
      · clear ny cy KY HC G HEND KF
        cases ka
        · as_aux_lemma =>
            have IX := index0_run (X : Int) (Y : Int)
            go_wp2_with fail
            refine (KX.out _).mono ?_
            rintro e' w5 ⟨rfl, rfl⟩
            clear IX
            go_wp2_with fail
            go_round
            case rel => exact ⟨1, by omega, by go_num, by cases kb <;> exact congrArg (Value.int .i64) (by decide +kernel)⟩
            case measure => simp [intOf]
        · have n1 := nx.out rfl
          clear nx
          as_aux_lemma =>
            have IX := index0_run (X : Int) (Y : Int)
            go_wp2_with fail
            refine (KX.out _).mono ?_
            rintro e' w5 ⟨rfl, rfl⟩
            clear IX
            go_wp2_with fail
            go_round
            case rel => exact ⟨1, by omega, by go_num, by cases kb <;> exact congrArg (Value.int .i64) (by decide +kernel)⟩
            case measure => simp [intOf]
      · clear nx cx KX HC G HEND KF
        cases kb
        · as_aux_lemma =>
            have IX := index1_run (X : Int) (Y : Int)
            go_wp2_with fail
            refine (KY.out _).mono ?_
            rintro e' w5 ⟨rfl, rfl⟩
            clear IX
            go_wp2_with fail
            go_round
            case rel => exact ⟨2, by omega, by go_num, by cases ka <;> exact congrArg (Value.int .i64) (by decide +kernel)⟩
            case measure => simp [intOf]
        · have n1 := ny.out rfl
          clear ny
          as_aux_lemma =>
            have IX := index1_run (X : Int) (Y : Int)
            go_wp2_with fail
            refine (KY.out _).mono ?_
            rintro e' w5 ⟨rfl, rfl⟩
            clear IX
            go_wp2_with fail
            go_round
            case rel => exact ⟨2, by omega, by go_num, by cases ka <;> exact congrArg (Value.int .i64) (by decide +kernel)⟩
            case measure => simp [intOf]
      · clear nx ny cx cy KX KY
        obtain ⟨g1, g2, g3⟩ := G.out
        have gc := cnt_two ka kb
        generalize cnt2 ka kb 2 = cc at *
        generalize (ka && kb) = p at *
        have SLR : ∀ u : World, (Instr.sliceAt 24 (.pointer (some ⟨w.heap.size, 0, none⟩)) none (some (.int .i64 4)) none).run Tryd.prog u = .ok (.slice (some ⟨w.heap.size, 0, none⟩) 4 4) u := slice_run 4 (.inr rfl) w.heap.size
        have GG := Lib.hid (And.intro g2 (And.intro g3 gc))
        clear G g2 g3 gc kq
        go_wp2_with fail
        clear SLR g1
        go_loop [12, 57] (fun s12 s57 => ∃ k : Nat, k ≤ 4 ∧ s57 = .int .i64 (k : Int) ∧ s12 = .bool (preN (fourF a b c d) k)) (fun _ s57 => 4 - (intOf s57).toNat)
        case atStart => exact ⟨0, by omega, rfl, rfl⟩
        case round =>
          obtain ⟨k, hk, rfl, rfl⟩ := hrel
          by_cases hlt : k < 4
          · have j := k1.at_ k (four_at (by omega))
            have hz := k1.2
            have K1 := Lib.hid (fun w' => KF.out k w')
            have cv := kindnot (fourF a b c d k)
            obtain ⟨o', HO'⟩ : ∃ o', Hid (Value.bool o' = .bool (preN (fourF a b c d) (k + 1))) := ⟨_, Lib.hid rfl⟩
            have HP : Hid (o' = (preN (fourF a b c d) k || notB (fourF a b c d k))) := Lib.hid (Value.bool.inj HO'.out)
            clear KF HC GG HEND
            generalize preN (fourF a b c d) k = o at *
            generalize notB (fourF a b c d k) = m at *
            generalize kindN (fourF a b c d k) = kk at *
            generalize fourF a b c d k = v at *
            cases o
            · as_aux_lemma =>
                go_wp2_with (first
                  | (go_at_call 9; refine (K1.out _).mono ?_; rintro e' w5 ⟨rfl, rfl⟩))
                go_round
                case rel => exact ⟨k + 1, by omega, by go_num, by rw [← HO'.out, HP.out]; rfl⟩
                case measure => simp [intOf]; omega
            · as_aux_lemma =>
                go_wp2_with fail
                go_round
                case rel => exact ⟨k + 1, by omega, by go_num, by rw [← HO'.out, HP.out]; rfl⟩
                case measure => simp [intOf]; omega
          · obtain rfl : k = 4 := by omega
            rw [HEND.out]
            obtain ⟨g2, g3, gc⟩ := GG.out
            clear HEND GG KF hlt hk
            go_upto_region 26 with fail
            cases p <;> cases nn <;> cases e16
            all_goals
              obtain rfl := HC.out
              clear HC
              as_aux_lemma =>
                go_wp2_with fail
                go_ret
                exact ⟨rfl, b1⟩
      · exfalso; omega
set_option maxRecDepth 100000 in
set_option maxHeartbeats 8000000 in
theorem lspone_5 (a b c d : Nat) (w : World) (hT : Tab w) (ha : a < B64) (hb : b < B64) (hc : c < B64) (hd : d < B64) : Calls Tryd.prog 4 #[.int .i64 5, .agg (fourC a b c d)] w (TruePost w) := by
  have k1 := KB.made 24 w (fourC a b c d)
  have b1 := alloc_bel w (.cells (fourC a b c d) 24)
  have AW := Lib.hid (awake13 (w.alloc (.cells (fourC a b c d) 24)) (hT.below b1))
  have SP := Lib.hid (fun w' (b' : Below w.heap.size w w') => special_any 5 a b c d w' (hT.below b') ha hb hc hd)
  have KF := Lib.hid (fun k w' => rkind_any (fourF a b c d k) w' (four_lt (k := k) ha hb hc hd))
  have HNO := Lib.hid (fun h => spec_zero (tag := 5) (a := a) (b := b) (c := c) (d := d) h)
  have HYES := Lib.hid (fun h => spec_told (tag := 5) (a := a) (b := b) (c := c) (d := d) h)
  obtain ⟨ka, kb, HO⟩ := told_one 5 a b c d ha hb
  have HEND : Hid (preN (fourF a b c d) 4 = anyN 5 a b c d) := Lib.hid (by
    unfold anyN
    rw [show wideT 5 = true from rfl]
    simp [preN, fourF, Bool.or_assoc])
  generalize toldN 5 (spN 5 a b c d) = t at *
  generalize specN 5 a b c d = r at *
  generalize isSp 5 a b c d = ok at *
  generalize anyN 5 a b c d = nn at *
  have EQ0 := eq2_run 0 0 0 0
  go_enter Tryd.func4, Tryd.ntmps4
  go_wp2_with fail
  refine AW.out.mono ?_
  rintro e' w2 ⟨rfl, bb⟩
  have k1 := k1.adv bb
  have b1 := below_step b1 bb
  clear bb AW
  have j0 := k1.at_ 0 (v := .int .u64 (a : Int)) rfl
  have j1 := k1.at_ 1 (v := .int .u64 (b : Int)) rfl
  have j2 := k1.at_ 2 (v := .int .u64 (c : Int)) rfl
  have j3 := k1.at_ 3 (v := .int .u64 (d : Int)) rfl
  go_wp2_with fail
  refine (SP.out _ b1).mono ?_
  rintro e' w3 ⟨rfl, bb⟩
  have k1 := k1.adv bb
  have b1 := below_step b1 bb
  clear bb SP j0 j1 j2 j3
  cases ok
  · obtain rfl : r = ⟨0, 0, 0⟩ := HNO.out rfl
    clear HNO HYES HO HEND KF
    as_aux_lemma =>
      go_wp2_with fail
      go_ret
      exact ⟨rfl, below_step b1 (alloc_bel _ _)⟩
  · obtain rfl := HYES.out rfl
    clear HNO HYES EQ0
    obtain ⟨ta, tb, f⟩ := r
    obtain ⟨⟨X, hX, hX1, hX2, hX3⟩, ⟨Y, hY, hY1, hY2, hY3⟩, hf, hcc⟩ := HO
    simp only at hX hY hf hcc
    subst hX hY
    have g1 := flag_25 hf
    have g2 := flag_8 hf
    have g3 := flag_16 hf
    generalize decide (f = 8) = e8 at *
    generalize (decide (f = 16) || decide (f = 17)) = e16 at *
    clear hf
    have HC := Lib.hid hcc
    clear hcc
    have KX := Lib.hid (fun w' => rkind_any X w' hX1)
    have KY := Lib.hid (fun w' => rkind_any Y w' hY1)
    have cx := kindnot X
    have cy := kindnot Y
    rw [hX2] at cx
    rw [hY2] at cy
    have nx : Hid (ka = true → ((X : Int) != 9221120237041090560) = false) := Lib.hid (fun h => by rw [hX3 h]; rfl)
    have ny : Hid (kb = true → ((Y : Int) != 9221120237041090560) = false) := Lib.hid (fun h => by rw [hY3 h]; rfl)
    clear hX1 hX2 hX3 hY1 hY2 hY3
    generalize kindN X = kX at *
    generalize kindN Y = kY at *
    have G := Lib.hid (And.intro g1 (And.intro g2 g3))
    clear g1 g2 g3
    go_upto_region 6 with fail
    have kq := KB.made 26 w3 #[.int .u64 (X : Int), .int .u64 (Y : Int)]
    have al := alloc_bel w3 (.cells #[.int .u64 (X : Int), .int .u64 (Y : Int)] 26)
    have k1 := k1.adv al
    have b1 := below_step b1 al
    clear al
    generalize hw : w3.alloc _ = w4 at *
    clear hw
    have x0 := kq.at_ 0 (v := .int .u64 (X : Int)) rfl
    have x1 := kq.at_ 1 (v := .int .u64 (Y : Int)) rfl
    go_wp2_with fail
    clear x0 x1
    go_loop [8, 34] (fun s8 s34 => ∃ k : Nat, k ≤ 2 ∧ s34 = .int .i64 (k : Int) ∧ s8 = .int .i64 (cnt2 ka kb k)) (fun _ s34 => 2 - (intOf s34).toNat)
    case atStart => exact ⟨0, by omega, rfl, rfl⟩
    case round =>
      obtain ⟨k, hk, rfl, rfl⟩ := hrel
      rcases k with _ | _ | _ | k
      · clear ny cy KY HC G HEND KF
        cases ka
        · as_aux_lemma =>
            have IX := index0_run (X : Int) (Y : Int)
            go_wp2_with fail
            refine (KX.out _).mono ?_
            rintro e' w5 ⟨rfl, rfl⟩
            clear IX
            go_wp2_with fail
            go_round
            case rel => exact ⟨1, by omega, by go_num, by cases kb <;> exact congrArg (Value.int .i64) (by decide +kernel)⟩
            case measure => simp [intOf]
        · have n1 := nx.out rfl
          clear nx
          as_aux_lemma =>
            have IX := index0_run (X : Int) (Y : Int)
            go_wp2_with fail
            refine (KX.out _).mono ?_
            rintro e' w5 ⟨rfl, rfl⟩
            clear IX
            go_wp2_with fail
            go_round
            case rel => exact ⟨1, by omega, by go_num, by cases kb <;> exact congrArg (Value.int .i64) (by decide +kernel)⟩
            case measure => simp [intOf]
      · clear nx cx KX HC G HEND KF
        cases kb
        · as_aux_lemma =>
            have IX := index1_run (X : Int) (Y : Int)
            go_wp2_with fail
            refine (KY.out _).mono ?_
            rintro e' w5 ⟨rfl, rfl⟩
            clear IX
            go_wp2_with fail
            go_round
            case rel => exact ⟨2, by omega, by go_num, by cases ka <;> exact congrArg (Value.int .i64) (by decide +kernel)⟩
            case measure => simp [intOf]
        · have n1 := ny.out rfl
          clear ny
          as_aux_lemma =>
            have IX := index1_run (X : Int) (Y : Int)
            go_wp2_with fail
            refine (KY.out _).mono ?_
            rintro e' w5 ⟨rfl, rfl⟩
            clear IX
            go_wp2_with fail
            go_round
            case rel => exact ⟨2, by omega, by go_num, by cases ka <;> exact congrArg (Value.int .i64) (by decide +kernel)⟩
            case measure => simp [intOf]
      · clear nx ny cx cy KX KY
        obtain ⟨g1, g2, g3⟩ := G.out
        have gc := cnt_two ka kb
        generalize cnt2 ka kb 2 = cc at *
        generalize (ka && kb) = p at *
        have SLR : ∀ u : World, (Instr.sliceAt 24 (.pointer (some ⟨w.heap.size, 0, none⟩)) none (some (.int .i64 4)) none).run Tryd.prog u = .ok (.slice (some ⟨w.heap.size, 0, none⟩) 4 4) u := slice_run 4 (.inr rfl) w.heap.size
        have GG := Lib.hid (And.intro g2 (And.intro g3 gc))
        clear G g2 g3 gc kq
        go_wp2_with fail
        clear SLR g1
        go_loop [12, 57] (fun s12 s57 => ∃ k : Nat, k ≤ 4 ∧ s57 = .int .i64 (k : Int) ∧ s12 = .bool (preN (fourF a b c d) k)) (fun _ s57 => 4 - (intOf s57).toNat)
        case atStart => exact ⟨0, by omega, rfl, rfl⟩
        case round =>
          obtain ⟨k, hk, rfl, rfl⟩ := hrel
          by_cases hlt : k < 4
          · have j := k1.at_ k (four_at (by omega))
            have hz := k1.2
            have K1 := Lib.hid (fun w' => KF.out k w')
            have cv := kindnot (fourF a b c d k)
            obtain ⟨o', HO'⟩ : ∃ o', Hid (Value.bool o' = .bool (preN (fourF a b c d) (k + 1))) := ⟨_, Lib.hid rfl⟩
            have HP : Hid (o' = (preN (fourF a b c d) k || notB (fourF a b c d k))) := Lib.hid (Value.bool.inj HO'.out)
            clear KF HC GG HEND
            generalize preN (fourF a b c d) k = o at *
            generalize notB (fourF a b c d k) = m at *
            generalize kindN (fourF a b c d k) = kk at *
            generalize fourF a b c d k = v at *
            cases o
            · as_aux_lemma =>
                go_wp2_with (first
                  | (go_at_call 9; refine (K1.out _).mono ?_; rintro e' w5 ⟨rfl, rfl⟩))
                go_round
                case rel => exact ⟨k + 1, by omega, by go_num, by rw [← HO'.out, HP.out]; rfl⟩
                case measure => simp [intOf]; omega
            · as_aux_lemma =>
                go_wp2_with fail
                go_round
                case rel => exact ⟨k + 1, by omega, by go_num, by rw [← HO'.out, HP.out]; rfl⟩
                case measure => simp [intOf]; omega
          · obtain rfl : k = 4 := by omega
            rw [HEND.out]
            obtain ⟨g2, g3, gc⟩ := GG.out
            clear HEND GG KF hlt hk
            go_upto_region 26 with fail
            cases p <;> cases nn <;> cases e16
            all_goals
              obtain rfl := HC.out
              clear HC
              as_aux_lemma =>
                go_wp2_with fail
                go_ret
                exact ⟨rfl, b1⟩
      · exfalso; omega
theorem lspone_any (tag : Int) (a b c d : Nat) (w : World) (hT : Tab w) (ha : a < B64) (hb : b < B64) (hc : c < B64) (hd : d < B64) : Calls Tryd.prog 4 #[.int .i64 tag, .agg (fourC a b c d)] w (TruePost w) := by
  rcases wide_cases tag with (rfl | rfl) | ⟨hw, h4, h5⟩
  · exact lspone_4 a b c d w hT ha hb hc hd
  · exact lspone_5 a b c d w hT ha hb hc hd
  · exact lspone_no tag a b c d w hT ha hb hc hd hw.out h4 h5
end Go.Proofs.YtembfhepinfmnaaDoor
