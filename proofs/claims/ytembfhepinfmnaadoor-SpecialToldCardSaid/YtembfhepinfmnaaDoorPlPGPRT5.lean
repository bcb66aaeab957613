/-
  volvelleref13.Special, by tags: 5.
-/
import Derived.Test.YtembfhepinfmnaaDoorPlPGPk4
namespace Go.Proofs.YtembfhepinfmnaaDoor
open Go.RowKit

set_option maxRecDepth 100000 in
set_option maxHeartbeats 8000000 in
theorem rspec_5 (a b c d : Nat) (w : World) (ha : a < B64) (hb : b < B64) (hc : c < B64) (hd : d < B64) : Calls Tryd.prog 8 #[.int .i64 5, .agg (fourC a b c d)] w (SPost w (specN 5 a b c d) (isSp 5 a b c d)) := by
  obtain ⟨k1, k2, b1⟩ := kb_two 24 26 w (fourC a b c d) #[.int .u64 0, .int .u64 0]
  have RS := Lib.hid (fun w' => rsingular_any 5 a b c d w' ha hb hc hd (by decide))
  have KI := Lib.hid (fun k w' => rinf_any (fourF a b c d k) w' (four_lt (k := k) ha hb hc hd))
  have KN := Lib.hid (fun k w' => rnot_any (fourF a b c d k) w' (four_lt (k := k) ha hb hc hd))
  have IA := Lib.hid (fun w' => rinf_any a w' ha)
  have IB := Lib.hid (fun w' => rinf_any b w' hb)
  have NB := Lib.hid (fun w' => rnot_any b w' hb)
  have ZA := Lib.hid (fun w' => rzero_any a w' ha)
  have ZB := Lib.hid (fun w' => rzero_any b w' hb)
  have CA := Lib.hid (fun w' => rclean_any a w' ha)
  have CB := Lib.hid (fun w' => rclean_any b w' hb)
  have AN := Lib.hid (fun w' => rangle_any a b w' ha hb)
  have GA := Lib.hid (fun w' => rneg_word a w')
  have GB := Lib.hid (fun w' => rneg_word b w')
  have GC := Lib.hid (fun w' => rneg_word c w')
  have HEND : Hid (preI (fourF a b c d) 4 = anyI 5 a b c d ∧ preN (fourF a b c d) 4 = anyN 5 a b c d) := Lib.hid (by
    unfold anyI anyN
    rw [show wideT 5 = true from rfl]
    simp [preI, preN, fourF, Bool.or_assoc])
  have HR : Hid (∀ ii nn s, anyI 5 a b c d = ii → anyN 5 a b c d = nn → singB 5 a b c d = s → (if (ii || nn || s) = true then specN 5 a b c d = toldN 5 (spN 5 a b c d) ∧ isSp 5 a b c d = true else specN 5 a b c d = TW.zero ∧ isSp 5 a b c d = false)) := Lib.hid (by
    rintro ii nn s rfl rfl rfl
    have hin : (decide ((0 : Int) ≤ 5) && decide ((5 : Int) ≤ 20)) = true := by decide
    unfold specN isSp
    rw [hin, Bool.true_and]
    by_cases h : (anyI 5 a b c d || anyN 5 a b c d || singB 5 a b c d) = true
    · rw [h]; simp
    · have h' : (anyI 5 a b c d || anyN 5 a b c d || singB 5 a b c d) = false := by simpa using h
      rw [h']; simp)
  rw [told_5 a b c d] at HR
  generalize specN 5 a b c d = r at *
  generalize isSp 5 a b c d = ok at *
  clear hc hd
  go_enter Tryd.func8, Tryd.ntmps8
  go_wp2_with fail
  generalize (w.alloc _).alloc _ = w1 at *
  go_loop [8, 9, 10] (fun s8 s9 s10 => ∃ k : Nat, k ≤ 4 ∧ s10 = .int .i64 (k : Int) ∧ s8 = .bool (preI (fourF a b c d) k || preN (fourF a b c d) k) ∧ s9 = .bool (!preN (fourF a b c d) k)) (fun _ _ s10 => 4 - (intOf s10).toNat)
  case atStart => exact ⟨0, Nat.zero_le _, rfl, rfl, rfl⟩
  case round =>
    obtain ⟨k, hk, rfl, rfl, rfl⟩ := hrel
    by_cases hlt : k < 4
    · as_aux_lemma =>
        have j := k1.at_ k (four_at (by omega))
        have I1 := Lib.hid (fun w' => KI.out k w')
        have N1 := Lib.hid (fun w' => KN.out k w')
        have HB : Hid ((preI (fourF a b c d) (k + 1) || preN (fourF a b c d) (k + 1)) = ((preI (fourF a b c d) k || preN (fourF a b c d) k) || infB (fourF a b c d k) || notB (fourF a b c d k))) := Lib.hid (by
          simp only [preI, preN]
          cases preI (fourF a b c d) k <;> cases preN (fourF a b c d) k <;> cases infB (fourF a b c d k) <;> rfl)
        have HN : Hid ((!preN (fourF a b c d) (k + 1)) = (!preN (fourF a b c d) k && !notB (fourF a b c d k))) := Lib.hid (by simp only [preN]; cases preN (fourF a b c d) k <;> rfl)
        clear RS KI KN IA IB NB ZA ZB CA CB AN GA GB GC HEND HR
        obtain ⟨o', HO'⟩ : ∃ o', Hid (Value.bool o' = .bool (preI (fourF a b c d) (k + 1) || preN (fourF a b c d) (k + 1))) := ⟨_, Lib.hid rfl⟩
        obtain ⟨n', HN'⟩ : ∃ n', Hid (Value.bool n' = .bool (!preN (fourF a b c d) (k + 1))) := ⟨_, Lib.hid rfl⟩
        replace HB : Hid (o' = _) := Lib.hid ((Value.bool.inj HO'.out).trans HB.out)
        replace HN : Hid (n' = _) := Lib.hid ((Value.bool.inj HN'.out).trans HN.out)
        generalize (preI (fourF a b c d) k || preN (fourF a b c d) k) = o at *
        generalize (!preN (fourF a b c d) k) = n at *
        generalize infB (fourF a b c d k) = i at *
        generalize notB (fourF a b c d k) = m at *
        generalize fourF a b c d k = v at *
        clear hb ha
        go_upto_region 10 with fail
        go_cut [8] (fun s8 wx => s8 = .bool o' ∧ wx = w1)
        case first =>
          as_aux_lemma =>
            cases o <;> cases i <;> cases m
            all_goals
              go_wp2_with (first
                | (go_at_call 13; refine (I1.out _).mono ?_; rintro e' w5 ⟨rfl, rfl⟩)
                | (go_at_call 14; refine (N1.out _).mono ?_; rintro e' w5 ⟨rfl, rfl⟩))
              go_meet
              exact ⟨by rw [HB.out]; rfl, rfl⟩
        case rest =>
          obtain ⟨rfl, rfl⟩ := hcut
          cases n <;> cases m
          all_goals as_aux_lemma =>
            go_wp2_with (first
              | (go_at_call 14; refine (N1.out _).mono ?_; rintro e' w5 ⟨rfl, rfl⟩))
            go_round
            case rel => exact ⟨k + 1, by omega, by go_num, HO'.out, by rw [← HN'.out, HN.out]; rfl⟩
            case measure => simp [intOf]; omega
    · obtain rfl : k = 4 := by omega
      obtain ⟨h1, h2⟩ := HEND.out
      rw [h1, h2]
      clear h1 h2 HEND KI KN hlt hk
      as_aux_lemma =>
        have hR := HR.out
        clear HR
        generalize anyI 5 a b c d = ii at *
        generalize anyN 5 a b c d = nn at *
        go_upto_region 12 with fail
        have j0 := k1.at_ 0 (v := .int .u64 (a : Int)) rfl
        have j1 := k1.at_ 1 (v := .int .u64 (b : Int)) rfl
        have j2 := k1.at_ 2 (v := .int .u64 (c : Int)) rfl
        have j3 := k1.at_ 3 (v := .int .u64 (d : Int)) rfl
        have RS1 := Lib.hid (RS.out w1)
        clear RS
        generalize singB 5 a b c d = s at *
        have HR := Lib.hid (hR ii nn s rfl rfl rfl)
        clear hR
        go_wp2_with fail
        refine RS1.out.mono ?_
        rintro e' w2 ⟨rfl, bb⟩
        have k1 := k1.adv bb
        have k2 := k2.adv bb
        have b1 := below_step b1 bb
        clear bb RS1 j0 j1 j2 j3
        have z0 := k2.at_ 0 (v := .int .u64 0) rfl
        have z1 := k2.at_ 1 (v := .int .u64 0) rfl
        have f0 := k2.fr 0
        have f1 := k2.fr 1
        have o2 := fun x y => only_put2 w2 (w.heap.size + 1) x y
        cases hsp : (ii || nn || s)
        · have hR := HR.out
          rw [hsp, if_neg (by simp)] at hR
          obtain ⟨rfl, rfl⟩ := hR
          simp only [Bool.or_eq_false_iff] at hsp
          obtain ⟨⟨rfl, rfl⟩, rfl⟩ := hsp
          clear HR
          as_aux_lemma =>
            go_wp2_with fail
            exact bodyPost_ret (v := .tuple #[.agg #[.int .u64 0, .int .u64 0], .int .i64 0, .bool false]) (by simp [results, Tryd.results8, go_sem, z0, z1]) rfl ⟨rfl, Only.below b1 (o2 _ _) b1.size (by omega)⟩
        · have hR := HR.out
          rw [hsp, if_pos rfl] at hR
          obtain ⟨hr, rfl⟩ := hR
          have HSP := Lib.hid hsp
          have Hr := Lib.hid hr
          clear HR hsp hr
          as_aux_lemma =>
            go_upto_region 13 with fail
            go_cut [71] (fun s71 wx => s71 = .bool false ∧ wx = w2)
            case first =>
              as_aux_lemma =>
                clear Hr
                have hs := HSP.out
                clear HSP
                have hcs : (ii || nn) = true ∨ ((ii || nn) = false ∧ s = true) := by
                  cases ho : (ii || nn)
                  · rw [ho] at hs
                    exact .inr ⟨rfl, by simpa using hs⟩
                  · exact .inl rfl
                clear hs
                rcases hcs with h1 | ⟨h1, h2⟩
                · go_wp2_with fail
                  go_meet
                  exact ⟨rfl, rfl⟩
                · go_wp2_with fail
                  go_meet
                  exact ⟨rfl, rfl⟩
            case rest =>
              obtain ⟨rfl, hwc⟩ := hcut
              replace hwc := hwc.symm
              subst hwc
              as_aux_lemma =>
                have j0 := k1.at_ 0 (v := .int .u64 (a : Int)) rfl
                have j1 := k1.at_ 1 (v := .int .u64 (b : Int)) rfl
                have j2 := k1.at_ 2 (v := .int .u64 (c : Int)) rfl
                have hz := k1.2
                go_upto_region 17 with fail
                go_upto_region 19 with (first
                  | (go_at_call_of 16 (Value.int .u64 (a : Int)); refine (GA.out _).mono ?_; rintro e' w5 ⟨rfl, rfl⟩)
                  | (go_at_call_of 16 (Value.int .u64 (b : Int)); refine (GB.out _).mono ?_; rintro e' w5 ⟨rfl, rfl⟩))
                clear j0 j1 GA GB HSP
                generalize infB a = ix at *
                generalize infB b = iy at *
                generalize zerB a = zx at *
                generalize zerB b = zy at *
                generalize notB b = ny at *
                generalize sgB a = sx at *
                generalize sgB b = sy at *
                go_cut [16] (fun s16 wx => s16 = .bool (ix || iy) ∧ wx = w2)
                case first =>
                  as_aux_lemma =>
                    clear Hr
                    have hcs : ix = true ∨ ix = false := by cases ix <;> simp
                    rcases hcs with h1 | h1
                    all_goals
                      go_wp2_with (first
                        | (go_at_call_of 13 (Value.int .u64 (a : Int)); refine (IA.out _).mono ?_; rintro e' w5 ⟨rfl, rfl⟩)
                        | (go_at_call_of 13 (Value.int .u64 (b : Int)); refine (IB.out _).mono ?_; rintro e' w5 ⟨rfl, rfl⟩))
                      go_meet
                      exact ⟨by rw [h1]; rfl, rfl⟩
                case rest =>
                  obtain ⟨rfl, hwc⟩ := hcut
                  replace hwc := hwc.symm
                  subst hwc
                  as_aux_lemma =>
                    generalize sgB c = su at *
                    have q1 : (sx == su) = !(sx ^^ su) := by cases sx <;> cases su <;> rfl
                    have q2 : (sy == su) = !(sy ^^ su) := by cases sy <;> cases su <;> rfl
                    have hk2 := k2.2
                    generalize (sx ^^ su) = xx at *
                    generalize (sy ^^ su) = yy at *
                    cases s
                    · cases nn
                      · as_aux_lemma =>
                          go_wp2_with (first
                                  | (go_at_call 18; refine (rwith_any _ _ _ (by decide) (by decide)).mono ?_; rintro e' w5 ⟨rfl, rfl⟩)
                                  | (go_at_call_of 13 (Value.int .u64 (a : Int)); refine (IA.out _).mono ?_; rintro e' w5 ⟨rfl, rfl⟩)
                                  | (go_at_call_of 13 (Value.int .u64 (b : Int)); refine (IB.out _).mono ?_; rintro e' w5 ⟨rfl, rfl⟩)
                                  | (go_at_call_of 14 (Value.int .u64 (b : Int)); refine (NB.out _).mono ?_; rintro e' w5 ⟨rfl, rfl⟩)
                                  | (go_at_call_of 20 (Value.int .u64 (a : Int)); refine (ZA.out _).mono ?_; rintro e' w5 ⟨rfl, rfl⟩)
                                  | (go_at_call_of 20 (Value.int .u64 (b : Int)); refine (ZB.out _).mono ?_; rintro e' w5 ⟨rfl, rfl⟩)
                                  | (go_at_call_of 17 (Value.int .u64 (a : Int)); refine (CA.out _).mono ?_; rintro e' w5 ⟨rfl, rfl⟩)
                                  | (go_at_call_of 17 (Value.int .u64 (b : Int)); refine (CB.out _).mono ?_; rintro e' w5 ⟨rfl, rfl⟩)
                                  | (go_at_call 19; refine (AN.out _).mono ?_; rintro e' w5 ⟨rfl, rfl⟩)
                                  | (go_at_call_of 16 (Value.int .u64 (c : Int)); refine (GC.out _).mono ?_; rintro e' w5 ⟨rfl, rfl⟩))
                          exact bodyPost_ret (v := .tuple #[.agg #[.int .u64 9221120237041090560, .int .u64 9221120237041090560], .int .i64 8, .bool true]) (by simp [results, Tryd.results8, go_sem, z0, z1]) rfl ⟨by rw [Hr.out]; rfl, Only.below b1 (o2 _ _) b1.size (by omega)⟩
                      · as_aux_lemma =>
                          go_wp2_with (first
                                  | (go_at_call 18; refine (rwith_any _ _ _ (by decide) (by decide)).mono ?_; rintro e' w5 ⟨rfl, rfl⟩)
                                  | (go_at_call_of 13 (Value.int .u64 (a : Int)); refine (IA.out _).mono ?_; rintro e' w5 ⟨rfl, rfl⟩)
                                  | (go_at_call_of 13 (Value.int .u64 (b : Int)); refine (IB.out _).mono ?_; rintro e' w5 ⟨rfl, rfl⟩)
                                  | (go_at_call_of 14 (Value.int .u64 (b : Int)); refine (NB.out _).mono ?_; rintro e' w5 ⟨rfl, rfl⟩)
                                  | (go_at_call_of 20 (Value.int .u64 (a : Int)); refine (ZA.out _).mono ?_; rintro e' w5 ⟨rfl, rfl⟩)
                                  | (go_at_call_of 20 (Value.int .u64 (b : Int)); refine (ZB.out _).mono ?_; rintro e' w5 ⟨rfl, rfl⟩)
                                  | (go_at_call_of 17 (Value.int .u64 (a : Int)); refine (CA.out _).mono ?_; rintro e' w5 ⟨rfl, rfl⟩)
                                  | (go_at_call_of 17 (Value.int .u64 (b : Int)); refine (CB.out _).mono ?_; rintro e' w5 ⟨rfl, rfl⟩)
                                  | (go_at_call 19; refine (AN.out _).mono ?_; rintro e' w5 ⟨rfl, rfl⟩)
                                  | (go_at_call_of 16 (Value.int .u64 (c : Int)); refine (GC.out _).mono ?_; rintro e' w5 ⟨rfl, rfl⟩))
                          exact bodyPost_ret (v := .tuple #[.agg #[.int .u64 9221120237041090560, .int .u64 9221120237041090560], .int .i64 0, .bool true]) (by simp [results, Tryd.results8, go_sem, z0, z1]) rfl ⟨by rw [Hr.out]; rfl, Only.below b1 (o2 _ _) b1.size (by omega)⟩
                    · cases zx
                      · cases zy
                        · as_aux_lemma =>
                            go_wp2_with (first
                                    | (go_at_call 18; refine (rwith_any _ _ _ (by decide) (by decide)).mono ?_; rintro e' w5 ⟨rfl, rfl⟩)
                                    | (go_at_call_of 13 (Value.int .u64 (a : Int)); refine (IA.out _).mono ?_; rintro e' w5 ⟨rfl, rfl⟩)
                                    | (go_at_call_of 13 (Value.int .u64 (b : Int)); refine (IB.out _).mono ?_; rintro e' w5 ⟨rfl, rfl⟩)
                                    | (go_at_call_of 14 (Value.int .u64 (b : Int)); refine (NB.out _).mono ?_; rintro e' w5 ⟨rfl, rfl⟩)
                                    | (go_at_call_of 20 (Value.int .u64 (a : Int)); refine (ZA.out _).mono ?_; rintro e' w5 ⟨rfl, rfl⟩)
                                    | (go_at_call_of 20 (Value.int .u64 (b : Int)); refine (ZB.out _).mono ?_; rintro e' w5 ⟨rfl, rfl⟩)
                                    | (go_at_call_of 17 (Value.int .u64 (a : Int)); refine (CA.out _).mono ?_; rintro e' w5 ⟨rfl, rfl⟩)
                                    | (go_at_call_of 17 (Value.int .u64 (b : Int)); refine (CB.out _).mono ?_; rintro e' w5 ⟨rfl, rfl⟩)
                                    | (go_at_call 19; refine (AN.out _).mono ?_; rintro e' w5 ⟨rfl, rfl⟩)
                                    | (go_at_call_of 16 (Value.int .u64 (c : Int)); refine (GC.out _).mono ?_; rintro e' w5 ⟨rfl, rfl⟩))
                            have o := o2 (.int .u64 (wI 9218868437227405312 xx)) (.int .u64 (wI 9218868437227405312 yy))
                            have al := alloc_bel (put2 w2 (w.heap.size + 1) (.int .u64 (wI 9218868437227405312 xx)) (.int .u64 (wI 9218868437227405312 yy))) (.cells #[.int .u64 (wI 9218868437227405312 xx), .int .u64 (wI 9218868437227405312 yy)] 26)
                            have kq := (kb_put2 k2 (.int .u64 (wI 9218868437227405312 xx)) (.int .u64 (wI 9218868437227405312 yy))).adv al
                            have BB := below_step (Only.below b1 o b1.size (by omega)) al
                            dsimp only [put2] at kq BB
                            have z0 := kq.at_ 0 (v := .int .u64 (wI 9218868437227405312 xx)) rfl
                            have z1 := kq.at_ 1 (v := .int .u64 (wI 9218868437227405312 yy)) rfl
                            exact bodyPost_ret (v := .tuple #[.agg #[.int .u64 (wI 9218868437227405312 xx), .int .u64 (wI 9218868437227405312 yy)], .int .i64 16, .bool true]) (by simp [results, Tryd.results8, go_sem, z0, z1]) rfl ⟨by rw [Hr.out]; rfl, BB⟩
                        · as_aux_lemma =>
                            go_wp2_with (first
                                    | (go_at_call 18; refine (rwith_any _ _ _ (by decide) (by decide)).mono ?_; rintro e' w5 ⟨rfl, rfl⟩)
                                    | (go_at_call_of 13 (Value.int .u64 (a : Int)); refine (IA.out _).mono ?_; rintro e' w5 ⟨rfl, rfl⟩)
                                    | (go_at_call_of 13 (Value.int .u64 (b : Int)); refine (IB.out _).mono ?_; rintro e' w5 ⟨rfl, rfl⟩)
                                    | (go_at_call_of 14 (Value.int .u64 (b : Int)); refine (NB.out _).mono ?_; rintro e' w5 ⟨rfl, rfl⟩)
                                    | (go_at_call_of 20 (Value.int .u64 (a : Int)); refine (ZA.out _).mono ?_; rintro e' w5 ⟨rfl, rfl⟩)
                                    | (go_at_call_of 20 (Value.int .u64 (b : Int)); refine (ZB.out _).mono ?_; rintro e' w5 ⟨rfl, rfl⟩)
                                    | (go_at_call_of 17 (Value.int .u64 (a : Int)); refine (CA.out _).mono ?_; rintro e' w5 ⟨rfl, rfl⟩)
                                    | (go_at_call_of 17 (Value.int .u64 (b : Int)); refine (CB.out _).mono ?_; rintro e' w5 ⟨rfl, rfl⟩)
                                    | (go_at_call 19; refine (AN.out _).mono ?_; rintro e' w5 ⟨rfl, rfl⟩)
                                    | (go_at_call_of 16 (Value.int .u64 (c : Int)); refine (GC.out _).mono ?_; rintro e' w5 ⟨rfl, rfl⟩))
                            have o := o2 (.int .u64 (wI 9218868437227405312 xx)) (.int .u64 9221120237041090560)
                            have al := alloc_bel (put2 w2 (w.heap.size + 1) (.int .u64 (wI 9218868437227405312 xx)) (.int .u64 9221120237041090560)) (.cells #[.int .u64 (wI 9218868437227405312 xx), .int .u64 9221120237041090560] 26)
                            have kq := (kb_put2 k2 (.int .u64 (wI 9218868437227405312 xx)) (.int .u64 9221120237041090560)).adv al
                            have BB := below_step (Only.below b1 o b1.size (by omega)) al
                            dsimp only [put2] at kq BB
                            have z0 := kq.at_ 0 (v := .int .u64 (wI 9218868437227405312 xx)) rfl
                            have z1 := kq.at_ 1 (v := .int .u64 9221120237041090560) rfl
                            exact bodyPost_ret (v := .tuple #[.agg #[.int .u64 (wI 9218868437227405312 xx), .int .u64 9221120237041090560], .int .i64 16, .bool true]) (by simp [results, Tryd.results8, go_sem, z0, z1]) rfl ⟨by rw [Hr.out]; rfl, BB⟩
                      · cases zy
                        · as_aux_lemma =>
                            go_wp2_with (first
                                    | (go_at_call 18; refine (rwith_any _ _ _ (by decide) (by decide)).mono ?_; rintro e' w5 ⟨rfl, rfl⟩)
                                    | (go_at_call_of 13 (Value.int .u64 (a : Int)); refine (IA.out _).mono ?_; rintro e' w5 ⟨rfl, rfl⟩)
                                    | (go_at_call_of 13 (Value.int .u64 (b : Int)); refine (IB.out _).mono ?_; rintro e' w5 ⟨rfl, rfl⟩)
                                    | (go_at_call_of 14 (Value.int .u64 (b : Int)); refine (NB.out _).mono ?_; rintro e' w5 ⟨rfl, rfl⟩)
                                    | (go_at_call_of 20 (Value.int .u64 (a : Int)); refine (ZA.out _).mono ?_; rintro e' w5 ⟨rfl, rfl⟩)
                                    | (go_at_call_of 20 (Value.int .u64 (b : Int)); refine (ZB.out _).mono ?_; rintro e' w5 ⟨rfl, rfl⟩)
                                    | (go_at_call_of 17 (Value.int .u64 (a : Int)); refine (CA.out _).mono ?_; rintro e' w5 ⟨rfl, rfl⟩)
                                    | (go_at_call_of 17 (Value.int .u64 (b : Int)); refine (CB.out _).mono ?_; rintro e' w5 ⟨rfl, rfl⟩)
                                    | (go_at_call 19; refine (AN.out _).mono ?_; rintro e' w5 ⟨rfl, rfl⟩)
                                    | (go_at_call_of 16 (Value.int .u64 (c : Int)); refine (GC.out _).mono ?_; rintro e' w5 ⟨rfl, rfl⟩))
                            have o := o2 (.int .u64 9221120237041090560) (.int .u64 (wI 9218868437227405312 yy))
                            have al := alloc_bel (put2 w2 (w.heap.size + 1) (.int .u64 9221120237041090560) (.int .u64 (wI 9218868437227405312 yy))) (.cells #[.int .u64 9221120237041090560, .int .u64 (wI 9218868437227405312 yy)] 26)
                            have kq := (kb_put2 k2 (.int .u64 9221120237041090560) (.int .u64 (wI 9218868437227405312 yy))).adv al
                            have BB := below_step (Only.below b1 o b1.size (by omega)) al
                            dsimp only [put2] at kq BB
                            have z0 := kq.at_ 0 (v := .int .u64 9221120237041090560) rfl
                            have z1 := kq.at_ 1 (v := .int .u64 (wI 9218868437227405312 yy)) rfl
                            exact bodyPost_ret (v := .tuple #[.agg #[.int .u64 9221120237041090560, .int .u64 (wI 9218868437227405312 yy)], .int .i64 16, .bool true]) (by simp [results, Tryd.results8, go_sem, z0, z1]) rfl ⟨by rw [Hr.out]; rfl, BB⟩
                        · cases nn
                          · as_aux_lemma =>
                              go_wp2_with (first
                                      | (go_at_call 18; refine (rwith_any _ _ _ (by decide) (by decide)).mono ?_; rintro e' w5 ⟨rfl, rfl⟩)
                                      | (go_at_call_of 13 (Value.int .u64 (a : Int)); refine (IA.out _).mono ?_; rintro e' w5 ⟨rfl, rfl⟩)
                                      | (go_at_call_of 13 (Value.int .u64 (b : Int)); refine (IB.out _).mono ?_; rintro e' w5 ⟨rfl, rfl⟩)
                                      | (go_at_call_of 14 (Value.int .u64 (b : Int)); refine (NB.out _).mono ?_; rintro e' w5 ⟨rfl, rfl⟩)
                                      | (go_at_call_of 20 (Value.int .u64 (a : Int)); refine (ZA.out _).mono ?_; rintro e' w5 ⟨rfl, rfl⟩)
                                      | (go_at_call_of 20 (Value.int .u64 (b : Int)); refine (ZB.out _).mono ?_; rintro e' w5 ⟨rfl, rfl⟩)
                                      | (go_at_call_of 17 (Value.int .u64 (a : Int)); refine (CA.out _).mono ?_; rintro e' w5 ⟨rfl, rfl⟩)
                                      | (go_at_call_of 17 (Value.int .u64 (b : Int)); refine (CB.out _).mono ?_; rintro e' w5 ⟨rfl, rfl⟩)
                                      | (go_at_call 19; refine (AN.out _).mono ?_; rintro e' w5 ⟨rfl, rfl⟩)
                                      | (go_at_call_of 16 (Value.int .u64 (c : Int)); refine (GC.out _).mono ?_; rintro e' w5 ⟨rfl, rfl⟩))
                              exact bodyPost_ret (v := .tuple #[.agg #[.int .u64 9221120237041090560, .int .u64 9221120237041090560], .int .i64 8, .bool true]) (by simp [results, Tryd.results8, go_sem, z0, z1]) rfl ⟨by rw [Hr.out]; rfl, Only.below b1 (o2 _ _) b1.size (by omega)⟩
                          · as_aux_lemma =>
                              go_wp2_with (first
                                      | (go_at_call 18; refine (rwith_any _ _ _ (by decide) (by decide)).mono ?_; rintro e' w5 ⟨rfl, rfl⟩)
                                      | (go_at_call_of 13 (Value.int .u64 (a : Int)); refine (IA.out _).mono ?_; rintro e' w5 ⟨rfl, rfl⟩)
                                      | (go_at_call_of 13 (Value.int .u64 (b : Int)); refine (IB.out _).mono ?_; rintro e' w5 ⟨rfl, rfl⟩)
                                      | (go_at_call_of 14 (Value.int .u64 (b : Int)); refine (NB.out _).mono ?_; rintro e' w5 ⟨rfl, rfl⟩)
                                      | (go_at_call_of 20 (Value.int .u64 (a : Int)); refine (ZA.out _).mono ?_; rintro e' w5 ⟨rfl, rfl⟩)
                                      | (go_at_call_of 20 (Value.int .u64 (b : Int)); refine (ZB.out _).mono ?_; rintro e' w5 ⟨rfl, rfl⟩)
                                      | (go_at_call_of 17 (Value.int .u64 (a : Int)); refine (CA.out _).mono ?_; rintro e' w5 ⟨rfl, rfl⟩)
                                      | (go_at_call_of 17 (Value.int .u64 (b : Int)); refine (CB.out _).mono ?_; rintro e' w5 ⟨rfl, rfl⟩)
                                      | (go_at_call 19; refine (AN.out _).mono ?_; rintro e' w5 ⟨rfl, rfl⟩)
                                      | (go_at_call_of 16 (Value.int .u64 (c : Int)); refine (GC.out _).mono ?_; rintro e' w5 ⟨rfl, rfl⟩))
                              exact bodyPost_ret (v := .tuple #[.agg #[.int .u64 9221120237041090560, .int .u64 9221120237041090560], .int .i64 0, .bool true]) (by simp [results, Tryd.results8, go_sem, z0, z1]) rfl ⟨by rw [Hr.out]; rfl, Only.below b1 (o2 _ _) b1.size (by omega)⟩
end Go.Proofs.YtembfhepinfmnaaDoor
