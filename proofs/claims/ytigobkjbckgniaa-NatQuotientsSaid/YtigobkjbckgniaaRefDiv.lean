/-
  volvelleref01.DivMod: the document's quotient and remainder, digit by digit.
-/
import Derived.Test.YtigobkjbckgniaaRefGuess
import Derived.Test.YtigobkjbckgniaaDivAll
namespace Go.Proofs.Ytigobkjbckgniaa
open Go.RowKit

/-- A literal of one word. -/
theorem Own.one (t : TypeId) (w : World) (a : Nat) (ha : a < B64) : Own t (w.alloc (.cells #[.int .u64 ((a : Nat) : Int)] t)) w.heap.size (.slice (some ⟨w.heap.size, 0, none⟩) 1 1) 1 (fun _ => a) :=
  ⟨⟨by rw [cellsOf_len], .inr ⟨w.heap.size, 1, _, rfl, Nat.le_refl _, heap_alloc_new w _, Nat.le_refl _, by simp only [maxLen]; omega, by simp, by rfl⟩⟩, fun _ _ => ha⟩

theorem vs_cat_one (b a : Nat) (R : Nat → Nat) (l : Nat) : vs b (cat (fun _ => a) 1 R) (1 + l) = a + b * vs b R l := by
  rw [vs_add, vs_succ, vs_zero]
  have e : vs b (fun j => cat (fun _ => a) 1 R (1 + j)) l = vs b R l := vs_congr fun j _ => by
    unfold cat; rw [if_neg (by omega), show 1 + j - 1 = j by omega]
  rw [e]; simp [cat]

/-- The digits from k on are done: their quotient lies in F, and rem is left. -/
def RDivInv (X F : Nat → Nat) (p k D rem : Nat) : Prop :=
  rem < D ∧ (∀ j, F j < 65536) ∧ vs 65536 (fun j => X (k + j)) (p - k) = vs 65536 (fun j => F (k + j)) (p - k) * D + rem

theorem rdiv_eq {X1 Q D rem a L low r : Nat} (h : X1 = Q * D + rem) (hL : a + 65536 * rem = L) (hr : L = low * D + r) : a + 65536 * X1 = (low + 65536 * Q) * D + r := by
  rw [h, Nat.mul_add, Nat.add_mul]
  have : 65536 * (Q * D) = 65536 * Q * D := by rw [Nat.mul_assoc]
  omega
theorem RDivInv.step {X F : Nat → Nat} {p i D rem a L low : Nat} (h : RDivInv X F p (i + 1) D rem) (hi : i < p) (ha : X i = a) (hL : a + 65536 * rem = L) (hlow : low < 65536) (h1 : low * D ≤ L) (h2 : L < (low + 1) * D) :
    RDivInv X (upd F i low) p i D (L - low * D) := by
  obtain ⟨hr, hF, hv⟩ := h
  refine ⟨?_, fun j => ?_, ?_⟩
  · rw [Nat.add_mul, Nat.one_mul] at h2; omega
  · unfold upd; split
    · exact hlow
    · exact hF j
  · obtain ⟨m, hm⟩ : ∃ m, p - i = m + 1 := ⟨p - i - 1, by omega⟩
    have hm' : p - (i + 1) = m := by omega
    rw [hm, vs_cons, vs_cons]
    rw [hm'] at hv
    have e1 : vs 65536 (fun j => X (i + (j + 1))) m = vs 65536 (fun j => X (i + 1 + j)) m := vs_congr fun j _ => by rw [show i + (j + 1) = i + 1 + j by omega]
    have e2 : vs 65536 (fun j => upd F i low (i + (j + 1))) m = vs 65536 (fun j => F (i + 1 + j)) m := vs_congr fun j _ => by rw [upd_other _ _ _ _ (by omega), show i + (j + 1) = i + 1 + j by omega]
    rw [e1, e2]
    simp only [Nat.add_zero]
    rw [upd_same, ha]
    exact rdiv_eq hv hL (by omega)
theorem low_lt {low D L a rem : Nat} (h1 : low * D ≤ L) (hL : a + 65536 * rem = L) (ha : a < 65536) (hr : rem < D) : low < 65536 := by
  have h : low * D < 65536 * D := by omega
  exact Nat.lt_of_mul_lt_mul_right h
theorem RDivInv.fin {X F : Nat → Nat} {p D rem : Nat} (h : RDivInv X F p 0 D rem) : vs 65536 F p = vs 65536 X p / D ∧ rem = vs 65536 X p % D := by
  obtain ⟨hr, _, hv⟩ := h
  simp only [Nat.zero_add, Nat.sub_zero] at hv
  rw [hv]
  refine ⟨?_, ?_⟩
  · rw [Nat.mul_comm, Nat.mul_add_div (by omega), Nat.div_eq_of_lt hr, Nat.add_zero]
  · rw [Nat.mul_comm, Nat.mul_add_mod, Nat.mod_eq_of_lt hr]

set_option maxHeartbeats 400000 in
theorem rdiv_no (A B : Option Addr) (n m c d : Nat) (x y : Nat → Nat) (w : World) (ha : Sl w A n c x) (hb : Sl w B m d y) (hn : n ≤ 100000) (hm : m ≤ 100000) (h0 : vs B64 y m = 0) :
    Calls Try.prog 25 #[.slice A n c, .slice B m d] w fun e w' => e = .returned (.tuple #[.slice none 0 0, .slice none 0 0, .bool false]) ∧ Below w.heap.size w w' := by
  have hq : tl (dg y) (4 * m) = 0 := vs_eq_zero (b := 65536) (by omega) (tl_cn _ _) (by rw [dg_val hb]; exact h0)
  have D1 := Lib.hid (digits_any A n c x w ha (by omega))
  have D2 : Hid (∀ w1, Below w.heap.size w w1 → Calls Try.prog 36 #[.slice B m d] w1 (digitsPost w1 y m)) := Lib.hid fun w1 b1 => digits_any B m d y w1 (hb.below b1) (by omega)
  unfold digitsPost at D1 D2
  rw [hq] at D2
  clear hq h0
  go_enter Try.func25, Try.ntmps25
  go_wp2_with fail
  refine D1.out.mono ?_
  rintro e w1 ⟨A1, c3, rfl, s1, b1⟩
  go_wp2_with fail
  refine (D2.out w1 b1).mono ?_
  rintro e w2 ⟨A2, c4, rfl, s2, b2⟩
  go_wp2_with fail
  go_ret3
  exact ⟨rfl, b1.trans (b2.mono b1.size)⟩

set_option maxHeartbeats 1000000 in
theorem rdiv_yes (A B : Option Addr) (n m c d : Nat) (x y : Nat → Nat) (w : World) (ha : Sl w A n c x) (hb : Sl w B m d y) (hn : n ≤ 100000) (hm : m ≤ 100000) (h0 : 0 < vs B64 y m) :
    Calls Try.prog 25 #[.slice A n c, .slice B m d] w (QuoPost w (vs B64 x n / vs B64 y m) (vs B64 x n % vs B64 y m)) := by
  have hq0 : 0 < tl (dg y) (4 * m) := by
    rcases Nat.eq_zero_or_pos (tl (dg y) (4 * m)) with h | h
    · exfalso
      have := dg_val hb
      rw [h, vs_zero] at this
      omega
    · exact h
  rw [← dg_val ha, ← dg_val hb] at *
  have D1 := Lib.hid (digits_any A n c x w ha (by omega))
  have D2 : Hid (∀ w1, Below w.heap.size w w1 → Calls Try.prog 36 #[.slice B m d] w1 (digitsPost w1 y m)) := Lib.hid fun w1 b1 => digits_any B m d y w1 (hb.below b1) (by omega)
  have l1 := tl_le (dg x) (4 * n)
  have l2 := tl_le (dg y) (4 * m)
  unfold digitsPost at D1 D2
  have G1 : Hid (∀ j, dg x j < 65536) := Lib.hid (dg_lt x)
  have G2 : Hid (∀ j, dg y j < 65536) := Lib.hid (dg_lt y)
  generalize dg x = X at *
  generalize dg y = Y at *
  generalize tl X (4 * n) = p at *
  generalize tl Y (4 * m) = q at *
  have HYq := Lib.hid (vs_lt (b := 65536) (f := Y) (n := q) fun j _ => G2.out j)
  have hqb : ((q : Int) == 0) = false := by simp; omega
  have hmk : ∀ u : World, (Instr.makeSlice 22 (.int .i64 (p : Int)) (.int .i64 (p : Int))).run Try.prog u =
      .ok (.slice (some ⟨u.heap.size, 0, none⟩) p p) (u.alloc (.cells (madeCells #[.int .u64 0] p) 38)) := fun u => make_run p (by omega) u
  go_enter Try.func25, Try.ntmps25
  go_wp2_with fail
  refine D1.out.mono ?_
  rintro e w1 ⟨A1, c3, rfl, s1, b1⟩
  go_wp2_with fail
  refine (D2.out w1 b1).mono ?_
  rintro e w2 ⟨A2, c4, rfl, s2, b2⟩
  have s1' := s1.below b2
  have b12 : Below w.heap.size w w2 := b1.trans (b2.mono b1.size)
  clear s1 b1 b2 D1 D2
  have row0 := Row.made 38 w2 p
  have bel0 : Below w2.heap.size w2 (w2.alloc (.cells (madeCells #[.int .u64 0] p) 38)) := (Below.refl _ w2).alloc (Nat.le_refl _) _
  go_wp2_with fail
  go_loopw [9, 11] (fun s9 s11 wr => ∃ (k : Nat) (i : Int) (L : Option Addr) (l cl : Nat) (R F : Nat → Nat), k ≤ p ∧ i ≤ (k : Int) - 1 ∧ (k : Int) - 1 ≤ i ∧ s11 = .int .i64 i ∧ s9 = .slice L l cl ∧ Sl wr L l cl R ∧ Cn l R ∧ Hid (∀ j, j < l → R j < 65536) ∧
      Row 38 wr w2.heap.size p F ∧ Below w2.heap.size w2 wr ∧ Hid (RDivInv X F p k (vs 65536 Y q) (vs 65536 R l))) (fun _ s11 _ => (intOf s11 + 1).toNat)
  case atStart =>
    refine ⟨p, (p : Int) - 1, none, 0, 0, X, fun _ => 0, Nat.le_refl _, by omega, by omega, rfl, rfl, Sl.none_ _ _ _ _, .inl rfl, Lib.hid fun j hj => absurd hj (by omega), row0, bel0, Lib.hid ⟨?_, fun _ => (by omega : (0:Nat) < 65536), ?_⟩⟩
    · rw [vs_zero]; exact h0
    · rw [Nat.sub_self, vs_zero, vs_zero, vs_zero, Nat.zero_mul]
  case round =>
    clear row0 bel0 hmk
    obtain ⟨k, i, L, l, cl, R, F, hk, hi1, hi2, rfl, rfl, sL, cL, hR, hrow, hbw, hinv⟩ := hrel
    have hl : l ≤ q := cn_le (b := 65536) (by omega) cL (Nat.lt_trans hinv.out.1 HYq.out)
    by_cases hi0 : 0 ≤ i
    · obtain ⟨j, rfl⟩ := Int.eq_ofNat_of_zero_le hi0
      obtain rfl : k = j + 1 := by omega
      have hjp : j < p := by omega
      have xs := s1'.below hbw
      have ys := s2.below hbw
      obtain ⟨adx, rfl, _, _, hcx⟩ := xs.at_ hjp
      have ga := G1.out j
      obtain ⟨a, hXa⟩ : ∃ a, Hid (X j = a) := ⟨_, Lib.hid rfl⟩
      rw [hXa.out] at hcx ga
      have hown0 := Own.one 38 wr a (by unfold B64; omega)
      have sA := sL.alloc (.cells #[.int .u64 ((a : Nat) : Int)] 38)
      have bA := hbw.alloc hbw.size (.cells #[.int .u64 ((a : Nat) : Int)] 38)
      have rA := hrow.alloc (.cells #[.int .u64 ((a : Nat) : Int)] 38)
      have hlt := hrow.lt
      go_wp2_with (at_builtin; refine wpList_append_words rfl (.tmp 34) (.tmp 35) 22 rfl wr.heap.size 38 Try.underlying22 info64 _ 1 _ rfl hown0 L l cl R rfl sA (by omega) (by simp) ?_; intro v3 w3 hown3 hbel3; obtain ⟨A3, c5, rfl, s3, hA3⟩ := hown3.sl)
      have b3 := hbel3 _ _ hbw.size bA
      have r3 : Row 38 w3 w2.heap.size p F := hrow.below (hbel3 _ _ (Nat.le_refl _) ((Below.refl _ wr).alloc (Nat.le_refl _) _)) hlt
      have hfd : Hid (∀ j, j < 1 + l → cat (fun _ => a) 1 R j < 65536) := Lib.hid fun j hj => by
        unfold cat; split
        · exact ga
        · exact hR.out _ (by omega)
      have hfv : Hid (vs 65536 (cat (fun _ => a) 1 R) (tl (cat (fun _ => a) 1 R) (1 + l)) = a + 65536 * vs 65536 R l) := Lib.hid (by rw [vs_tl, vs_cat_one])
      have C3 := Lib.hid (cut_any A3 (1 + l) c5 _ w3 s3 (by omega))
      have hs3 := s3.take (tl_le (cat (fun _ => a) 1 R) (1 + l))
      have hcn3 := tl_cn (cat (fun _ => a) 1 R) (1 + l)
      have hl3 := tl_le (cat (fun _ => a) 1 R) (1 + l)
      clear hbel3 hown3 hown0 sA bA rA s3
      generalize cat (fun _ => a) 1 R = f at *
      generalize tl f (1 + l) = z at *
      refine C3.out.mono ?_
      rintro e w4 ⟨rfl, rfl⟩
      have ys3 := s2.below b3
      go_wp2_with fail
      refine (rguess_any A3 A2 z q c5 c4 f Y w3 hs3 ys3 (fun j hj => hfd.out j (by omega)) (fun j _ => G2.out j) (by omega) (by omega) (by omega)).mono ?_
      rintro e w5 ⟨g0, rfl, hg0, hg1, rfl⟩
      have HG1 := Lib.hid hg1
      clear hg1
      go_wp2_with fail
      go_loopw [12] (fun s12 wr => ∃ low : Nat, s12 = .int .u64 (low : Int) ∧ low ≤ 65535 ∧ Hid (low * vs 65536 Y q ≤ vs 65536 f z) ∧ Below w3.heap.size w3 wr) (fun s12 _ => 65536 - (intOf s12).toNat)
      case atStart => exact ⟨g0, rfl, hg0, HG1, Below.refl _ _⟩
      case round =>
        obtain ⟨low, rfl, hlow, hlo, bw⟩ := hrel
        have yw : Sl wr A2 q c4 Y := ys3.below bw
        have fw : Sl wr A3 z c5 f := hs3.below bw
        have hlow2 := low_lt hlo.out hfv.out.symm ga hinv.out.1
        have T := times_any A2 q c4 Y (low + 1) wr yw (fun j _ => G2.out j) (by omega) (by omega)
        rw [show ((low + 1 : Nat) : Int) = (low : Int) + 1 from by omega] at T
        have HT := Lib.hid T
        clear T
        go_wp2_with fail
        refine HT.out.mono ?_
        rintro e w6 ⟨A6, k6, c6, F6, rfl, s6, hk6, hF6, cn6, hv6, b6⟩
        have HF6 := Lib.hid hF6
        have C6 := compare_any A6 A3 k6 z c6 c5 F6 f w6 s6 (fw.below b6) cn6 hcn3 hF6 (fun j hj => hfd.out j (by omega)) (by omega) (by omega)
        rw [hv6] at C6
        have HC6 := Lib.hid C6
        clear C6 hv6 hF6
        go_wp2_with fail
        refine HC6.out.mono ?_
        rintro e w7 ⟨rfl, b7⟩
        have b37 : Below w3.heap.size w3 w7 := bw.trans ((b6.trans (b7.mono b6.size)).mono bw.size)
        by_cases hgo : vs 65536 Y q * (low + 1) ≤ vs 65536 f z
        · have hr : cmpN (vs 65536 Y q * (low + 1)) (vs 65536 f z) ≤ 0 := by unfold cmpN; split <;> (try split) <;> omega
          have hlo2 : Hid ((low + 1) * vs 65536 Y q ≤ vs 65536 f z) := Lib.hid (by rw [Nat.mul_comm]; exact hgo)
          have hlow3 := low_lt hlo2.out hfv.out.symm ga hinv.out.1
          generalize cmpN (vs 65536 Y q * (low + 1)) (vs 65536 f z) = r at *
          clear hgo
          have hB : decide (r ≤ 0) = true := by simp; omega
          go_wp2_with fail
          go_roundw
          case rel => exact ⟨low + 1, by go_num, by omega, hlo2, b37⟩
          case measure => simp [intOf]; omega
        · have hr : cmpN (vs 65536 Y q * (low + 1)) (vs 65536 f z) = 1 := cmpN_gt (by omega)
          have hst := Lib.hid (hinv.out.step hjp hXa.out hfv.out.symm hlow2 hlo.out (by rw [Nat.mul_comm]; omega))
          rw [hr]
          clear hgo hr
          have r7 : Row 38 w7 w2.heap.size p F := r3.below b37 r3.lt
          have hrc := r7.cell hjp
          have hrf := r7.frozen j
          have r8 := r7.set_ j low (by unfold B64; omega)
          have b27 : Below w2.heap.size w2 w7 := b3.trans (b37.mono b3.size)
          go_wp2_with fail
          have b28 : Below w2.heap.size w2 (w7.setCell ⟨w2.heap.size, j, none⟩ (.int .u64 (low : Int))) := b27.setCell (Nat.le_refl _) _
          have f8 : Sl (w7.setCell ⟨w2.heap.size, j, none⟩ (.int .u64 (low : Int))) A3 z c5 f := (hs3.below b37).only ((Only.refl _ _).set_ j _) (fun _ ad e => by have := hA3 ad e; omega)
          have y8 := s2.below b28
          generalize w7.setCell ⟨w2.heap.size, j, none⟩ (.int .u64 (low : Int)) = w8 at *
          refine (times_any A2 q c4 Y low w8 y8 (fun j _ => G2.out j) (by omega) (by omega)).mono ?_
          rintro e w9 ⟨A9, k9, c9, F9, rfl, s9, hk9, hF9, cn9, hv9, b9⟩
          have hle9 : vs 65536 F9 k9 ≤ vs 65536 f z := by rw [hv9, Nat.mul_comm]; exact hlo.out
          have hkz : k9 ≤ z := cn_le (b := 65536) (by omega) cn9 (Nat.lt_of_le_of_lt hle9 (vs_lt fun j hj => hfd.out j (by omega)))
          have M9 := minus_any A3 A9 z k9 c5 c9 f F9 w9 (f8.below b9) s9 (fun j hj => hfd.out j (by omega)) hF9 hkz (by omega) hle9
          rw [hv9, Nat.mul_comm] at M9
          have HM9 := Lib.hid M9
          clear M9 hv9 hle9
          have HF9 := Lib.hid hF9
          clear hF9
          go_wp2_with fail
          refine HM9.out.mono ?_
          rintro e w10 ⟨A10, k10, c10, F10, rfl, s10, hk10, hF10, cn10, hv10, b10⟩
          have HF10 := Lib.hid hF10
          have hst2 := Lib.hid hst.out
          rw [← hv10] at hst2
          clear hF10 hv10 hst
          have b8a : Below w8.heap.size w8 w10 := b9.trans (b10.mono b9.size)
          have r10 := r8.below b8a r8.lt
          have b210 := b28.trans (b8a.mono b28.size)
          go_wp2_with fail
          go_roundw
          case rel => exact ⟨j, (j : Int) - 1, A10, k10, c10, F10, _, by omega, by omega, by omega, by go_num, rfl, s10, cn10, HF10, r10, b210, hst2⟩
          case measure => first | (simp [intOf]; done) | (simp [intOf]; omega)
    · obtain rfl : k = 0 := by omega
      have hib : decide ((0 : Int) ≤ i) = false := by simp; omega
      have hfin := Lib.hid hinv.out.fin
      go_wp2_with fail
      refine (words_any _ p p F wr (hrow.sl0 p p (Nat.le_refl _) (Nat.le_refl _)) (fun j _ => hinv.out.2.1 j) (by omega)).mono ?_
      rintro e w5 ⟨v5, rfl, hnum5, b5⟩
      rw [hfin.out.1] at hnum5
      go_wp2_with fail
      refine (words_any L l cl R w5 (sL.below b5) hR.out (by omega)).mono ?_
      rintro e w6 ⟨v6, rfl, hnum6, b6⟩
      rw [hfin.out.2] at hnum6
      go_wp2_with fail
      go_ret3
      exact ⟨v5, v6, rfl, hnum5.below b6, hnum6, b12.trans ((hbw.trans ((b5.trans (b6.mono b5.size)).mono hbw.size)).mono b12.size)⟩
end Go.Proofs.Ytigobkjbckgniaa
