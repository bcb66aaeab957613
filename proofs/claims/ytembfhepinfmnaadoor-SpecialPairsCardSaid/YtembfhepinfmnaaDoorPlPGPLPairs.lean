/-
  volvellelaw13.SpecialPairs.
-/
import Derived.Test.YtembfhepinfmnaaDoorPlPGPk4
import Derived.Test.YtembfhepinfmnaaDoorPlPGPk5
namespace Go.Proofs.YtembfhepinfmnaaDoor
open Go.RowKit

theorem spec_zero' {tag : Int} {a b c d : Nat} (h : isSp tag a b c d = false) : specN tag a b c d = TW.zero := by unfold specN; rw [h, if_neg (by simp)]
theorem spec_told' {tag : Int} {a b c d : Nat} (h : isSp tag a b c d = true) : specN tag a b c d = toldN tag (spN tag a b c d) := by unfold specN; rw [h, if_pos rfl]
/-- Two words of the conjugate. -/
theorem pair_words {tag : Int} {a b c d : Nat} (ha : a < B64) (hb : b < B64) (h0 : tag ≠ 0) (h4 : tag ≠ 4) (h5 : tag ≠ 5) (h : isSp tag a b c d = true) :
    ∃ X Y : Nat, ∃ f : Int, X < B64 ∧ Y < B64 ∧ specN tag a b c d = ⟨X, Y, f⟩ ∧ specN tag a (flipN b) c d = (if tag = 1 then ⟨if X = 9221120237041090560 then (X : Int) else (flipN X : Int), Y, f⟩ else ⟨X, if Y = 9221120237041090560 then (Y : Int) else (flipN Y : Int), f⟩) := by
  obtain ⟨ka, kb, HO⟩ := told_one tag a b c d ha hb
  obtain ⟨⟨X, hX, hX1, _⟩, ⟨Y, hY, hY1, _⟩, _, _⟩ := HO
  refine ⟨X, Y, (toldN tag (spN tag a b c d)).f, hX1, hY1, ?_, ?_⟩
  · rw [spec_told' h, ← hX, ← hY]
  · have h' := h
    rw [← flip_isSp hb] at h'
    rw [spec_told' h', told_pair tag a b c d hb h0 h4 h5]
    unfold flT
    by_cases h1 : tag = 1
    · rw [if_pos h1, if_pos h1, hX, hY, fl_nat]
    · rw [if_neg h1, if_neg h1, hX, hY, fl_nat]

set_option maxRecDepth 100000 in
set_option maxHeartbeats 8000000 in
theorem lspairs_one (a b c d : Nat) (w : World) (hT : Tab w) (ha : a < B64) (hb : b < B64) (hc : c < B64) (hd : d < B64) : Calls Tryd.prog 5 #[.int .i64 1, .agg (fourC a b c d)] w (TruePost w) := by
  have k1 := KB.made 24 w (fourC a b c d)
  have b1 := alloc_bel w (.cells (fourC a b c d) 24)
  have AW := Lib.hid (awake13 (w.alloc (.cells (fourC a b c d) 24)) (hT.below b1))
  have hf := flip_lt hb
  have SP := Lib.hid (fun w' (b' : Below w.heap.size w w') => special_any 1 a b c d w' (hT.below b') ha hb hc hd)
  have SQ := Lib.hid (fun w' (b' : Below w.heap.size w w') => special_any 1 a (flipN b) c d w' (hT.below b') ha hf hc hd)
  have xt := Lib.hid (xor_top b hb)
  have HPW := Lib.hid (fun h => pair_words (tag := 1) (c := c) (d := d) ha hb (by decide) (by decide) (by decide) h)
  have HZ := Lib.hid (fun h => spec_zero' (tag := 1) (a := a) (b := b) (c := c) (d := d) h)
  have HZ2 := Lib.hid (fun h => spec_zero' (tag := 1) (a := a) (b := flipN b) (c := c) (d := d) h)
  rw [flip_isSp hb] at SQ HZ2
  generalize specN 1 a (flipN b) c d = r2 at *
  generalize specN 1 a b c d = r at *
  generalize isSp 1 a b c d = ok at *
  generalize hfb : flipN b = fb at *
  clear hfb
  go_enter Tryd.func5, Tryd.ntmps5
  go_wp2_with fail
  refine AW.out.mono ?_
  rintro e' w2 ⟨rfl, bb⟩
  have k1 := k1.adv bb
  have b1 := below_step b1 bb
  clear bb AW
  have j0 := k1.at_ 0 (v := .int .u64 (a : Int)) rfl
  have j1 := k1.at_ 1 (v := .int .u64 (b : Int)) rfl
  have j2 := k1.at_ 2 (v := .int .u64 (c : Int)) rfl
  have j3 := k1.at_ 3 (v := .int .u64 (d : Int)) rfl
  go_wp2_with fail
  refine (SP.out _ b1).mono ?_
  rintro e' w3 ⟨rfl, bb⟩
  have k1 := k1.adv bb
  have b1 := below_step b1 bb
  clear bb SP j0 j1 j2 j3
  go_upto_region 6 with fail
  have kx := KB.made 26 w3 #[.int .u64 r.a, .int .u64 r.b]
  have al := alloc_bel w3 (.cells #[.int .u64 r.a, .int .u64 r.b] 26)
  have k1 := k1.adv al
  have b1 := below_step b1 al
  clear al
  generalize hw : w3.alloc _ = w4 at *
  clear hw
  have j0 := k1.at_ 0 (v := .int .u64 (a : Int)) rfl
  have j1 := k1.at_ 1 (v := .int .u64 (b : Int)) rfl
  have j2 := k1.at_ 2 (v := .int .u64 (c : Int)) rfl
  have j3 := k1.at_ 3 (v := .int .u64 (d : Int)) rfl
  have xt' := xt.out
  go_upto_region 8 with fail
  clear xt xt' j0 j1 j2 j3
  have ky := KB.made 24 w4 #[.int .u64 (a : Int), .int .u64 (fb : Int), .int .u64 (c : Int), .int .u64 (d : Int)]
  have al := alloc_bel w4 (.cells #[.int .u64 (a : Int), .int .u64 (fb : Int), .int .u64 (c : Int), .int .u64 (d : Int)] 24)
  have kx := kx.adv al
  have b1 := below_step b1 al
  clear al
  generalize hw : w4.alloc _ = w5 at *
  clear hw
  have j0 := ky.at_ 0 (v := .int .u64 (a : Int)) rfl
  have j1 := ky.at_ 1 (v := .int .u64 (fb : Int)) rfl
  have j2 := ky.at_ 2 (v := .int .u64 (c : Int)) rfl
  have j3 := ky.at_ 3 (v := .int .u64 (d : Int)) rfl
  go_wp2_with fail
  refine (SQ.out _ b1).mono ?_
  rintro e' w6 ⟨rfl, bb⟩
  have kx := kx.adv bb
  have b1 := below_step b1 bb
  clear bb SQ j0 j1 j2 j3 k1 ky
  go_upto_region 9 with fail
  have kz := KB.made 26 w6 #[.int .u64 r2.a, .int .u64 r2.b]
  have al := alloc_bel w6 (.cells #[.int .u64 r2.a, .int .u64 r2.b] 26)
  have kx := kx.adv al
  have b1 := below_step b1 al
  clear al
  generalize hw : w6.alloc _ = w7 at *
  clear hw
  cases ok
  · obtain rfl : r = ⟨0, 0, 0⟩ := HZ.out rfl
    obtain rfl : r2 = ⟨0, 0, 0⟩ := HZ2.out rfl
    clear HZ HZ2 HPW
    have x0 := kx.at_ 0 (v := .int .u64 0) rfl
    have x1 := kx.at_ 1 (v := .int .u64 0) rfl
    have z0 := kz.at_ 0 (v := .int .u64 0) rfl
    have z1 := kz.at_ 1 (v := .int .u64 0) rfl
    go_upto_region 11 with fail
    go_quiet (fail)
    go_wp2_with fail
    go_ret
    exact ⟨rfl, below_drewN b1 _⟩
  · obtain ⟨X, Y, f, hX, hY, e1, e2⟩ := HPW.out rfl
    subst e1
    clear HZ HZ2 HPW
    rw [if_pos trivial] at e2
    have x0 := kx.at_ 0 (v := .int .u64 (X : Int)) rfl
    have x1 := kx.at_ 1 (v := .int .u64 (Y : Int)) rfl
    by_cases hn : X = 9221120237041090560
    · rw [if_pos hn] at e2
      subst e2
      have hq : ((X : Int) != 9221120237041090560) = false := by rw [hn]; rfl
      have z0 := kz.at_ 0 (v := .int .u64 (X : Int)) rfl
      have z1 := kz.at_ 1 (v := .int .u64 (Y : Int)) rfl
      clear hn
      go_upto_region 11 with fail
      go_quiet (fail)
      go_wp2_with fail
      go_ret
      exact ⟨rfl, below_drewN b1 _⟩
    · rw [if_neg hn] at e2
      subst e2
      have hq : ((X : Int) != 9221120237041090560) = true := by simp; omega
      have hx := xor_top X hX
      have z0 := kz.at_ 0 (v := .int .u64 (flipN X : Int)) rfl
      have z1 := kz.at_ 1 (v := .int .u64 (Y : Int)) rfl
      clear hn
      generalize flipN X = Z at *
      go_upto_region 11 with fail
      go_quiet (fail)
      go_wp2_with fail
      go_ret
      exact ⟨rfl, below_drewN b1 _⟩
set_option maxRecDepth 100000 in
set_option maxHeartbeats 8000000 in
theorem lspairs_no (tag : Int) (a b c d : Nat) (w : World) (hT : Tab w) (ha : a < B64) (hb : b < B64) (hc : c < B64) (hd : d < B64) (q0 : tag ≠ 0) (q1 : tag ≠ 1) (q4 : tag ≠ 4) (q5 : tag ≠ 5) : Calls Tryd.prog 5 #[.int .i64 tag, .agg (fourC a b c d)] w (TruePost w) := by
  have k1 := KB.made 24 w (fourC a b c d)
  have b1 := alloc_bel w (.cells (fourC a b c d) 24)
  have AW := Lib.hid (awake13 (w.alloc (.cells (fourC a b c d) 24)) (hT.below b1))
  have hf := flip_lt hb
  have SP := Lib.hid (fun w' (b' : Below w.heap.size w w') => special_any tag a b c d w' (hT.below b') ha hb hc hd)
  have SQ := Lib.hid (fun w' (b' : Below w.heap.size w w') => special_any tag a (flipN b) c d w' (hT.below b') ha hf hc hd)
  have xt := Lib.hid (xor_top b hb)
  have HPW := Lib.hid (fun h => pair_words (tag := tag) (c := c) (d := d) ha hb q0 q4 q5 h)
  have HZ := Lib.hid (fun h => spec_zero' (tag := tag) (a := a) (b := b) (c := c) (d := d) h)
  have HZ2 := Lib.hid (fun h => spec_zero' (tag := tag) (a := a) (b := flipN b) (c := c) (d := d) h)
  rw [flip_isSp hb] at SQ HZ2
  generalize specN tag a (flipN b) c d = r2 at *
  generalize specN tag a b c d = r at *
  generalize isSp tag a b c d = ok at *
  have HQ1 := Lib.hid q1
  have g0 : (tag == 0) = false := by simp [q0]
  have g1 : (tag == 1) = false := by simp [q1]
  have g4 : (tag == 4) = false := by simp [q4]
  have g5 : (tag == 5) = false := by simp [q5]
  have g1n : (tag != 1) = true := by simp [q1]
  clear q0 q1 q4 q5
  generalize hfb : flipN b = fb at *
  clear hfb
  go_enter Tryd.func5, Tryd.ntmps5
  go_wp2_with fail
  refine AW.out.mono ?_
  rintro e' w2 ⟨rfl, bb⟩
  have k1 := k1.adv bb
  have b1 := below_step b1 bb
  clear bb AW
  have j0 := k1.at_ 0 (v := .int .u64 (a : Int)) rfl
  have j1 := k1.at_ 1 (v := .int .u64 (b : Int)) rfl
  have j2 := k1.at_ 2 (v := .int .u64 (c : Int)) rfl
  have j3 := k1.at_ 3 (v := .int .u64 (d : Int)) rfl
  go_wp2_with fail
  refine (SP.out _ b1).mono ?_
  rintro e' w3 ⟨rfl, bb⟩
  have k1 := k1.adv bb
  have b1 := below_step b1 bb
  clear bb SP j0 j1 j2 j3
  go_upto_region 6 with fail
  have kx := KB.made 26 w3 #[.int .u64 r.a, .int .u64 r.b]
  have al := alloc_bel w3 (.cells #[.int .u64 r.a, .int .u64 r.b] 26)
  have k1 := k1.adv al
  have b1 := below_step b1 al
  clear al
  generalize hw : w3.alloc _ = w4 at *
  clear hw
  have j0 := k1.at_ 0 (v := .int .u64 (a : Int)) rfl
  have j1 := k1.at_ 1 (v := .int .u64 (b : Int)) rfl
  have j2 := k1.at_ 2 (v := .int .u64 (c : Int)) rfl
  have j3 := k1.at_ 3 (v := .int .u64 (d : Int)) rfl
  have xt' := xt.out
  go_upto_region 8 with fail
  clear xt xt' j0 j1 j2 j3
  have ky := KB.made 24 w4 #[.int .u64 (a : Int), .int .u64 (fb : Int), .int .u64 (c : Int), .int .u64 (d : Int)]
  have al := alloc_bel w4 (.cells #[.int .u64 (a : Int), .int .u64 (fb : Int), .int .u64 (c : Int), .int .u64 (d : Int)] 24)
  have kx := kx.adv al
  have b1 := below_step b1 al
  clear al
  generalize hw : w4.alloc _ = w5 at *
  clear hw
  have j0 := ky.at_ 0 (v := .int .u64 (a : Int)) rfl
  have j1 := ky.at_ 1 (v := .int .u64 (fb : Int)) rfl
  have j2 := ky.at_ 2 (v := .int .u64 (c : Int)) rfl
  have j3 := ky.at_ 3 (v := .int .u64 (d : Int)) rfl
  go_wp2_with fail
  refine (SQ.out _ b1).mono ?_
  rintro e' w6 ⟨rfl, bb⟩
  have kx := kx.adv bb
  have b1 := below_step b1 bb
  clear bb SQ j0 j1 j2 j3 k1 ky
  go_upto_region 9 with fail
  have kz := KB.made 26 w6 #[.int .u64 r2.a, .int .u64 r2.b]
  have al := alloc_bel w6 (.cells #[.int .u64 r2.a, .int .u64 r2.b] 26)
  have kx := kx.adv al
  have b1 := below_step b1 al
  clear al
  generalize hw : w6.alloc _ = w7 at *
  clear hw
  cases ok
  · obtain rfl : r = ⟨0, 0, 0⟩ := HZ.out rfl
    obtain rfl : r2 = ⟨0, 0, 0⟩ := HZ2.out rfl
    clear HZ HZ2 HPW HQ1
    have x0 := kx.at_ 0 (v := .int .u64 0) rfl
    have x1 := kx.at_ 1 (v := .int .u64 0) rfl
    have z0 := kz.at_ 0 (v := .int .u64 0) rfl
    have z1 := kz.at_ 1 (v := .int .u64 0) rfl
    go_upto_region 11 with fail
    go_quiet (fail)
    go_wp2_with fail
    go_ret
    exact ⟨rfl, below_drewN b1 _⟩
  · obtain ⟨X, Y, f, hX, hY, e1, e2⟩ := HPW.out rfl
    subst e1
    clear HZ HZ2 HPW
    rw [if_neg HQ1.out] at e2
    have x0 := kx.at_ 0 (v := .int .u64 (X : Int)) rfl
    have x1 := kx.at_ 1 (v := .int .u64 (Y : Int)) rfl
    by_cases hn : Y = 9221120237041090560
    · rw [if_pos hn] at e2
      subst e2
      have hq : ((Y : Int) != 9221120237041090560) = false := by rw [hn]; rfl
      have z0 := kz.at_ 0 (v := .int .u64 (X : Int)) rfl
      have z1 := kz.at_ 1 (v := .int .u64 (Y : Int)) rfl
      clear hn
      go_upto_region 11 with fail
      go_quiet (fail)
      go_wp2_with fail
      go_ret
      exact ⟨rfl, below_drewN b1 _⟩
    · rw [if_neg hn] at e2
      subst e2
      have hq : ((Y : Int) != 9221120237041090560) = true := by simp; omega
      have hx := xor_top Y hY
      have z0 := kz.at_ 0 (v := .int .u64 (X : Int)) rfl
      have z1 := kz.at_ 1 (v := .int .u64 (flipN Y : Int)) rfl
      clear hn
      generalize flipN Y = Z at *
      go_upto_region 11 with fail
      go_quiet (fail)
      go_wp2_with fail
      go_ret
      exact ⟨rfl, below_drewN b1 _⟩
set_option maxHeartbeats 2000000 in
theorem lspairs_0 (a b c d : Nat) (w : World) (hT : Tab w) : Calls Tryd.prog 5 #[.int .i64 0, .agg (fourC a b c d)] w (TruePost w) := by
  have b1 := alloc_bel w (.cells (fourC a b c d) 24)
  have AW := Lib.hid (awake13 (w.alloc (.cells (fourC a b c d) 24)) (hT.below b1))
  go_enter Tryd.func5, Tryd.ntmps5
  go_wp2_with fail
  refine AW.out.mono ?_
  rintro e' w2 ⟨rfl, bb⟩
  have b1 := below_step b1 bb
  clear bb AW
  go_wp2_with fail
  go_ret
  exact ⟨rfl, b1⟩
set_option maxHeartbeats 2000000 in
theorem lspairs_4 (a b c d : Nat) (w : World) (hT : Tab w) : Calls Tryd.prog 5 #[.int .i64 4, .agg (fourC a b c d)] w (TruePost w) := by
  have b1 := alloc_bel w (.cells (fourC a b c d) 24)
  have AW := Lib.hid (awake13 (w.alloc (.cells (fourC a b c d) 24)) (hT.below b1))
  go_enter Tryd.func5, Tryd.ntmps5
  go_wp2_with fail
  refine AW.out.mono ?_
  rintro e' w2 ⟨rfl, bb⟩
  have b1 := below_step b1 bb
  clear bb AW
  go_wp2_with fail
  go_ret
  exact ⟨rfl, b1⟩
set_option maxHeartbeats 2000000 in
theorem lspairs_5 (a b c d : Nat) (w : World) (hT : Tab w) : Calls Tryd.prog 5 #[.int .i64 5, .agg (fourC a b c d)] w (TruePost w) := by
  have b1 := alloc_bel w (.cells (fourC a b c d) 24)
  have AW := Lib.hid (awake13 (w.alloc (.cells (fourC a b c d) 24)) (hT.below b1))
  go_enter Tryd.func5, Tryd.ntmps5
  go_wp2_with fail
  refine AW.out.mono ?_
  rintro e' w2 ⟨rfl, bb⟩
  have b1 := below_step b1 bb
  clear bb AW
  go_wp2_with fail
  go_ret
  exact ⟨rfl, b1⟩
theorem lsppairs_any (tag : Int) (a b c d : Nat) (w : World) (hT : Tab w) (ha : a < B64) (hb : b < B64) (hc : c < B64) (hd : d < B64) : Calls Tryd.prog 5 #[.int .i64 tag, .agg (fourC a b c d)] w (TruePost w) := by
  by_cases h0 : tag = 0
  · subst h0; exact lspairs_0 a b c d w hT
  · by_cases h4 : tag = 4
    · subst h4; exact lspairs_4 a b c d w hT
    · by_cases h5 : tag = 5
      · subst h5; exact lspairs_5 a b c d w hT
      · by_cases h1 : tag = 1
        · subst h1; exact lspairs_one a b c d w hT ha hb hc hd
        · exact lspairs_no tag a b c d w hT ha hb hc hd h0 h1 h4 h5
end Go.Proofs.YtembfhepinfmnaaDoor
