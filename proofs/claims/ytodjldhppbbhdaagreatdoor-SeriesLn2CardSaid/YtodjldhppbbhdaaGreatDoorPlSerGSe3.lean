/-
  A share in units (series' units).
-/
import Derived.Test.YtodjldhppbbhdaaGreatDoorPlSerGSe1
import Derived.Test.YtodjldhppbbhdaaGreatDoorPlSerGSe2
namespace Go.Proofs.YtodjldhppbbhdaaGreatDoor
open Go.RowKit

theorem sqs_two {n : Nat} (hn : 2 ≤ n) : ∀ k, 2 ^ 2 ^ k ≤ sqs n k
  | 0 => by simpa [sqs] using hn
  | k + 1 => by
    have h := sqs_two hn k
    have := Nat.mul_le_mul h h
    unfold sqs
    rw [Nat.pow_succ 2 k, Nat.mul_two, Nat.pow_add]
    exact this
theorem termsN_le {n bits : Nat} (hn : 2 ≤ n) (hb : bits ≤ 8000) : 1 ≤ termsN n bits ∧ termsN n bits ≤ 4005 := by
  have h := sqs_two hn 5
  have hx : 33 ≤ nb (sqs n 5) := by
    rcases Nat.lt_or_ge (nb (sqs n 5)) 33 with hl | hl
    · have := (nb_le_iff (sqs n 5) 32).1 (by omega)
      omega
    · exact hl
  unfold termsN
  have h1 : 16 * (bits + 8) / (nb (sqs n 5) - 1) ≤ 16 * (bits + 8) / 32 := Nat.div_le_div_left (by omega) (by omega)
  generalize 16 * (bits + 8) / (nb (sqs n 5) - 1) = q at *
  omega
theorem betN_pos {circ : Bool} {n : Nat} (hn : 2 ≤ n) : ∀ (fuel first len : Nat), 0 < (betN circ n fuel first len).below
  | 0, first, _ => by
    have : 0 < n * n := Nat.mul_pos (by omega) (by omega)
    exact Nat.mul_pos (show 0 < 2 * first + 1 by omega) this
  | fuel + 1, first, len => by
    unfold betN
    split
    · have : 0 < n * n := Nat.mul_pos (by omega) (by omega)
      exact Nat.mul_pos (show 0 < 2 * first + 1 by omega) this
    · exact Nat.mul_pos (betN_pos hn fuel _ _) (betN_pos hn fuel _ _)
/-- Behind region 1: the stretch in a block of its own. -/
def UP (w : World) (tm n : Nat) (r : StrN) (s7 : Value) (wx : World) : Prop := ∃ g7, s7 = .pointer (some ⟨g7, 0, none⟩) ∧ StrK wx g7 r ∧ Pu w wx [(49, w.heap.size, #[.int .u64 ((tm : Nat) : Int), .int .u64 ((n : Nat) : Int)])] [] ∧ w.heap.size < g7
section
variable {w v : World} {tm n g7 : Nat} {r : StrN} {A1 B1 C1 : Option Addr} {a1 b1 c1 d1 x1 y1 : Nat}
theorem end_up (P : Pu w v [(49, w.heap.size, #[.int .u64 ((tm : Nat) : Int), .int .u64 ((n : Nat) : Int)])] []) (s1 : S3 v A1 a1 b1 B1 c1 d1 C1 x1 y1 r) (z1 : KC 99 v g7 z9) (h1 : w.heap.size < g7) :
    UP w tm n r (.pointer (some ⟨g7, 0, none⟩)) (put3 v g7 (.slice A1 a1 b1) (.slice B1 c1 d1) (.slice C1 x1 y1)) :=
  ⟨g7, rfl, s3_k (s3_pz s1 z1 _ _ _) (KC.put3 z1 _ _ _), pu_pz P (by omega) ⟨by omega, trivial⟩ _ _ _, h1⟩
theorem end_ua (P : Pu w v [(49, w.heap.size, #[.int .u64 ((tm : Nat) : Int), .int .u64 ((n : Nat) : Int)])] []) (s1 : S3 v A1 a1 b1 B1 c1 d1 C1 x1 y1 r) (h1 : w.heap.size < v.heap.size) :
    UP w tm n r (.pointer (some ⟨v.heap.size, 0, none⟩)) (v.alloc (.cells #[.slice A1 a1 b1, .slice B1 c1 d1, .slice C1 x1 y1] 99)) :=
  ⟨_, rfl, s3_k (s3_al s1 _) (KC.made 99 v #[.slice A1 a1 b1, .slice B1 c1 d1, .slice C1 x1 y1]), pu_al P _, h1⟩
end
set_option maxRecDepth 8000 in
set_option maxHeartbeats 4000000 in
theorem units_any (circ : Bool) (tm n bits : Nat) (hn1 : 2 ≤ n) (hn2 : n < 2 ^ 14) (ht0 : 0 < tm) (ht : tm < 2 ^ 8) (hb : bits ≤ 8000) (w : World) :
    Calls Tryz.prog 49 #[shv tm n, .bool circ, .int .i64 ((bits : Nat) : Int)] w (NP w (unitsN circ tm n bits)) := by
  obtain ⟨t1, t2⟩ := termsN_le hn1 hb
  have TE : Hid (∀ w', Calls Tryz.prog 90 #[shv tm n, .int .i64 ((bits : Nat) : Int)] w' (IP w' ((termsN n bits : Nat) : Int))) := Lib.hid (fun w' => terms_any tm n bits hn1 hn2 hb w')
  have BE : Hid (∀ w', Calls Tryz.prog 89 #[shv tm n, .bool circ, .int .i64 0, .int .i64 ((termsN n bits : Nat) : Int)] w' (StrP w' (betN circ n (termsN n bits - 1) 0 (termsN n bits)))) := Lib.hid (fun w' => between_any circ tm n hn1 hn2 (termsN n bits - 1) 0 (termsN n bits) 0 _ w' t1 (by omega) (by omega) rfl (by omega))
  have BB := betN_b (circ := circ) hn2 (termsN n bits - 1) 0 (termsN n bits) t1 (by omega) (by omega)
  have BP0 := betN_pos (circ := circ) hn1 (termsN n bits - 1) 0 (termsN n bits)
  have HT : Hid (unitsN circ tm n bits = (betN circ n (termsN n bits - 1) 0 (termsN n bits)).sum * (tm * n) * 2 ^ bits / (betN circ n (termsN n bits - 1) 0 (termsN n bits)).below) := Lib.hid rfl
  generalize unitsN circ tm n bits = U at *
  generalize betN circ n (termsN n bits - 1) 0 (termsN n bits) = r at *
  generalize termsN n bits = tN at *
  obtain ⟨p1, p2, p3⟩ := BB
  have q1 : nb tm ≤ 8 := (nb_le_iff _ _).2 ht
  have q2 : nb n ≤ 14 := (nb_le_iff _ _).2 hn2
  have q3 := nb_mul tm n
  have q4 := nb_mul r.sum (tm * n)
  have hsN : Hid (nb r.sum ≤ 6000000 ∧ nb (tm * n) ≤ 6000000 ∧ nb (r.sum * (tm * n)) ≤ 6000000 ∧ nb (r.sum * (tm * n) * 2 ^ bits) ≤ 6000000 ∧ nb r.below ≤ 6000000 ∧ bits ≤ 1048576) := Lib.hid ⟨by omega, by omega, by omega, by
    rcases Nat.eq_zero_or_pos (r.sum * (tm * n)) with h0 | h0
    · rw [h0, Nat.zero_mul, nb_zero]; omega
    · rw [nb_mul_pow h0]; omega, by omega, by omega⟩
  have P : Pu w (w.alloc (cs2 tm n)) [(49, w.heap.size, #[.int .u64 ((tm : Nat) : Int), .int .u64 ((n : Nat) : Int)])] [] := Pu.alloc (⟨Below.refl _ w, trivial, trivial⟩ : Pu w w [] []) 49 #[.int .u64 ((tm : Nat) : Int), .int .u64 ((n : Nat) : Int)]
  have hq0 : Hid (w.heap.size < (w.alloc (cs2 tm n)).heap.size) := Lib.hid P.ks.1.2
  have HC : Hid (∀ w', Pu w w' [(49, w.heap.size, #[.int .u64 ((tm : Nat) : Int), .int .u64 ((n : Nat) : Int)])] [] → w'.cell? ⟨w.heap.size, 0, none⟩ = some (.int .u64 (tm : Int)) ∧ w'.cell? ⟨w.heap.size, 1, none⟩ = some (.int .u64 (n : Int))) := Lib.hid (fun w' h => ⟨h.ks.1.at_ 0 _ rfl, h.ks.1.at_ 1 _ rfl⟩)
  clear p1 p2 p3 q1 q2 q3 q4 t1 t2
  go_enter Tryz.func49, Tryz.ntmps49
  go_upto_region 1 with fail
  generalize w.alloc (cs2 tm n) = w1 at *
  go_cut [7] (fun s7 wx => UP w tm n r s7 wx)
  case first =>
    have PD := P.drew
    have PA := (pu_al P (.cells z9 99)).drew
    have XS := HC.out _ PD
    have YA := (KC.made 99 w1 z9).drew
    go_region_held3 (fun w' => w'.cell? ⟨w.heap.size, 0, none⟩ = some (.int .u64 (tm : Int)) ∧ w'.cell? ⟨w.heap.size, 1, none⟩ = some (.int .u64 (n : Int)))
      (first | with_reducible exact HC.out _ PV2 | with_reducible exact HC.out _ PV1 | with_reducible exact XS | with_reducible exact HC.out _ (pu_al PV1 _) | with_reducible exact HC.out _ PA | with_reducible exact HC.out _ (pu_al PV2 _) | with_reducible refine sh_put (HC.out _ PV2) (Nat.ne_of_lt z1g) _ _ _)
      (first
        | (go_at_call 90; refine (TE.out _).mono ?_; rintro e' v1 ⟨rfl, b1⟩; first | (have PV1 : Pu w v1 [(49, w.heap.size, #[.int .u64 ((tm : Nat) : Int), .int .u64 ((n : Nat) : Int)])] [] := (by with_reducible exact PD.below b1)) | (have PV1 : Pu w v1 [(49, w.heap.size, #[.int .u64 ((tm : Nat) : Int), .int .u64 ((n : Nat) : Int)])] [] := (by with_reducible exact PA.below b1); have ya := YA.adv b1; have yag := hq0.out))
        | (go_at_call 89; refine (BE.out _).mono ?_; rintro e' v2 ⟨A1, a1, b1', B1, c1, d1, C1, x1, y1, rfl, na, nb', nc, b2⟩; (first | (have PV2 : Pu w v2 [(49, w.heap.size, #[.int .u64 ((tm : Nat) : Int), .int .u64 ((n : Nat) : Int)])] [] := (by with_reducible exact PV1.below b2); first | (have z1 := ya.adv b2; have z1g := yag) | skip) | (have PV2 : Pu w v2 [(49, w.heap.size, #[.int .u64 ((tm : Nat) : Int), .int .u64 ((n : Nat) : Int)])] [] := (by with_reducible exact (pu_al PV1 _).below b2); have z1 := (KC.made 99 v1 z9).adv b2; have z1g := PV1.ks.1.2)); first | (have z1c0 := z1.at_ 0 _ rfl; have z1c1 := z1.at_ 1 _ rfl; have z1c2 := z1.at_ 2 _ rfl; have z1f0 := z1.fr 0; have z1f1 := z1.fr 1; have z1f2 := z1.fr 2; have z1l := z1.2; have z1n := Nat.ne_of_lt z1.2; have z1n2 := Nat.ne_of_gt z1.2) | skip))
    all_goals (
      go_wp2_with fail
      go_meet
      have s1 : S3 v2 A1 a1 b1' B1 c1 d1 C1 x1 y1 r := ⟨na, nb', nc⟩
      have z0 := PV2.ks.1.2
      first
        | with_reducible exact end_up PV2 s1 z1 z1g
        | with_reducible exact end_ua PV2 s1 z0)
  case rest =>
    obtain ⟨g7, rfl, ⟨A1, a1, b1, B1, c1, d1, C1, x1, y1, kA, na1, nb1, nc1⟩, P7, hg7⟩ := hcut
    have S : Pu w wc [(99, g7, #[.slice A1 a1 b1, .slice B1 c1 d1, .slice C1 x1 y1]), (49, w.heap.size, #[.int .u64 ((tm : Nat) : Int), .int .u64 ((n : Nat) : Int)])] [(.slice A1 a1 b1, r.sum), (.slice B1 c1 d1, r.odds), (.slice C1 x1 y1, r.below)] := ⟨P7.bel, ⟨kA, P7.ks⟩, na1, nb1, nc1, trivial⟩
    clear P7 kA na1 nb1 nc1 P HC hq0 TE BE
    have k0 := S.ks.2.1.at_ 0 _ rfl
    have k1 := S.ks.2.1.at_ 1 _ rfl
    have hl := S.ks.2.1.2
    have ht' : tm < B64 := by unfold B64; omega
    have hn' : n < B64 := by unfold B64; omega
    have MA : Hid (∀ (w' : World) (X Y : Nat), X = w'.heap.size → Y = w'.heap.size + 1 → Calls Tryz.prog 91 #[.slice (some ⟨X, 0, none⟩) 1 1, .slice (some ⟨Y, 0, none⟩) 1 1] ((w'.alloc (.cells #[.int .u64 (tm : Int)] 47)).alloc (.cells #[.int .u64 (n : Int)] 47)) (NP ((w'.alloc (.cells #[.int .u64 (tm : Int)] 47)).alloc (.cells #[.int .u64 (n : Int)] 47)) (tm * n))) := Lib.hid (fun w' X Y hX hY => by
      have e1 := one_slz 47 w' tm X (tm : Int) ht' rfl hX
      have e2 := one_slz 47 (w'.alloc (.cells #[.int .u64 (tm : Int)] 47)) n Y (n : Int) hn' rfl (by rw [hY]; simp)
      have f1 : Num (w'.alloc (.cells #[.int .u64 (tm : Int)] 47)) (.slice (some ⟨X, 0, none⟩) 1 1) tm := ⟨_, _, _, _, rfl, e1, .inr (show tm ≠ 0 by omega), vs_one _ _⟩
      have f2 : Num ((w'.alloc (.cells #[.int .u64 (tm : Int)] 47)).alloc (.cells #[.int .u64 (n : Int)] 47)) (.slice (some ⟨Y, 0, none⟩) 1 1) n := ⟨_, _, _, _, rfl, e2, .inr (show n ≠ 0 by omega), vs_one _ _⟩
      have q1 : nb tm ≤ 8 := (nb_le_iff _ _).2 ht
      have q2 : nb n ≤ 14 := (nb_le_iff _ _).2 hn2
      exact mulN _ (num_al f1 _) f2 (by omega) (by omega))
    go_wp2_with fail
    refine (MA.out wc _ _ rfl (by first | rfl | simp)).mono ?_
    have Sa := (S.below (alloc_bel wc (.cells #[.int .u64 (tm : Int)] 47))).below (alloc_bel _ (.cells #[.int .u64 (n : Int)] 47))
    generalize (wc.alloc (.cells #[.int .u64 (tm : Int)] 47)).alloc (.cells #[.int .u64 (n : Int)] 47) = w3 at *
    rintro e' w4 ⟨A4, p4, c4, rfl, N4, b4⟩
    have Sb := (Sa.below b4).num N4
    clear S Sa N4 b4 k0 k1 hl MA ht' hn'
    have HC3 : Hid (∀ w' ns, Pu w w' [(99, g7, #[.slice A1 a1 b1, .slice B1 c1 d1, .slice C1 x1 y1]), (49, w.heap.size, #[.int .u64 ((tm : Nat) : Int), .int .u64 ((n : Nat) : Int)])] ns → w'.cell? ⟨g7, 0, none⟩ = some (.slice A1 a1 b1) ∧ w'.cell? ⟨g7, 2, none⟩ = some (.slice C1 x1 y1)) := Lib.hid (fun w' ns h => ⟨h.ks.1.at_ 0 _ rfl, h.ks.1.at_ 2 _ rfl⟩)
    have M1 : Hid (∀ w', Num w' (.slice A1 a1 b1) r.sum → Num w' (.slice A4 p4 c4) (tm * n) → Calls Tryz.prog 91 #[.slice A1 a1 b1, .slice A4 p4 c4] w' (NP w' (r.sum * (tm * n)))) := Lib.hid (fun w' h h' => mulN w' h h' hsN.out.1 hsN.out.2.1)
    have M2 : Hid (∀ w' A p c, Num w' (.slice A p c) (r.sum * (tm * n)) → Calls Tryz.prog 72 #[.slice A p c, .int .i64 ((bits : Nat) : Int)] w' (NP w' (r.sum * (tm * n) * 2 ^ bits))) := Lib.hid (fun w' A p c h => shlN w' h hsN.out.2.2.1 hsN.out.2.2.2.2.2)
    have M3 : Hid (∀ w' A p c, Num w' (.slice A p c) (r.sum * (tm * n) * 2 ^ bits) → Num w' (.slice C1 x1 y1) r.below → Calls Tryz.prog 71 #[.slice A p c, .slice C1 x1 y1] w' (NP2 w' (r.sum * (tm * n) * 2 ^ bits / r.below) (r.sum * (tm * n) * 2 ^ bits % r.below))) := Lib.hid (fun w' A p c h h' => divN w' h h' hsN.out.2.2.2.1 hsN.out.2.2.2.2.1 BP0)
    clear hsN BP0 hn1 hn2 ht0 ht hb
    go_upto_region 3 with fail
    have PC := Sb.drew
    clear Sb
    have XS := HC3.out _ _ PC
    go_region_held3 (fun w' => w'.cell? ⟨g7, 0, none⟩ = some (.slice A1 a1 b1) ∧ w'.cell? ⟨g7, 2, none⟩ = some (.slice C1 x1 y1))
      (first | with_reducible exact HC3.out v3 _ P3 | with_reducible exact HC3.out v2 _ P2 | with_reducible exact HC3.out v1 _ P1 | with_reducible exact XS)
      (first
        | (go_at_call 91; refine (M1.out _ PC.ns.2.1 PC.ns.1).mono ?_; rintro e' v1 ⟨X1, i1, j1, rfl, m1, b1'⟩; have P1 := (PC.below b1').num m1)
        | (go_at_call 72; refine (M2.out _ _ _ _ P1.ns.1).mono ?_; rintro e' v2 ⟨X2, i2, j2, rfl, m2, b2'⟩; have P2 := (P1.below b2').num m2)
        | (go_at_call 71; refine (M3.out _ _ _ _ P2.ns.1 P2.ns.2.2.2.2.2.1).mono ?_; rintro e' v3 ⟨X3, i3, j3, Y3, k3, l3, rfl, m3, m3', b3'⟩; have P3 := (P2.below b3').num m3))
    go_wp2_with fail
    rw [HT.out]
    go_ret
    exact ⟨_, _, _, rfl, P3.ns.1, P3.bel⟩
end Go.Proofs.YtodjldhppbbhdaaGreatDoor
