/-
  Stretches of the series (series' between).
  Stretches of the series (series' between), all of them.
-/
import Derived.Test.YtodjldhppbbhdaaGreatDoorPlSerGDy8
import Derived.Test.YtodjldhppbbhdaaGreatDoorPlSerGSp9
import Derived.Test.YtodjldhppbbhdaaGreatDoorPlSerGSe1
namespace Go.Proofs.YtodjldhppbbhdaaGreatDoor
open Go.RowKit

abbrev z9 : Array Value := #[.slice none 0 0, .slice none 0 0, .slice none 0 0]
/-- A stretch as it is answered. -/
def StrP (w : World) (r : StrN) (e : Ending) (w' : World) : Prop := ∃ A a b B c d C x y, e = .returned (.agg #[.slice A a b, .slice B c d, .slice C x y]) ∧ Num w' (.slice A a b) r.sum ∧ Num w' (.slice B c d) r.odds ∧ Num w' (.slice C x y) r.below ∧ Below w.heap.size w w'
theorem one_slz (t : TypeId) (w : World) (r g : Nat) (z : Int) (hr : r < B64) (hz : z = (r : Int)) (hg : g = w.heap.size) : Sl (w.alloc (.cells #[.int .u64 z] t)) (some ⟨g, 0, none⟩) 1 1 (fun _ => r) := by
  subst hz hg
  exact one_sl t w r hr
/-- A number's words aren't in a block of other cells. -/
theorem num_put3x {w : World} {v : Value} {V g : Nat} {T : TypeId} {x y z : Value} (h : Num w v V) (k : KC T w g #[x, y, z]) (hx : NotU x) (hy : NotU y) (hz : NotU z) (a b c : Value) : Num (put3 w g a b c) v V := by
  obtain ⟨A', n', cp, f, hv, hs, hc, he⟩ := h
  refine ⟨A', n', cp, f, hv, hs.only (only_put3 w g a b c) ?_, hc, he⟩
  intro hn ad e he'
  obtain ⟨ad', e', _, _, hc⟩ := hs.at_ (k := 0) hn
  rw [e] at e'
  injection e' with e'
  subst e'
  have hb := k.1
  rw [show ad.add 0 = ad from by unfold Addr.add; split <;> simp_all] at hc
  simp only [World.cell?, he', hb] at hc
  split at hc
  · cases hc
  · rcases h3 : ad.off with _ | _ | _ | k
    · rw [h3] at hc; simp at hc; exact hx _ hc
    · rw [h3] at hc; simp at hc; exact hy _ hc
    · rw [h3] at hc; simp at hc; exact hz _ hc
    · rw [h3] at hc; simp at hc
set_option maxRecDepth 8000 in
set_option maxHeartbeats 4000000 in
theorem between_leaf (circ : Bool) (tm n first : Nat) (hn1 : 2 ≤ n) (hn2 : n < 2 ^ 14) (hf : first < 2 ^ 16) (w : World) :
    Calls Tryz.prog 89 #[shv tm n, .bool circ, .int .i64 (first : Int), .int .i64 ((first : Int) + 1)] w (StrP w (leafN n first)) := by
  have P : Pu w ((w.alloc (cs2 tm n)).alloc (.cells z9 99)) [(99, w.heap.size + 1, z9), (49, w.heap.size, #[.int .u64 ((tm : Nat) : Int), .int .u64 ((n : Nat) : Int)])] [] := by
    have h := (Pu.alloc (⟨Below.refl _ w, trivial, trivial⟩ : Pu w w [] []) 49 #[.int .u64 ((tm : Nat) : Int), .int .u64 ((n : Nat) : Int)]).alloc 99 z9
    rw [show (w.alloc (.cells #[.int .u64 ((tm : Nat) : Int), .int .u64 ((n : Nat) : Int)] 49)).heap.size = w.heap.size + 1 by simp] at h
    exact h
  have hw2 : IntKind.i64.wrap ((first : Int) + 1 - (first : Int)) = 1 := by rw [wrap_id (by omega) (by omega)]; omega
  have hnn : n * n < 2 ^ 28 := Nat.lt_of_lt_of_le (Nat.mul_lt_mul_of_lt_of_le (Nat.lt_of_lt_of_le hn2 (Nat.le_refl _)) (Nat.le_of_lt hn2) (by omega)) (by decide)
  have em : IntKind.u64.wrap ((n : Int) * (n : Int)) = ((n * n : Nat) : Int) := by rw [← Int.natCast_mul]; exact u64_nat _ (by omega)
  have eo : IntKind.u64.wrap (2 * (first : Int)) = 2 * (first : Int) := by rw [show (2 * (first : Int)) = ((2 * first : Nat) : Int) by omega]; exact u64_nat _ (by omega)
  have eo2 : IntKind.u64.wrap (2 * (first : Int) + 1) = ((2 * first + 1 : Nat) : Int) := by rw [show (2 * (first : Int) + 1) = ((2 * first + 1 : Nat) : Int) by omega]; exact u64_nat _ (by omega)
  have ef : IntKind.u64.wrap (first : Int) = (first : Int) := u64_nat _ (by omega)
  have k0 := P.ks.2.1.at_ 0 _ rfl
  have k1 := P.ks.2.1.at_ 1 _ rfl
  go_enter Tryz.func89, Tryz.ntmps89
  go_wp2_with fail
  have hzW : ((w.alloc (cs2 tm n)).alloc (.cells z9 99)).heap.size = w.heap.size + 1 + 1 := by simp
  have SO := one_slz 47 ((w.alloc (cs2 tm n)).alloc (.cells z9 99)) (2 * first + 1) (w.heap.size + 1 + 1) (2 * (first : Int) + 1) (by unfold B64; omega) (by omega) hzW.symm
  have NO : Num (((w.alloc (cs2 tm n)).alloc (.cells z9 99)).alloc (.cells #[.int .u64 (2 * (first : Int) + 1)] 47)) (.slice (some ⟨w.heap.size + 1 + 1, 0, none⟩) 1 1) (2 * first + 1) := ⟨_, _, _, _, rfl, SO, .inr (show 2 * first + 1 ≠ 0 by omega), vs_one _ _⟩
  have P1 := P.below (alloc_bel _ (.cells #[.int .u64 (2 * (first : Int) + 1)] 47))
  have hz1 : (((w.alloc (cs2 tm n)).alloc (.cells z9 99)).alloc (.cells #[.int .u64 (2 * (first : Int) + 1)] 47)).heap.size = w.heap.size + 1 + 1 + 1 := by simp
  generalize ((w.alloc (cs2 tm n)).alloc (.cells z9 99)).alloc (.cells #[.int .u64 (2 * (first : Int) + 1)] 47) = w1 at *
  have S1 := one_slz 47 w1 1 (w.heap.size + 1 + 1 + 1) 1 (by unfold B64; omega) (by omega) hz1.symm
  have N1 : Num (w1.alloc (.cells #[.int .u64 1] 47)) (.slice (some ⟨w.heap.size + 1 + 1 + 1, 0, none⟩) 1 1) 1 := ⟨_, _, _, _, rfl, S1, .inr (show 1 ≠ 0 by omega), vs_one _ _⟩
  have P2 := P1.below (alloc_bel _ (.cells #[.int .u64 1] 47))
  have NO2 := NO.below (alloc_bel w1 (.cells #[.int .u64 1] 47))
  have hz2 : (w1.alloc (.cells #[.int .u64 1] 47)).heap.size = w.heap.size + 1 + 1 + 1 + 1 := by simp [hz1]
  generalize w1.alloc (.cells #[.int .u64 1] 47) = w2 at *
  have hnz : n * n ≠ 0 := by have := Nat.mul_le_mul hn1 hn1; omega
  have S3 := one_slz 47 w2 (n * n) (w.heap.size + 1 + 1 + 1 + 1) ((n : Int) * (n : Int)) (by unfold B64; omega) (by rw [Int.natCast_mul]) hz2.symm
  have N3 : Num (w2.alloc (.cells #[.int .u64 ((n : Int) * (n : Int))] 47)) (.slice (some ⟨w.heap.size + 1 + 1 + 1 + 1, 0, none⟩) 1 1) (n * n) := ⟨_, _, _, _, rfl, S3, .inr hnz, vs_one _ _⟩
  have P3 := P2.below (alloc_bel _ (.cells #[.int .u64 ((n : Int) * (n : Int))] 47))
  have NO3 := NO2.below (alloc_bel w2 (.cells #[.int .u64 ((n : Int) * (n : Int))] 47))
  have N13 := N1.below (alloc_bel w2 (.cells #[.int .u64 ((n : Int) * (n : Int))] 47))
  generalize w2.alloc (.cells #[.int .u64 ((n : Int) * (n : Int))] 47) = w3 at *
  have hb1 : nb (2 * first + 1) ≤ 17 := (nb_le_iff _ _).2 (by omega)
  have hb2 : nb (n * n) ≤ 28 := (nb_le_iff _ _).2 hnn
  refine (mulN w3 NO3 N3 (by omega) (by omega)).mono ?_
  rintro e' w4 ⟨A4, p4, c4, rfl, N4, b4⟩
  have P4 := P3.below b4
  have NO4 := NO3.below b4
  have N14 := N13.below b4
  clear k0 k1 P P1 P2 P3 SO S1 S3 NO NO2 NO3 N1 N13 N3 hzW hz1 hz2 b4 w1 w2
  have kR := P4.ks.1
  have s0 := kR.at_ 0 _ rfl
  have s1 := kR.at_ 1 _ rfl
  have s2 := kR.at_ 2 _ rfl
  have rf0 := kR.fr 0
  have rf1 := kR.fr 1
  have rf2 := kR.fr 2
  go_wp2_with fail
  have m1 := num_put3x N14 kR (notU_slice _ _ _) (notU_slice _ _ _) (notU_slice _ _ _) (.slice (some ⟨w.heap.size + 1 + 1 + 1, 0, none⟩) 1 1) (.slice (some ⟨w.heap.size + 1 + 1, 0, none⟩) 1 1) (.slice A4 p4 c4)
  have m2 := num_put3x NO4 kR (notU_slice _ _ _) (notU_slice _ _ _) (notU_slice _ _ _) (.slice (some ⟨w.heap.size + 1 + 1 + 1, 0, none⟩) 1 1) (.slice (some ⟨w.heap.size + 1 + 1, 0, none⟩) 1 1) (.slice A4 p4 c4)
  have m3 := num_put3x N4 kR (notU_slice _ _ _) (notU_slice _ _ _) (notU_slice _ _ _) (.slice (some ⟨w.heap.size + 1 + 1 + 1, 0, none⟩) 1 1) (.slice (some ⟨w.heap.size + 1 + 1, 0, none⟩) 1 1) (.slice A4 p4 c4)
  have bF := below_only P4.bel (only_put3 w4 (w.heap.size + 1) (.slice (some ⟨w.heap.size + 1 + 1 + 1, 0, none⟩) 1 1) (.slice (some ⟨w.heap.size + 1 + 1, 0, none⟩) 1 1) (.slice A4 p4 c4)) (by omega)
  exact bodyPost_ret (v := .agg #[.slice (some ⟨w.heap.size + 1 + 1 + 1, 0, none⟩) 1 1, .slice (some ⟨w.heap.size + 1 + 1, 0, none⟩) 1 1, .slice A4 p4 c4]) (by simp [results, Tryz.results89, go_sem, s0, s1, s2]) rfl ⟨_, _, _, _, _, _, _, _, _, rfl, m1, m2, m3, bF⟩
theorem sh_below {X v : World} {g : Nat} {a b : Value} (h : X.cell? ⟨g, 0, none⟩ = some a ∧ X.cell? ⟨g, 1, none⟩ = some b) (B : Below X.heap.size X v) : v.cell? ⟨g, 0, none⟩ = some a ∧ v.cell? ⟨g, 1, none⟩ = some b :=
  ⟨(B.cell (p := ⟨g, 0, none⟩) (World.block_lt_of_cell? X _ h.1)).trans h.1, (B.cell (p := ⟨g, 1, none⟩) (World.block_lt_of_cell? X _ h.2)).trans h.2⟩
theorem sh_put {X : World} {g g' : Nat} {a b : Value} (h : X.cell? ⟨g, 0, none⟩ = some a ∧ X.cell? ⟨g, 1, none⟩ = some b) (hne : g ≠ g') (x y z : Value) : (put3 X g' x y z).cell? ⟨g, 0, none⟩ = some a ∧ (put3 X g' x y z).cell? ⟨g, 1, none⟩ = some b :=
  ⟨cell_put3 h.1 hne, cell_put3 h.2 hne⟩
end Go.Proofs.YtodjldhppbbhdaaGreatDoor

namespace Go.Proofs.YtodjldhppbbhdaaGreatDoor
open Go.RowKit

theorem kc_made2 (T : TypeId) (w : World) (o : Obj) (cs : Array Value) : KC T ((w.alloc o).alloc (.cells cs T)) (w.heap.size + 1) cs := by
  have h := KC.made T (w.alloc o) cs
  rw [show (w.alloc o).heap.size = w.heap.size + 1 by simp] at h
  exact h
/-- A stretch in a block of its own. -/
def StrK (w : World) (g : Nat) (r : StrN) : Prop := ∃ A a b B c d C x y, KC 99 w g #[.slice A a b, .slice B c d, .slice C x y] ∧ Num w (.slice A a b) r.sum ∧ Num w (.slice B c d) r.odds ∧ Num w (.slice C x y) r.below
theorem kc_al {T : TypeId} {w : World} {g : Nat} {cs : Array Value} (h : KC T w g cs) (o : Obj) : KC T (w.alloc o) g cs := h.adv (alloc_bel w o)
theorem kc_pt {T : TypeId} {w : World} {g g' : Nat} {cs : Array Value} (h : KC T w g cs) (hne : g ≠ g') (a b c : Value) : KC T (put3 w g' a b c) g cs := h.only (only_put3 w g' a b c) hne
theorem num_al {w : World} {v : Value} {V : Nat} (h : Num w v V) (o : Obj) : Num (w.alloc o) v V := h.below (alloc_bel w o)
theorem num_pz {w : World} {v : Value} {V g : Nat} {T : TypeId} (h : Num w v V) (k : KC T w g z9) (a b c : Value) : Num (put3 w g a b c) v V := num_put3x h k (notU_slice _ _ _) (notU_slice _ _ _) (notU_slice _ _ _) a b c
theorem pu_al {w wi : World} {ks : List (TypeId × Nat × Array Value)} {ns : List (Value × Nat)} (h : Pu w wi ks ns) (o : Obj) : Pu w (wi.alloc o) ks ns := h.below (alloc_bel wi o)
theorem pu_dr {w wi : World} {ks : List (TypeId × Nat × Array Value)} {ns : List (Value × Nat)} (h : Pu w wi ks ns) : Pu w wi.drew ks ns := h.drew
theorem kl_put {w w' : World} {a : Nat} (o : Only w w' a) : ∀ {ks : List (TypeId × Nat × Array Value)}, KL w ks → NeS a ks → KL w' ks
  | [], _, _ => trivial
  | (_, _, _) :: _, h, hne => ⟨h.1.only o hne.1, kl_put o h.2 hne.2⟩
theorem pu_pz {w wi : World} {ks : List (TypeId × Nat × Array Value)} {g : Nat} (h : Pu w wi ks []) (hg : w.heap.size ≤ g) (hne : NeS g ks) (a b c : Value) : Pu w (put3 wi g a b c) ks [] := ⟨below_only h.bel (only_put3 wi g a b c) hg, kl_put (only_put3 wi g a b c) h.ks hne, trivial⟩
theorem sh_alloc {X : World} {g : Nat} {a b : Value} (h : X.cell? ⟨g, 0, none⟩ = some a ∧ X.cell? ⟨g, 1, none⟩ = some b) (o : Obj) : (X.alloc o).cell? ⟨g, 0, none⟩ = some a ∧ (X.alloc o).cell? ⟨g, 1, none⟩ = some b := sh_below h (alloc_bel X o)
theorem sh_drew {X : World} {g : Nat} {a b : Value} (h : X.cell? ⟨g, 0, none⟩ = some a ∧ X.cell? ⟨g, 1, none⟩ = some b) : X.drew.cell? ⟨g, 0, none⟩ = some a ∧ X.drew.cell? ⟨g, 1, none⟩ = some b := h
/-- Behind region 5: both stretches in blocks of their own. -/
def BP (w : World) (tm n : Nat) (ra rb : StrN) (s11 s12 : Value) (wx : World) : Prop := ∃ g1 g2, s11 = .pointer (some ⟨g1, 0, none⟩) ∧ s12 = .pointer (some ⟨g2, 0, none⟩) ∧ StrK wx g1 ra ∧ StrK wx g2 rb ∧ Pu w wx [(99, w.heap.size + 1, z9), (49, w.heap.size, #[.int .u64 ((tm : Nat) : Int), .int .u64 ((n : Nat) : Int)])] [] ∧ g1 ≠ g2 ∧ w.heap.size + 1 < g1 ∧ w.heap.size + 1 < g2
/-- The three numbers of a stretch. -/
structure S3 (w : World) (A : Option Addr) (a b : Nat) (B : Option Addr) (c d : Nat) (C : Option Addr) (x y : Nat) (r : StrN) : Prop where
  n1 : Num w (.slice A a b) r.sum
  n2 : Num w (.slice B c d) r.odds
  n3 : Num w (.slice C x y) r.below
section
variable {w v : World} {tm n g1 g2 : Nat} {ra rb : StrN} {A1 B1 C1 : Option Addr} {a1 b1 c1 d1 x1 y1 : Nat} {A2 B2 C2 : Option Addr} {a2 b2 c2 d2 x2 y2 : Nat}
theorem s3_pz (h : S3 v A1 a1 b1 B1 c1 d1 C1 x1 y1 ra) {g : Nat} (k : KC 99 v g z9) (a b c : Value) : S3 (put3 v g a b c) A1 a1 b1 B1 c1 d1 C1 x1 y1 ra := ⟨num_pz h.n1 k a b c, num_pz h.n2 k a b c, num_pz h.n3 k a b c⟩
theorem s3_al (h : S3 v A1 a1 b1 B1 c1 d1 C1 x1 y1 ra) (o : Obj) : S3 (v.alloc o) A1 a1 b1 B1 c1 d1 C1 x1 y1 ra := ⟨num_al h.n1 o, num_al h.n2 o, num_al h.n3 o⟩
theorem s3_k (h : S3 v A1 a1 b1 B1 c1 d1 C1 x1 y1 ra) {g : Nat} (k : KC 99 v g #[.slice A1 a1 b1, .slice B1 c1 d1, .slice C1 x1 y1]) : StrK v g ra := ⟨A1, a1, b1, B1, c1, d1, C1, x1, y1, k, h.n1, h.n2, h.n3⟩
variable (P : Pu w v [(99, w.heap.size + 1, z9), (49, w.heap.size, #[.int .u64 ((tm : Nat) : Int), .int .u64 ((n : Nat) : Int)])] []) (s1 : S3 v A1 a1 b1 B1 c1 d1 C1 x1 y1 ra) (s2 : S3 v A2 a2 b2 B2 c2 d2 C2 x2 y2 rb)
include P s1 s2
theorem end_pp (z1 : KC 99 v g1 z9) (z2 : KC 99 v g2 z9) (hne : g1 ≠ g2) (h1 : w.heap.size + 1 < g1) (h2 : w.heap.size + 1 < g2) :
    BP w tm n ra rb (.pointer (some ⟨g1, 0, none⟩)) (.pointer (some ⟨g2, 0, none⟩)) (put3 (put3 v g1 (.slice A1 a1 b1) (.slice B1 c1 d1) (.slice C1 x1 y1)) g2 (.slice A2 a2 b2) (.slice B2 c2 d2) (.slice C2 x2 y2)) := by
  have q2 := kc_pt z2 (Ne.symm hne) (.slice A1 a1 b1) (.slice B1 c1 d1) (.slice C1 x1 y1)
  exact ⟨g1, g2, rfl, rfl, s3_k (s3_pz (s3_pz s1 z1 _ _ _) q2 _ _ _) (kc_pt (KC.put3 z1 _ _ _) hne _ _ _), s3_k (s3_pz (s3_pz s2 z1 _ _ _) q2 _ _ _) (KC.put3 q2 _ _ _),
    pu_pz (pu_pz P (by omega) ⟨by omega, by omega, trivial⟩ _ _ _) (by omega) ⟨by omega, by omega, trivial⟩ _ _ _, hne, h1, h2⟩
theorem end_pa (z1 : KC 99 v g1 z9) (h1 : w.heap.size + 1 < g1) (h2 : w.heap.size + 1 < g2) (he : g2 = v.heap.size) :
    BP w tm n ra rb (.pointer (some ⟨g1, 0, none⟩)) (.pointer (some ⟨g2, 0, none⟩)) ((put3 v g1 (.slice A1 a1 b1) (.slice B1 c1 d1) (.slice C1 x1 y1)).alloc (.cells #[.slice A2 a2 b2, .slice B2 c2 d2, .slice C2 x2 y2] 99)) := by
  have hl := z1.2
  have hne : g1 ≠ g2 := by omega
  have k2 : KC 99 ((put3 v g1 (.slice A1 a1 b1) (.slice B1 c1 d1) (.slice C1 x1 y1)).alloc (.cells #[.slice A2 a2 b2, .slice B2 c2 d2, .slice C2 x2 y2] 99)) g2 #[.slice A2 a2 b2, .slice B2 c2 d2, .slice C2 x2 y2] := by
    have h := KC.made 99 (put3 v g1 (.slice A1 a1 b1) (.slice B1 c1 d1) (.slice C1 x1 y1)) #[.slice A2 a2 b2, .slice B2 c2 d2, .slice C2 x2 y2]
    rw [show (put3 v g1 (.slice A1 a1 b1) (.slice B1 c1 d1) (.slice C1 x1 y1)).heap.size = g2 by rw [he]; simp [World.setCell]] at h
    exact h
  exact ⟨g1, g2, rfl, rfl, s3_k (s3_al (s3_pz s1 z1 _ _ _) _) (kc_al (KC.put3 z1 _ _ _) _), s3_k (s3_al (s3_pz s2 z1 _ _ _) _) k2,
    pu_al (pu_pz P (by omega) ⟨by omega, by omega, trivial⟩ _ _ _) _, hne, h1, h2⟩
theorem end_ap (z2 : KC 99 v g2 z9) (h1 : w.heap.size + 1 < g1) (h2 : w.heap.size + 1 < g2) (he : g1 = v.heap.size) :
    BP w tm n ra rb (.pointer (some ⟨g1, 0, none⟩)) (.pointer (some ⟨g2, 0, none⟩)) ((put3 v g2 (.slice A2 a2 b2) (.slice B2 c2 d2) (.slice C2 x2 y2)).alloc (.cells #[.slice A1 a1 b1, .slice B1 c1 d1, .slice C1 x1 y1] 99)) := by
  have hl := z2.2
  have hne : g1 ≠ g2 := by omega
  have k1 : KC 99 ((put3 v g2 (.slice A2 a2 b2) (.slice B2 c2 d2) (.slice C2 x2 y2)).alloc (.cells #[.slice A1 a1 b1, .slice B1 c1 d1, .slice C1 x1 y1] 99)) g1 #[.slice A1 a1 b1, .slice B1 c1 d1, .slice C1 x1 y1] := by
    have h := KC.made 99 (put3 v g2 (.slice A2 a2 b2) (.slice B2 c2 d2) (.slice C2 x2 y2)) #[.slice A1 a1 b1, .slice B1 c1 d1, .slice C1 x1 y1]
    rw [show (put3 v g2 (.slice A2 a2 b2) (.slice B2 c2 d2) (.slice C2 x2 y2)).heap.size = g1 by rw [he]; simp [World.setCell]] at h
    exact h
  exact ⟨g1, g2, rfl, rfl, s3_k (s3_al (s3_pz s1 z2 _ _ _) _) k1, s3_k (s3_al (s3_pz s2 z2 _ _ _) _) (kc_al (KC.put3 z2 _ _ _) _),
    pu_al (pu_pz P (by omega) ⟨by omega, by omega, trivial⟩ _ _ _) _, hne, h1, h2⟩
theorem end_aa (h0 : w.heap.size + 1 < v.heap.size) (he1 : g1 = v.heap.size) (he2 : g2 = v.heap.size + 1) :
    BP w tm n ra rb (.pointer (some ⟨g1, 0, none⟩)) (.pointer (some ⟨g2, 0, none⟩)) ((v.alloc (.cells #[.slice A1 a1 b1, .slice B1 c1 d1, .slice C1 x1 y1] 99)).alloc (.cells #[.slice A2 a2 b2, .slice B2 c2 d2, .slice C2 x2 y2] 99)) := by
  subst he1 he2
  exact ⟨_, _, rfl, rfl, s3_k (s3_al (s3_al s1 _) _) (kc_al (KC.made 99 v #[.slice A1 a1 b1, .slice B1 c1 d1, .slice C1 x1 y1]) _), s3_k (s3_al (s3_al s2 _) _) (kc_made2 99 v _ _),
    pu_al (pu_al P _) _, by omega, by omega, by omega⟩
theorem end_aa' (h0 : w.heap.size + 1 < v.heap.size) (he2 : g2 = v.heap.size) (he1 : g1 = v.heap.size + 1) :
    BP w tm n ra rb (.pointer (some ⟨g1, 0, none⟩)) (.pointer (some ⟨g2, 0, none⟩)) ((v.alloc (.cells #[.slice A2 a2 b2, .slice B2 c2 d2, .slice C2 x2 y2] 99)).alloc (.cells #[.slice A1 a1 b1, .slice B1 c1 d1, .slice C1 x1 y1] 99)) := by
  subst he1 he2
  exact ⟨_, _, rfl, rfl, s3_k (s3_al (s3_al s1 _) _) (kc_made2 99 v _ _), s3_k (s3_al (s3_al s2 _) _) (kc_al (KC.made 99 v #[.slice A2 a2 b2, .slice B2 c2 d2, .slice C2 x2 y2]) _),
    pu_al (pu_al P _) _, by omega, by omega, by omega⟩
end
/-- What is taken away, cut off at 0. -/
def NPT (w : World) (V : Nat) (e : Ending) (w' : World) : Prop := ∃ A p c b, e = .returned (.tuple #[.slice A p c, .bool b]) ∧ Num w' (.slice A p c) V ∧ Below w.heap.size w w'
theorem subT {v u : Value} {V U : Nat} (w : World) (h : Num w v V) (h' : Num w u U) (hV : nb V ≤ 6000000) (hU : nb U ≤ 6000000) : Calls Tryz.prog 50 #[v, u] w (NPT w (V - U)) := by
  rcases Nat.lt_or_ge V U with hlt | hge
  · refine (subNo w h h' hV hU hlt).mono ?_
    rintro e w' ⟨rfl, b⟩
    rw [show V - U = 0 by omega]
    exact ⟨_, _, _, _, rfl, num_nil _, b⟩
  · refine (subN w h h' hV hU hge).mono ?_
    rintro e w' ⟨A, p, c, rfl, n, b⟩
    exact ⟨_, _, _, _, rfl, n, b⟩
set_option maxRecDepth 8000 in
set_option maxHeartbeats 4000000 in
theorem between_any (circ : Bool) (tm n : Nat) (hn1 : 2 ≤ n) (hn2 : n < 2 ^ 14) : ∀ (fuel first len : Nat) (F E : Int) (w : World), 1 ≤ len → len ≤ fuel + 1 → first + len ≤ 2 ^ 16 → F = (first : Int) → E = (first : Int) + (len : Int) →
    Calls Tryz.prog 89 #[shv tm n, .bool circ, .int .i64 F, .int .i64 E] w (StrP w (betN circ n fuel first len))
  | 0, first, len, F, E, w, h1, h2, h3, hF, hE => by
    obtain rfl : len = 1 := by omega
    subst hF hE
    exact between_leaf circ tm n first hn1 hn2 (by omega) w
  | fuel + 1, first, len, F, E, w, h1, h2, h3, hF, hE => by
    by_cases hl : len ≤ 1
    · obtain rfl : len = 1 := by omega
      subst hF hE
      unfold betN
      rw [if_pos hl]
      exact between_leaf circ tm n first hn1 hn2 (by omega) w
    · obtain ⟨H, hH⟩ : ∃ H : Nat, H = len / 2 := ⟨_, rfl⟩
      have HT : Hid (betN circ n (fuel + 1) first len = joinN (minusB circ H) (betN circ n fuel first H) (betN circ n fuel (first + H) (len - H))) := Lib.hid (by rw [hH, betN, if_neg hl])
      have IA : Hid (∀ w' (F' E' : Int), F' = (first : Int) → E' = (first : Int) + (H : Int) → Calls Tryz.prog 89 #[shv tm n, .bool circ, .int .i64 F', .int .i64 E'] w' (StrP w' (betN circ n fuel first H))) := Lib.hid (fun w' F' E' e1 e2 => between_any circ tm n hn1 hn2 fuel first H F' E' w' (by omega) (by omega) (by omega) e1 e2)
      have IB : Hid (∀ w' (F' E' : Int), F' = (first : Int) + (H : Int) → E' = (first : Int) + (len : Int) → Calls Tryz.prog 89 #[shv tm n, .bool circ, .int .i64 F', .int .i64 E'] w' (StrP w' (betN circ n fuel (first + H) (len - H)))) := Lib.hid (fun w' F' E' e1 e2 => between_any circ tm n hn1 hn2 fuel (first + H) (len - H) F' E' w' (by omega) (by omega) (by omega) (by omega) (by omega))
      have BA := betN_b (circ := circ) hn2 fuel first H (by omega) (by omega) (by omega)
      have BB := betN_b (circ := circ) hn2 fuel (first + H) (len - H) (by omega) (by omega) (by omega)
      subst hF hE
      have P : Pu w ((w.alloc (cs2 tm n)).alloc (.cells z9 99)) [(99, w.heap.size + 1, z9), (49, w.heap.size, #[.int .u64 ((tm : Nat) : Int), .int .u64 ((n : Nat) : Int)])] [] := by
        have h := (Pu.alloc (⟨Below.refl _ w, trivial, trivial⟩ : Pu w w [] []) 49 #[.int .u64 ((tm : Nat) : Int), .int .u64 ((n : Nat) : Int)]).alloc 99 z9
        rw [show (w.alloc (.cells #[.int .u64 ((tm : Nat) : Int), .int .u64 ((n : Nat) : Int)] 49)).heap.size = w.heap.size + 1 by simp] at h
        exact h
      generalize betN circ n fuel first H = ra at *
      generalize betN circ n fuel (first + H) (len - H) = rb at *
      have hw : IntKind.i64.wrap ((first : Int) + (len : Int) - (first : Int)) = (len : Int) := by rw [wrap_id (by omega) (by omega)]; omega
      have hw0 : (first : Int) + (len : Int) - (first : Int) = (len : Int) := by omega
      have hne1 : ((len : Int) == 1) = false := by simp; omega
      have hne2 : ¬ (len : Int) = 1 := by omega
      have hq : Int.tdiv (len : Int) 2 = (H : Int) := by rw [hH]; exact (Int.ofNat_tdiv len 2).symm
      have hqd : (len : Int) / 2 = (H : Int) := by omega
      have hwq : IntKind.i64.wrap (H : Int) = (H : Int) := wrap_id (by omega) (by omega)
      have hwm : IntKind.i64.wrap ((first : Int) + (H : Int)) = (first : Int) + (H : Int) := wrap_id (by omega) (by omega)
      have HHH := Lib.hid hH
      clear hH
      have k0 := P.ks.2.1.at_ 0 _ rfl
      have k1 := P.ks.2.1.at_ 1 _ rfl
      go_enter Tryz.func89, Tryz.ntmps89
      go_upto_region 5 with fail
      generalize (w.alloc (cs2 tm n)).alloc (.cells z9 99) = w1 at *
      clear k0 k1
      have HC : Hid (∀ w' ns, Pu w w' [(99, w.heap.size + 1, z9), (49, w.heap.size, #[.int .u64 ((tm : Nat) : Int), .int .u64 ((n : Nat) : Int)])] ns → w'.cell? ⟨w.heap.size, 0, none⟩ = some (.int .u64 (tm : Int)) ∧ w'.cell? ⟨w.heap.size, 1, none⟩ = some (.int .u64 (n : Int))) := Lib.hid (fun w' ns h => ⟨h.ks.2.1.at_ 0 _ rfl, h.ks.2.1.at_ 1 _ rfl⟩)
      go_cut [11, 12] (fun s11 s12 wx => BP w tm n ra rb s11 s12 wx)
      case rest =>
        obtain ⟨g1, g2, rfl, rfl, ⟨A1, a1, b1, B1, c1, d1, C1, x1, y1, kA, na1, nb1, nc1⟩, ⟨A2, a2, b2, B2, c2, d2, C2, x2, y2, kB, na2, nb2, nc2⟩, P, hne, hg1, hg2⟩ := hcut
        obtain ⟨p1, p2, p3⟩ := BA
        obtain ⟨q1, q2, q3⟩ := BB
        have hH := HHH.out
        have HH1 : Hid (H ≤ 65536 ∧ len - H ≤ 65536 ∧ 1 ≤ H ∧ 1 ≤ len - H) := Lib.hid ⟨by omega, by omega, by omega, by omega⟩
        have M1 : Hid (∀ w', Num w' (.slice A1 a1 b1) ra.sum → Num w' (.slice C2 x2 y2) rb.below → Calls Tryz.prog 91 #[.slice A1 a1 b1, .slice C2 x2 y2] w' (NP w' (ra.sum * rb.below))) := Lib.hid (fun w' h h' => mulN w' h h' (by omega) (by omega))
        have M2 : Hid (∀ w', Num w' (.slice B1 c1 d1) ra.odds → Num w' (.slice A2 a2 b2) rb.sum → Calls Tryz.prog 91 #[.slice B1 c1 d1, .slice A2 a2 b2] w' (NP w' (ra.odds * rb.sum))) := Lib.hid (fun w' h h' => mulN w' h h' (by omega) (by omega))
        have M3 : Hid (∀ w', Num w' (.slice B1 c1 d1) ra.odds → Num w' (.slice B2 c2 d2) rb.odds → Calls Tryz.prog 91 #[.slice B1 c1 d1, .slice B2 c2 d2] w' (NP w' (ra.odds * rb.odds))) := Lib.hid (fun w' h h' => mulN w' h h' (by omega) (by omega))
        have M4 : Hid (∀ w', Num w' (.slice C1 x1 y1) ra.below → Num w' (.slice C2 x2 y2) rb.below → Calls Tryz.prog 91 #[.slice C1 x1 y1, .slice C2 x2 y2] w' (NP w' (ra.below * rb.below))) := Lib.hid (fun w' h h' => mulN w' h h' (by omega) (by omega))
        have S1 : Hid (nb (ra.sum * rb.below) ≤ 6000000 ∧ nb (ra.odds * rb.sum) ≤ 6000000) := Lib.hid (by
          have m1 := nb_mul ra.sum rb.below
          have m2 := nb_mul ra.odds rb.sum
          exact ⟨by omega, by omega⟩)
        have S : Pu w wc [(99, w.heap.size + 1, z9), (99, g1, #[.slice A1 a1 b1, .slice B1 c1 d1, .slice C1 x1 y1]), (99, g2, #[.slice A2 a2 b2, .slice B2 c2 d2, .slice C2 x2 y2])] [(.slice A1 a1 b1, ra.sum), (.slice B1 c1 d1, ra.odds), (.slice C1 x1 y1, ra.below), (.slice A2 a2 b2, rb.sum), (.slice B2 c2 d2, rb.odds), (.slice C2 x2 y2, rb.below)] := ⟨P.bel, ⟨P.ks.1, kA, kB, trivial⟩, na1, nb1, nc1, na2, nb2, nc2, trivial⟩
        have HC : Hid (∀ w' ns, Pu w w' [(99, w.heap.size + 1, z9), (99, g1, #[.slice A1 a1 b1, .slice B1 c1 d1, .slice C1 x1 y1]), (99, g2, #[.slice A2 a2 b2, .slice B2 c2 d2, .slice C2 x2 y2])] ns → w'.cell? ⟨g1, 0, none⟩ = some (.slice A1 a1 b1) ∧ w'.cell? ⟨g1, 1, none⟩ = some (.slice B1 c1 d1) ∧ w'.cell? ⟨g2, 0, none⟩ = some (.slice A2 a2 b2) ∧ w'.cell? ⟨g2, 2, none⟩ = some (.slice C2 x2 y2)) := Lib.hid (fun w' ns h => ⟨h.ks.2.1.at_ 0 _ rfl, h.ks.2.1.at_ 1 _ rfl, h.ks.2.2.1.at_ 0 _ rfl, h.ks.2.2.1.at_ 2 _ rfl⟩)
        have HC2 : Hid (∀ w' ns, Pu w w' [(99, w.heap.size + 1, z9), (99, g1, #[.slice A1 a1 b1, .slice B1 c1 d1, .slice C1 x1 y1]), (99, g2, #[.slice A2 a2 b2, .slice B2 c2 d2, .slice C2 x2 y2])] ns → w'.cell? ⟨g1, 1, none⟩ = some (.slice B1 c1 d1) ∧ w'.cell? ⟨g1, 2, none⟩ = some (.slice C1 x1 y1) ∧ w'.cell? ⟨g2, 1, none⟩ = some (.slice B2 c2 d2) ∧ w'.cell? ⟨g2, 2, none⟩ = some (.slice C2 x2 y2)) := Lib.hid (fun w' ns h => ⟨h.ks.2.1.at_ 1 _ rfl, h.ks.2.1.at_ 2 _ rfl, h.ks.2.2.1.at_ 1 _ rfl, h.ks.2.2.1.at_ 2 _ rfl⟩)
        have HC3 : Hid (∀ w' ns x y z, Pu w w' [(99, w.heap.size + 1, z9), (99, g1, #[.slice A1 a1 b1, .slice B1 c1 d1, .slice C1 x1 y1]), (99, g2, #[.slice A2 a2 b2, .slice B2 c2 d2, .slice C2 x2 y2])] ns → (put3 w' (w.heap.size + 1) x y z).cell? ⟨g1, 1, none⟩ = some (.slice B1 c1 d1) ∧ (put3 w' (w.heap.size + 1) x y z).cell? ⟨g1, 2, none⟩ = some (.slice C1 x1 y1) ∧ (put3 w' (w.heap.size + 1) x y z).cell? ⟨g2, 1, none⟩ = some (.slice B2 c2 d2) ∧ (put3 w' (w.heap.size + 1) x y z).cell? ⟨g2, 2, none⟩ = some (.slice C2 x2 y2)) := Lib.hid (fun w' ns x y z h => ⟨(kc_pt h.ks.2.1 (by omega) x y z).at_ 1 _ rfl, (kc_pt h.ks.2.1 (by omega) x y z).at_ 2 _ rfl, (kc_pt h.ks.2.2.1 (by omega) x y z).at_ 1 _ rfl, (kc_pt h.ks.2.2.1 (by omega) x y z).at_ 2 _ rfl⟩)
        clear P kA kB na1 nb1 nc1 na2 nb2 nc2 hne p1 p2 p3 q1 q2 q3 hH h1 h2 h3 hl hw hw0 hne1 hne2 hq hqd hwq hwm IA IB
        go_upto_region 6 with fail
        have PC := S.drew
        clear S
        have XS := HC.out _ _ PC
        go_region_held3 (fun w' => w'.cell? ⟨g1, 0, none⟩ = some (.slice A1 a1 b1) ∧ w'.cell? ⟨g1, 1, none⟩ = some (.slice B1 c1 d1) ∧ w'.cell? ⟨g2, 0, none⟩ = some (.slice A2 a2 b2) ∧ w'.cell? ⟨g2, 2, none⟩ = some (.slice C2 x2 y2))
          (first | with_reducible exact HC.out v2 _ P2 | with_reducible exact HC.out v1 _ P1 | with_reducible exact XS)
          (first
            | (go_at_call_of 91 (Value.slice A1 a1 b1); refine (M1.out _ PC.ns.1 PC.ns.2.2.2.2.2.1).mono ?_; rintro e' v1 ⟨X1, i1, j1, rfl, m1, b1'⟩; have P1 := (PC.below b1').num m1)
            | (go_at_call_of 91 (Value.slice B1 c1 d1); refine (M2.out _ P1.ns.2.2.1 P1.ns.2.2.2.2.1).mono ?_; rintro e' v2 ⟨X2, i2, j2, rfl, m2, b2'⟩; have P2 := (P1.below b2').num m2))
        clear XS P1 PC m1 b1' m2 b2' HC M1 M2
        obtain ⟨r, hr⟩ : ∃ r : Nat, r = H % 2 := ⟨_, rfl⟩
        have hs1 : IntKind.i64.wrap ((first : Int) + (H : Int) - (first : Int)) = (H : Int) := by rw [wrap_id (by have := HH1.out; omega) (by have := HH1.out; omega)]; omega
        have hs2 : (first : Int) + (H : Int) - (first : Int) = (H : Int) := by omega
        have hs3 : IntKind.i64.wrap (H : Int) = (H : Int) := wrap_id (by omega) (by have := HH1.out; omega)
        have ht1 : Int.tmod (H : Int) 2 = (r : Int) := by rw [hr]; exact (Int.ofNat_tmod H 2).symm
        have ht2 : (H : Int) % 2 = (r : Int) := by omega
        have hmb : Hid (minusB circ H = (circ && decide (r = 1))) := Lib.hid (by rw [hr]; rfl)
        have hr2 : r = 0 ∨ r = 1 := by omega
        clear hr
        replace HT : Hid (betN circ n (fuel + 1) first len = joinN (circ && decide (r = 1)) ra rb) := Lib.hid (by rw [← hmb.out]; exact HT.out)
        clear hmb
        have hcase : (circ = true ∧ r = 1) ∨ (circ && decide (r = 1)) = false ∧ (circ = false ∨ circ = true ∧ r = 0) := by
          rcases hr2 with rfl | rfl <;> cases circ <;> simp
        clear hr2
        rcases hcase with ⟨rfl, rfl⟩ | ⟨hmf, hcase⟩
        · have hsum := S1.out
          go_wp2_with fail
          refine (subT _ P2.ns.2.1 P2.ns.1 hsum.1 hsum.2).mono ?_
          rintro e' v3 ⟨X3, i3, j3, b3, rfl, m3, b3'⟩
          have P3 := (P2.below b3').num m3
          clear P2 m3 b3' hsum S1 hs1 hs2 hs3 ht1 ht2
          go_upto_region 10 with fail
          have PC3 := P3.drew
          clear P3
          have XS3 := HC2.out _ _ PC3
          go_region_held3 (fun w' => w'.cell? ⟨g1, 1, none⟩ = some (.slice B1 c1 d1) ∧ w'.cell? ⟨g1, 2, none⟩ = some (.slice C1 x1 y1) ∧ w'.cell? ⟨g2, 1, none⟩ = some (.slice B2 c2 d2) ∧ w'.cell? ⟨g2, 2, none⟩ = some (.slice C2 x2 y2))
            (first | with_reducible exact HC3.out v5 _ _ _ _ P5 | with_reducible exact HC2.out v5 _ P5 | with_reducible exact HC2.out v4 _ P4 | with_reducible exact XS3)
            (first
              | (go_at_call_of 91 (Value.slice B1 c1 d1); refine (M3.out _ PC3.ns.2.2.2.2.1 PC3.ns.2.2.2.2.2.2.2.1).mono ?_; rintro e' v4 ⟨X4, i4, j4, rfl, m4, b4'⟩; have P4 := (PC3.below b4').num m4)
              | (go_at_call_of 91 (Value.slice C1 x1 y1); refine (M4.out _ P4.ns.2.2.2.2.2.2.1 P4.ns.2.2.2.2.2.2.2.2.2.1).mono ?_; rintro e' v5 ⟨X5, i5, j5, rfl, m5, b5'⟩; have P5 := (P4.below b5').num m5; have kR := P5.ks.1; have s0 := kR.at_ 0 _ rfl; have s1 := kR.at_ 1 _ rfl; have s2 := kR.at_ 2 _ rfl; have rf0 := kR.fr 0; have rf1 := kR.fr 1; have rf2 := kR.fr 2))
          go_wp2_with fail
          have F1 := num_pz P5.ns.2.2.1 kR (.slice X3 i3 j3) (.slice X4 i4 j4) (.slice X5 i5 j5)
          have F2 := num_pz P5.ns.2.1 kR (.slice X3 i3 j3) (.slice X4 i4 j4) (.slice X5 i5 j5)
          have F3 := num_pz P5.ns.1 kR (.slice X3 i3 j3) (.slice X4 i4 j4) (.slice X5 i5 j5)
          have bF := below_only P5.bel (only_put3 v5 (w.heap.size + 1) (.slice X3 i3 j3) (.slice X4 i4 j4) (.slice X5 i5 j5)) (by omega)
          rw [HT.out]
          exact bodyPost_ret (v := .agg #[.slice X3 i3 j3, .slice X4 i4 j4, .slice X5 i5 j5]) (by simp [results, Tryz.results89, go_sem, s0, s1, s2]) rfl ⟨_, _, _, _, _, _, _, _, _, rfl, F1, F2, F3, bF⟩
        · replace HT : Hid (betN circ n (fuel + 1) first len = joinN false ra rb) := Lib.hid (by rw [← hmf]; exact HT.out)
          clear hmf
          rcases hcase with rfl | ⟨rfl, rfl⟩
          all_goals (
            have hsum := S1.out
            go_wp2_with fail
            refine (addN _ P2.ns.2.1 P2.ns.1 hsum.1 hsum.2).mono ?_
            rintro e' v3 ⟨X3, i3, j3, rfl, m3, b3'⟩
            have P3 := (P2.below b3').num m3
            clear P2 m3 b3' hsum S1 hs1 hs2 hs3 ht1 ht2
            go_upto_region 10 with fail
            have PC3 := P3.drew
            clear P3
            have XS3 := HC2.out _ _ PC3
            go_region_held3 (fun w' => w'.cell? ⟨g1, 1, none⟩ = some (.slice B1 c1 d1) ∧ w'.cell? ⟨g1, 2, none⟩ = some (.slice C1 x1 y1) ∧ w'.cell? ⟨g2, 1, none⟩ = some (.slice B2 c2 d2) ∧ w'.cell? ⟨g2, 2, none⟩ = some (.slice C2 x2 y2))
              (first | with_reducible exact HC3.out v5 _ _ _ _ P5 | with_reducible exact HC2.out v5 _ P5 | with_reducible exact HC2.out v4 _ P4 | with_reducible exact XS3)
              (first
                | (go_at_call_of 91 (Value.slice B1 c1 d1); refine (M3.out _ PC3.ns.2.2.2.2.1 PC3.ns.2.2.2.2.2.2.2.1).mono ?_; rintro e' v4 ⟨X4, i4, j4, rfl, m4, b4'⟩; have P4 := (PC3.below b4').num m4)
                | (go_at_call_of 91 (Value.slice C1 x1 y1); refine (M4.out _ P4.ns.2.2.2.2.2.2.1 P4.ns.2.2.2.2.2.2.2.2.2.1).mono ?_; rintro e' v5 ⟨X5, i5, j5, rfl, m5, b5'⟩; have P5 := (P4.below b5').num m5; have kR := P5.ks.1; have s0 := kR.at_ 0 _ rfl; have s1 := kR.at_ 1 _ rfl; have s2 := kR.at_ 2 _ rfl; have rf0 := kR.fr 0; have rf1 := kR.fr 1; have rf2 := kR.fr 2))
            go_wp2_with fail
            have F1 := num_pz P5.ns.2.2.1 kR (.slice X3 i3 j3) (.slice X4 i4 j4) (.slice X5 i5 j5)
            have F2 := num_pz P5.ns.2.1 kR (.slice X3 i3 j3) (.slice X4 i4 j4) (.slice X5 i5 j5)
            have F3 := num_pz P5.ns.1 kR (.slice X3 i3 j3) (.slice X4 i4 j4) (.slice X5 i5 j5)
            have bF := below_only P5.bel (only_put3 v5 (w.heap.size + 1) (.slice X3 i3 j3) (.slice X4 i4 j4) (.slice X5 i5 j5)) (by omega)
            rw [HT.out]
            exact bodyPost_ret (v := .agg #[.slice X3 i3 j3, .slice X4 i4 j4, .slice X5 i5 j5]) (by simp [results, Tryz.results89, go_sem, s0, s1, s2]) rfl ⟨_, _, _, _, _, _, _, _, _, rfl, F1, F2, F3, bF⟩)
      have PD := P.drew
      have XS := HC.out _ _ PD
      have XS0 := HC.out _ _ P
      have P0 := P
      have hq0 : Hid (w.heap.size + 1 < w1.heap.size) := Lib.hid P.ks.1.2
      clear P
      go_region_held3 (fun w' => w'.cell? ⟨w.heap.size, 0, none⟩ = some (.int .u64 (tm : Int)) ∧ w'.cell? ⟨w.heap.size, 1, none⟩ = some (.int .u64 (n : Int)))
        ((repeat (first | with_reducible exact XS | with_reducible exact hS1 | with_reducible exact hS2 | with_reducible exact XS0 | with_reducible refine sh_alloc ?_ _ | with_reducible refine sh_put ?_ (by have := hq0.out; have := e1.out; have := e2.out; omega) _ _ _ | with_reducible refine sh_drew ?_)))
        (first
          | (go_at_call_of 89 (Value.int .i64 (first : Int)); refine (IA.out _ _ _ rfl rfl).mono ?_; rintro e' v1 ⟨A1, a1, b1, B1, c1, d1, C1, x1, y1, rfl, na1, nb1, nc1, bA⟩; have hS1 := sh_below (by assumption) bA; have PA : Pu w v1 [(99, w.heap.size + 1, z9), (49, w.heap.size, #[.int .u64 ((tm : Nat) : Int), .int .u64 ((n : Nat) : Int)])] [] := Pu.below (by repeat (first | with_reducible exact PD | with_reducible exact P0 | with_reducible refine pu_al ?_ _ | with_reducible refine pu_dr ?_)) bA; have e1 : Hid (w.heap.size + 1 < v1.heap.size) := Lib.hid (by (have h := bA.size; have h0 := hq0.out; first | (simp at h; omega) | (have h1 : w1.drew.heap.size = w1.heap.size := rfl; omega)));  (first | (have bX : Below (((w1.alloc (.cells z9 99)).alloc (.cells z9 99)).drew).heap.size (((w1.alloc (.cells z9 99)).alloc (.cells z9 99)).drew) v1 := (by with_reducible exact bA); have ya := (((KC.made 99 w1 z9).adv (alloc_bel (w1.alloc (.cells z9 99)) (.cells z9 99))).drew).adv bX; have yb := ((kc_made2 99 w1 (.cells z9 99) z9).drew).adv bX; have yan := Nat.ne_of_lt ya.2; have yan2 := Nat.ne_of_gt ya.2; have ybn := Nat.ne_of_lt yb.2; have ybn2 := Nat.ne_of_gt yb.2) | (have bX : Below ((w1.drew.alloc (.cells z9 99)).alloc (.cells z9 99)).heap.size ((w1.drew.alloc (.cells z9 99)).alloc (.cells z9 99)) v1 := (by with_reducible exact bA); have ya := ((KC.made 99 w1.drew z9).adv (alloc_bel (w1.drew.alloc (.cells z9 99)) (.cells z9 99))).adv bX; have yb := (kc_made2 99 w1.drew (.cells z9 99) z9).adv bX; have yan := Nat.ne_of_lt ya.2; have yan2 := Nat.ne_of_gt ya.2; have ybn := Nat.ne_of_lt yb.2; have ybn2 := Nat.ne_of_gt yb.2) | (have bX : Below ((w1.alloc (.cells z9 99)).drew).heap.size ((w1.alloc (.cells z9 99)).drew) v1 := (by with_reducible exact bA); have ya := ((KC.made 99 w1 z9).drew).adv bX; have yan := Nat.ne_of_lt ya.2; have yan2 := Nat.ne_of_gt ya.2) | (have bX : Below (w1.drew.alloc (.cells z9 99)).heap.size (w1.drew.alloc (.cells z9 99)) v1 := (by with_reducible exact bA); have ya := (KC.made 99 w1.drew z9).adv bX; have yan := Nat.ne_of_lt ya.2; have yan2 := Nat.ne_of_gt ya.2) | skip))
          | (go_at_call_of 89 (Value.int .i64 ((first : Int) + (len : Int))); refine (IB.out _ _ _ rfl rfl).mono ?_; rintro e' v2 ⟨A2, a2, b2, B2, c2, d2, C2, x2, y2, rfl, na2, nb2, nc2, bB⟩; have hS2 := sh_below (by assumption) bB; have PB : Pu w v2 [(99, w.heap.size + 1, z9), (49, w.heap.size, #[.int .u64 ((tm : Nat) : Int), .int .u64 ((n : Nat) : Int)])] [] := Pu.below (by repeat (first | with_reducible exact PA | with_reducible refine pu_al ?_ _)) bB; have mna1 : Num v2 (.slice A1 a1 b1) ra.sum := Num.below (by repeat (first | with_reducible exact na1 | with_reducible refine num_al ?_ _)) bB; have mnb1 : Num v2 (.slice B1 c1 d1) ra.odds := Num.below (by repeat (first | with_reducible exact nb1 | with_reducible refine num_al ?_ _)) bB; have mnc1 : Num v2 (.slice C1 x1 y1) ra.below := Num.below (by repeat (first | with_reducible exact nc1 | with_reducible refine num_al ?_ _)) bB; have e2 : Hid (w.heap.size + 1 < v2.heap.size) := Lib.hid (by (have h := bB.size; have h0 := e1.out; first | omega | (simp at h; omega)));  (first | (have bX : Below (v1).heap.size (v1) v2 := (by with_reducible exact bB); have z1 := ya.adv bX; have z2 := yb.adv bX; have z1c0 := z1.at_ 0 _ rfl; have z1c1 := z1.at_ 1 _ rfl; have z1c2 := z1.at_ 2 _ rfl; have z1f0 := z1.fr 0; have z1f1 := z1.fr 1; have z1f2 := z1.fr 2; have z1l := z1.2; have z1n := Nat.ne_of_lt z1.2; have z1n2 := Nat.ne_of_gt z1.2; have z2c0 := z2.at_ 0 _ rfl; have z2c1 := z2.at_ 1 _ rfl; have z2c2 := z2.at_ 2 _ rfl; have z2f0 := z2.fr 0; have z2f1 := z2.fr 1; have z2f2 := z2.fr 2; have z2l := z2.2; have z2n := Nat.ne_of_lt z2.2; have z2n2 := Nat.ne_of_gt z2.2) | (have bX : Below (v1.alloc (.cells z9 99)).heap.size (v1.alloc (.cells z9 99)) v2 := (by with_reducible exact bB); have z1 := (ya.adv (alloc_bel v1 (.cells z9 99))).adv bX; have z2 := (KC.made 99 v1 z9).adv bX; have z1c0 := z1.at_ 0 _ rfl; have z1c1 := z1.at_ 1 _ rfl; have z1c2 := z1.at_ 2 _ rfl; have z1f0 := z1.fr 0; have z1f1 := z1.fr 1; have z1f2 := z1.fr 2; have z1l := z1.2; have z1n := Nat.ne_of_lt z1.2; have z1n2 := Nat.ne_of_gt z1.2; have z2c0 := z2.at_ 0 _ rfl; have z2c1 := z2.at_ 1 _ rfl; have z2c2 := z2.at_ 2 _ rfl; have z2f0 := z2.fr 0; have z2f1 := z2.fr 1; have z2f2 := z2.fr 2; have z2l := z2.2; have z2n := Nat.ne_of_lt z2.2; have z2n2 := Nat.ne_of_gt z2.2) | (have bX : Below (v1).heap.size (v1) v2 := (by with_reducible exact bB); have z1 := ya.adv bX; have z1c0 := z1.at_ 0 _ rfl; have z1c1 := z1.at_ 1 _ rfl; have z1c2 := z1.at_ 2 _ rfl; have z1f0 := z1.fr 0; have z1f1 := z1.fr 1; have z1f2 := z1.fr 2; have z1l := z1.2; have z1n := Nat.ne_of_lt z1.2; have z1n2 := Nat.ne_of_gt z1.2) | (have bX : Below ((v1.alloc (.cells z9 99)).alloc (.cells z9 99)).heap.size ((v1.alloc (.cells z9 99)).alloc (.cells z9 99)) v2 := (by with_reducible exact bB); have z1 := ((KC.made 99 v1 z9).adv (alloc_bel (v1.alloc (.cells z9 99)) (.cells z9 99))).adv bX; have z2 := (kc_made2 99 v1 (.cells z9 99) z9).adv bX; have z1c0 := z1.at_ 0 _ rfl; have z1c1 := z1.at_ 1 _ rfl; have z1c2 := z1.at_ 2 _ rfl; have z1f0 := z1.fr 0; have z1f1 := z1.fr 1; have z1f2 := z1.fr 2; have z1l := z1.2; have z1n := Nat.ne_of_lt z1.2; have z1n2 := Nat.ne_of_gt z1.2; have z2c0 := z2.at_ 0 _ rfl; have z2c1 := z2.at_ 1 _ rfl; have z2c2 := z2.at_ 2 _ rfl; have z2f0 := z2.fr 0; have z2f1 := z2.fr 1; have z2f2 := z2.fr 2; have z2l := z2.2; have z2n := Nat.ne_of_lt z2.2; have z2n2 := Nat.ne_of_gt z2.2) | (have bX : Below (v1.alloc (.cells z9 99)).heap.size (v1.alloc (.cells z9 99)) v2 := (by with_reducible exact bB); have z1 := (KC.made 99 v1 z9).adv bX; have z1c0 := z1.at_ 0 _ rfl; have z1c1 := z1.at_ 1 _ rfl; have z1c2 := z1.at_ 2 _ rfl; have z1f0 := z1.fr 0; have z1f1 := z1.fr 1; have z1f2 := z1.fr 2; have z1l := z1.2; have z1n := Nat.ne_of_lt z1.2; have z1n2 := Nat.ne_of_gt z1.2) | skip)))
      all_goals (
        go_wp2_with fail
        go_meet
        have s1 : S3 v2 A1 a1 b1 B1 c1 d1 C1 x1 y1 ra := ⟨mna1, mnb1, mnc1⟩
        have s2 : S3 v2 A2 a2 b2 B2 c2 d2 C2 x2 y2 rb := ⟨na2, nb2, nc2⟩
        have q0 := hq0.out
        have q1 := e1.out
        have q2 := e2.out
        first
          | (with_reducible refine end_pp PB s1 s2 z1 z2 ?_ ?_ ?_ <;> first | omega | (have := ya.2; omega))
          | (with_reducible refine end_pp PB s1 s2 z2 z1 ?_ ?_ ?_ <;> first | omega | (have := ya.2; omega))
          | (with_reducible refine end_pa PB s1 s2 z1 ?_ ?_ ?_ <;> first | rfl | omega)
          | (with_reducible refine end_ap PB s1 s2 z1 ?_ ?_ ?_ <;> first | rfl | omega)
          | (with_reducible refine end_aa PB s1 s2 ?_ ?_ ?_ <;> first | rfl | omega)
          | (with_reducible refine end_aa' PB s1 s2 ?_ ?_ ?_ <;> first | rfl | omega))
end Go.Proofs.YtodjldhppbbhdaaGreatDoor
