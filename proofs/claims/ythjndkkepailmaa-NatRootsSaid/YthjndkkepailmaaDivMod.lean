/-
  nat.DivMod where the divisor is 0, is the greater one, or has one word.
-/
import Derived.Test.YthjndkkepailmaaDiv64
import Derived.Test.YthjndkkepailmaaSub2
namespace Go.Proofs.Ythjndkkepailmaa
open Go.RowKit

def QuoPost (w : World) (Q R : Nat) (e : Ending) (w' : World) : Prop := ∃ v u, e = .returned (.tuple #[v, u, .bool true]) ∧ Num w' v Q ∧ Num w' u R ∧ Below w.heap.size w w'
def QuoNo (w : World) (e : Ending) (w' : World) : Prop := e = .returned (.tuple #[.slice none 0 0, .slice none 0 0, .bool false]) ∧ w = w'

/-- One word in a block of its own. -/
theorem one_sl (t : TypeId) (w : World) (r : Nat) (hr : r < B64) : Sl (w.alloc (.cells #[.int .u64 ((r : Nat) : Int)] t)) (some ⟨w.heap.size, 0, none⟩) 1 1 (fun _ => r) :=
  ⟨Nat.le_refl _, fun _ _ => hr, fun _ => ⟨_, rfl, by simp, fun j hj => by
    obtain rfl : j = 0 := by omega
    rw [add_mk, World.cell?_alloc_at _ _ _ _ rfl]; rfl⟩⟩
theorem vs_one (b r : Nat) : vs b (fun _ => r) 1 = r := by simp [vs]

set_option maxHeartbeats 400000 in
theorem divmod_word (A B : Option Addr) (n m c d : Nat) (x y : Nat → Nat) (w : World) (ha : Sl w A n c x) (hb : Sl w B m d y) (hn : n ≤ 1000000) (hm : m ≤ 1000000) (ht : tl y m = 1) (hle : vs B64 y m ≤ vs B64 x n)
    (hD : Hid (∀ (hi lo : Nat) (w : World), hi < y 0 → lo < B64 → (tl x n = 1 → hi = 0) → Calls Try.prog 48 #[.int .u64 (hi : Int), .int .u64 (lo : Int), .int .u64 (y 0 : Int)] w (PairPost w ((hi * B64 + lo) / y 0) ((hi * B64 + lo) % y 0)))) :
    Calls Try.prog 15 #[.slice A n c, .slice B m d] w (QuoPost w (vs B64 x n / vs B64 y m) (vs B64 x n % vs B64 y m)) := by
  obtain ⟨A1, c1, e1, s1⟩ := viewV_sl ha
  obtain ⟨B1, d1, e2, s2⟩ := viewV_sl hb
  have l1 := tl_le x n
  have V1 := view_raw A n c x w ha (by omega)
  have V2 := view_raw B m d y w hb (by omega)
  have cy := tl_cn y m
  rw [e1] at V1
  rw [e2] at V2
  rw [← vs_tl B64 x n, ← vs_tl B64 y m] at hle ⊢
  rw [ht] at V2 s2 cy hle ⊢
  clear e1 e2 ht
  generalize tl x n = p at *
  have ey : vs B64 y 1 = y 0 := by rw [vs_succ, vs_zero]; simp
  rw [ey] at hle ⊢
  have hy0 : 0 < y 0 := by rcases cy with h | h <;> simp at h; omega
  have hy1 := s2.small 0 (by omega)
  have hp0 : 0 < p := by
    rcases Nat.eq_zero_or_pos p with h | h
    · subst h; rw [vs_zero] at hle; omega
    · exact h
  have V3 := cmp_any A1 B1 p 1 c1 d1 x y w s1 s2 (by omega) (by omega)
  rw [ey] at V3
  obtain ⟨r, hr0, hr1⟩ : ∃ r : Nat, cmpN (vs B64 x p) (y 0) = (r : Int) ∧ r ≤ 1 := by
    rcases Nat.lt_or_ge (y 0) (vs B64 x p) with h | h
    · exact ⟨1, by rw [cmpN_gt h]; rfl, by omega⟩
    · exact ⟨0, by rw [Nat.le_antisymm h hle, cmpN_eq]; rfl, by omega⟩
  rw [hr0] at V3
  clear hr0
  have H1 := Lib.hid V1
  have H2 := Lib.hid V2
  have H3 := Lib.hid V3
  clear V1 V2 V3 ey
  go_enter Try.func15, Try.ntmps15
  go_wp2_with fail
  refine H1.out.mono ?_
  rintro e w' ⟨rfl, rfl⟩
  go_wp2_with fail
  refine H2.out.mono ?_
  rintro e w' ⟨rfl, rfl⟩
  go_wp2_with fail
  refine H3.out.mono ?_
  rintro e w1 ⟨rfl, hb1⟩
  obtain ⟨bd, rfl, hbb, hy64, hcell⟩ := (s2.below hb1).at_ (k := 0) (by omega)
  rw [show bd.add 0 = bd from by simp [Addr.add]] at hcell
  go_wp2_with fail
  refine (divWord_any A1 p c1 x (y 0) w1 (s1.below hb1) (by omega) hp0 hy0 hD).mono ?_
  rintro e w2 ⟨v, rfl, hnum, hb2⟩
  have hR : vs B64 x p % y 0 < B64 := Nat.lt_trans (Nat.mod_lt _ hy0) hy1
  generalize vs B64 x p / y 0 = Q at *
  generalize vs B64 x p % y 0 = R at *
  have s3 := one_sl 25 w2 R hR
  go_wp2_with fail
  refine (view_raw _ 1 1 _ _ s3 (by omega)).mono ?_
  rintro e w5 ⟨rfl, rfl⟩
  have hnum2 := viewV_num s3
  rw [vs_one] at hnum2
  go_wp2_with fail
  go_ret3
  have hb3 : Below w2.heap.size w2 (w2.alloc (.cells #[.int .u64 ((R : Nat) : Int)] 25)) := (Below.refl _ _).alloc (Nat.le_refl _) _
  exact ⟨_, _, rfl, hnum.below hb3, hnum2, (hb1.trans (hb2.mono hb1.size)).trans (hb3.mono (Nat.le_trans hb1.size hb2.size))⟩
end Go.Proofs.Ythjndkkepailmaa
