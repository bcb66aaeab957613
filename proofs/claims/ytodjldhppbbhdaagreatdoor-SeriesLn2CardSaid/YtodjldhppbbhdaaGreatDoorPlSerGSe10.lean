/-
  volvellelaw04.Holds: where two spans meet and the first is narrow.
  The code's Pi and Ln2 of a calc that doesn't go on: nothing is answered, and the calc is bad.
-/
import Derived.Test.YtodjldhppbbhdaaGreatDoorPlSerGSe1
import Derived.Test.YtodjldhppbbhdaaGreatDoorPlSerGSe4
import Derived.Test.YtodjldhppbbhdaaGreatDoorPlSerGSe8
namespace Go.Proofs.YtodjldhppbbhdaaGreatDoor
open Go.RowKit

set_option maxRecDepth 8000 in
set_option maxHeartbeats 2000000 in
theorem holds_yes {lo hi lo' hi' : DR} {A B A' B' : Option Addr} {n c m d n' c' m' d' : Nat} (g : Nat) (p z : Int) (w : World) (hW : Wk 41 w g p false)
    (M : ∀ w', Below w.heap.size w w' → Calls Tryz.prog 15 #[spv lo.neg A n c lo.e hi.neg B m d hi.e, spv lo'.neg A' n' c' lo'.e hi'.neg B' m' d' hi'.e] w' (TruePost w'))
    (K : ∀ w', Below w.heap.size w w' → Calls Tryz.prog 21 #[spv lo.neg A n c lo.e hi.neg B m d hi.e, .int .i64 z] w' (TruePost w')) :
    Calls Tryz.prog 11 #[spv lo.neg A n c lo.e hi.neg B m d hi.e, spv lo'.neg A' n' c' lo'.e hi'.neg B' m' d' hi'.e, .pointer (some ⟨g, 0, none⟩), .int .i64 z] w (TruePost w) := by
  obtain ⟨bel, kA, kB, hsz⟩ := start666 w (.bool lo.neg) (.slice A n c) (.int .i64 lo.e) (.bool hi.neg) (.slice B m d) (.int .i64 hi.e) (.bool lo'.neg) (.slice A' n' c') (.int .i64 lo'.e) (.bool hi'.neg) (.slice B' m' d') (.int .i64 hi'.e)
  have C1 := Lib.hid (M _ bel)
  have KH := Lib.hid K
  have W1 := hW.below bel
  obtain ⟨kw0, kw1⟩ := W1.cell
  obtain ⟨k0, k1, k2, k3, k4, k5⟩ := kA.cell
  obtain ⟨l0, l1, l2, l3, l4, l5⟩ := kB.cell
  clear M K hW W1
  go_enter Tryz.func11, Tryz.ntmps11
  go_wp2_with fail
  refine C1.out.mono ?_
  generalize (w.alloc (co6 (.bool lo.neg) (.slice A n c) (.int .i64 lo.e) (.bool hi.neg) (.slice B m d) (.int .i64 hi.e))).alloc (co6 (.bool lo'.neg) (.slice A' n' c') (.int .i64 lo'.e) (.bool hi'.neg) (.slice B' m' d') (.int .i64 hi'.e)) = w1 at *
  rintro e' w2 ⟨rfl, b⟩
  have B2 := below_step bel b
  have kA2 := kA.below b (by omega)
  clear C1 b bel kA kB k0 k1 k2 k3 k4 k5 l0 l1 l2 l3 l4 l5 kw0 kw1
  obtain ⟨k0, k1, k2, k3, k4, k5⟩ := kA2.cell
  have D1 := Lib.hid (KH.out _ B2)
  clear KH
  go_wp2_with fail
  refine D1.out.mono ?_
  rintro e' w3 ⟨rfl, b⟩
  have B3 := below_step B2 b
  clear D1 b B2 kA2 k0 k1 k2 k3 k4 k5
  go_wp2_with fail
  go_ret
  exact ⟨rfl, B3⟩
end Go.Proofs.YtodjldhppbbhdaaGreatDoor

namespace Go.Proofs.YtodjldhppbbhdaaGreatDoor
open Go.RowKit
variable {TW : TypeId}

set_option maxRecDepth 8000 in
set_option maxHeartbeats 2000000 in
theorem encl_no (circ : Bool) (ad : Addr) (k tm n : Nat) (g : Nat) (p : Int) (bad : Bool) (w : World) (hb : goesBad p bad = true) (hW : Wk TW w g p bad) :
    Calls Tryz.prog 22 #[.pointer (some ⟨g, 0, none⟩), .bool circ, .slice (some ad) k k, shv tm n] w (SPost TW w g p SRes.no) := by
  have S : St TW w g p bad ((w.alloc (cs2 tm n)).alloc (.cells zs 29)) [(29, w.heap.size + 1, zs), (49, w.heap.size, #[.int .u64 ((tm : Nat) : Int), .int .u64 ((n : Nat) : Int)])] [] := by
    have h := ((St.start hW).alloc 49 #[.int .u64 ((tm : Nat) : Int), .int .u64 ((n : Nat) : Int)]).alloc 29 zs
    rw [show (w.alloc (.cells #[.int .u64 ((tm : Nat) : Int), .int .u64 ((n : Nat) : Int)] 49)).heap.size = w.heap.size + 1 by simp] at h
    exact h
  have GG : Hid (∀ w', Wk TW w' g p bad → Calls Tryz.prog 47 #[.pointer (some ⟨g, 0, none⟩)] w' fun e w2 => e = .returned (.bool false) ∧ Wk TW w2 g p true ∧ Only w' w2 g) := Lib.hid (fun w' h => by
    have := goes_any g p bad w' h
    unfold GoesP at this
    rw [hb] at this
    exact this)
  obtain ⟨kw0, kw1⟩ := S.wc
  clear hb hW
  go_enter Tryz.func22, Tryz.ntmps22
  go_wp2_with fail
  refine (GG.out _ S.W).mono ?_
  clear GG kw0 kw1
  generalize (w.alloc (cs2 tm n)).alloc (.cells zs 29) = w1 at *
  rintro e' w2 ⟨rfl, hW2, o2⟩
  replace S := S.only o2 hW2
  clear o2 hW2
  have z1 := S.ks.1.1
  have z1c0 := z1.at_ 0 _ rfl
  have z1c1 := z1.at_ 1 _ rfl
  have z1c2 := z1.at_ 2 _ rfl
  have z1c3 := z1.at_ 3 _ rfl
  have z1c4 := z1.at_ 4 _ rfl
  have z1c5 := z1.at_ 5 _ rfl
  have z1f0 := z1.fr 0
  have z1f1 := z1.fr 1
  have z1f2 := z1.fr 2
  have z1f3 := z1.fr 3
  have z1f4 := z1.fr 4
  have z1f5 := z1.fr 5
  go_wp2_with fail
  obtain ⟨q1, q2, q3, q4⟩ := S.give (lo := DR.zero) (hi := DR.zero) (num_nil _) (num_nil _) z1 (by omega)
  exact bodyPost_ret (v := spv false none 0 0 0 false none 0 0 0) (by simp [results, Tryz.results22, go_sem, z1c0, z1c1, z1c2, z1c3, z1c4, z1c5]) rfl ⟨none, 0, 0, none, 0, 0, rfl, q1, q2, q3, q4⟩
set_option maxRecDepth 8000 in
set_option maxHeartbeats 2000000 in
theorem pi_no (g : Nat) (p : Int) (bad : Bool) (w : World) (hb : goesBad p bad = true) (hW : Wk TW w g p bad) :
    Calls Tryz.prog 8 #[.pointer (some ⟨g, 0, none⟩)] w (SPost TW w g p SRes.no) := by
  have S : St TW w g p bad ((w.alloc (.cells zs 29)).alloc (.cells #[.int .u64 176, .int .u64 57, .int .u64 28, .int .u64 239, .int .u64 96, .int .u64 12943] 49)) [(49, w.heap.size + 1, #[.int .u64 176, .int .u64 57, .int .u64 28, .int .u64 239, .int .u64 96, .int .u64 12943]), (29, w.heap.size, zs)] [] := by
    have h := ((St.start hW).alloc 29 zs).alloc 49 #[.int .u64 176, .int .u64 57, .int .u64 28, .int .u64 239, .int .u64 96, .int .u64 12943]
    rw [show (w.alloc (.cells zs 29)).heap.size = w.heap.size + 1 by simp] at h
    exact h
  have hgl := hW.2
  have EN : Hid (Calls Tryz.prog 22 #[.pointer (some ⟨g, 0, none⟩), .bool true, .slice (some ⟨w.heap.size + 1, 0, none⟩) 3 3, shv 48 682] ((w.alloc (.cells zs 29)).alloc (.cells #[.int .u64 176, .int .u64 57, .int .u64 28, .int .u64 239, .int .u64 96, .int .u64 12943] 49)) (SPost TW ((w.alloc (.cells zs 29)).alloc (.cells #[.int .u64 176, .int .u64 57, .int .u64 28, .int .u64 239, .int .u64 96, .int .u64 12943] 49)) g p SRes.no)) := Lib.hid (encl_no true ⟨w.heap.size + 1, 0, none⟩ 3 48 682 g p bad _ hb S.W)
  clear hb
  go_enter Tryz.func8, Tryz.ntmps8
  go_wp2_with fail
  refine EN.out.mono ?_
  clear EN
  generalize ((w.alloc (.cells zs 29)).alloc (.cells #[.int .u64 176, .int .u64 57, .int .u64 28, .int .u64 239, .int .u64 96, .int .u64 12943] 49)) = w1 at *
  rintro e' w2 ⟨A, n, c, B, m, d, rfl, N1, N2, W2, o2⟩
  have S2 := ((S.only o2 W2).num N2).num N1
  clear S N1 N2 W2 o2
  have z1 := S2.ks.2.1.1
  have z1c0 := z1.at_ 0 _ rfl
  have z1c1 := z1.at_ 1 _ rfl
  have z1c2 := z1.at_ 2 _ rfl
  have z1c3 := z1.at_ 3 _ rfl
  have z1c4 := z1.at_ 4 _ rfl
  have z1c5 := z1.at_ 5 _ rfl
  have z1f0 := z1.fr 0
  have z1f1 := z1.fr 1
  have z1f2 := z1.fr 2
  have z1f3 := z1.fr 3
  have z1f4 := z1.fr 4
  have z1f5 := z1.fr 5
  go_wp2_with fail
  have y1 := S2.ns.1
  have y2 := S2.ns.2.1
  obtain ⟨x1, x2, x3, x4⟩ := S2.give (lo := DR.zero) (hi := DR.zero) y1 y2 z1 (by omega)
  exact bodyPost_ret (v := spv SRes.no.lo.neg A n c SRes.no.lo.e SRes.no.hi.neg B m d SRes.no.hi.e) (by simp [results, Tryz.results8, go_sem, z1c0, z1c1, z1c2, z1c3, z1c4, z1c5]) rfl ⟨A, n, c, B, m, d, rfl, x1, x2, x3, x4⟩
set_option maxRecDepth 8000 in
set_option maxHeartbeats 2000000 in
theorem ln_no (g : Nat) (p : Int) (bad : Bool) (w : World) (hb : goesBad p bad = true) (hW : Wk TW w g p bad) :
    Calls Tryz.prog 13 #[.pointer (some ⟨g, 0, none⟩)] w (SPost TW w g p SRes.no) := by
  have S : St TW w g p bad ((w.alloc (.cells zs 29)).alloc (.cells #[.int .u64 18, .int .u64 26, .int .u64 8, .int .u64 8749] 49)) [(49, w.heap.size + 1, #[.int .u64 18, .int .u64 26, .int .u64 8, .int .u64 8749]), (29, w.heap.size, zs)] [] := by
    have h := ((St.start hW).alloc 29 zs).alloc 49 #[.int .u64 18, .int .u64 26, .int .u64 8, .int .u64 8749]
    rw [show (w.alloc (.cells zs 29)).heap.size = w.heap.size + 1 by simp] at h
    exact h
  have hgl := hW.2
  have EN : Hid (Calls Tryz.prog 22 #[.pointer (some ⟨g, 0, none⟩), .bool false, .slice (some ⟨w.heap.size + 1, 0, none⟩) 2 2, shv 2 4801] ((w.alloc (.cells zs 29)).alloc (.cells #[.int .u64 18, .int .u64 26, .int .u64 8, .int .u64 8749] 49)) (SPost TW ((w.alloc (.cells zs 29)).alloc (.cells #[.int .u64 18, .int .u64 26, .int .u64 8, .int .u64 8749] 49)) g p SRes.no)) := Lib.hid (encl_no false ⟨w.heap.size + 1, 0, none⟩ 2 2 4801 g p bad _ hb S.W)
  clear hb
  go_enter Tryz.func13, Tryz.ntmps13
  go_wp2_with fail
  refine EN.out.mono ?_
  clear EN
  generalize ((w.alloc (.cells zs 29)).alloc (.cells #[.int .u64 18, .int .u64 26, .int .u64 8, .int .u64 8749] 49)) = w1 at *
  rintro e' w2 ⟨A, n, c, B, m, d, rfl, N1, N2, W2, o2⟩
  have S2 := ((S.only o2 W2).num N2).num N1
  clear S N1 N2 W2 o2
  have z1 := S2.ks.2.1.1
  have z1c0 := z1.at_ 0 _ rfl
  have z1c1 := z1.at_ 1 _ rfl
  have z1c2 := z1.at_ 2 _ rfl
  have z1c3 := z1.at_ 3 _ rfl
  have z1c4 := z1.at_ 4 _ rfl
  have z1c5 := z1.at_ 5 _ rfl
  have z1f0 := z1.fr 0
  have z1f1 := z1.fr 1
  have z1f2 := z1.fr 2
  have z1f3 := z1.fr 3
  have z1f4 := z1.fr 4
  have z1f5 := z1.fr 5
  go_wp2_with fail
  have y1 := S2.ns.1
  have y2 := S2.ns.2.1
  obtain ⟨x1, x2, x3, x4⟩ := S2.give (lo := DR.zero) (hi := DR.zero) y1 y2 z1 (by omega)
  exact bodyPost_ret (v := spv SRes.no.lo.neg A n c SRes.no.lo.e SRes.no.hi.neg B m d SRes.no.hi.e) (by simp [results, Tryz.results13, go_sem, z1c0, z1c1, z1c2, z1c3, z1c4, z1c5]) rfl ⟨A, n, c, B, m, d, rfl, x1, x2, x3, x4⟩
end Go.Proofs.YtodjldhppbbhdaaGreatDoor
