/-
  volvellelaw02.DyadOrders answers true, whatever two dyads it is given.
-/
import Derived.Test.YtijdpmhcgmkjgaaDoorPkDy9
import Derived.Test.YtijdpmhcgmkjgaaDoorPkDy11
namespace Go.Proofs.YtijdpmhcgmkjgaaDoor
open Go.RowKit

set_option maxHeartbeats 4000000 in
theorem orders_any (na nb' : Bool) (A B : Option Addr) (n c m d : Nat) (x y : Nat → Nat) (ea eb : Int) (w : World) (ha : Sl w A n c x) (hb : Sl w B m d y) (hn : n ≤ 9223372036854775807) (hm : m ≤ 9223372036854775807) (hT : Tab w) :
    Calls Tryd.prog 4 #[dyv na A n c ea, dyv nb' B m d eb] w (TruePost w) := by
  have S := FA.start w na A n c ea nb' B m d eb
  have AW := Lib.hid (awake_any _ (hT.below S.bel))
  go_enter Tryd.func4, Tryd.ntmps4
  go_wp2_with fail
  refine AW.out.mono ?_
  generalize (w.alloc (.cells #[.bool na, .slice A n c, .int .i64 ea] 24)).alloc (.cells #[.bool nb', .slice B m d, .int .i64 eb] 24) = w1 at *
  rintro e' w2 ⟨rfl, b⟩
  have F2 := S.adv b
  clear S b AW
  obtain ⟨ca0, ca1, ca2⟩ := F2.ka.cell
  obtain ⟨cb0, cb1, cb2⟩ := F2.kb.cell
  have FW := Lib.hid (few_pair na nb' A B n m c d x y ea eb w2 (ha.below F2.bel) (hb.below F2.bel) hn hm)
  have sz2 := F2.sz
  have hga : w.heap.size < w2.heap.size := by omega
  have hgb : w.heap.size + 1 < w2.heap.size := by omega
  go_wp2_with fail
  refine FW.out.mono ?_
  rintro e' w3 ⟨rfl, b⟩
  have F3' := F2.adv b
  clear F2 b FW ca0 ca1 ca2 cb0 cb1 cb2 sz2 hga hgb
  by_cases hf : (few1 n ea && few1 m eb) = true
  · have hf' := hf
    rw [Bool.and_eq_true] at hf'
    have f1 := few1_true hf'.1
    have f2 := few1_true hf'.2
    rw [hf]
    have CM := Lib.hid (dcmp_any na nb' A B n c m d x y ea eb w3 (ha.below F3'.bel) (hb.below F3'.bel) (by omega) (by omega))
    obtain ⟨ca0, ca1, ca2⟩ := F3'.ka.cell
    obtain ⟨cb0, cb1, cb2⟩ := F3'.kb.cell
    have RC := Lib.hid (fun w' (h : Below w.heap.size w w') => rcmpD_any na nb' A B n c m d x y ea eb w' (ha.below h) (hb.below h) (by omega) (by omega))
    generalize cmpD (plainB na n x ea && plainB nb' m y eb) na nb' (vs B64 x n) (vs B64 y m) ea eb = z at *
    generalize (plainB na n x ea && plainB nb' m y eb) = ok at *
    clear hf hf' f1 f2
    go_wp2_with fail
    refine CM.out.mono ?_
    rintro e' w4 ⟨rfl, b⟩
    have F4 := F3'.adv b
    clear F3' b CM ca0 ca1 ca2 cb0 cb1 cb2
    obtain ⟨ca0, ca1, ca2⟩ := F4.ka.cell
    obtain ⟨cb0, cb1, cb2⟩ := F4.kb.cell
    have CM := Lib.hid (RC.out w4 F4.bel)
    clear RC
    go_wp2_with fail
    refine CM.out.mono ?_
    rintro e' w5 ⟨rfl, b⟩
    have F5 := F4.adv b
    clear F4 b CM ca0 ca1 ca2 cb0 cb1 cb2
    have B5 := F5.bel
    go_wp2_with fail
    go_ret
    exact ⟨by simp, B5⟩
  · have hf' : (few1 n ea && few1 m eb) = false := by simpa using hf
    rw [hf']
    have B3 := F3'.bel
    go_wp2_with fail
    go_ret
    exact ⟨rfl, B3⟩
end Go.Proofs.YtijdpmhcgmkjgaaDoor
