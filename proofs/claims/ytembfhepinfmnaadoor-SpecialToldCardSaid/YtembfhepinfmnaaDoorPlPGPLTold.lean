/-
  volvellelaw13.SpecialTold.
-/
import Derived.Test.YtembfhepinfmnaaDoorPlPGPk5
import Derived.Test.YtembfhepinfmnaaDoorPlPGPRSpec
namespace Go.Proofs.YtembfhepinfmnaaDoor
open Go.RowKit

set_option maxHeartbeats 4000000 in
theorem lsptold_any (tag : Int) (a b c d : Nat) (w : World) (hT : Tab w) (ha : a < B64) (hb : b < B64) (hc : c < B64) (hd : d < B64) : Calls Tryd.prog 3 #[.int .i64 tag, .agg (fourC a b c d)] w (TruePost w) := by
  have k1 := KB.made 24 w (fourC a b c d)
  have b1 := alloc_bel w (.cells (fourC a b c d) 24)
  have AW := Lib.hid (awake13 (w.alloc (.cells (fourC a b c d) 24)) (hT.below b1))
  have SP := Lib.hid (fun w' (b' : Below w.heap.size w w') => special_any tag a b c d w' (hT.below b') ha hb hc hd)
  have RS := Lib.hid (fun w' => rspecial_any tag a b c d w' ha hb hc hd)
  generalize specN tag a b c d = t at *
  generalize isSp tag a b c d = ok at *
  have EQ := eq2_run t.a t.b t.a t.b
  go_enter Tryd.func3, Tryd.ntmps3
  go_wp2_with fail
  refine AW.out.mono ?_
  rintro e' w2 ⟨rfl, bb⟩
  have k1 := k1.adv bb
  have b1 := below_step b1 bb
  clear bb AW
  have j0 := k1.at_ 0 (v := .int .u64 (a : Int)) rfl
  have j1 := k1.at_ 1 (v := .int .u64 (b : Int)) rfl
  have j2 := k1.at_ 2 (v := .int .u64 (c : Int)) rfl
  have j3 := k1.at_ 3 (v := .int .u64 (d : Int)) rfl
  go_wp2_with fail
  refine (SP.out _ b1).mono ?_
  rintro e' w3 ⟨rfl, bb⟩
  have k1 := k1.adv bb
  have b1 := below_step b1 bb
  clear bb SP j0 j1 j2 j3
  go_upto_region 4 with fail
  have kx := KB.made 26 w3 #[.int .u64 t.a, .int .u64 t.b]
  have al := alloc_bel w3 (.cells #[.int .u64 t.a, .int .u64 t.b] 26)
  have k1 := k1.adv al
  have b1 := below_step b1 al
  clear al
  generalize hw : w3.alloc _ = w4 at *
  clear hw
  have j0 := k1.at_ 0 (v := .int .u64 (a : Int)) rfl
  have j1 := k1.at_ 1 (v := .int .u64 (b : Int)) rfl
  have j2 := k1.at_ 2 (v := .int .u64 (c : Int)) rfl
  have j3 := k1.at_ 3 (v := .int .u64 (d : Int)) rfl
  go_wp2_with fail
  refine (RS.out _).mono ?_
  rintro e' w5 ⟨rfl, bb⟩
  have kx := kx.adv bb
  have b1 := below_step b1 bb
  clear bb RS j0 j1 j2 j3
  go_upto_region 5 with fail
  have ky := KB.made 26 w5 #[.int .u64 t.a, .int .u64 t.b]
  have al := alloc_bel w5 (.cells #[.int .u64 t.a, .int .u64 t.b] 26)
  have kx := kx.adv al
  have b1 := below_step b1 al
  clear al
  generalize hw : w5.alloc _ = w6 at *
  clear hw
  have x0 := kx.at_ 0 (v := .int .u64 t.a) rfl
  have x1 := kx.at_ 1 (v := .int .u64 t.b) rfl
  have y0 := ky.at_ 0 (v := .int .u64 t.a) rfl
  have y1 := ky.at_ 1 (v := .int .u64 t.b) rfl
  go_wp2_with fail
  go_ret
  exact ⟨rfl, b1⟩
end Go.Proofs.YtembfhepinfmnaaDoor
