/-
  Closed facts of the program, and what each of the walks over nat imports.
-/
import Derived.Test.YthjndkkepailmaaRows
import Derived.Test.YthjndkkepailmaaLaws
import Derived.WalkKit
import Derived.ProofKit
import Derived.Outline
import Derived.Lib.Hide
namespace Go.Proofs.Ythjndkkepailmaa
open Go.RowKit
theorem info64 : (Try.prog.info? 25).map (fun i => (i.zero, i.size, i.bytes)) = some (some (.int .u64 0), 1, 8) := by kernel_rfl
theorem size64 : (Try.prog.info? 25).map (·.size) = some 1 := by kernel_rfl
theorem make_run (n : Nat) (hn : n ≤ 1000001) (u : World) : (Instr.makeSlice 22 (.int .i64 (n : Int)) (.int .i64 (n : Int))).run Try.prog u =
    .ok (.slice (some ⟨u.heap.size, 0, none⟩) n n) (u.alloc (.cells (madeCells #[.int .u64 0] n) 25)) :=
  run_make_row' 22 25 (.int .u64 0) 8 Try.underlying22 info64 rfl .i64 .i64 n (by omega) (by omega) u
end Go.Proofs.Ythjndkkepailmaa
