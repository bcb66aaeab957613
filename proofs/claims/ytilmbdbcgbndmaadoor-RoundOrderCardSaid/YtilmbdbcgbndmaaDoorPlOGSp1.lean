/-
  span: isRight, isBelow, Sign; volvelleref03: Right, Sign. A span is six cells: two dyads.
-/
import Derived.Test.YtilmbdbcgbndmaaDoorPlOGDy6
import Derived.Test.YtilmbdbcgbndmaaDoorPlOGDy9
namespace Go.Proofs.YtilmbdbcgbndmaaDoor
open Go.RowKit

/-- A span: two dyads, Lo and Hi. -/
abbrev spv (na : Bool) (A : Option Addr) (n c : Nat) (ea : Int) (nb' : Bool) (B : Option Addr) (m d : Nat) (eb : Int) : Value :=
  .agg #[.bool na, .slice A n c, .int .i64 ea, .bool nb', .slice B m d, .int .i64 eb]
/-- Is a span right, by its two dyads' numbers? -/
def rightB (ok na nb' : Bool) (Va Vb : Nat) (ea eb : Int) : Bool := ok && decide (ordD na nb' Va Vb ea eb ≤ 0)
abbrev co6 (a b c d e f : Value) : Obj := .cells #[a, b, c, d, e, f] 32
def Blk6 (w : World) (g : Nat) (a b c d e f : Value) : Prop := w.heap[g]? = some (.cells #[a, b, c, d, e, f] 32 (0, 0))
theorem Blk6.made (w : World) (a b c d e f : Value) : Blk6 (w.alloc (co6 a b c d e f)) w.heap.size a b c d e f := heap_alloc_new w _
theorem Blk6.below {w w' : World} {g B : Nat} {a b c d e f : Value} (h : Blk6 w g a b c d e f) (hb : Below B w w') (hg : g < B) : Blk6 w' g a b c d e f := (hb.block g hg).trans h
theorem Blk6.cell {w : World} {g : Nat} {a b c d e f : Value} (h : Blk6 w g a b c d e f) : w.cell? ⟨g, 0, none⟩ = some a ∧ w.cell? ⟨g, 1, none⟩ = some b ∧ w.cell? ⟨g, 2, none⟩ = some c ∧ w.cell? ⟨g, 3, none⟩ = some d ∧ w.cell? ⟨g, 4, none⟩ = some e ∧ w.cell? ⟨g, 5, none⟩ = some f := by
  unfold Blk6 at h
  simp [World.cell?, h]
theorem Blk6.frozen {w : World} {g : Nat} {a b c d e f : Value} (h : Blk6 w g a b c d e f) (i : Nat) : w.frozen? ⟨g, i, none⟩ = false := by
  unfold Blk6 at h
  simp [World.frozen?, h]

set_option maxHeartbeats 2000000 in
theorem isright_any (na nb' : Bool) (A B : Option Addr) (n c m d : Nat) (x y : Nat → Nat) (ea eb : Int) (w : World) (ha : Sl w A n c x) (hb : Sl w B m d y) (hn : n ≤ 400000) (hm : m ≤ 400000) :
    Calls Tryd.prog 58 #[spv na A n c ea nb' B m d eb] w
      fun o w' => o = .returned (.bool (rightB (plainB na n x ea && plainB nb' m y eb) na nb' (vs B64 x n) (vs B64 y m) ea eb)) ∧ Below w.heap.size w w' := by
  have bA : Below w.heap.size w (w.alloc (co6 (.bool na) (.slice A n c) (.int .i64 ea) (.bool nb') (.slice B m d) (.int .i64 eb))) := (Below.refl _ w).alloc (Nat.le_refl _) _
  have kA := (Blk6.made w (.bool na) (.slice A n c) (.int .i64 ea) (.bool nb') (.slice B m d) (.int .i64 eb)).cell
  obtain ⟨k0, k1, k2, k3, k4, k5⟩ := kA
  have CM := Lib.hid (dcmp_any na nb' A B n c m d x y ea eb _ (ha.below bA) (hb.below bA) hn hm)
  have HR : Hid (rightB (plainB na n x ea && plainB nb' m y eb) na nb' (vs B64 x n) (vs B64 y m) ea eb = ((plainB na n x ea && plainB nb' m y eb) && decide (cmpD (plainB na n x ea && plainB nb' m y eb) na nb' (vs B64 x n) (vs B64 y m) ea eb ≤ 0))) := Lib.hid (by
    unfold rightB cmpD
    cases (plainB na n x ea && plainB nb' m y eb) <;> simp)
  rw [HR.out]
  generalize cmpD (plainB na n x ea && plainB nb' m y eb) na nb' (vs B64 x n) (vs B64 y m) ea eb = z at *
  generalize (plainB na n x ea && plainB nb' m y eb) = ok at *
  clear HR
  go_enter Tryd.func58, Tryd.ntmps58
  go_wp2_with fail
  refine CM.out.mono ?_
  rintro e' w2 ⟨rfl, b⟩
  have B2 := bA.trans (b.mono bA.size)
  clear CM b bA k0 k1 k2 k3 k4 k5
  cases ok
  · go_wp2_with fail
    go_ret
    exact ⟨rfl, B2⟩
  · go_wp2_with fail
    go_ret
    exact ⟨by simp, B2⟩

set_option maxHeartbeats 2000000 in
theorem rright_any (na nb' : Bool) (A B : Option Addr) (n c m d : Nat) (x y : Nat → Nat) (ea eb : Int) (w : World) (ha : Sl w A n c x) (hb : Sl w B m d y) (hn : n ≤ 400000) (hm : m ≤ 400000) :
    Calls Tryd.prog 34 #[spv na A n c ea nb' B m d eb] w
      fun o w' => o = .returned (.bool (rightB (plainB na n x ea && plainB nb' m y eb) na nb' (vs B64 x n) (vs B64 y m) ea eb)) ∧ Below w.heap.size w w' := by
  have bA : Below w.heap.size w (w.alloc (co6 (.bool na) (.slice A n c) (.int .i64 ea) (.bool nb') (.slice B m d) (.int .i64 eb))) := (Below.refl _ w).alloc (Nat.le_refl _) _
  have kA := (Blk6.made w (.bool na) (.slice A n c) (.int .i64 ea) (.bool nb') (.slice B m d) (.int .i64 eb)).cell
  obtain ⟨k0, k1, k2, k3, k4, k5⟩ := kA
  have CM := Lib.hid (rcmpD_any na nb' A B n c m d x y ea eb _ (ha.below bA) (hb.below bA) hn hm)
  have HR : Hid (rightB (plainB na n x ea && plainB nb' m y eb) na nb' (vs B64 x n) (vs B64 y m) ea eb = ((plainB na n x ea && plainB nb' m y eb) && decide (cmpD (plainB na n x ea && plainB nb' m y eb) na nb' (vs B64 x n) (vs B64 y m) ea eb ≤ 0))) := Lib.hid (by
    unfold rightB cmpD
    cases (plainB na n x ea && plainB nb' m y eb) <;> simp)
  rw [HR.out]
  generalize cmpD (plainB na n x ea && plainB nb' m y eb) na nb' (vs B64 x n) (vs B64 y m) ea eb = z at *
  generalize (plainB na n x ea && plainB nb' m y eb) = ok at *
  clear HR
  go_enter Tryd.func34, Tryd.ntmps34
  go_wp2_with fail
  refine CM.out.mono ?_
  rintro e' w2 ⟨rfl, b⟩
  have B2 := bA.trans (b.mono bA.size)
  clear CM b bA k0 k1 k2 k3 k4 k5
  cases ok
  · go_wp2_with fail
    go_ret
    exact ⟨rfl, B2⟩
  · go_wp2_with fail
    go_ret
    exact ⟨by simp, B2⟩

/-- Is a below b? -/
theorem isbelow_any (na nb' : Bool) (A B : Option Addr) (n c m d : Nat) (x y : Nat → Nat) (ea eb : Int) (w : World) (ha : Sl w A n c x) (hb : Sl w B m d y) (hn : n ≤ 400000) (hm : m ≤ 400000) :
    Calls Tryd.prog 59 #[dyv na A n c ea, dyv nb' B m d eb] w
      fun o w' => o = .returned (.bool (decide (cmpD (plainB na n x ea && plainB nb' m y eb) na nb' (vs B64 x n) (vs B64 y m) ea eb < 0))) ∧ Below w.heap.size w w' := by
  have S := FA.start w na A n c ea nb' B m d eb
  have CM := Lib.hid (dcmp_any na nb' A B n c m d x y ea eb _ (ha.below S.bel) (hb.below S.bel) hn hm)
  generalize cmpD (plainB na n x ea && plainB nb' m y eb) na nb' (vs B64 x n) (vs B64 y m) ea eb = z at *
  generalize (plainB na n x ea && plainB nb' m y eb) = ok at *
  go_enter Tryd.func59, Tryd.ntmps59
  go_wp2_with fail
  refine CM.out.mono ?_
  rintro e' w2 ⟨rfl, b⟩
  have F := S.adv b
  have B2 := F.bel
  clear S b F CM
  go_wp2_with fail
  go_ret
  exact ⟨rfl, B2⟩
end Go.Proofs.YtilmbdbcgbndmaaDoor
