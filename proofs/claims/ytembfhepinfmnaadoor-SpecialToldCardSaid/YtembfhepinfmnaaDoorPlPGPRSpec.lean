/-
  volvelleref13.Special.
-/
import Derived.Test.YtembfhepinfmnaaDoorPlPGPRT2
import Derived.Test.YtembfhepinfmnaaDoorPlPGPRT3
import Derived.Test.YtembfhepinfmnaaDoorPlPGPRT0
import Derived.Test.YtembfhepinfmnaaDoorPlPGPRT1
import Derived.Test.YtembfhepinfmnaaDoorPlPGPRT6
import Derived.Test.YtembfhepinfmnaaDoorPlPGPRT7
import Derived.Test.YtembfhepinfmnaaDoorPlPGPRT8
import Derived.Test.YtembfhepinfmnaaDoorPlPGPRT17
import Derived.Test.YtembfhepinfmnaaDoorPlPGPRT20
import Derived.Test.YtembfhepinfmnaaDoorPlPGPRT5
import Derived.Test.YtembfhepinfmnaaDoorPlPGPRT4
import Derived.Test.YtembfhepinfmnaaDoorPlPGPRT99
namespace Go.Proofs.YtembfhepinfmnaaDoor
open Go.RowKit

set_option maxRecDepth 100000 in
set_option maxHeartbeats 2000000 in
theorem rspec_out (tag : Int) (a b c d : Nat) (w : World) (h : tag < 0 ∨ 20 < tag) : Calls Tryd.prog 8 #[.int .i64 tag, .agg (fourC a b c d)] w (SPost w TW.zero false) := by
  rcases h with h | h
  · have h1 : decide (tag < 0) = true := decide_eq_true h
    go_enter Tryd.func8, Tryd.ntmps8
    go_wp2_with fail
    exact bodyPost_ret (v := .tuple #[.agg #[.int .u64 0, .int .u64 0], .int .i64 0, .bool false]) (by simp [results, Tryd.results8, go_sem]) rfl ⟨rfl, below_step (alloc_bel w _) (alloc_bel _ _)⟩
  · have h1 : decide (tag < 0) = false := decide_eq_false (by omega)
    have h2 : decide (20 < tag) = true := decide_eq_true h
    go_enter Tryd.func8, Tryd.ntmps8
    go_wp2_with fail
    exact bodyPost_ret (v := .tuple #[.agg #[.int .u64 0, .int .u64 0], .int .i64 0, .bool false]) (by simp [results, Tryd.results8, go_sem]) rfl ⟨rfl, below_step (alloc_bel w _) (alloc_bel _ _)⟩
theorem rspecial_any (tag : Int) (a b c d : Nat) (w : World) (ha : a < B64) (hb : b < B64) (hc : c < B64) (hd : d < B64) : Calls Tryd.prog 8 #[.int .i64 tag, .agg (fourC a b c d)] w (SPost w (specN tag a b c d) (isSp tag a b c d)) := by
  by_cases hr : tag < 0 ∨ 20 < tag
  · have h : isSp tag a b c d = false := by
      unfold isSp
      rw [show (decide (0 ≤ tag) && decide (tag ≤ 20)) = false by simp; omega]
      rfl
    unfold specN
    rw [h, if_neg (by simp)]
    exact rspec_out tag a b c d w hr
  · by_cases h2 : tag = 2
    · subst h2; exact rspec_2 a b c d w ha hb hc hd
    · by_cases h3 : tag = 3
      · subst h3; exact rspec_3 a b c d w ha hb hc hd
      · by_cases h0 : tag = 0
        · subst h0; exact rspec_0 a b c d w ha hb hc hd
        · by_cases h1 : tag = 1
          · subst h1; exact rspec_1 a b c d w ha hb hc hd
          · by_cases h6 : tag = 6
            · subst h6; exact rspec_6 a b c d w ha hb hc hd
            · by_cases h7 : tag = 7
              · subst h7; exact rspec_7 a b c d w ha hb hc hd
              · by_cases h8 : tag = 8
                · subst h8; exact rspec_8 a b c d w ha hb hc hd
                · by_cases h17 : tag = 17
                  · subst h17; exact rspec_17 a b c d w ha hb hc hd
                  · by_cases h20 : tag = 20
                    · subst h20; exact rspec_20 a b c d w ha hb hc hd
                    · by_cases h5 : tag = 5
                      · subst h5; exact rspec_5 a b c d w ha hb hc hd
                      · by_cases h4 : tag = 4
                        · subst h4; exact rspec_4 a b c d w ha hb hc hd
                        · exact rspec_no tag a b c d w ha hb hc hd (by omega) (by omega) h2 h3 h0 h1 h6 h7 h8 h17 h20 h5 h4
end Go.Proofs.YtembfhepinfmnaaDoor
