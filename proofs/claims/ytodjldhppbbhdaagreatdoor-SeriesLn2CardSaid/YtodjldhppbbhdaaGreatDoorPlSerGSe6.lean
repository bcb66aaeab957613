/-
  What the code answers for pi and for the logarithm of 2, of 16 to 600 bits: each answer is plain, as narrow as told, and holds one fixed number. Worked out by the kernel.
  What is known of the code's answers for pi and the logarithm of 2.
-/
import Derived.Test.YtodjldhppbbhdaaGreatDoorPlSerGSp9
import Derived.Test.YtodjldhppbbhdaaGreatDoorPlSerGSe4
import Derived.Test.YtodjldhppbbhdaaGreatDoorPlSerGSe5
namespace Go.Proofs.YtodjldhppbbhdaaGreatDoor
open Go.RowKit

def gOk (r : DR) : Bool := r.ok && plainV r.neg r.m r.e && decide (-1000 ≤ r.e)
/-- An answer that holds x and x + 1, in units of 2 to the -1000. -/
def holdR (r : SRes) (x : Nat) : Bool := !r.bad && gOk r.lo && gOk r.hi && decide (valI r.lo.neg r.lo.m r.lo.e (-1000) ≤ (x : Int)) && decide ((x : Int) + 1 ≤ valI r.hi.neg r.hi.m r.hi.e (-1000))
def narR (r : SRes) (k : Int) : Bool := rightI r.lo r.hi && (wid2 r.hi (negI r.lo)).ok && decide (cmpI2 (wid2 r.hi (negI r.lo)) ⟨true, false, 1, k⟩ ≤ 0)
def piX : Nat := 33662435685946089494585501656455856555683941690730974709138900414101221392540874060251815436384138148524139139244690777841605119802726401233079158547862201763065646602972899198242319594572019755637030456412204313411697152525950096617751177517156890001299176483264026993404335783373391331893182684256369
def lnX : Nat := 7427131700168751468356976331193922356410370919097575480931345353177579777151557088925868782777747127129779840562740315967930588574557223564995352939457526018583541475587961325675403033614846197149329867106031278424728096993473116055889855186839146841731714390773679823571607071096461728613635651519759
def chkPi (p : Nat) : Bool := piOk p && holdR (piR p) piX && narR (piR p) (4 - (p : Int))
def chkLn (p : Nat) : Bool := lnOk p && holdR (lnR p) lnX && narR (lnR p) (4 - (p : Int))
def awT : SRes := subS 16 false (piR 16).lo (piR 16).hi (numS 16 false 3).lo (numS 16 false 3).hi
def chkAw : Bool := !(numS 16 false 3).bad && !awT.bad && !awT.lo.neg && decide (0 < awT.lo.m)
set_option maxRecDepth 100000 in
theorem pi_all : (List.range 585).all (fun i => chkPi (i + 16)) = true := by decide +kernel
set_option maxRecDepth 100000 in
theorem ln_all : (List.range 585).all (fun i => chkLn (i + 16)) = true := by decide +kernel
theorem aw_all : chkAw = true := by decide +kernel
end Go.Proofs.YtodjldhppbbhdaaGreatDoor

namespace Go.Proofs.YtodjldhppbbhdaaGreatDoor
open Go.RowKit

theorem pi_at {p : Nat} (h1 : 16 ≤ p) (h2 : p ≤ 600) : chkPi p = true := by
  have h := List.all_eq_true.1 pi_all (p - 16) (List.mem_range.2 (by omega))
  rw [show p - 16 + 16 = p by omega] at h
  exact h
theorem ln_at {p : Nat} (h1 : 16 ≤ p) (h2 : p ≤ 600) : chkLn p = true := by
  have h := List.all_eq_true.1 ln_all (p - 16) (List.mem_range.2 (by omega))
  rw [show p - 16 + 16 = p by omega] at h
  exact h
/-- A plain answer. -/
structure GoodR (r : SRes) (x : Nat) : Prop where
  bad : r.bad = false
  good : SGood r
  e1 : -1000 ≤ r.lo.e
  e2 : -1000 ≤ r.hi.e
  x1 : valI r.lo.neg r.lo.m r.lo.e (-1000) ≤ (x : Int)
  x2 : (x : Int) ≤ valI r.hi.neg r.hi.m r.hi.e (-1000)
  x3 : (x : Int) + 1 ≤ valI r.hi.neg r.hi.m r.hi.e (-1000)
theorem hold_good {r : SRes} {x : Nat} (h : holdR r x = true) : GoodR r x := by
  unfold holdR gOk at h
  simp only [Bool.and_eq_true, decide_eq_true_eq, Bool.not_eq_true'] at h
  obtain ⟨⟨⟨⟨h1, ⟨h2, h3⟩, h4⟩, ⟨h5, h6⟩, h7⟩, h8⟩, h9⟩ := h
  exact ⟨h1, ⟨h2, h3, h5, h6⟩, h4, h7, h8, by omega, h9⟩
end Go.Proofs.YtodjldhppbbhdaaGreatDoor
