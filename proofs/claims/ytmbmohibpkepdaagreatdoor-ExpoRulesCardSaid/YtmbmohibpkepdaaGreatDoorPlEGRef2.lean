/-
 volvelleref01.Sqrt: the root, bit by bit.
-/
import Derived.Test.YtmbmohibpkepdaaGreatDoorPlEGNumbers
import Derived.Test.YtmbmohibpkepdaaGreatDoorPlEGNat2
import Derived.Test.YtmbmohibpkepdaaGreatDoorPlEGNat3
import Derived.Test.YtmbmohibpkepdaaGreatDoorPlEGNat6
import Derived.Test.YtmbmohibpkepdaaGreatDoorPlEGRef1
namespace Go.Proofs.YtmbmohibpkepdaaGreatDoor
open Go.RowKit
def Near (V S k:Nat):Prop:=S*S≤V∧V < (S+2^k)*(S+2^k)
end Go.Proofs.YtmbmohibpkepdaaGreatDoor
