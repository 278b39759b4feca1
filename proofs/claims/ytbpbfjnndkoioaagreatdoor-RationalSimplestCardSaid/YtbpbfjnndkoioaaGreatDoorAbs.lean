/- The magnitude of any integer. -/
import Derived.Test.YtbpbfjnndkoioaaGreatDoorArith
import Derived.Test.YtbpbfjnndkoioaaGreatDoorHold
import Derived.Deep.DeepCutAuto
namespace Go.Proofs.YtbpbfjnndkoioaaGreatDoor
open Go.RowKit

end Go.Proofs.YtbpbfjnndkoioaaGreatDoor
