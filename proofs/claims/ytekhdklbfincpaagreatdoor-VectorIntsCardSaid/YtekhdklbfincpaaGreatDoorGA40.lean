/- GA40: Abs -/
import Derived.Test.YtekhdklbfincpaaGreatDoorGA12
import Derived.Test.YtekhdklbfincpaaGreatDoorGA14
import Derived.Deep.DeepCutAuto
set_option maxRecDepth 100000
set_option maxHeartbeats 16000000
namespace Go.Proofs.YtekhdklbfincpaaGreatDoor
open Go.RowKit
end Go.Proofs.YtekhdklbfincpaaGreatDoor
