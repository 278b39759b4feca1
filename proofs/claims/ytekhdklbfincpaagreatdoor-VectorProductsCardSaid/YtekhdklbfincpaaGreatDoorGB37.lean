/- GB37: Abs -/
import Derived.Test.YtekhdklbfincpaaGreatDoorGB10
import Derived.Test.YtekhdklbfincpaaGreatDoorGB14
import Derived.Deep.DeepCutAuto
set_option maxRecDepth 100000
set_option maxHeartbeats 16000000
namespace Go.Proofs.YtekhdklbfincpaaGreatDoor
open Go.RowKit
