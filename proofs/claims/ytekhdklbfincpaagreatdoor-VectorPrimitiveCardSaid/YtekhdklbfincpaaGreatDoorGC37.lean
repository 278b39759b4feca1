/- GC37: Abs -/
import Derived.Test.YtekhdklbfincpaaGreatDoorGC10
import Derived.Test.YtekhdklbfincpaaGreatDoorGC14
import Derived.Deep.DeepCutAuto
set_option maxRecDepth 100000
set_option maxHeartbeats 16000000
namespace Go.Proofs.YtekhdklbfincpaaGreatDoor
open Go.RowKit
