/- C24: Abs -/
import Derived.Test.YthhobhjcnmmipaaGreatDoorC06
import Derived.Test.YthhobhjcnmmipaaGreatDoorC07
import Derived.Deep.DeepCutAuto
set_option maxRecDepth 100000
set_option maxHeartbeats 16000000
namespace Go.Proofs.YthhobhjcnmmipaaGreatDoor
open Go.RowKit
