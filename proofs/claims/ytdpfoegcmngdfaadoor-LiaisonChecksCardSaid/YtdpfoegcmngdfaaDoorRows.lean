/-
  NARROWER THAN 'FOR EVERY INPUT', by the rows' own cells (each row's printed sentence says how): LiaisonChecks: laid · LiaisonConnects: laid · LiaisonSubsets: laid · LiaisonCuts: laid · LiaisonGroups: laid · LiaisonLoose: laid · LiaisonDivides: laid.
  DERIVED. THE GIVEN ROWS OF THIS SEAT. 7 by the template 'for every input the law returns true; each argument reads behind the call as it read before'; 0 by the template 'total and deterministic' (their statements: YtdpfoegcmngdfaaDoorTotals.lean).
  GIVEN WITH THE SEED: the statements are not yours to turn. If you find one false, say at which input.
  Laid BY PROGRAM, IN A SANDBOX (cutbox-rows.mjs): the forced cells as the released guide's own fill.sh prints them over the translation 61eeb6c36b4c5e94… (all of the seat's roots in one cut). By AI agents, Wed Nov 11 2026. No macro, syntax, notation, axiom, sorry.
-/
import Derived.Test.YtdpfoegcmngdfaaDoorChecked
import GoSem.Claim
import GoSem.ClaimJoined
import GoSem.ClaimMapViews
import Derived.JoinedTies
import Derived.KernelRfl
namespace Go.Proofs.YtdpfoegcmngdfaaDoor
/- THE CELL 'sum', in the pinned program and in every row, IS THE sha256 OF THE DUMP (.gsa) THAT YtdpfoegcmngdfaaDoorProg.lean LOADS. Nothing in Lean hashes anything: it is a label: what it is worth is what the hold of that sum in a sandbox is worth. -/
noncomputable def Tryd.pinned : Pinned := { name := "ytdpfoegcmngdfaadoor", sum := "61eeb6c36b4c5e94844ac275e2c682381f3d45f8e886cd9f3a2bbd32f963ba83", checked := Tryd.checked }
namespace Rows
def none {H : Type} : Left H := { results := [], args := [] }

/- WHAT THE LISTED PACKAGE-LEVEL VARIABLES READ AS WHEN THE CALL BEGINS. Each datum BY PROGRAM (the guide's laid-datum.mjs) off the statement by which the dump's own 'gosem.cut.vars' lays the variable. In a bare row this is a premise. The card (YtdpfoegcmngdfaaDoorCards.lean) ties it to the program's text. -/
def laid_math_bits_deBruijn32tab {H : Type} : DataW H := .agg [.lit (.int .u8 0), .lit (.int .u8 1), .lit (.int .u8 28), .lit (.int .u8 2), .lit (.int .u8 29), .lit (.int .u8 14), .lit (.int .u8 24), .lit (.int .u8 3), .lit (.int .u8 30), .lit (.int .u8 22), .lit (.int .u8 20), .lit (.int .u8 15), .lit (.int .u8 25), .lit (.int .u8 17), .lit (.int .u8 4), .lit (.int .u8 8), .lit (.int .u8 31), .lit (.int .u8 27), .lit (.int .u8 13), .lit (.int .u8 23), .lit (.int .u8 21), .lit (.int .u8 19), .lit (.int .u8 16), .lit (.int .u8 7), .lit (.int .u8 26), .lit (.int .u8 12), .lit (.int .u8 18), .lit (.int .u8 6), .lit (.int .u8 11), .lit (.int .u8 5), .lit (.int .u8 10), .lit (.int .u8 9)]
def laid_math_bits_deBruijn64tab {H : Type} : DataW H := .agg [.lit (.int .u8 0), .lit (.int .u8 1), .lit (.int .u8 56), .lit (.int .u8 2), .lit (.int .u8 57), .lit (.int .u8 49), .lit (.int .u8 28), .lit (.int .u8 3), .lit (.int .u8 61), .lit (.int .u8 58), .lit (.int .u8 42), .lit (.int .u8 50), .lit (.int .u8 38), .lit (.int .u8 29), .lit (.int .u8 17), .lit (.int .u8 4), .lit (.int .u8 62), .lit (.int .u8 47), .lit (.int .u8 59), .lit (.int .u8 36), .lit (.int .u8 45), .lit (.int .u8 43), .lit (.int .u8 51), .lit (.int .u8 22), .lit (.int .u8 53), .lit (.int .u8 39), .lit (.int .u8 33), .lit (.int .u8 30), .lit (.int .u8 24), .lit (.int .u8 18), .lit (.int .u8 12), .lit (.int .u8 5), .lit (.int .u8 63), .lit (.int .u8 55), .lit (.int .u8 48), .lit (.int .u8 27), .lit (.int .u8 60), .lit (.int .u8 41), .lit (.int .u8 37), .lit (.int .u8 16), .lit (.int .u8 46), .lit (.int .u8 35), .lit (.int .u8 44), .lit (.int .u8 21), .lit (.int .u8 52), .lit (.int .u8 32), .lit (.int .u8 23), .lit (.int .u8 11), .lit (.int .u8 54), .lit (.int .u8 26), .lit (.int .u8 40), .lit (.int .u8 15), .lit (.int .u8 34), .lit (.int .u8 20), .lit (.int .u8 31), .lit (.int .u8 10), .lit (.int .u8 25), .lit (.int .u8 14), .lit (.int .u8 19), .lit (.int .u8 9), .lit (.int .u8 13), .lit (.int .u8 8), .lit (.int .u8 7), .lit (.int .u8 6)]

/-- 'dowellaw29.LiaisonChecks': WHATEVER THE INPUT: true; the input reads as it did. -/
def liaisonChecksSpec : ChangeSpec := { name := "liaisonChecks", fn := fun _ => fun
  | [d1, d2] => { results := [.lit (.bool true)], args := [d1, d2] }
  | _ => none }
def liaisonChecksRow : OpenClaim := { program := "ytdpfoegcmngdfaadoor", sum := "61eeb6c36b4c5e94844ac275e2c682381f3d45f8e886cd9f3a2bbd32f963ba83", func := "dowel/dowellaw29.LiaisonChecks", spec := "liaisonChecks", unfollowed := true, recurses := true, named := ["math/bits.deBruijn32tab", "math/bits.deBruijn64tab"], apart := false, laid := [("math/bits.deBruijn32tab", laid_math_bits_deBruijn32tab), ("math/bits.deBruijn64tab", laid_math_bits_deBruijn64tab)] }
def LiaisonChecksSaid : Prop := liaisonChecksRow.holds Tryd.pinned (OpenSpec.ofChange liaisonChecksSpec)

/-- ITS FALSE NEIGHBOUR: 'it returns false'. Refute it at one input. -/
def liaisonChecksWrong : ChangeSpec := { name := "liaisonChecks", fn := fun _ => fun
  | [d1, d2] => { results := [.lit (.bool false)], args := [d1, d2] }
  | _ => none }
def LiaisonChecksWrongFalsely : Prop := liaisonChecksRow.holds Tryd.pinned (OpenSpec.ofChange liaisonChecksWrong)

/-- 'dowellaw29.LiaisonConnects': WHATEVER THE INPUT: true; the input reads as it did. -/
def liaisonConnectsSpec : ChangeSpec := { name := "liaisonConnects", fn := fun _ => fun
  | [d1, d2] => { results := [.lit (.bool true)], args := [d1, d2] }
  | _ => none }
def liaisonConnectsRow : OpenClaim := { program := "ytdpfoegcmngdfaadoor", sum := "61eeb6c36b4c5e94844ac275e2c682381f3d45f8e886cd9f3a2bbd32f963ba83", func := "dowel/dowellaw29.LiaisonConnects", spec := "liaisonConnects", unfollowed := true, recurses := true, named := ["math/bits.deBruijn32tab", "math/bits.deBruijn64tab"], apart := false, laid := [("math/bits.deBruijn32tab", laid_math_bits_deBruijn32tab), ("math/bits.deBruijn64tab", laid_math_bits_deBruijn64tab)] }
def LiaisonConnectsSaid : Prop := liaisonConnectsRow.holds Tryd.pinned (OpenSpec.ofChange liaisonConnectsSpec)

/-- ITS FALSE NEIGHBOUR: 'it returns false'. Refute it at one input. -/
def liaisonConnectsWrong : ChangeSpec := { name := "liaisonConnects", fn := fun _ => fun
  | [d1, d2] => { results := [.lit (.bool false)], args := [d1, d2] }
  | _ => none }
def LiaisonConnectsWrongFalsely : Prop := liaisonConnectsRow.holds Tryd.pinned (OpenSpec.ofChange liaisonConnectsWrong)

/-- 'dowellaw29.LiaisonSubsets': WHATEVER THE INPUT: true; the input reads as it did. -/
def liaisonSubsetsSpec : ChangeSpec := { name := "liaisonSubsets", fn := fun _ => fun
  | [d1, d2, d3] => { results := [.lit (.bool true)], args := [d1, d2, d3] }
  | _ => none }
def liaisonSubsetsRow : OpenClaim := { program := "ytdpfoegcmngdfaadoor", sum := "61eeb6c36b4c5e94844ac275e2c682381f3d45f8e886cd9f3a2bbd32f963ba83", func := "dowel/dowellaw29.LiaisonSubsets", spec := "liaisonSubsets", unfollowed := true, recurses := true, named := ["math/bits.deBruijn32tab", "math/bits.deBruijn64tab"], apart := false, laid := [("math/bits.deBruijn32tab", laid_math_bits_deBruijn32tab), ("math/bits.deBruijn64tab", laid_math_bits_deBruijn64tab)] }
def LiaisonSubsetsSaid : Prop := liaisonSubsetsRow.holds Tryd.pinned (OpenSpec.ofChange liaisonSubsetsSpec)

/-- ITS FALSE NEIGHBOUR: 'it returns false'. Refute it at one input. -/
def liaisonSubsetsWrong : ChangeSpec := { name := "liaisonSubsets", fn := fun _ => fun
  | [d1, d2, d3] => { results := [.lit (.bool false)], args := [d1, d2, d3] }
  | _ => none }
def LiaisonSubsetsWrongFalsely : Prop := liaisonSubsetsRow.holds Tryd.pinned (OpenSpec.ofChange liaisonSubsetsWrong)

/-- 'dowellaw29.LiaisonCuts': WHATEVER THE INPUT: true; the input reads as it did. -/
def liaisonCutsSpec : ChangeSpec := { name := "liaisonCuts", fn := fun _ => fun
  | [d1, d2] => { results := [.lit (.bool true)], args := [d1, d2] }
  | _ => none }
def liaisonCutsRow : OpenClaim := { program := "ytdpfoegcmngdfaadoor", sum := "61eeb6c36b4c5e94844ac275e2c682381f3d45f8e886cd9f3a2bbd32f963ba83", func := "dowel/dowellaw29.LiaisonCuts", spec := "liaisonCuts", unfollowed := true, recurses := true, named := ["math/bits.deBruijn32tab", "math/bits.deBruijn64tab"], apart := false, laid := [("math/bits.deBruijn32tab", laid_math_bits_deBruijn32tab), ("math/bits.deBruijn64tab", laid_math_bits_deBruijn64tab)] }
def LiaisonCutsSaid : Prop := liaisonCutsRow.holds Tryd.pinned (OpenSpec.ofChange liaisonCutsSpec)

/-- ITS FALSE NEIGHBOUR: 'it returns false'. Refute it at one input. -/
def liaisonCutsWrong : ChangeSpec := { name := "liaisonCuts", fn := fun _ => fun
  | [d1, d2] => { results := [.lit (.bool false)], args := [d1, d2] }
  | _ => none }
def LiaisonCutsWrongFalsely : Prop := liaisonCutsRow.holds Tryd.pinned (OpenSpec.ofChange liaisonCutsWrong)

/-- 'dowellaw29.LiaisonGroups': WHATEVER THE INPUT: true; the input reads as it did. -/
def liaisonGroupsSpec : ChangeSpec := { name := "liaisonGroups", fn := fun _ => fun
  | [d1, d2, d3] => { results := [.lit (.bool true)], args := [d1, d2, d3] }
  | _ => none }
def liaisonGroupsRow : OpenClaim := { program := "ytdpfoegcmngdfaadoor", sum := "61eeb6c36b4c5e94844ac275e2c682381f3d45f8e886cd9f3a2bbd32f963ba83", func := "dowel/dowellaw29.LiaisonGroups", spec := "liaisonGroups", unfollowed := true, recurses := true, named := ["math/bits.deBruijn32tab", "math/bits.deBruijn64tab"], apart := false, laid := [("math/bits.deBruijn32tab", laid_math_bits_deBruijn32tab), ("math/bits.deBruijn64tab", laid_math_bits_deBruijn64tab)] }
def LiaisonGroupsSaid : Prop := liaisonGroupsRow.holds Tryd.pinned (OpenSpec.ofChange liaisonGroupsSpec)

/-- ITS FALSE NEIGHBOUR: 'it returns false'. Refute it at one input. -/
def liaisonGroupsWrong : ChangeSpec := { name := "liaisonGroups", fn := fun _ => fun
  | [d1, d2, d3] => { results := [.lit (.bool false)], args := [d1, d2, d3] }
  | _ => none }
def LiaisonGroupsWrongFalsely : Prop := liaisonGroupsRow.holds Tryd.pinned (OpenSpec.ofChange liaisonGroupsWrong)

/-- 'dowellaw29.LiaisonLoose': WHATEVER THE INPUT: true; the input reads as it did. -/
def liaisonLooseSpec : ChangeSpec := { name := "liaisonLoose", fn := fun _ => fun
  | [d1, d2] => { results := [.lit (.bool true)], args := [d1, d2] }
  | _ => none }
def liaisonLooseRow : OpenClaim := { program := "ytdpfoegcmngdfaadoor", sum := "61eeb6c36b4c5e94844ac275e2c682381f3d45f8e886cd9f3a2bbd32f963ba83", func := "dowel/dowellaw29.LiaisonLoose", spec := "liaisonLoose", unfollowed := true, recurses := true, named := ["math/bits.deBruijn32tab", "math/bits.deBruijn64tab"], apart := false, laid := [("math/bits.deBruijn32tab", laid_math_bits_deBruijn32tab), ("math/bits.deBruijn64tab", laid_math_bits_deBruijn64tab)] }
def LiaisonLooseSaid : Prop := liaisonLooseRow.holds Tryd.pinned (OpenSpec.ofChange liaisonLooseSpec)

/-- ITS FALSE NEIGHBOUR: 'it returns false'. Refute it at one input. -/
def liaisonLooseWrong : ChangeSpec := { name := "liaisonLoose", fn := fun _ => fun
  | [d1, d2] => { results := [.lit (.bool false)], args := [d1, d2] }
  | _ => none }
def LiaisonLooseWrongFalsely : Prop := liaisonLooseRow.holds Tryd.pinned (OpenSpec.ofChange liaisonLooseWrong)

/-- 'dowellaw29.LiaisonDivides': WHATEVER THE INPUT: true; the input reads as it did. -/
def liaisonDividesSpec : ChangeSpec := { name := "liaisonDivides", fn := fun _ => fun
  | [d1, d2] => { results := [.lit (.bool true)], args := [d1, d2] }
  | _ => none }
def liaisonDividesRow : OpenClaim := { program := "ytdpfoegcmngdfaadoor", sum := "61eeb6c36b4c5e94844ac275e2c682381f3d45f8e886cd9f3a2bbd32f963ba83", func := "dowel/dowellaw29.LiaisonDivides", spec := "liaisonDivides", unfollowed := true, recurses := true, named := ["math/bits.deBruijn32tab", "math/bits.deBruijn64tab"], apart := false, laid := [("math/bits.deBruijn32tab", laid_math_bits_deBruijn32tab), ("math/bits.deBruijn64tab", laid_math_bits_deBruijn64tab)] }
def LiaisonDividesSaid : Prop := liaisonDividesRow.holds Tryd.pinned (OpenSpec.ofChange liaisonDividesSpec)

/-- ITS FALSE NEIGHBOUR: 'it returns false'. Refute it at one input. -/
def liaisonDividesWrong : ChangeSpec := { name := "liaisonDivides", fn := fun _ => fun
  | [d1, d2] => { results := [.lit (.bool false)], args := [d1, d2] }
  | _ => none }
def LiaisonDividesWrongFalsely : Prop := liaisonDividesRow.holds Tryd.pinned (OpenSpec.ofChange liaisonDividesWrong)

/- THE SECOND FORM. 'bulk': how many values and letters a reading holds, each counted each time it is reached (what is shared counts as often as it is met; a slice's spare places count too). A statement '..UptoSaid' is the law's where the arguments, and the package variables that the reading takes, are together of bulk at most 1048576: NARROWER than '..Said'. Prove '..Said' where nothing that the law and all that it calls make is longer than what came in: it says more and counts as full. Else prove '..UptoSaid'. A law counts once. -/
mutual
def uptoBulk {H : Type} : DataW H → Nat
  | .lit (.string bytes) => bytes.length + 1
  | .lit _ => 1
  | .nil => 1
  | .ptr d => uptoBulk d + 1
  | .slice elems spare => uptoBulkAll elems + uptoBulkAll spare + 1
  | .agg parts => uptoBulkAll parts + 1
  | .iface _ d => uptoBulk d + 1
  | .map entries => uptoBulkEntries entries + 1
  | .held _ => 1
def uptoBulkAll {H : Type} : List (DataW H) → Nat
  | [] => 0
  | d :: r => uptoBulk d + uptoBulkAll r
def uptoBulkEntries {H : Type} : List (Lit × DataW H) → Nat
  | [] => 0
  | x :: r => uptoBulkEntry x + uptoBulkEntries r
def uptoBulkEntry {H : Type} : Lit × DataW H → Nat
  | (.string bytes, d) => bytes.length + uptoBulk d + 1
  | (_, d) => uptoBulk d + 1
 end
def uptoSmall : (H : Type) → List (DataW H) → Bool := fun _ ds => decide (uptoBulkAll ds ≤ 1048576)
def OpenSpec.upto (s : _root_.Go.ChangeSpec) : _root_.Go.OpenSpec := { _root_.Go.OpenSpec.ofChange s with cond := some uptoSmall }

/-- 'dowellaw29.LiaisonChecks', WHERE WHAT IT READS IS OF BULK AT MOST 1048576: true; the input reads as it did. -/
def liaisonChecksUptoRow : OpenClaim := { program := "ytdpfoegcmngdfaadoor", sum := "61eeb6c36b4c5e94844ac275e2c682381f3d45f8e886cd9f3a2bbd32f963ba83", func := "dowel/dowellaw29.LiaisonChecks", spec := "liaisonChecks", unfollowed := true, recurses := true, named := ["math/bits.deBruijn32tab", "math/bits.deBruijn64tab"], apart := false, laid := [("math/bits.deBruijn32tab", laid_math_bits_deBruijn32tab), ("math/bits.deBruijn64tab", laid_math_bits_deBruijn64tab)], narrowed := true }
def LiaisonChecksUptoSaid : Prop := liaisonChecksUptoRow.holds Tryd.pinned (OpenSpec.upto liaisonChecksSpec)

/-- 'dowellaw29.LiaisonConnects', WHERE WHAT IT READS IS OF BULK AT MOST 1048576: true; the input reads as it did. -/
def liaisonConnectsUptoRow : OpenClaim := { program := "ytdpfoegcmngdfaadoor", sum := "61eeb6c36b4c5e94844ac275e2c682381f3d45f8e886cd9f3a2bbd32f963ba83", func := "dowel/dowellaw29.LiaisonConnects", spec := "liaisonConnects", unfollowed := true, recurses := true, named := ["math/bits.deBruijn32tab", "math/bits.deBruijn64tab"], apart := false, laid := [("math/bits.deBruijn32tab", laid_math_bits_deBruijn32tab), ("math/bits.deBruijn64tab", laid_math_bits_deBruijn64tab)], narrowed := true }
def LiaisonConnectsUptoSaid : Prop := liaisonConnectsUptoRow.holds Tryd.pinned (OpenSpec.upto liaisonConnectsSpec)

/-- 'dowellaw29.LiaisonSubsets', WHERE WHAT IT READS IS OF BULK AT MOST 1048576: true; the input reads as it did. -/
def liaisonSubsetsUptoRow : OpenClaim := { program := "ytdpfoegcmngdfaadoor", sum := "61eeb6c36b4c5e94844ac275e2c682381f3d45f8e886cd9f3a2bbd32f963ba83", func := "dowel/dowellaw29.LiaisonSubsets", spec := "liaisonSubsets", unfollowed := true, recurses := true, named := ["math/bits.deBruijn32tab", "math/bits.deBruijn64tab"], apart := false, laid := [("math/bits.deBruijn32tab", laid_math_bits_deBruijn32tab), ("math/bits.deBruijn64tab", laid_math_bits_deBruijn64tab)], narrowed := true }
def LiaisonSubsetsUptoSaid : Prop := liaisonSubsetsUptoRow.holds Tryd.pinned (OpenSpec.upto liaisonSubsetsSpec)

/-- 'dowellaw29.LiaisonCuts', WHERE WHAT IT READS IS OF BULK AT MOST 1048576: true; the input reads as it did. -/
def liaisonCutsUptoRow : OpenClaim := { program := "ytdpfoegcmngdfaadoor", sum := "61eeb6c36b4c5e94844ac275e2c682381f3d45f8e886cd9f3a2bbd32f963ba83", func := "dowel/dowellaw29.LiaisonCuts", spec := "liaisonCuts", unfollowed := true, recurses := true, named := ["math/bits.deBruijn32tab", "math/bits.deBruijn64tab"], apart := false, laid := [("math/bits.deBruijn32tab", laid_math_bits_deBruijn32tab), ("math/bits.deBruijn64tab", laid_math_bits_deBruijn64tab)], narrowed := true }
def LiaisonCutsUptoSaid : Prop := liaisonCutsUptoRow.holds Tryd.pinned (OpenSpec.upto liaisonCutsSpec)

/-- 'dowellaw29.LiaisonGroups', WHERE WHAT IT READS IS OF BULK AT MOST 1048576: true; the input reads as it did. -/
def liaisonGroupsUptoRow : OpenClaim := { program := "ytdpfoegcmngdfaadoor", sum := "61eeb6c36b4c5e94844ac275e2c682381f3d45f8e886cd9f3a2bbd32f963ba83", func := "dowel/dowellaw29.LiaisonGroups", spec := "liaisonGroups", unfollowed := true, recurses := true, named := ["math/bits.deBruijn32tab", "math/bits.deBruijn64tab"], apart := false, laid := [("math/bits.deBruijn32tab", laid_math_bits_deBruijn32tab), ("math/bits.deBruijn64tab", laid_math_bits_deBruijn64tab)], narrowed := true }
def LiaisonGroupsUptoSaid : Prop := liaisonGroupsUptoRow.holds Tryd.pinned (OpenSpec.upto liaisonGroupsSpec)

/-- 'dowellaw29.LiaisonLoose', WHERE WHAT IT READS IS OF BULK AT MOST 1048576: true; the input reads as it did. -/
def liaisonLooseUptoRow : OpenClaim := { program := "ytdpfoegcmngdfaadoor", sum := "61eeb6c36b4c5e94844ac275e2c682381f3d45f8e886cd9f3a2bbd32f963ba83", func := "dowel/dowellaw29.LiaisonLoose", spec := "liaisonLoose", unfollowed := true, recurses := true, named := ["math/bits.deBruijn32tab", "math/bits.deBruijn64tab"], apart := false, laid := [("math/bits.deBruijn32tab", laid_math_bits_deBruijn32tab), ("math/bits.deBruijn64tab", laid_math_bits_deBruijn64tab)], narrowed := true }
def LiaisonLooseUptoSaid : Prop := liaisonLooseUptoRow.holds Tryd.pinned (OpenSpec.upto liaisonLooseSpec)

/-- 'dowellaw29.LiaisonDivides', WHERE WHAT IT READS IS OF BULK AT MOST 1048576: true; the input reads as it did. -/
def liaisonDividesUptoRow : OpenClaim := { program := "ytdpfoegcmngdfaadoor", sum := "61eeb6c36b4c5e94844ac275e2c682381f3d45f8e886cd9f3a2bbd32f963ba83", func := "dowel/dowellaw29.LiaisonDivides", spec := "liaisonDivides", unfollowed := true, recurses := true, named := ["math/bits.deBruijn32tab", "math/bits.deBruijn64tab"], apart := false, laid := [("math/bits.deBruijn32tab", laid_math_bits_deBruijn32tab), ("math/bits.deBruijn64tab", laid_math_bits_deBruijn64tab)], narrowed := true }
def LiaisonDividesUptoSaid : Prop := liaisonDividesUptoRow.holds Tryd.pinned (OpenSpec.upto liaisonDividesSpec)

end Rows
end Go.Proofs.YtdpfoegcmngdfaaDoor
