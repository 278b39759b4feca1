/-
  NARROWER THAN 'FOR EVERY INPUT', by the rows' own cells (each row's printed sentence says how): TwistParses: laid · TwistVelocities: laid · TwistPowers: laid · TwistRows: laid · TwistMoves: laid · TwistKeeps: laid · TwistAxes: laid · TwistTurns: laid · TwistScales: laid · TwistRigid: laid.
  DERIVED. THE GIVEN ROWS OF THIS SEAT. 10 by the template 'for every input the law returns true; each argument reads behind the call as it read before'; 0 by the template 'total and deterministic' (their statements: YthhobhjcnmmipaaGreatDoorTotals.lean).
  GIVEN WITH THE SEED: the statements are not yours to turn. If you find one false, say at which input.
  Laid BY PROGRAM, IN A SANDBOX (cutbox-rows.mjs): the forced cells as the released guide's own fill.sh prints them over the translation a77ba9a1cfd5b8e4… (all of the seat's roots in one cut). By AI agents, Wed Nov 11 2026. No macro, syntax, notation, axiom, sorry.
-/
import Derived.Test.YthhobhjcnmmipaaGreatDoorChecked
import GoSem.PinnedTables
import GoSem.Claim
import GoSem.ClaimJoined
import GoSem.ClaimMapViews
import Derived.JoinedTies
import Derived.KernelRfl
namespace Go.Proofs.YthhobhjcnmmipaaGreatDoor
/- THE CELL 'sum', in the pinned program and in every row, IS THE sha256 OF THE DUMP (.gsa) THAT YthhobhjcnmmipaaGreatDoorProg.lean LOADS. Nothing in Lean hashes anything: it is a label: what it is worth is what the hold of that sum in a sandbox is worth. -/
noncomputable def Tryz.pinned : Pinned := { name := "ythhobhjcnmmipaagreatdoor", sum := "a77ba9a1cfd5b8e41bf272b202f1147c160878ec2a4e9367cc51548e6526c53f", checked := Tryz.checked }
namespace Rows
def none {H : Type} : Left H := { results := [], args := [] }

/- WHAT THE LISTED PACKAGE-LEVEL VARIABLES READ AS WHEN THE CALL BEGINS. Each datum BY PROGRAM (the guide's laid-datum.mjs) off the statement by which the dump's own 'gosem.cut.vars' lays the variable. In a bare row this is a premise. The card (YthhobhjcnmmipaaGreatDoorCards.lean) ties it to the program's text. -/
def laid_math_bits_deBruijn32tab {H : Type} : DataW H := .agg [.lit (.int .u8 0), .lit (.int .u8 1), .lit (.int .u8 28), .lit (.int .u8 2), .lit (.int .u8 29), .lit (.int .u8 14), .lit (.int .u8 24), .lit (.int .u8 3), .lit (.int .u8 30), .lit (.int .u8 22), .lit (.int .u8 20), .lit (.int .u8 15), .lit (.int .u8 25), .lit (.int .u8 17), .lit (.int .u8 4), .lit (.int .u8 8), .lit (.int .u8 31), .lit (.int .u8 27), .lit (.int .u8 13), .lit (.int .u8 23), .lit (.int .u8 21), .lit (.int .u8 19), .lit (.int .u8 16), .lit (.int .u8 7), .lit (.int .u8 26), .lit (.int .u8 12), .lit (.int .u8 18), .lit (.int .u8 6), .lit (.int .u8 11), .lit (.int .u8 5), .lit (.int .u8 10), .lit (.int .u8 9)]
def laid_math_bits_deBruijn64tab {H : Type} : DataW H := .agg [.lit (.int .u8 0), .lit (.int .u8 1), .lit (.int .u8 56), .lit (.int .u8 2), .lit (.int .u8 57), .lit (.int .u8 49), .lit (.int .u8 28), .lit (.int .u8 3), .lit (.int .u8 61), .lit (.int .u8 58), .lit (.int .u8 42), .lit (.int .u8 50), .lit (.int .u8 38), .lit (.int .u8 29), .lit (.int .u8 17), .lit (.int .u8 4), .lit (.int .u8 62), .lit (.int .u8 47), .lit (.int .u8 59), .lit (.int .u8 36), .lit (.int .u8 45), .lit (.int .u8 43), .lit (.int .u8 51), .lit (.int .u8 22), .lit (.int .u8 53), .lit (.int .u8 39), .lit (.int .u8 33), .lit (.int .u8 30), .lit (.int .u8 24), .lit (.int .u8 18), .lit (.int .u8 12), .lit (.int .u8 5), .lit (.int .u8 63), .lit (.int .u8 55), .lit (.int .u8 48), .lit (.int .u8 27), .lit (.int .u8 60), .lit (.int .u8 41), .lit (.int .u8 37), .lit (.int .u8 16), .lit (.int .u8 46), .lit (.int .u8 35), .lit (.int .u8 44), .lit (.int .u8 21), .lit (.int .u8 52), .lit (.int .u8 32), .lit (.int .u8 23), .lit (.int .u8 11), .lit (.int .u8 54), .lit (.int .u8 26), .lit (.int .u8 40), .lit (.int .u8 15), .lit (.int .u8 34), .lit (.int .u8 20), .lit (.int .u8 31), .lit (.int .u8 10), .lit (.int .u8 25), .lit (.int .u8 14), .lit (.int .u8 19), .lit (.int .u8 9), .lit (.int .u8 13), .lit (.int .u8 8), .lit (.int .u8 7), .lit (.int .u8 6)]
def laid_internal_strconv_uint64pow10 {H : Type} : DataW H := .agg [.lit (.int .u64 1), .lit (.int .u64 10), .lit (.int .u64 100), .lit (.int .u64 1000), .lit (.int .u64 10000), .lit (.int .u64 100000), .lit (.int .u64 1000000), .lit (.int .u64 10000000), .lit (.int .u64 100000000), .lit (.int .u64 1000000000), .lit (.int .u64 10000000000), .lit (.int .u64 100000000000), .lit (.int .u64 1000000000000), .lit (.int .u64 10000000000000), .lit (.int .u64 100000000000000), .lit (.int .u64 1000000000000000), .lit (.int .u64 10000000000000000), .lit (.int .u64 100000000000000000), .lit (.int .u64 1000000000000000000), .lit (.int .u64 10000000000000000000)]
def laid_unicode_utf8_acceptRanges {H : Type} : DataW H := .agg [.agg [.lit (.int .u8 128), .lit (.int .u8 191)], .agg [.lit (.int .u8 160), .lit (.int .u8 191)], .agg [.lit (.int .u8 128), .lit (.int .u8 159)], .agg [.lit (.int .u8 144), .lit (.int .u8 191)], .agg [.lit (.int .u8 128), .lit (.int .u8 143)], .agg [.lit (.int .u8 0), .lit (.int .u8 0)], .agg [.lit (.int .u8 0), .lit (.int .u8 0)], .agg [.lit (.int .u8 0), .lit (.int .u8 0)], .agg [.lit (.int .u8 0), .lit (.int .u8 0)], .agg [.lit (.int .u8 0), .lit (.int .u8 0)], .agg [.lit (.int .u8 0), .lit (.int .u8 0)], .agg [.lit (.int .u8 0), .lit (.int .u8 0)], .agg [.lit (.int .u8 0), .lit (.int .u8 0)], .agg [.lit (.int .u8 0), .lit (.int .u8 0)], .agg [.lit (.int .u8 0), .lit (.int .u8 0)], .agg [.lit (.int .u8 0), .lit (.int .u8 0)]]
/-- One of Go's own tables, pinned by name: the form's constant. -/
def laid_unicode_utf8_first : DataW Unit := Go.Pinned.utf8First

/-- 'dowellaw17.TwistParses': WHATEVER THE INPUT: true; the input reads as it did. -/
def twistParsesSpec : ChangeSpec := { name := "twistParses", fn := fun _ => fun
  | [d] => { results := [.lit (.bool true)], args := [d] }
  | _ => none }
def twistParsesRow : OpenClaim := { program := "ythhobhjcnmmipaagreatdoor", sum := "a77ba9a1cfd5b8e41bf272b202f1147c160878ec2a4e9367cc51548e6526c53f", func := "dowel/dowellaw17.TwistParses", spec := "twistParses", inPlace := ["math/bits.Add64", "math/bits.Sub64", "internal/bytealg.IndexByteString", "internal/bytealg.IndexString"], unfollowed := true, recurses := true, named := ["math/bits.deBruijn64tab", "math/bits.divideError", "math/bits.overflowError", "internal/strconv.uint64pow10", "math/bits.deBruijn32tab", "internal/bytealg.MaxLen", "unicode/utf8.first", "unicode/utf8.acceptRanges"], apart := false, laid := [("math/bits.deBruijn32tab", laid_math_bits_deBruijn32tab), ("math/bits.deBruijn64tab", laid_math_bits_deBruijn64tab), ("internal/strconv.uint64pow10", laid_internal_strconv_uint64pow10), ("unicode/utf8.acceptRanges", laid_unicode_utf8_acceptRanges), ("unicode/utf8.first", laid_unicode_utf8_first)] }
def TwistParsesSaid : Prop := twistParsesRow.holds Tryz.pinned (OpenSpec.ofChange twistParsesSpec)

/-- ITS FALSE NEIGHBOUR: 'it returns false'. Refute it at one input. -/
def twistParsesWrong : ChangeSpec := { name := "twistParses", fn := fun _ => fun
  | [d] => { results := [.lit (.bool false)], args := [d] }
  | _ => none }
def TwistParsesWrongFalsely : Prop := twistParsesRow.holds Tryz.pinned (OpenSpec.ofChange twistParsesWrong)

/-- 'dowellaw17.TwistVelocities': WHATEVER THE INPUT: true; the input reads as it did. -/
def twistVelocitiesSpec : ChangeSpec := { name := "twistVelocities", fn := fun _ => fun
  | [d1, d2] => { results := [.lit (.bool true)], args := [d1, d2] }
  | _ => none }
def twistVelocitiesRow : OpenClaim := { program := "ythhobhjcnmmipaagreatdoor", sum := "a77ba9a1cfd5b8e41bf272b202f1147c160878ec2a4e9367cc51548e6526c53f", func := "dowel/dowellaw17.TwistVelocities", spec := "twistVelocities", inPlace := ["math/bits.Add64", "math/bits.Sub64"], unfollowed := true, recurses := true, named := ["math/bits.deBruijn64tab", "math/bits.divideError", "math/bits.overflowError", "internal/strconv.uint64pow10", "math/bits.deBruijn32tab"], apart := false, laid := [("math/bits.deBruijn32tab", laid_math_bits_deBruijn32tab), ("math/bits.deBruijn64tab", laid_math_bits_deBruijn64tab), ("internal/strconv.uint64pow10", laid_internal_strconv_uint64pow10)] }
def TwistVelocitiesSaid : Prop := twistVelocitiesRow.holds Tryz.pinned (OpenSpec.ofChange twistVelocitiesSpec)

/-- ITS FALSE NEIGHBOUR: 'it returns false'. Refute it at one input. -/
def twistVelocitiesWrong : ChangeSpec := { name := "twistVelocities", fn := fun _ => fun
  | [d1, d2] => { results := [.lit (.bool false)], args := [d1, d2] }
  | _ => none }
def TwistVelocitiesWrongFalsely : Prop := twistVelocitiesRow.holds Tryz.pinned (OpenSpec.ofChange twistVelocitiesWrong)

/-- 'dowellaw17.TwistPowers': WHATEVER THE INPUT: true; the input reads as it did. -/
def twistPowersSpec : ChangeSpec := { name := "twistPowers", fn := fun _ => fun
  | [d1, d2, d3] => { results := [.lit (.bool true)], args := [d1, d2, d3] }
  | _ => none }
def twistPowersRow : OpenClaim := { program := "ythhobhjcnmmipaagreatdoor", sum := "a77ba9a1cfd5b8e41bf272b202f1147c160878ec2a4e9367cc51548e6526c53f", func := "dowel/dowellaw17.TwistPowers", spec := "twistPowers", inPlace := ["math/bits.Add64", "math/bits.Sub64"], unfollowed := true, recurses := true, named := ["math/bits.deBruijn64tab", "math/bits.divideError", "math/bits.overflowError", "internal/strconv.uint64pow10", "math/bits.deBruijn32tab"], apart := false, laid := [("math/bits.deBruijn32tab", laid_math_bits_deBruijn32tab), ("math/bits.deBruijn64tab", laid_math_bits_deBruijn64tab), ("internal/strconv.uint64pow10", laid_internal_strconv_uint64pow10)] }
def TwistPowersSaid : Prop := twistPowersRow.holds Tryz.pinned (OpenSpec.ofChange twistPowersSpec)

/-- ITS FALSE NEIGHBOUR: 'it returns false'. Refute it at one input. -/
def twistPowersWrong : ChangeSpec := { name := "twistPowers", fn := fun _ => fun
  | [d1, d2, d3] => { results := [.lit (.bool false)], args := [d1, d2, d3] }
  | _ => none }
def TwistPowersWrongFalsely : Prop := twistPowersRow.holds Tryz.pinned (OpenSpec.ofChange twistPowersWrong)

/-- 'dowellaw17.TwistRows': WHATEVER THE INPUT: true; the input reads as it did. -/
def twistRowsSpec : ChangeSpec := { name := "twistRows", fn := fun _ => fun
  | [d1, d2, d3] => { results := [.lit (.bool true)], args := [d1, d2, d3] }
  | _ => none }
def twistRowsRow : OpenClaim := { program := "ythhobhjcnmmipaagreatdoor", sum := "a77ba9a1cfd5b8e41bf272b202f1147c160878ec2a4e9367cc51548e6526c53f", func := "dowel/dowellaw17.TwistRows", spec := "twistRows", inPlace := ["math/bits.Add64", "math/bits.Sub64"], unfollowed := true, recurses := true, named := ["math/bits.deBruijn64tab", "math/bits.divideError", "math/bits.overflowError", "internal/strconv.uint64pow10", "math/bits.deBruijn32tab"], apart := false, laid := [("math/bits.deBruijn32tab", laid_math_bits_deBruijn32tab), ("math/bits.deBruijn64tab", laid_math_bits_deBruijn64tab), ("internal/strconv.uint64pow10", laid_internal_strconv_uint64pow10)] }
def TwistRowsSaid : Prop := twistRowsRow.holds Tryz.pinned (OpenSpec.ofChange twistRowsSpec)

/-- ITS FALSE NEIGHBOUR: 'it returns false'. Refute it at one input. -/
def twistRowsWrong : ChangeSpec := { name := "twistRows", fn := fun _ => fun
  | [d1, d2, d3] => { results := [.lit (.bool false)], args := [d1, d2, d3] }
  | _ => none }
def TwistRowsWrongFalsely : Prop := twistRowsRow.holds Tryz.pinned (OpenSpec.ofChange twistRowsWrong)

/-- 'dowellaw17.TwistMoves': WHATEVER THE INPUT: true; the input reads as it did. -/
def twistMovesSpec : ChangeSpec := { name := "twistMoves", fn := fun _ => fun
  | [d1, d2, d3] => { results := [.lit (.bool true)], args := [d1, d2, d3] }
  | _ => none }
def twistMovesRow : OpenClaim := { program := "ythhobhjcnmmipaagreatdoor", sum := "a77ba9a1cfd5b8e41bf272b202f1147c160878ec2a4e9367cc51548e6526c53f", func := "dowel/dowellaw17.TwistMoves", spec := "twistMoves", inPlace := ["math/bits.Add64", "math/bits.Sub64", "internal/bytealg.IndexByteString", "internal/bytealg.IndexString"], unfollowed := true, recurses := true, named := ["math/bits.deBruijn64tab", "math/bits.divideError", "math/bits.overflowError", "internal/strconv.uint64pow10", "math/bits.deBruijn32tab", "internal/bytealg.MaxLen", "unicode/utf8.first", "unicode/utf8.acceptRanges"], apart := false, laid := [("math/bits.deBruijn32tab", laid_math_bits_deBruijn32tab), ("math/bits.deBruijn64tab", laid_math_bits_deBruijn64tab), ("internal/strconv.uint64pow10", laid_internal_strconv_uint64pow10), ("unicode/utf8.acceptRanges", laid_unicode_utf8_acceptRanges), ("unicode/utf8.first", laid_unicode_utf8_first)] }
def TwistMovesSaid : Prop := twistMovesRow.holds Tryz.pinned (OpenSpec.ofChange twistMovesSpec)

/-- ITS FALSE NEIGHBOUR: 'it returns false'. Refute it at one input. -/
def twistMovesWrong : ChangeSpec := { name := "twistMoves", fn := fun _ => fun
  | [d1, d2, d3] => { results := [.lit (.bool false)], args := [d1, d2, d3] }
  | _ => none }
def TwistMovesWrongFalsely : Prop := twistMovesRow.holds Tryz.pinned (OpenSpec.ofChange twistMovesWrong)

/-- 'dowellaw17.TwistKeeps': WHATEVER THE INPUT: true; the input reads as it did. -/
def twistKeepsSpec : ChangeSpec := { name := "twistKeeps", fn := fun _ => fun
  | [d1, d2, d3] => { results := [.lit (.bool true)], args := [d1, d2, d3] }
  | _ => none }
def twistKeepsRow : OpenClaim := { program := "ythhobhjcnmmipaagreatdoor", sum := "a77ba9a1cfd5b8e41bf272b202f1147c160878ec2a4e9367cc51548e6526c53f", func := "dowel/dowellaw17.TwistKeeps", spec := "twistKeeps", inPlace := ["math/bits.Add64", "math/bits.Sub64", "internal/bytealg.IndexByteString", "internal/bytealg.IndexString"], unfollowed := true, recurses := true, named := ["math/bits.deBruijn64tab", "math/bits.divideError", "math/bits.overflowError", "internal/strconv.uint64pow10", "math/bits.deBruijn32tab", "internal/bytealg.MaxLen", "unicode/utf8.first", "unicode/utf8.acceptRanges"], apart := false, laid := [("math/bits.deBruijn32tab", laid_math_bits_deBruijn32tab), ("math/bits.deBruijn64tab", laid_math_bits_deBruijn64tab), ("internal/strconv.uint64pow10", laid_internal_strconv_uint64pow10), ("unicode/utf8.acceptRanges", laid_unicode_utf8_acceptRanges), ("unicode/utf8.first", laid_unicode_utf8_first)] }
def TwistKeepsSaid : Prop := twistKeepsRow.holds Tryz.pinned (OpenSpec.ofChange twistKeepsSpec)

/-- ITS FALSE NEIGHBOUR: 'it returns false'. Refute it at one input. -/
def twistKeepsWrong : ChangeSpec := { name := "twistKeeps", fn := fun _ => fun
  | [d1, d2, d3] => { results := [.lit (.bool false)], args := [d1, d2, d3] }
  | _ => none }
def TwistKeepsWrongFalsely : Prop := twistKeepsRow.holds Tryz.pinned (OpenSpec.ofChange twistKeepsWrong)

/-- 'dowellaw17.TwistAxes': WHATEVER THE INPUT: true; the input reads as it did. -/
def twistAxesSpec : ChangeSpec := { name := "twistAxes", fn := fun _ => fun
  | [d] => { results := [.lit (.bool true)], args := [d] }
  | _ => none }
def twistAxesRow : OpenClaim := { program := "ythhobhjcnmmipaagreatdoor", sum := "a77ba9a1cfd5b8e41bf272b202f1147c160878ec2a4e9367cc51548e6526c53f", func := "dowel/dowellaw17.TwistAxes", spec := "twistAxes", inPlace := ["math/bits.Add64", "math/bits.Sub64"], unfollowed := true, recurses := true, named := ["math/bits.deBruijn64tab", "math/bits.divideError", "math/bits.overflowError", "internal/strconv.uint64pow10", "math/bits.deBruijn32tab"], apart := false, laid := [("math/bits.deBruijn32tab", laid_math_bits_deBruijn32tab), ("math/bits.deBruijn64tab", laid_math_bits_deBruijn64tab), ("internal/strconv.uint64pow10", laid_internal_strconv_uint64pow10)] }
def TwistAxesSaid : Prop := twistAxesRow.holds Tryz.pinned (OpenSpec.ofChange twistAxesSpec)

/-- ITS FALSE NEIGHBOUR: 'it returns false'. Refute it at one input. -/
def twistAxesWrong : ChangeSpec := { name := "twistAxes", fn := fun _ => fun
  | [d] => { results := [.lit (.bool false)], args := [d] }
  | _ => none }
def TwistAxesWrongFalsely : Prop := twistAxesRow.holds Tryz.pinned (OpenSpec.ofChange twistAxesWrong)

/-- 'dowellaw17.TwistTurns': WHATEVER THE INPUT: true; the input reads as it did. -/
def twistTurnsSpec : ChangeSpec := { name := "twistTurns", fn := fun _ => fun
  | [d1, d2, d3] => { results := [.lit (.bool true)], args := [d1, d2, d3] }
  | _ => none }
def twistTurnsRow : OpenClaim := { program := "ythhobhjcnmmipaagreatdoor", sum := "a77ba9a1cfd5b8e41bf272b202f1147c160878ec2a4e9367cc51548e6526c53f", func := "dowel/dowellaw17.TwistTurns", spec := "twistTurns", inPlace := ["math/bits.Add64", "math/bits.Sub64"], unfollowed := true, recurses := true, named := ["math/bits.deBruijn64tab", "math/bits.divideError", "math/bits.overflowError", "internal/strconv.uint64pow10", "math/bits.deBruijn32tab"], apart := false, laid := [("math/bits.deBruijn32tab", laid_math_bits_deBruijn32tab), ("math/bits.deBruijn64tab", laid_math_bits_deBruijn64tab), ("internal/strconv.uint64pow10", laid_internal_strconv_uint64pow10)] }
def TwistTurnsSaid : Prop := twistTurnsRow.holds Tryz.pinned (OpenSpec.ofChange twistTurnsSpec)

/-- ITS FALSE NEIGHBOUR: 'it returns false'. Refute it at one input. -/
def twistTurnsWrong : ChangeSpec := { name := "twistTurns", fn := fun _ => fun
  | [d1, d2, d3] => { results := [.lit (.bool false)], args := [d1, d2, d3] }
  | _ => none }
def TwistTurnsWrongFalsely : Prop := twistTurnsRow.holds Tryz.pinned (OpenSpec.ofChange twistTurnsWrong)

/-- 'dowellaw17.TwistScales': WHATEVER THE INPUT: true; the input reads as it did. -/
def twistScalesSpec : ChangeSpec := { name := "twistScales", fn := fun _ => fun
  | [d1, d2, d3] => { results := [.lit (.bool true)], args := [d1, d2, d3] }
  | _ => none }
def twistScalesRow : OpenClaim := { program := "ythhobhjcnmmipaagreatdoor", sum := "a77ba9a1cfd5b8e41bf272b202f1147c160878ec2a4e9367cc51548e6526c53f", func := "dowel/dowellaw17.TwistScales", spec := "twistScales", inPlace := ["math/bits.Add64", "math/bits.Sub64"], unfollowed := true, recurses := true, named := ["math/bits.deBruijn64tab", "math/bits.divideError", "math/bits.overflowError", "internal/strconv.uint64pow10", "math/bits.deBruijn32tab"], apart := false, laid := [("math/bits.deBruijn32tab", laid_math_bits_deBruijn32tab), ("math/bits.deBruijn64tab", laid_math_bits_deBruijn64tab), ("internal/strconv.uint64pow10", laid_internal_strconv_uint64pow10)] }
def TwistScalesSaid : Prop := twistScalesRow.holds Tryz.pinned (OpenSpec.ofChange twistScalesSpec)

/-- ITS FALSE NEIGHBOUR: 'it returns false'. Refute it at one input. -/
def twistScalesWrong : ChangeSpec := { name := "twistScales", fn := fun _ => fun
  | [d1, d2, d3] => { results := [.lit (.bool false)], args := [d1, d2, d3] }
  | _ => none }
def TwistScalesWrongFalsely : Prop := twistScalesRow.holds Tryz.pinned (OpenSpec.ofChange twistScalesWrong)

/-- 'dowellaw17.TwistRigid': WHATEVER THE INPUT: true; the input reads as it did. -/
def twistRigidSpec : ChangeSpec := { name := "twistRigid", fn := fun _ => fun
  | [d1, d2, d3] => { results := [.lit (.bool true)], args := [d1, d2, d3] }
  | _ => none }
def twistRigidRow : OpenClaim := { program := "ythhobhjcnmmipaagreatdoor", sum := "a77ba9a1cfd5b8e41bf272b202f1147c160878ec2a4e9367cc51548e6526c53f", func := "dowel/dowellaw17.TwistRigid", spec := "twistRigid", inPlace := ["math/bits.Add64", "math/bits.Sub64"], unfollowed := true, recurses := true, named := ["math/bits.deBruijn64tab", "math/bits.divideError", "math/bits.overflowError", "internal/strconv.uint64pow10", "math/bits.deBruijn32tab"], apart := false, laid := [("math/bits.deBruijn32tab", laid_math_bits_deBruijn32tab), ("math/bits.deBruijn64tab", laid_math_bits_deBruijn64tab), ("internal/strconv.uint64pow10", laid_internal_strconv_uint64pow10)] }
def TwistRigidSaid : Prop := twistRigidRow.holds Tryz.pinned (OpenSpec.ofChange twistRigidSpec)

/-- ITS FALSE NEIGHBOUR: 'it returns false'. Refute it at one input. -/
def twistRigidWrong : ChangeSpec := { name := "twistRigid", fn := fun _ => fun
  | [d1, d2, d3] => { results := [.lit (.bool false)], args := [d1, d2, d3] }
  | _ => none }
def TwistRigidWrongFalsely : Prop := twistRigidRow.holds Tryz.pinned (OpenSpec.ofChange twistRigidWrong)

/- THE SECOND FORM. 'bulk': how many values and letters a reading holds, each counted each time it is reached (what is shared counts as often as it is met; a slice's spare places count too). A statement '..UptoSaid' is the law's where the arguments, and the package variables that the reading takes, are together of bulk at most 1048576: NARROWER than '..Said'. Prove '..Said' where nothing that the law and all that it calls make is longer than what came in: it says more and counts as full. Else prove '..UptoSaid'. A law counts once. -/
mutual
def uptoBulk {H : Type} : DataW H → Nat
  | .lit (.string bytes) => bytes.length + 1
  | .lit _ => 1
  | .nil => 1
  | .ptr d => uptoBulk d + 1
  | .slice elems spare => uptoBulkAll elems + uptoBulkAll spare + 1
  | .agg parts => uptoBulkAll parts + 1
  | .iface _ d => uptoBulk d + 1
  | .map entries => uptoBulkEntries entries + 1
  | .held _ => 1
def uptoBulkAll {H : Type} : List (DataW H) → Nat
  | [] => 0
  | d :: r => uptoBulk d + uptoBulkAll r
def uptoBulkEntries {H : Type} : List (Lit × DataW H) → Nat
  | [] => 0
  | x :: r => uptoBulkEntry x + uptoBulkEntries r
def uptoBulkEntry {H : Type} : Lit × DataW H → Nat
  | (.string bytes, d) => bytes.length + uptoBulk d + 1
  | (_, d) => uptoBulk d + 1
 end
def uptoSmall : (H : Type) → List (DataW H) → Bool := fun _ ds => decide (uptoBulkAll ds ≤ 1048576)
def OpenSpec.upto (s : _root_.Go.ChangeSpec) : _root_.Go.OpenSpec := { _root_.Go.OpenSpec.ofChange s with cond := some uptoSmall }

/-- 'dowellaw17.TwistParses', WHERE WHAT IT READS IS OF BULK AT MOST 1048576: true; the input reads as it did. -/
def twistParsesUptoRow : OpenClaim := { program := "ythhobhjcnmmipaagreatdoor", sum := "a77ba9a1cfd5b8e41bf272b202f1147c160878ec2a4e9367cc51548e6526c53f", func := "dowel/dowellaw17.TwistParses", spec := "twistParses", inPlace := ["math/bits.Add64", "math/bits.Sub64", "internal/bytealg.IndexByteString", "internal/bytealg.IndexString"], unfollowed := true, recurses := true, named := ["math/bits.deBruijn64tab", "math/bits.divideError", "math/bits.overflowError", "internal/strconv.uint64pow10", "math/bits.deBruijn32tab", "internal/bytealg.MaxLen", "unicode/utf8.first", "unicode/utf8.acceptRanges"], apart := false, laid := [("math/bits.deBruijn32tab", laid_math_bits_deBruijn32tab), ("math/bits.deBruijn64tab", laid_math_bits_deBruijn64tab), ("internal/strconv.uint64pow10", laid_internal_strconv_uint64pow10), ("unicode/utf8.acceptRanges", laid_unicode_utf8_acceptRanges), ("unicode/utf8.first", laid_unicode_utf8_first)], narrowed := true }
def TwistParsesUptoSaid : Prop := twistParsesUptoRow.holds Tryz.pinned (OpenSpec.upto twistParsesSpec)

/-- 'dowellaw17.TwistVelocities', WHERE WHAT IT READS IS OF BULK AT MOST 1048576: true; the input reads as it did. -/
def twistVelocitiesUptoRow : OpenClaim := { program := "ythhobhjcnmmipaagreatdoor", sum := "a77ba9a1cfd5b8e41bf272b202f1147c160878ec2a4e9367cc51548e6526c53f", func := "dowel/dowellaw17.TwistVelocities", spec := "twistVelocities", inPlace := ["math/bits.Add64", "math/bits.Sub64"], unfollowed := true, recurses := true, named := ["math/bits.deBruijn64tab", "math/bits.divideError", "math/bits.overflowError", "internal/strconv.uint64pow10", "math/bits.deBruijn32tab"], apart := false, laid := [("math/bits.deBruijn32tab", laid_math_bits_deBruijn32tab), ("math/bits.deBruijn64tab", laid_math_bits_deBruijn64tab), ("internal/strconv.uint64pow10", laid_internal_strconv_uint64pow10)], narrowed := true }
def TwistVelocitiesUptoSaid : Prop := twistVelocitiesUptoRow.holds Tryz.pinned (OpenSpec.upto twistVelocitiesSpec)

/-- 'dowellaw17.TwistPowers', WHERE WHAT IT READS IS OF BULK AT MOST 1048576: true; the input reads as it did. -/
def twistPowersUptoRow : OpenClaim := { program := "ythhobhjcnmmipaagreatdoor", sum := "a77ba9a1cfd5b8e41bf272b202f1147c160878ec2a4e9367cc51548e6526c53f", func := "dowel/dowellaw17.TwistPowers", spec := "twistPowers", inPlace := ["math/bits.Add64", "math/bits.Sub64"], unfollowed := true, recurses := true, named := ["math/bits.deBruijn64tab", "math/bits.divideError", "math/bits.overflowError", "internal/strconv.uint64pow10", "math/bits.deBruijn32tab"], apart := false, laid := [("math/bits.deBruijn32tab", laid_math_bits_deBruijn32tab), ("math/bits.deBruijn64tab", laid_math_bits_deBruijn64tab), ("internal/strconv.uint64pow10", laid_internal_strconv_uint64pow10)], narrowed := true }
def TwistPowersUptoSaid : Prop := twistPowersUptoRow.holds Tryz.pinned (OpenSpec.upto twistPowersSpec)

/-- 'dowellaw17.TwistRows', WHERE WHAT IT READS IS OF BULK AT MOST 1048576: true; the input reads as it did. -/
def twistRowsUptoRow : OpenClaim := { program := "ythhobhjcnmmipaagreatdoor", sum := "a77ba9a1cfd5b8e41bf272b202f1147c160878ec2a4e9367cc51548e6526c53f", func := "dowel/dowellaw17.TwistRows", spec := "twistRows", inPlace := ["math/bits.Add64", "math/bits.Sub64"], unfollowed := true, recurses := true, named := ["math/bits.deBruijn64tab", "math/bits.divideError", "math/bits.overflowError", "internal/strconv.uint64pow10", "math/bits.deBruijn32tab"], apart := false, laid := [("math/bits.deBruijn32tab", laid_math_bits_deBruijn32tab), ("math/bits.deBruijn64tab", laid_math_bits_deBruijn64tab), ("internal/strconv.uint64pow10", laid_internal_strconv_uint64pow10)], narrowed := true }
def TwistRowsUptoSaid : Prop := twistRowsUptoRow.holds Tryz.pinned (OpenSpec.upto twistRowsSpec)

/-- 'dowellaw17.TwistMoves', WHERE WHAT IT READS IS OF BULK AT MOST 1048576: true; the input reads as it did. -/
def twistMovesUptoRow : OpenClaim := { program := "ythhobhjcnmmipaagreatdoor", sum := "a77ba9a1cfd5b8e41bf272b202f1147c160878ec2a4e9367cc51548e6526c53f", func := "dowel/dowellaw17.TwistMoves", spec := "twistMoves", inPlace := ["math/bits.Add64", "math/bits.Sub64", "internal/bytealg.IndexByteString", "internal/bytealg.IndexString"], unfollowed := true, recurses := true, named := ["math/bits.deBruijn64tab", "math/bits.divideError", "math/bits.overflowError", "internal/strconv.uint64pow10", "math/bits.deBruijn32tab", "internal/bytealg.MaxLen", "unicode/utf8.first", "unicode/utf8.acceptRanges"], apart := false, laid := [("math/bits.deBruijn32tab", laid_math_bits_deBruijn32tab), ("math/bits.deBruijn64tab", laid_math_bits_deBruijn64tab), ("internal/strconv.uint64pow10", laid_internal_strconv_uint64pow10), ("unicode/utf8.acceptRanges", laid_unicode_utf8_acceptRanges), ("unicode/utf8.first", laid_unicode_utf8_first)], narrowed := true }
def TwistMovesUptoSaid : Prop := twistMovesUptoRow.holds Tryz.pinned (OpenSpec.upto twistMovesSpec)

/-- 'dowellaw17.TwistKeeps', WHERE WHAT IT READS IS OF BULK AT MOST 1048576: true; the input reads as it did. -/
def twistKeepsUptoRow : OpenClaim := { program := "ythhobhjcnmmipaagreatdoor", sum := "a77ba9a1cfd5b8e41bf272b202f1147c160878ec2a4e9367cc51548e6526c53f", func := "dowel/dowellaw17.TwistKeeps", spec := "twistKeeps", inPlace := ["math/bits.Add64", "math/bits.Sub64", "internal/bytealg.IndexByteString", "internal/bytealg.IndexString"], unfollowed := true, recurses := true, named := ["math/bits.deBruijn64tab", "math/bits.divideError", "math/bits.overflowError", "internal/strconv.uint64pow10", "math/bits.deBruijn32tab", "internal/bytealg.MaxLen", "unicode/utf8.first", "unicode/utf8.acceptRanges"], apart := false, laid := [("math/bits.deBruijn32tab", laid_math_bits_deBruijn32tab), ("math/bits.deBruijn64tab", laid_math_bits_deBruijn64tab), ("internal/strconv.uint64pow10", laid_internal_strconv_uint64pow10), ("unicode/utf8.acceptRanges", laid_unicode_utf8_acceptRanges), ("unicode/utf8.first", laid_unicode_utf8_first)], narrowed := true }
def TwistKeepsUptoSaid : Prop := twistKeepsUptoRow.holds Tryz.pinned (OpenSpec.upto twistKeepsSpec)

/-- 'dowellaw17.TwistAxes', WHERE WHAT IT READS IS OF BULK AT MOST 1048576: true; the input reads as it did. -/
def twistAxesUptoRow : OpenClaim := { program := "ythhobhjcnmmipaagreatdoor", sum := "a77ba9a1cfd5b8e41bf272b202f1147c160878ec2a4e9367cc51548e6526c53f", func := "dowel/dowellaw17.TwistAxes", spec := "twistAxes", inPlace := ["math/bits.Add64", "math/bits.Sub64"], unfollowed := true, recurses := true, named := ["math/bits.deBruijn64tab", "math/bits.divideError", "math/bits.overflowError", "internal/strconv.uint64pow10", "math/bits.deBruijn32tab"], apart := false, laid := [("math/bits.deBruijn32tab", laid_math_bits_deBruijn32tab), ("math/bits.deBruijn64tab", laid_math_bits_deBruijn64tab), ("internal/strconv.uint64pow10", laid_internal_strconv_uint64pow10)], narrowed := true }
def TwistAxesUptoSaid : Prop := twistAxesUptoRow.holds Tryz.pinned (OpenSpec.upto twistAxesSpec)

/-- 'dowellaw17.TwistTurns', WHERE WHAT IT READS IS OF BULK AT MOST 1048576: true; the input reads as it did. -/
def twistTurnsUptoRow : OpenClaim := { program := "ythhobhjcnmmipaagreatdoor", sum := "a77ba9a1cfd5b8e41bf272b202f1147c160878ec2a4e9367cc51548e6526c53f", func := "dowel/dowellaw17.TwistTurns", spec := "twistTurns", inPlace := ["math/bits.Add64", "math/bits.Sub64"], unfollowed := true, recurses := true, named := ["math/bits.deBruijn64tab", "math/bits.divideError", "math/bits.overflowError", "internal/strconv.uint64pow10", "math/bits.deBruijn32tab"], apart := false, laid := [("math/bits.deBruijn32tab", laid_math_bits_deBruijn32tab), ("math/bits.deBruijn64tab", laid_math_bits_deBruijn64tab), ("internal/strconv.uint64pow10", laid_internal_strconv_uint64pow10)], narrowed := true }
def TwistTurnsUptoSaid : Prop := twistTurnsUptoRow.holds Tryz.pinned (OpenSpec.upto twistTurnsSpec)

/-- 'dowellaw17.TwistScales', WHERE WHAT IT READS IS OF BULK AT MOST 1048576: true; the input reads as it did. -/
def twistScalesUptoRow : OpenClaim := { program := "ythhobhjcnmmipaagreatdoor", sum := "a77ba9a1cfd5b8e41bf272b202f1147c160878ec2a4e9367cc51548e6526c53f", func := "dowel/dowellaw17.TwistScales", spec := "twistScales", inPlace := ["math/bits.Add64", "math/bits.Sub64"], unfollowed := true, recurses := true, named := ["math/bits.deBruijn64tab", "math/bits.divideError", "math/bits.overflowError", "internal/strconv.uint64pow10", "math/bits.deBruijn32tab"], apart := false, laid := [("math/bits.deBruijn32tab", laid_math_bits_deBruijn32tab), ("math/bits.deBruijn64tab", laid_math_bits_deBruijn64tab), ("internal/strconv.uint64pow10", laid_internal_strconv_uint64pow10)], narrowed := true }
def TwistScalesUptoSaid : Prop := twistScalesUptoRow.holds Tryz.pinned (OpenSpec.upto twistScalesSpec)

/-- 'dowellaw17.TwistRigid', WHERE WHAT IT READS IS OF BULK AT MOST 1048576: true; the input reads as it did. -/
def twistRigidUptoRow : OpenClaim := { program := "ythhobhjcnmmipaagreatdoor", sum := "a77ba9a1cfd5b8e41bf272b202f1147c160878ec2a4e9367cc51548e6526c53f", func := "dowel/dowellaw17.TwistRigid", spec := "twistRigid", inPlace := ["math/bits.Add64", "math/bits.Sub64"], unfollowed := true, recurses := true, named := ["math/bits.deBruijn64tab", "math/bits.divideError", "math/bits.overflowError", "internal/strconv.uint64pow10", "math/bits.deBruijn32tab"], apart := false, laid := [("math/bits.deBruijn32tab", laid_math_bits_deBruijn32tab), ("math/bits.deBruijn64tab", laid_math_bits_deBruijn64tab), ("internal/strconv.uint64pow10", laid_internal_strconv_uint64pow10)], narrowed := true }
def TwistRigidUptoSaid : Prop := twistRigidUptoRow.holds Tryz.pinned (OpenSpec.upto twistRigidSpec)

end Rows
end Go.Proofs.YthhobhjcnmmipaaGreatDoor
