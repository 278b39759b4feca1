/- Twists: what the laws share. -/
import Derived.Test.YthhobhjcnmmipaaGreatDoorSTwg
namespace Go.Proofs.YthhobhjcnmmipaaGreatDoor
open Go renaming World→JW
open Go.RowKit
theorem cf13(args : Array Value)(w : JW) : (callFunc 13 args).run Tryz.prog w = .ok (.enter 13 args) w :=by go_simp
theorem cf55(args : Array Value)(w : JW) : (callFunc 55 args).run Tryz.prog w = .ok (.enter 55 args) w :=by go_simp
theorem cf56(args : Array Value)(w : JW) : (callFunc 56 args).run Tryz.prog w = .ok (.enter 56 args) w :=by go_simp
theorem cf28(args : Array Value)(w : JW) : (callFunc 28 args).run Tryz.prog w = .ok (.enter 28 args) w :=by go_simp
theorem cf26(args : Array Value)(w : JW) : (callFunc 26 args).run Tryz.prog w = .ok (.enter 26 args) w :=by go_simp
theorem cf35(args : Array Value)(w : JW) : (callFunc 35 args).run Tryz.prog w = .ok (.enter 35 args) w :=by go_simp
theorem cf17(args : Array Value)(w : JW) : (callFunc 17 args).run Tryz.prog w = .ok (.enter 17 args) w :=by go_simp
theorem cf34(args : Array Value)(w : JW) : (callFunc 34 args).run Tryz.prog w = .ok (.enter 34 args) w :=by go_simp
theorem cf46(args : Array Value)(w : JW) : (callFunc 46 args).run Tryz.prog w = .ok (.enter 46 args) w :=by go_simp
