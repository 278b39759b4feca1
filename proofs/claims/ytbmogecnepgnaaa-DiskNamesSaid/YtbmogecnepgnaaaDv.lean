/- known: the states. -/
import Derived.Test.YtbmogecnepgnaaaDu
namespace Go.Proofs.Ytbmogecnepgnaaa
open Go.RowKit Go.Maps Go.Shelf
abbrev bA : ByteArray := ⟨#[97]⟩
abbrev bB : ByteArray := ⟨#[98]⟩
abbrev bABC : ByteArray := ⟨#[97, 98, 99]⟩
abbrev bDE : ByteArray := ⟨#[100, 101]⟩
def dA (b : Nat) : Mp := .map [(kS bA, pD b)]
theorem updF_one (b : Nat) (bs : List UInt8) (d : Nat) (g : Fl → Fl) : updF [⟨b, bs, d⟩] b g = [g ⟨b, bs, d⟩] := by simp [updF]
theorem flen_one (b : Nat) (bs : List UInt8) (d : Nat) : usedD [⟨b, bs, d⟩] (dA b) = bs.length := by
  unfold usedD dA flen
  simp [pD]
theorem newL {c : Nat} (hc : c ≤ 16777216) : DL (newS c) :=
  { t1 := tidy_empty, t2 := tidy_empty, r1 := (fun k hk => by cases hk), r2 := (fun k hk => by cases hk), fl := (fun f hf => by cases hf), cl := hc, ll := Nat.zero_le _, ok := trivial, run := rfl, onm := (fun o ho => by cases ho), ro := (fun a b hab => by cases hab) }
def K1 (b : Nat) : St := ⟨10, dA b, .map [], [.cre bA b], false, false, 0, [⟨b, [97, 98, 99], 0⟩], noR⟩
def K2 (b : Nat) : St := ⟨10, dA b, .map [], [.cre bA b], false, false, 0, [⟨b, [97, 98, 99], 3⟩], noR⟩
def K3 (b : Nat) : St := ⟨10, dA b, .map [], [.cre bA b], false, false, 0, [⟨b, [97, 98, 99, 100, 101], 3⟩], noR⟩
def K4 (b : Nat) : St := ⟨10, dA b, dA b, [], false, false, 0, [⟨b, [97, 98, 99, 100, 101], 3⟩], noR⟩
def K5 (b : Nat) : St := ⟨10, dA b, dA b, [], true, false, 0, [⟨b, [97, 98, 99, 100, 101], 3⟩], noR⟩
def K6 (b : Nat) : St := ⟨10, dA b, dA b, [], false, false, 0, [⟨b, [97, 98, 99, 155], 4⟩], noR⟩
def K7 (b : Nat) : St := ⟨10, dA b, dA b, [], false, true, 1, [⟨b, [97, 98, 99, 155], 4⟩], noR⟩
def K8 (b b2 : Nat) : St := ⟨10, .map [(kS bA, pD b), (kS bB, pD b2)], dA b, [.cre bB b2], false, true, 0, [⟨b, [97, 98, 99, 155], 4⟩, ⟨b2, [97, 98, 99], 0⟩], noR⟩
theorem k1 (b : Nat) : apE (newS 10) bA bABC = 0 ∧ apS (newS 10) bA bABC b = K1 b := ⟨by kernel_rfl, by kernel_rfl⟩
theorem k2 (b : Nat) : syE (K1 b) bA = 0 ∧ syS (K1 b) bA = K2 b := by
  refine ⟨by kernel_rfl, ?_⟩
  show ({ K1 b with F := updF (K1 b).F b fun f => { f with dur := f.bs.length } } : St) = K2 b
  unfold K1
  simp only
  rw [updF_one]
  rfl
theorem k3 (b q : Nat) : ap0 (K2 b) bA bDE = 0 ∧ apE (K2 b) bA bDE = 0 ∧ apS (K2 b) bA bDE q = K3 b := by
  have h0 : ap0 (K2 b) bA bDE = 0 := by
    unfold ap0 K2
    simp only
    rw [flen_one]
    kernel_rfl
  refine ⟨h0, ?_, ?_⟩
  · unfold apE; rw [if_pos h0]; rfl
  · unfold apS
    rw [if_pos h0]
    show ({ K2 b with F := updF (K2 b).F b fun f => { f with bs := f.bs ++ bDE.data.toList } } : St) = K3 b
    unfold K2
    simp only
    rw [updF_one]
    rfl
theorem k4 (b : Nat) : puE (K3 b) = 0 ∧ puS (K3 b) = K4 b := ⟨by kernel_rfl, by kernel_rfl⟩
theorem k6 (b : Nat) {ss : List (List UInt8)} (h : ss.Perm (strKeys (stD (K5 b) [0, 1, 1]))) : stS (K5 b) [0, 1, 1] ss = K6 b := by
  have h1 : strKeys (stD (K5 b) [0, 1, 1]) = [[97]] := by kernel_rfl
  rw [h1] at h
  rw [List.perm_singleton.1 h]
  unfold stS
  have h2 : [[97]].foldl (stepF [0, 1, 1] (stD (K5 b) [0, 1, 1])) ((K5 b).F, 1) = ([⟨b, [97, 98, 99, 155], 4⟩], 3) := by
    show stepF [0, 1, 1] (dA b) ([⟨b, [97, 98, 99, 100, 101], 3⟩], 1) [97] = _
    rw [stepF_at (f := ⟨b, [97, 98, 99, 100, 101], 3⟩) (List.pairwise_singleton _ _) (List.mem_singleton.2 rfl) (by kernel_rfl)]
    rw [updF_one]
    kernel_rfl
  rw [h2]
  rfl
theorem k6r (b : Nat) : fndE (K6 b) bA = 0 ∧ rdV (K6 b) bA = ⟨#[97, 98, 99, 155]⟩ := by
  have h0 : fndE (K6 b) bA = 0 := by kernel_rfl
  refine ⟨h0, ?_⟩
  unfold rdV
  rw [if_pos h0, bytesAt_of (f := ⟨b, [97, 98, 99, 155], 4⟩) (List.pairwise_singleton _ _) (List.mem_singleton.2 rfl) (by kernel_rfl)]
theorem k7 (b : Nat) : chk (K6 b) = 0 ∧ liS (K6 b) 1 = K7 b := ⟨by kernel_rfl, by kernel_rfl⟩
theorem k8 (b q : Nat) : apE (K7 b) bB bABC = 0 ∧ apS (K7 b) bB bABC q = K8 b q := by
  have h0 : ap0 (K7 b) bB bABC = 0 := by
    unfold ap0 K7
    simp only
    rw [flen_one]
    kernel_rfl
  refine ⟨?_, ?_⟩
  · unfold apE; rw [if_pos h0]; rfl
  · unfold apS
    rw [if_pos h0]
    rfl
theorem k9 (b q : Nat) : syE (K8 b q) bB = 32 := by kernel_rfl
end Go.Proofs.Ytbmogecnepgnaaa
