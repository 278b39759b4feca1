/- DiskReplaces: the states. -/
import Derived.Test.YtbmogecnepgnaaaDaa
import Derived.Test.YtbmogecnepgnaaaDw
namespace Go.Proofs.Ytbmogecnepgnaaa
open Go.RowKit Go.Maps Go.Shelf
def dAB (b b2 : Nat) : Mp := .map [(kS bA, pD b), (kS bB, pD b2)]
abbrev lL (o : ByteArray) : List UInt8 := o.data.toList
def R1 (b : Nat) (o : ByteArray) : St := ⟨200, dA b, .map [], [.cre bA b], false, false, 0, [⟨b, lL o, 0⟩]⟩
def R2 (b : Nat) (o : ByteArray) : St := ⟨200, dA b, .map [], [.cre bA b], false, false, 0, [⟨b, lL o, (lL o).length⟩]⟩
def R3 (b : Nat) (o : ByteArray) : St := ⟨200, dA b, dA b, [], false, false, 0, [⟨b, lL o, (lL o).length⟩]⟩
def R4 (b : Nat) (o : ByteArray) (k : Nat) : St := ⟨200, dA b, dA b, [], false, true, k, [⟨b, lL o, (lL o).length⟩]⟩
/-- A new file; what is pending; how the power stands. -/
def R5 (b b2 : Nat) (o n : ByteArray) (dn : Bool) (k d : Nat) : St := ⟨200, dAB b b2, dA b, [.cre bB b2], dn, true, k, [⟨b, lL o, (lL o).length⟩, ⟨b2, lL n, d⟩]⟩
def R6 (b b2 : Nat) (o n : ByteArray) (dn : Bool) (k : Nat) : St := ⟨200, dA b2, dA b, [.cre bB b2, .ren bB bA], dn, true, k, [⟨b, lL o, (lL o).length⟩, ⟨b2, lL n, (lL n).length⟩]⟩
def R7 (b b2 : Nat) (o n : ByteArray) (dn : Bool) (k : Nat) : St := ⟨200, dA b2, dA b2, [], dn, true, k, [⟨b, lL o, (lL o).length⟩, ⟨b2, lL n, (lL n).length⟩]⟩
theorem lL_len (o : ByteArray) : (lL o).length = o.size := rfl
theorem updF_two {b b2 : Nat} (h : b ≠ b2) (x y : List UInt8) (d e : Nat) (g : Fl → Fl) : updF [⟨b, x, d⟩, ⟨b2, y, e⟩] b2 g = [⟨b, x, d⟩, g ⟨b2, y, e⟩] := by simp [updF, h]
theorem r1 (b : Nat) (o : ByteArray) (ho : o.size ≤ 50) : apE (newS 200) bA o = 0 ∧ apS (newS 200) bA o b = R1 b o := by
  have h0 : ap0 (newS 200) bA o = 0 := by
    unfold ap0 newS
    simp only
    rw [show usedD [] (.map []) = 0 from rfl, if_neg (show ¬ 200 < 0 + o.size by omega)]
    kernel_rfl
  refine ⟨?_, ?_⟩
  · unfold apE; rw [if_pos h0]; rfl
  · unfold apS; rw [if_pos h0]; rfl
theorem r2 (b : Nat) (o : ByteArray) : syE (R1 b o) bA = 0 ∧ syS (R1 b o) bA = R2 b o := by
  refine ⟨by kernel_rfl, ?_⟩
  show ({ R1 b o with F := updF (R1 b o).F b fun f => { f with dur := f.bs.length } } : St) = R2 b o
  unfold R1
  simp only
  rw [updF_one]
  rfl
theorem r3 (b : Nat) (o : ByteArray) : puE (R2 b o) = 0 ∧ puS (R2 b o) = R3 b o := ⟨by kernel_rfl, by kernel_rfl⟩
theorem r4 (b k : Nat) (o : ByteArray) : chk (R3 b o) = 0 ∧ liS (R3 b o) (k : Nat) = R4 b o k := by
  refine ⟨by kernel_rfl, ?_⟩
  show ({ R3 b o with lim := decide ((0 : Int) ≤ (k : Nat)), left := ((k : Nat) : Int).toNat } : St) = _
  rw [decide_eq_true (Int.natCast_nonneg k), Int.toNat_natCast]
  rfl
theorem r50 (b k : Nat) (o n : ByteArray) (ho : o.size ≤ 50) (hn : n.size ≤ 50) : ap0 (R4 b o k) bB n = 0 := by
  unfold ap0 R4
  simp only
  rw [flen_one, lL_len, if_neg (show ¬ 200 < o.size + n.size by omega)]
  kernel_rfl
theorem r5 (b b2 k : Nat) (o n : ByteArray) (ho : o.size ≤ 50) (hn : n.size ≤ 50) : apE (R4 b o (k + 1)) bB n = 0 ∧ apS (R4 b o (k + 1)) bB n b2 = R5 b b2 o n false k 0 := by
  have h0 := r50 b (k + 1) o n ho hn
  refine ⟨?_, ?_⟩
  · unfold apE; rw [if_pos h0]; rfl
  · unfold apS; rw [if_pos h0]; rfl
theorem r5z (b b2 : Nat) (o n : ByteArray) (ho : o.size ≤ 50) (hn : n.size ≤ 50) : apE (R4 b o 0) bB n = 32 ∧ apS (R4 b o 0) bB n b2 = R5 b b2 o n true 0 0 := by
  have h0 := r50 b 0 o n ho hn
  refine ⟨?_, ?_⟩
  · unfold apE; rw [if_pos h0]; rfl
  · unfold apS; rw [if_pos h0]; rfl
theorem r6 {b b2 : Nat} (hb : b ≠ b2) (k : Nat) (o n : ByteArray) : syE (R5 b b2 o n false (k + 1) 0) bB = 0 ∧ syS (R5 b b2 o n false (k + 1) 0) bB = R5 b b2 o n false k (lL n).length := by
  refine ⟨by kernel_rfl, ?_⟩
  show ({ R5 b b2 o n false k 0 with F := updF (R5 b b2 o n false k 0).F b2 fun f => { f with dur := f.bs.length } } : St) = _
  unfold R5
  simp only
  rw [updF_two hb]
theorem r6z (b b2 : Nat) (o n : ByteArray) : syE (R5 b b2 o n false 0 0) bB = 32 ∧ syS (R5 b b2 o n false 0 0) bB = R5 b b2 o n true 0 0 := ⟨by kernel_rfl, by kernel_rfl⟩
theorem r7 (b b2 k : Nat) (o n : ByteArray) : rnE (R5 b b2 o n false (k + 1) (lL n).length) bB bA = 0 ∧ rnS (R5 b b2 o n false (k + 1) (lL n).length) bB bA = R6 b b2 o n false k := ⟨by kernel_rfl, by kernel_rfl⟩
theorem r7z (b b2 : Nat) (o n : ByteArray) : rnE (R5 b b2 o n false 0 (lL n).length) bB bA = 32 ∧ rnS (R5 b b2 o n false 0 (lL n).length) bB bA = R6 b b2 o n true 0 := ⟨by kernel_rfl, by kernel_rfl⟩
theorem r8 (b b2 k : Nat) (o n : ByteArray) : puE (R6 b b2 o n false (k + 1)) = 0 ∧ puS (R6 b b2 o n false (k + 1)) = R7 b b2 o n false k := ⟨by kernel_rfl, by kernel_rfl⟩
theorem r8z (b b2 : Nat) (o n : ByteArray) : puE (R6 b b2 o n false 0) = 32 ∧ puS (R6 b b2 o n false 0) = R6 b b2 o n true 0 := ⟨by kernel_rfl, by kernel_rfl⟩
theorem lL_back (o : ByteArray) : (⟨(lL o).toArray⟩ : ByteArray) = o := by cases o; simp
section
variable {w : World} {B p c : Nat} {l : List Int} {ss : List (List UInt8)} {b b2 : Nat} {o n : ByteArray}
/-- What is read behind a start: the old bytes or the new ones. -/
theorem e5 {k d : Nat} (h : Disk w B p (stS (R5 b b2 o n true k d) l ss) c) : fndE (stS (R5 b b2 o n true k d) l ss) bA = 0 ∧ rdV (stS (R5 b b2 o n true k d) l ss) bA = o := by
  have hD : stD (R5 b b2 o n true k d) l = dA b ∨ stD (R5 b b2 o n true k d) l = dAB b b2 := by
    have h1 := chN_le l 0 1
    unfold stD
    show runO (dA b) ([Opn.cre bB b2].take (chN l 0 1)) = _ ∨ _
    rcases (show chN l 0 1 = 0 ∨ chN l 0 1 = 1 by omega) with e | e
    · left; rw [e]; kernel_rfl
    · right
      show runO (dA b) ([Opn.cre bB b2].take (chN l 0 1)) = _
      rw [e]; kernel_rfl
  have hR := st_read h (f := ⟨b, lL o, (lL o).length⟩) List.mem_cons_self rfl (n := bA) (by rcases hD with e | e <;> (rw [e]; kernel_rfl)) (by rcases hD with e | e <;> (rw [e]; kernel_rfl))
  exact ⟨hR.1, hR.2.trans (lL_back o)⟩
theorem e6 {k : Nat} (h : Disk w B p (stS (R6 b b2 o n true k) l ss) c) : fndE (stS (R6 b b2 o n true k) l ss) bA = 0 ∧ (rdV (stS (R6 b b2 o n true k) l ss) bA = o ∨ rdV (stS (R6 b b2 o n true k) l ss) bA = n) := by
  have h1 := chN_le l 0 2
  have hS : stD (R6 b b2 o n true k) l = runO (dA b) ([Opn.cre bB b2, Opn.ren bB bA].take (chN l 0 2)) := rfl
  rcases (show chN l 0 2 = 0 ∨ chN l 0 2 = 1 ∨ chN l 0 2 = 2 by omega) with e | e | e
  · rw [e] at hS
    have hR := st_read h (f := ⟨b, lL o, (lL o).length⟩) List.mem_cons_self rfl (n := bA) (by rw [hS]; kernel_rfl) (by rw [hS]; kernel_rfl)
    exact ⟨hR.1, .inl (hR.2.trans (lL_back o))⟩
  · rw [e] at hS
    have hR := st_read h (f := ⟨b, lL o, (lL o).length⟩) List.mem_cons_self rfl (n := bA) (by rw [hS]; kernel_rfl) (by rw [hS]; kernel_rfl)
    exact ⟨hR.1, .inl (hR.2.trans (lL_back o))⟩
  · rw [e] at hS
    have hR := st_read h (f := ⟨b2, lL n, (lL n).length⟩) (List.mem_cons_of_mem _ List.mem_cons_self) rfl (n := bA) (by rw [hS]; kernel_rfl) (by rw [hS]; kernel_rfl)
    exact ⟨hR.1, .inr (hR.2.trans (lL_back n))⟩
theorem e7 {k : Nat} (h : Disk w B p (stS (R7 b b2 o n true k) l ss) c) : fndE (stS (R7 b b2 o n true k) l ss) bA = 0 ∧ rdV (stS (R7 b b2 o n true k) l ss) bA = n := by
  have hS : stD (R7 b b2 o n true k) l = dA b2 := by
    unfold stD
    show runO (dA b2) (([] : List Opn).take _) = _
    rw [List.take_nil]
    rfl
  have hR := st_read h (f := ⟨b2, lL n, (lL n).length⟩) (List.mem_cons_of_mem _ List.mem_cons_self) rfl (n := bA) (by rw [hS]; kernel_rfl) (by rw [hS]; kernel_rfl)
  exact ⟨hR.1, hR.2.trans (lL_back n)⟩
end
end Go.Proofs.Ytbmogecnepgnaaa
