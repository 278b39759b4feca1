/- DiskPrefix: the states. -/
import Derived.Test.YtbmogecnepgnaaaDab
import Derived.Test.YtbmogecnepgnaaaDba
namespace Go.Proofs.Ytbmogecnepgnaaa
open Go.RowKit Go.Maps Go.Shelf
def PS (b : Nat) (dn : Bool) (bs : List UInt8) (d : Nat) : St := ⟨600, dA b, dA b, [], dn, false, 0, [⟨b, bs, d⟩]⟩
def P1 (b : Nat) : St := ⟨600, dA b, .map [], [.cre bA b], false, false, 0, [⟨b, [], 0⟩]⟩
theorem p1 (b : Nat) : apE (newS 600) bA ⟨#[]⟩ = 0 ∧ apS (newS 600) bA ⟨#[]⟩ b = P1 b := ⟨by kernel_rfl, by kernel_rfl⟩
theorem p2 (b : Nat) : puE (P1 b) = 0 ∧ puS (P1 b) = PS b false [] 0 := ⟨by kernel_rfl, by kernel_rfl⟩
theorem p3 (b q : Nat) (bs : List UInt8) (d : Nat) (x : ByteArray) (h : bs.length + x.size ≤ 600) : apE (PS b false bs d) bA x = 0 ∧ apS (PS b false bs d) bA x q = PS b false (bs ++ x.data.toList) d := by
  have h0 : ap0 (PS b false bs d) bA x = 0 := by
    unfold ap0 PS
    simp only
    rw [flen_one, if_neg (show ¬ 600 < bs.length + x.size by omega)]
    kernel_rfl
  refine ⟨?_, ?_⟩
  · unfold apE; rw [if_pos h0]; rfl
  · unfold apS
    rw [if_pos h0]
    show ({ PS b false bs d with F := updF (PS b false bs d).F b fun f => { f with bs := f.bs ++ x.data.toList } } : St) = _
    unfold PS
    simp only
    rw [updF_one]
theorem p4 (b : Nat) (bs : List UInt8) (d : Nat) : syE (PS b false bs d) bA = 0 ∧ syS (PS b false bs d) bA = PS b false bs bs.length := by
  refine ⟨by kernel_rfl, ?_⟩
  show ({ PS b false bs d with F := updF (PS b false bs d).F b fun f => { f with dur := f.bs.length } } : St) = _
  unfold PS
  simp only
  rw [updF_one]
theorem p5 (b : Nat) (bs : List UInt8) (d : Nat) {l : List Int} {ss : List (List UInt8)} (h : ss.Perm (strKeys (stD (PS b true bs d) l))) :
    stS (PS b true bs d) l ss = PS b false (failB l 1 ⟨b, bs, d⟩) (d + failK l 1 ⟨b, bs, d⟩) := by
  have hS : stD (PS b true bs d) l = dA b := by
    unfold stD
    show runO (dA b) (([] : List Opn).take _) = _
    rw [List.take_nil]
    rfl
  unfold stS
  rw [hS] at h ⊢
  have h1 : strKeys (dA b) = [[97]] := by kernel_rfl
  rw [h1] at h
  rw [List.perm_singleton.1 h]
  have h2 : [[97]].foldl (stepF l (dA b)) ((PS b true bs d).F, 1) = ([⟨b, failB l 1 ⟨b, bs, d⟩, d + failK l 1 ⟨b, bs, d⟩⟩], failX l 1 ⟨b, bs, d⟩) := by
    show stepF l (dA b) ([⟨b, bs, d⟩], 1) [97] = _
    rw [stepF_at (f := ⟨b, bs, d⟩) (List.pairwise_singleton _ _) (List.mem_singleton.2 rfl) (by kernel_rfl), updF_one]
    rfl
  rw [h2]
  rfl
theorem p6 (b : Nat) (bs : List UInt8) (d : Nat) : fndE (PS b false bs d) bA = 0 ∧ rdV (PS b false bs d) bA = ⟨bs.toArray⟩ := by
  have h0 : fndE (PS b false bs d) bA = 0 := by kernel_rfl
  refine ⟨h0, ?_⟩
  unfold rdV
  rw [if_pos h0, bytesAt_of (f := ⟨b, bs, d⟩) (List.pairwise_singleton _ _) (List.mem_singleton.2 rfl) (by kernel_rfl)]
theorem ext_list (s : ByteArray) (n : Nat) : (s.extract 0 n).toList = s.data.toList.take n := by
  rw [ByteArray.toList_eq]
  simp [ByteArray.data_extract]
/-- What a start leaves of a file: all that was durable, and a beginning of the rest; its last byte may be another one. -/
theorem pfx (l : List Int) (b : Nat) (L : List UInt8) (d : Nat) (hd : d ≤ L.length) (R : List UInt8) (hR : failB l 1 ⟨b, L, d⟩ = R) :
    ∃ K, R.length = d + K ∧ d + K ≤ L.length ∧ (K = 0 → R.take d = L.take d) ∧ (∀ n, K ≠ 0 → n + 1 = d + K → R.take n = L.take n ∧ (R.getD n 0 = L.getD n 0 ∨ R.getD n 0 = 255 - L.getD n 0)) := by
  have h1 := failF_ok l 1 ⟨b, L, d⟩ hd
  have h2 : failK l 1 ⟨b, L, d⟩ ≤ L.length - d := chN_le l 1 _
  have h3 : d + failK l 1 ⟨b, L, d⟩ = R.length := by rw [← hR]; exact h1.2
  have e : failB l 1 ⟨b, L, d⟩ = R := hR
  unfold failB at e
  simp only at e
  obtain ⟨K, hK⟩ : ∃ K, failK l 1 ⟨b, L, d⟩ = K := ⟨_, rfl⟩
  rw [hK] at e h2 h3
  refine ⟨K, h3.symm, by omega, fun h => ?_, fun n h hn => ?_⟩
  · rw [if_neg (by rintro ⟨h4, _⟩; omega)] at e
    rw [← e, List.take_take, Nat.min_eq_left (by omega)]
  · have ht : (L.take (d + K)).length = d + K := by rw [List.length_take]; omega
    have hg : (L.take (d + K)).getD n 0 = L.getD n 0 := by
      rw [List.getD_eq_getElem?_getD, List.getD_eq_getElem?_getD, List.getElem?_take_of_lt (by omega)]
    split at e
    · rw [ht] at e
      rw [show d + K - 1 = n by omega] at e
      refine ⟨?_, .inr ?_⟩
      · rw [← e, List.take_set_of_le (by omega), List.take_take, Nat.min_eq_left (by omega)]
      · rw [← e, hg, List.getD_eq_getElem?_getD, List.getElem?_set_self (by omega)]
        rfl
    · refine ⟨?_, .inl ?_⟩
      · rw [← e, List.take_take, Nat.min_eq_left (by omega)]
      · rw [← e, hg]
end Go.Proofs.Ytbmogecnepgnaaa
