/- DiskNil: the walk. -/
import Derived.Test.YtbmogecnepgnaaaDx
import Derived.Test.YtbmogecnepgnaaaDn
namespace Go.Proofs.Ytbmogecnepgnaaa
open Go.RowKit Go.Maps Go.Shelf
abbrev bX : ByteArray := ⟨#[120]⟩
def N1 (b : Nat) : St := ⟨9, dA b, .map [], [.cre bA b], false, false, 0, [⟨b, [120], 0⟩]⟩
def N2 (b : Nat) : St := ⟨9, dA b, .map [], [.cre bA b], true, false, 0, [⟨b, [120], 0⟩]⟩
theorem n1 (b : Nat) : apE (newS 9) bA bX = 0 ∧ apS (newS 9) bA bX b = N1 b := ⟨by kernel_rfl, by kernel_rfl⟩
theorem n2 (b : Nat) : (N2 b).down = true := rfl
section
variable {s : St} (h : s.down = true)
include h
theorem dn_fnd (n : ByteArray) : fndE s n = 18 := by unfold fndE; rw [if_pos h]
theorem dn_ap0 (n d : ByteArray) : ap0 s n d = 18 := by unfold ap0; rw [if_pos h]
theorem dn_read (n : ByteArray) : rdV s n = ⟨#[]⟩ ∧ fndE s n = 18 ∧ szV s n = 0 := by
  have e := dn_fnd h n
  refine ⟨?_, e, ?_⟩
  · unfold rdV; rw [e]; rfl
  · unfold szV; rw [e]; rfl
theorem dn_append (n d : ByteArray) (b : Nat) : apE s n d = 18 ∧ apS s n d b = s := by
  have e := dn_ap0 h n d
  unfold apE apS
  rw [e]
  exact ⟨rfl, rfl⟩
theorem dn_sync (n : ByteArray) : syE s n = 18 ∧ syS s n = s := by
  have e := dn_fnd h n
  unfold syE syS
  rw [e]
  exact ⟨rfl, rfl⟩
theorem dn_remove (n : ByteArray) : rmE s n = 18 ∧ rmS s n = s := by
  have e := dn_fnd h n
  unfold rmE rmS
  rw [e]
  exact ⟨rfl, rfl⟩
theorem dn_rename (a b : ByteArray) : rnE s a b = 18 ∧ rnS s a b = s := by
  have e := dn_fnd h a
  unfold rnE rnS
  rw [e]
  exact ⟨rfl, rfl⟩
theorem dn_publish : puE s = 18 ∧ puS s = s := by
  unfold puE puS
  rw [if_pos h, if_pos h]
  exact ⟨rfl, rfl⟩
theorem dn_limit (n : Int) : chk s = 18 ∧ liS s n = s := by
  unfold chk liS
  rw [if_pos h, if_pos h]
  exact ⟨rfl, rfl⟩
end
set_option maxRecDepth 100000 in
set_option maxHeartbeats 16000000 in
theorem nil_any (x : Ac) (w : World) : Calls Try.prog 10 #[.agg #[.int .u8 (x.kind : Nat), .string x.name, .string x.dst, .int .i8 x.num, .slice x.sA x.sn x.sc]] w fun e w' => e = .returned (.bool true) ∧ Below w.heap.size w w' := by
  have k1 := (Below.refl w.heap.size w).alloc (Nat.le_refl _) (.cells #[.int .u8 (x.kind : Nat), .string x.name, .string x.dst, .int .i8 x.num, .slice x.sA x.sn x.sc] 40)
  have C1 := Cells.new w #[.int .u8 (x.kind : Nat), .string x.name, .string x.dst, .int .i8 x.num, .slice x.sA x.sn x.sc] 40
  obtain ⟨w1, hw1⟩ : ∃ u, w.alloc (.cells #[.int .u8 (x.kind : Nat), .string x.name, .string x.dst, .int .i8 x.num, .slice x.sA x.sn x.sc] 40) = u := ⟨_, rfl⟩
  rw [hw1] at k1 C1
  have HC1 := Lib.hid C1
  have HK1 := Lib.hid k1
  clear C1 k1
  go_enter Try.func10, Try.ntmps10
  go_wp2_with fail
  refine (known_true w1).mono ?_
  rintro e w2 ⟨rfl, hb⟩
  clear hw1
  have HC2 := Lib.hid (HC1.out.keep hb)
  have HK2 := Lib.hid (below_on HK1.out hb)
  clear hb HC1 HK1
  have z0 := HC2.out.at_ 0
  have z1 := HC2.out.at_ 1
  have z2 := HC2.out.at_ 2
  have z3 := HC2.out.at_ 3
  have z4 := HC2.out.at_ 4
  simp only [List.getElem?_cons_zero, List.getElem?_cons_succ] at z0 z1 z2 z3 z4
  go_wp2_with fail
  have RZ := heap_new w2 (.cells #[.int .u8 (x.kind : Nat), .string x.name, .string x.dst, .int .i8 x.num, .slice x.sA x.sn x.sc] 40)
  have kz := (Below.refl w2.heap.size w2).alloc (Nat.le_refl _) (.cells #[.int .u8 (x.kind : Nat), .string x.name, .string x.dst, .int .i8 x.num, .slice x.sA x.sn x.sc] 40)
  obtain ⟨g, hg⟩ : ∃ g, w2.heap.size = g := ⟨_, rfl⟩
  have hgl : g < (w2.alloc (.cells #[.int .u8 (x.kind : Nat), .string x.name, .string x.dst, .int .i8 x.num, .slice x.sA x.sn x.sc] 40)).heap.size := by rw [← hg]; simp
  have HC3 := HC2.out.keep kz
  have HK3 := Lib.hid (below_on HK2.out kz)
  rw [hg] at RZ ⊢
  obtain ⟨w3, hw3⟩ : ∃ u, w2.alloc (.cells #[.int .u8 (x.kind : Nat), .string x.name, .string x.dst, .int .i8 x.num, .slice x.sA x.sn x.sc] 40) = u := ⟨_, rfl⟩
  rw [hw3] at RZ HC3 HK3 hgl ⊢
  have hA : ActsAt w3 (some ⟨g, 0, none⟩) [x] := fun i y hy => by
    have hi : i = 0 := by
      have := (List.getElem?_eq_some_iff.1 hy).1
      simpa using this
    subst hi
    have : x = y := by simpa using hy
    subst this
    refine ⟨g, 0, rfl, hgl, fun j u hu => ?_⟩
    rw [cell_of_row _ _ _ _ _ _ RZ]
    simp only [Nat.zero_add, Nat.mul_zero]
    exact (List.getElem?_toArray).trans hu
  have HF := Lib.hid (few_any (c := 1) hA rfl (by simp))
  have HC3 := Lib.hid HC3
  clear hA RZ kz hg hw3 hgl z0 z1 z2 z3 z4 HC2 HK2
  have z0 := HC3.out.at_ 0
  have z1 := HC3.out.at_ 1
  have z2 := HC3.out.at_ 2
  have z3 := HC3.out.at_ 3
  have z4 := HC3.out.at_ 4
  simp only [List.getElem?_cons_zero, List.getElem?_cons_succ] at z0 z1 z2 z3 z4
  refine HF.out.mono ?_
  rintro e wn ⟨rfl, rfl⟩
  obtain ⟨q, hq⟩ : ∃ q, fewB [x] = q := ⟨_, rfl⟩
  rw [hq]
  have HQ := Lib.hid hq
  clear hq HF
  cases q
  · go_wp2_with fail
    refine (known_true wn).mono ?_
    rintro e w4 ⟨rfl, hb⟩
    have HK4 := Lib.hid (below_on HK3.out hb)
    clear hb
    go_wp2_with fail
    go_ret
    exact ⟨rfl, HK4.out⟩
  · have HK2 := Lib.hid HK3.out
    have hsm : x.name.size ≤ 50 ∧ x.dst.size ≤ 50 := by
      have h1 := HQ.out
      unfold fewB at h1
      simp only [List.all_cons, List.all_nil, Bool.and_true, Bool.and_eq_true] at h1
      have h2 := h1.1
      unfold ac1 at h2
      simp only [Bool.and_eq_true, decide_eq_true_eq] at h2
      exact h2.1
    clear HK3
    go_wp2_with fail
    refine (crash_nil _).mono ?_
    rintro e wn ⟨⟨v, rfl⟩, rfl⟩
    go_wp2_with fail
    refine (start_nil _ _).mono ?_
    rintro e wn ⟨⟨v, rfl⟩, rfl⟩
    go_wp2_with fail
    refine (read_nil _ _).mono ?_
    rintro e wn ⟨rfl, rfl⟩
    go_wp2_with fail
    refine (size_nil _ _).mono ?_
    rintro e wn ⟨rfl, rfl⟩
    go_wp2_with fail
    refine (append_nil _ _ _).mono ?_
    rintro e wn ⟨rfl, rfl⟩
    go_wp2_with fail
    refine (sync_nil _ _).mono ?_
    rintro e wn ⟨rfl, rfl⟩
    go_wp2_with fail
    refine (rename_nil _ _ _).mono ?_
    rintro e wn ⟨rfl, rfl⟩
    go_wp2_with fail
    refine (remove_nil _ _).mono ?_
    rintro e wn ⟨rfl, rfl⟩
    go_wp2_with fail
    refine (publish_nil _).mono ?_
    rintro e wn ⟨rfl, rfl⟩
    go_wp2_with fail
    refine (limit_nil _ _).mono ?_
    rintro e wn ⟨rfl, rfl⟩
    go_wp2_with fail
    refine (names_nil _).mono ?_
    rintro e wn ⟨rfl, rfl⟩
    go_wp2_with fail
    refine (free_nil _).mono ?_
    rintro e wn ⟨rfl, rfl⟩
    go_wp2_with fail
    refine (down_nil _).mono ?_
    rintro e wn ⟨rfl, rfl⟩
    go_wp2_with fail
    refine (clone_nil _).mono ?_
    rintro e wn ⟨rfl, rfl⟩
    go_wp2_with fail
    refine (new_ok 9 (by decide) _).mono ?_
    rintro e w3 ⟨p, m, rfl, hD, hm1, hm2, hb⟩
    have HDs := Lib.hid (Disk.of (c := 0) hD (newL (by decide)) (by omega) (by omega) (by rw [hm2]; exact Nat.le_refl _))
    have HBs := Lib.hid hb
    clear hD hm1 hm2 hb
    go_wp2_with fail
    have hq := append_any HDs.out (by decide) bA bX (by decide) (by decide)
    rw [(n1 0).1] at hq
    refine hq.mono ?_
    rintro e w4 ⟨b, rfl, hD, _, hb⟩
    rw [(n1 b).2] at hD
    have HD4 := Lib.hid hD
    have HB4 := Lib.hid (HBs.out.trans hb)
    clear hD hb hq HDs HBs
    go_wp2_with fail
    refine (crash_any HD4.out).mono ?_
    rintro e w5 ⟨⟨v, rfl⟩, hD, hb⟩
    have hD : Disk w5 _ p (N2 b) _ := hD
    have HDs := Lib.hid hD
    have HBs := Lib.hid (HB4.out.trans hb)
    clear hD hb HD4 HB4
    go_wp2_with fail
    have hq := read_any HDs.out bA (by decide)
    rw [(dn_read (n2 b) bA).1, (dn_read (n2 b) bA).2.1] at hq
    refine hq.mono ?_
    rintro e wd ⟨rfl, rfl⟩
    clear hq
    go_wp2_with fail
    have hq := size_any HDs.out bA (by decide)
    rw [(dn_read (n2 b) bA).2.1, (dn_read (n2 b) bA).2.2] at hq
    refine hq.mono ?_
    rintro e wd ⟨rfl, rfl⟩
    clear hq z0 z1 z2 z3 z4
    have HCx := HC3.out.keep HBs.out
    have z1 := HCx.at_ 1
    have z2 := HCx.at_ 2
    simp only [List.getElem?_cons_zero, List.getElem?_cons_succ] at z1 z2
    clear HCx
    go_wp2_with fail
    have hq := append_any HDs.out (by decide) x.name x.dst (by omega) (by omega)
    rw [(dn_append (n2 b) x.name x.dst 0).1] at hq
    refine hq.mono ?_
    rintro e wd ⟨b', rfl, hD, _, hb⟩
    rw [(dn_append (n2 b) x.name x.dst b').2] at hD
    have HDn := Lib.hid hD
    have HBn := Lib.hid (HBs.out.trans hb)
    clear hD hb hq HDs HBs
    have HDs := HDn
    have HBs := HBn
    clear HDn HBn
    go_wp2_with fail
    have hq := sync_any HDs.out bA (by decide)
    rw [(dn_sync (n2 b) bA).1, (dn_sync (n2 b) bA).2] at hq
    refine hq.mono ?_
    rintro e wd ⟨rfl, hD, hb⟩
    have HDn := Lib.hid hD
    have HBn := Lib.hid (HBs.out.trans hb)
    clear hD hb hq HDs HBs
    have HDs := HDn
    have HBs := HBn
    clear HDn HBn
    go_wp2_with fail
    have hq := rename_any HDs.out (by decide) bA bB (by decide) (by decide)
    rw [(dn_rename (n2 b) bA bB).1, (dn_rename (n2 b) bA bB).2] at hq
    refine hq.mono ?_
    rintro e wd ⟨rfl, hD, hb⟩
    have HDn := Lib.hid hD
    have HBn := Lib.hid (HBs.out.trans hb)
    clear hD hb hq HDs HBs
    have HDs := HDn
    have HBs := HBn
    clear HDn HBn
    go_wp2_with fail
    have hq := remove_any HDs.out (by decide) bA (by decide)
    rw [(dn_remove (n2 b) bA).1, (dn_remove (n2 b) bA).2] at hq
    refine hq.mono ?_
    rintro e wd ⟨rfl, hD, hb⟩
    have HDn := Lib.hid hD
    have HBn := Lib.hid (HBs.out.trans hb)
    clear hD hb hq HDs HBs
    have HDs := HDn
    have HBs := HBn
    clear HDn HBn
    go_wp2_with fail
    have hq := publish_any HDs.out
    rw [(dn_publish (n2 b)).1, (dn_publish (n2 b)).2] at hq
    refine hq.mono ?_
    rintro e wd ⟨rfl, hD, hb⟩
    have HDn := Lib.hid hD
    have HBn := Lib.hid (HBs.out.trans hb)
    clear hD hb hq HDs HBs
    have HDs := HDn
    have HBs := HBn
    clear HDn HBn
    go_wp2_with fail
    have hq := limit_any HDs.out 3 (by decide)
    rw [(dn_limit (n2 b) 3).1, (dn_limit (n2 b) 3).2] at hq
    refine hq.mono ?_
    rintro e wd ⟨rfl, hD, hb⟩
    have HDn := Lib.hid hD
    have HBn := Lib.hid (HBs.out.trans hb)
    clear hD hb hq HDs HBs
    have HDs := HDn
    have HBs := HBn
    clear HDn HBn
    go_wp2_with fail
    refine (names_any HDs.out (by decide)).mono ?_
    rintro e w6 ⟨v, rfl, ss, hs, _, ho, hb⟩
    have hs : ss = [] := by rw [n2 b] at hs; exact hs
    subst hs
    obtain ⟨A6, c6, rfl, _⟩ := own_row ho
    have HDn := Lib.hid (HDs.out.keep hb)
    have HBn := Lib.hid (HBs.out.trans (hb.mono HBs.out.size))
    clear hb ho HDs HBs
    have HDs := HDn
    have HBs := HBn
    clear HDn HBn
    go_wp2_with fail
    have hq := free_any HDs.out (by decide)
    rw [show frV (N2 b) = 0 from rfl] at hq
    refine hq.mono ?_
    rintro e w7 ⟨rfl, hD, hb⟩
    have HDn := Lib.hid hD
    have HBn := Lib.hid (HBs.out.trans hb)
    clear hD hb hq HDs HBs
    have HDs := HDn
    have HBs := HBn
    clear HDn HBn
    go_wp2_with fail
    refine (down_any HDs.out).mono ?_
    rintro e w8 ⟨rfl, rfl⟩
    rw [n2 b]
    go_wp2_with fail
    go_ret
    exact ⟨rfl, HK2.out.trans (HBs.out.mono HK2.out.size)⟩
end Go.Proofs.Ytbmogecnepgnaaa
