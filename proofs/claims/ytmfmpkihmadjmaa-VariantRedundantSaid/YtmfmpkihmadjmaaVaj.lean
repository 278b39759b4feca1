/- The reference: the error of a list of literals. -/
import Derived.Test.YtmfmpkihmadjmaaVai
namespace Go.Proofs.Ytmfmpkihmadjmaa
open Go.RowKit Go.Shelf
theorem pvL_zero (ls : List (Int × Bool)) : pvL ls 0 = none := rfl
theorem pvL_succ {ls : List (Int × Bool)} {j : Nat} {x : Int × Bool} (h : ls[j]? = some x) : pvL ls (j + 1) = some x.1 := by simp [pvL, h]
set_option maxRecDepth 100000 in
set_option maxHeartbeats 8000000 in
theorem literalsR_any (n : Nat) (A : Option Addr) (m d : Nat) (ls : List (Int × Bool)) (w : World) (h : LitL w A ls) (hm : ls.length = m) (hm2 : m ≤ 4611686018427387904) (_hn : n ≤ 4611686018427387904) :
    Calls Try.prog 20 #[.int .i64 (n : Nat), .slice A m d] w fun e w' => e = .returned (.int .i64 (chE n none ls)) ∧ Below w.heap.size w w' := by
  go_enter Try.func20, Try.ntmps20
  go_wp2_with fail
  go_loopw [5] (fun i wr => ∃ j : Nat, i = .int .i64 (j : Nat) ∧ j ≤ m ∧ chE n none ls = chE n (pvL ls j) (ls.drop j) ∧ Below w.heap.size w wr) (fun i _ => m - (intOf i).toNat)
  case atStart => exact ⟨0, rfl, Nat.zero_le _, by rw [pvL_zero, List.drop_zero], Below.refl _ _⟩
  case round =>
    obtain ⟨j, rfl, hj, hall, hb⟩ := hrel
    have B1 := Lib.hid hb
    by_cases hlt : j < m
    · obtain ⟨x, b, o, hx, rfl, hbl, hc, _⟩ := (h.keep hb).at_ (k := j) (by omega)
      have i1 : (j : Int) < (m : Int) := by omega
      have hd := drop_at hx
      rw [hd] at hall
      have hpn := pvL_succ hx
      by_cases h0 : x.1 < 0
      · have Hr := Lib.hid (hall.trans (chE_bad (.inl h0)))
        have t0 : decide (x.1 < 0) = true := decide_eq_true h0
        clear hall hd hpn hx hb
        go_wp2_with fail
        go_ret
        refine ⟨?_, B1.out⟩
        rw [Hr.out]
        rfl
      · have t0 : decide (x.1 < 0) = false := decide_eq_false h0
        by_cases h1 : (n : Int) ≤ x.1
        · have Hr := Lib.hid (hall.trans (chE_bad (.inr h1)))
          have t1 : decide ((n : Int) ≤ x.1) = true := decide_eq_true h1
          clear hall hd hpn hx hb
          go_wp2_with fail
          go_ret
          refine ⟨?_, B1.out⟩
          rw [Hr.out]
          rfl
        · have t1 : decide ((n : Int) ≤ x.1) = false := decide_eq_false h1
          have hok : ¬ (x.1 < 0 ∨ (n : Int) ≤ x.1) := fun e => e.elim h0 h1
          cases j with
          | zero =>
            rw [pvL_zero] at hall
            have Hr := Lib.hid (show chE n none ls = chE n (pvL ls 1) (ls.drop 1) by rw [hpn]; exact hall.trans (chE_first hok))
            replace hc : wr.cell? ⟨b, o, none⟩ = some (.int .i64 x.1) := by simpa using hc
            have HS := Lib.hid (fun w' (hb' : Below wr.heap.size wr w') => ((hb'.cell (p := ⟨b, o, none⟩) hbl).trans hc : w'.cell? ⟨b, o, none⟩ = some (.int .i64 x.1)))
            clear hall hd hpn hx hb h hok
            go_upto_region 6 with fail
            refine Till.begin 15 (fun w' => w'.cell? ⟨b, o, none⟩ = some (.int .i64 x.1)) (by kernel_rfl) (HS.out _ (Below.refl _ _).drew) (fun hH => ?_)
            clear hH
            have HB := Lib.hid (Below.refl wr.heap.size wr).drew
            generalize wr.drew = v0 at HB ⊢
            try simp only [List.setIfInBounds_toArray, List.set_cons_zero, List.set_cons_succ]
            refine Till.one (i := 0) (by kernel_rfl) rfl (fun K hK => ?_)
            go_simp
            refine hK.out _ _ (fun _ => HS.out _ HB.out) ?_
            clear hK K
            try simp only [List.setIfInBounds_toArray, List.set_cons_zero, List.set_cons_succ]
            refine Till.one (i := 1) (by kernel_rfl) rfl (fun K hK => ?_)
            go_simp
            refine hK.out _ _ (fun _ => HS.out _ HB.out) ?_
            clear hK K
            try simp only [List.setIfInBounds_toArray, List.set_cons_zero, List.set_cons_succ]
            refine Till.one (i := 2) (by kernel_rfl) rfl (fun K hK => ?_)
            go_simp
            refine hK.out _ _ (fun _ => HS.out _ HB.out) ?_
            clear hK K
            try simp only [List.setIfInBounds_toArray, List.set_cons_zero, List.set_cons_succ]
            refine Till.sL 3 [5, 6, 7, 14, 15] 30 (HS.out _ HB.out) ?_
            try simp only [Act.put, List.setIfInBounds_toArray, List.set_cons_zero, List.set_cons_succ]
            refine Till.sL 4 [5, 6, 7, 14, 15] 31 (HS.out _ HB.out) ?_
            try simp only [Act.put, List.setIfInBounds_toArray, List.set_cons_zero, List.set_cons_succ]
            refine Till.sL 5 [6, 7, 14, 15] 32 (HS.out _ HB.out) ?_
            try simp only [Act.put, List.setIfInBounds_toArray, List.set_cons_zero, List.set_cons_succ]
            refine Till.sL 6 [7, 14, 15] 33 (HS.out _ HB.out) ?_
            try simp only [Act.put, List.setIfInBounds_toArray, List.set_cons_zero, List.set_cons_succ]
            refine Till.sk 7 14 34 (HS.out _ HB.out) ?_
            try simp only [Act.put, List.setIfInBounds_toArray, List.set_cons_zero, List.set_cons_succ]
            refine Till.sL 8 [11, 12, 13, 14, 15] 35 (HS.out _ HB.out) ?_
            try simp only [Act.put, List.setIfInBounds_toArray, List.set_cons_zero, List.set_cons_succ]
            refine Till.one (i := 9) (by kernel_rfl) rfl (fun K hK => ?_)
            go_simp
            refine hK.out _ _ (fun _ => HS.out _ HB.out) ?_
            clear hK K
            try simp only [List.setIfInBounds_toArray, List.set_cons_zero, List.set_cons_succ]
            refine Till.one (i := 10) (by kernel_rfl) rfl (fun K hK => ?_)
            go_simp
            refine hK.out _ _ (fun _ => HS.out _ HB.out) ?_
            clear hK K
            try simp only [List.setIfInBounds_toArray, List.set_cons_zero, List.set_cons_succ]
            refine Till.one (i := 11) (by kernel_rfl) rfl (fun K hK => ?_)
            go_simp
            refine hK.out _ _ (fun _ => HS.out _ HB.out) ?_
            clear hK K
            try simp only [List.setIfInBounds_toArray, List.set_cons_zero, List.set_cons_succ]
            refine Till.one (i := 12) (by kernel_rfl) rfl (fun K hK => ?_)
            go_simp
            refine hK.out _ _ (fun _ => HS.out _ HB.out) ?_
            clear hK K
            try simp only [List.setIfInBounds_toArray, List.set_cons_zero, List.set_cons_succ]
            refine Till.one (i := 13) (by kernel_rfl) rfl (fun K hK => ?_)
            go_simp
            refine hK.out _ _ (fun _ => HS.out _ HB.out) ?_
            clear hK K
            try simp only [List.setIfInBounds_toArray, List.set_cons_zero, List.set_cons_succ]
            refine Till.one (i := 14) (by kernel_rfl) rfl (fun K hK => ?_)
            go_simp
            refine hK.out _ _ (fun _ => HS.out _ HB.out) ?_
            clear hK K
            try simp only [List.setIfInBounds_toArray, List.set_cons_zero, List.set_cons_succ]
            refine Till.one (i := 15) (by kernel_rfl) rfl (fun K hK => ?_)
            go_simp
            refine hK.out _ _ (fun h => absurd h (by simp)) ?_
            clear hK K
            try simp only [List.setIfInBounds_toArray, List.set_cons_zero, List.set_cons_succ]
            refine Till.done (by kernel_rfl) ?_ _
            go_wp2_with fail
            go_roundw
            case rel => exact ⟨1, by go_num, by omega, Hr.out, below_on B1.out HB.out⟩
            case measure => simp [intOf]; omega
          | succ i =>
            obtain ⟨y, b', o', hy, hA', hbl', hc', _⟩ := (h.keep hb).at_ (k := i) (by omega)
            injection hA' with hA'
            injection hA' with hA1 hA2
            subst hA1 hA2
            rw [pvL_succ hy] at hall
            obtain ⟨j, hji⟩ : ∃ j, i + 1 = j := ⟨_, rfl⟩
            rw [hji] at hall hpn hc hj hlt i1 ⊢
            have hij : j - 1 = i := by omega
            rw [← hij] at hc'
            have j0 : (0 : Int) < (j : Int) := by omega
            have j0' : 0 < j := by omega
            have j1 : IntKind.i64.wrap ((j : Int) - 1) = ((j - 1 : Nat) : Int) := by rw [show (j : Int) - 1 = ((j - 1 : Nat) : Int) by omega]; exact IntWalk.i64_in _ (by omega)
            have j2 : ((j - 1 : Nat) : Int) < (m : Int) := by omega
            have HS := Lib.hid (fun w' (hb' : Below wr.heap.size wr w') => (⟨(hb'.cell (p := ⟨b, o + j * 2, none⟩) hbl).trans hc, (hb'.cell (p := ⟨b, o + (j - 1) * 2, none⟩) hbl).trans hc'⟩ : w'.cell? ⟨b, o + j * 2, none⟩ = some (.int .i64 x.1) ∧ w'.cell? ⟨b, o + (j - 1) * 2, none⟩ = some (.int .i64 y.1)))
            by_cases hle : x.1 ≤ y.1
            · have Hr := Lib.hid (hall.trans (chE_order hok hle))
              have t2 : decide (x.1 ≤ y.1) = true := decide_eq_true hle
              clear hall hd hpn hx hb h hok hy hij hji
              go_upto_region 6 with fail
              refine Till.begin 15 (fun w' => w'.cell? ⟨b, o + j * 2, none⟩ = some (.int .i64 x.1) ∧ w'.cell? ⟨b, o + (j - 1) * 2, none⟩ = some (.int .i64 y.1)) (by kernel_rfl) (HS.out _ (Below.refl _ _).drew) (fun hH => ?_)
              clear hH
              have HB := Lib.hid (Below.refl wr.heap.size wr).drew
              generalize wr.drew = v0 at HB ⊢
              try simp only [List.setIfInBounds_toArray, List.set_cons_zero, List.set_cons_succ]
              refine Till.one (i := 0) (by kernel_rfl) rfl (fun K hK => ?_)
              go_simp
              refine hK.out _ _ (fun _ => HS.out _ HB.out) ?_
              clear hK K
              try simp only [List.setIfInBounds_toArray, List.set_cons_zero, List.set_cons_succ]
              refine Till.one (i := 1) (by kernel_rfl) rfl (fun K hK => ?_)
              go_simp
              refine hK.out _ _ (fun _ => HS.out _ HB.out) ?_
              clear hK K
              try simp only [List.setIfInBounds_toArray, List.set_cons_zero, List.set_cons_succ]
              refine Till.one (i := 2) (by kernel_rfl) rfl (fun K hK => ?_)
              go_simp
              refine hK.out _ _ (fun _ => HS.out _ HB.out) ?_
              clear hK K
              try simp only [List.setIfInBounds_toArray, List.set_cons_zero, List.set_cons_succ]
              refine Till.tL 3 [5, 6, 7, 14, 15] 30 (.slice (some ⟨b, o, none⟩) m d) (HS.out _ HB.out) ?_
              try simp only [Act.put, List.setIfInBounds_toArray, List.set_cons_zero, List.set_cons_succ]
              refine Till.tL 4 [5, 6, 7, 14, 15] 31 (.int .i64 (j : Nat)) (HS.out _ HB.out) ?_
              try simp only [Act.put, List.setIfInBounds_toArray, List.set_cons_zero, List.set_cons_succ]
              refine Till.tL 5 [6, 7, 14, 15] 32 (.pointer (some ⟨b, o + j * 2, none⟩)) (HS.out _ HB.out) ?_
              try simp only [Act.put, List.setIfInBounds_toArray, List.set_cons_zero, List.set_cons_succ]
              refine Till.tL 6 [7, 14, 15] 33 (.pointer (some ⟨b, o + j * 2, none⟩)) (HS.out _ HB.out) ?_
              try simp only [Act.put, List.setIfInBounds_toArray, List.set_cons_zero, List.set_cons_succ]
              refine Till.tk 7 14 34 (.int .i64 x.1) (HS.out _ HB.out) ?_
              try simp only [Act.put, List.setIfInBounds_toArray, List.set_cons_zero, List.set_cons_succ]
              refine Till.tL 8 [11, 12, 13, 14, 15] 35 (.slice (some ⟨b, o, none⟩) m d) (HS.out _ HB.out) ?_
              try simp only [Act.put, List.setIfInBounds_toArray, List.set_cons_zero, List.set_cons_succ]
              refine Till.one (i := 9) (by kernel_rfl) rfl (fun K hK => ?_)
              go_simp
              refine hK.out _ _ (fun _ => HS.out _ HB.out) ?_
              clear hK K
              try simp only [List.setIfInBounds_toArray, List.set_cons_zero, List.set_cons_succ]
              refine Till.one (i := 10) (by kernel_rfl) rfl (fun K hK => ?_)
              go_simp
              refine hK.out _ _ (fun _ => HS.out _ HB.out) ?_
              clear hK K
              try simp only [List.setIfInBounds_toArray, List.set_cons_zero, List.set_cons_succ]
              refine Till.one (i := 11) (by kernel_rfl) rfl (fun K hK => ?_)
              go_simp
              refine hK.out _ _ (fun _ => HS.out _ HB.out) ?_
              clear hK K
              try simp only [List.setIfInBounds_toArray, List.set_cons_zero, List.set_cons_succ]
              refine Till.one (i := 12) (by kernel_rfl) rfl (fun K hK => ?_)
              go_simp
              refine hK.out _ _ (fun _ => HS.out _ HB.out) ?_
              clear hK K
              try simp only [List.setIfInBounds_toArray, List.set_cons_zero, List.set_cons_succ]
              refine Till.tk 13 14 40 (.int .i64 y.1) (HS.out _ HB.out) ?_
              try simp only [Act.put, List.setIfInBounds_toArray, List.set_cons_zero, List.set_cons_succ]
              refine Till.one (i := 14) (by kernel_rfl) rfl (fun K hK => ?_)
              go_simp
              refine hK.out _ _ (fun _ => HS.out _ HB.out) ?_
              clear hK K
              try simp only [List.setIfInBounds_toArray, List.set_cons_zero, List.set_cons_succ]
              refine Till.one (i := 15) (by kernel_rfl) rfl (fun K hK => ?_)
              go_simp
              refine hK.out _ _ (fun h => absurd h (by simp)) ?_
              clear hK K
              try simp only [List.setIfInBounds_toArray, List.set_cons_zero, List.set_cons_succ]
              refine Till.done (by kernel_rfl) ?_ _
              go_wp2_with fail
              go_ret
              refine ⟨?_, below_on B1.out HB.out⟩
              rw [Hr.out]
              rfl
            · have Hr := Lib.hid (show chE n none ls = chE n (pvL ls (j + 1)) (ls.drop (j + 1)) by rw [hpn]; rw [hji] at *; exact hall.trans (chE_next hok hle))
              have t2 : decide (x.1 ≤ y.1) = false := decide_eq_false hle
              clear hall hd hpn hx hb h hok hy hij hji
              go_upto_region 6 with fail
              refine Till.begin 15 (fun w' => w'.cell? ⟨b, o + j * 2, none⟩ = some (.int .i64 x.1) ∧ w'.cell? ⟨b, o + (j - 1) * 2, none⟩ = some (.int .i64 y.1)) (by kernel_rfl) (HS.out _ (Below.refl _ _).drew) (fun hH => ?_)
              clear hH
              have HB := Lib.hid (Below.refl wr.heap.size wr).drew
              generalize wr.drew = v0 at HB ⊢
              try simp only [List.setIfInBounds_toArray, List.set_cons_zero, List.set_cons_succ]
              refine Till.one (i := 0) (by kernel_rfl) rfl (fun K hK => ?_)
              go_simp
              refine hK.out _ _ (fun _ => HS.out _ HB.out) ?_
              clear hK K
              try simp only [List.setIfInBounds_toArray, List.set_cons_zero, List.set_cons_succ]
              refine Till.one (i := 1) (by kernel_rfl) rfl (fun K hK => ?_)
              go_simp
              refine hK.out _ _ (fun _ => HS.out _ HB.out) ?_
              clear hK K
              try simp only [List.setIfInBounds_toArray, List.set_cons_zero, List.set_cons_succ]
              refine Till.one (i := 2) (by kernel_rfl) rfl (fun K hK => ?_)
              go_simp
              refine hK.out _ _ (fun _ => HS.out _ HB.out) ?_
              clear hK K
              try simp only [List.setIfInBounds_toArray, List.set_cons_zero, List.set_cons_succ]
              refine Till.tL 3 [5, 6, 7, 14, 15] 30 (.slice (some ⟨b, o, none⟩) m d) (HS.out _ HB.out) ?_
              try simp only [Act.put, List.setIfInBounds_toArray, List.set_cons_zero, List.set_cons_succ]
              refine Till.tL 4 [5, 6, 7, 14, 15] 31 (.int .i64 (j : Nat)) (HS.out _ HB.out) ?_
              try simp only [Act.put, List.setIfInBounds_toArray, List.set_cons_zero, List.set_cons_succ]
              refine Till.tL 5 [6, 7, 14, 15] 32 (.pointer (some ⟨b, o + j * 2, none⟩)) (HS.out _ HB.out) ?_
              try simp only [Act.put, List.setIfInBounds_toArray, List.set_cons_zero, List.set_cons_succ]
              refine Till.tL 6 [7, 14, 15] 33 (.pointer (some ⟨b, o + j * 2, none⟩)) (HS.out _ HB.out) ?_
              try simp only [Act.put, List.setIfInBounds_toArray, List.set_cons_zero, List.set_cons_succ]
              refine Till.tk 7 14 34 (.int .i64 x.1) (HS.out _ HB.out) ?_
              try simp only [Act.put, List.setIfInBounds_toArray, List.set_cons_zero, List.set_cons_succ]
              refine Till.tL 8 [11, 12, 13, 14, 15] 35 (.slice (some ⟨b, o, none⟩) m d) (HS.out _ HB.out) ?_
              try simp only [Act.put, List.setIfInBounds_toArray, List.set_cons_zero, List.set_cons_succ]
              refine Till.one (i := 9) (by kernel_rfl) rfl (fun K hK => ?_)
              go_simp
              refine hK.out _ _ (fun _ => HS.out _ HB.out) ?_
              clear hK K
              try simp only [List.setIfInBounds_toArray, List.set_cons_zero, List.set_cons_succ]
              refine Till.one (i := 10) (by kernel_rfl) rfl (fun K hK => ?_)
              go_simp
              refine hK.out _ _ (fun _ => HS.out _ HB.out) ?_
              clear hK K
              try simp only [List.setIfInBounds_toArray, List.set_cons_zero, List.set_cons_succ]
              refine Till.one (i := 11) (by kernel_rfl) rfl (fun K hK => ?_)
              go_simp
              refine hK.out _ _ (fun _ => HS.out _ HB.out) ?_
              clear hK K
              try simp only [List.setIfInBounds_toArray, List.set_cons_zero, List.set_cons_succ]
              refine Till.one (i := 12) (by kernel_rfl) rfl (fun K hK => ?_)
              go_simp
              refine hK.out _ _ (fun _ => HS.out _ HB.out) ?_
              clear hK K
              try simp only [List.setIfInBounds_toArray, List.set_cons_zero, List.set_cons_succ]
              refine Till.tk 13 14 40 (.int .i64 y.1) (HS.out _ HB.out) ?_
              try simp only [Act.put, List.setIfInBounds_toArray, List.set_cons_zero, List.set_cons_succ]
              refine Till.one (i := 14) (by kernel_rfl) rfl (fun K hK => ?_)
              go_simp
              refine hK.out _ _ (fun _ => HS.out _ HB.out) ?_
              clear hK K
              try simp only [List.setIfInBounds_toArray, List.set_cons_zero, List.set_cons_succ]
              refine Till.one (i := 15) (by kernel_rfl) rfl (fun K hK => ?_)
              go_simp
              refine hK.out _ _ (fun h => absurd h (by simp)) ?_
              clear hK K
              try simp only [List.setIfInBounds_toArray, List.set_cons_zero, List.set_cons_succ]
              refine Till.done (by kernel_rfl) ?_ _
              go_wp2_with fail
              go_roundw
              case rel => exact ⟨j + 1, by go_num, by omega, Hr.out, below_on B1.out HB.out⟩
              case measure => simp [intOf]; omega
    · have hjn : j = m := by omega
      have Hr := Lib.hid (show chE n none ls = 0 by rw [hall, List.drop_of_length_le (by omega)]; cases pvL ls j <;> rfl)
      clear hall hb h
      go_wp2_with fail
      go_ret
      refine ⟨?_, B1.out⟩
      rw [Hr.out]
      rfl
end Go.Proofs.Ytmfmpkihmadjmaa
