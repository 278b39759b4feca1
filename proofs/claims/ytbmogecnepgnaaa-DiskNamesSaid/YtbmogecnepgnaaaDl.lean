/- Read, Size, Limit, Crash, Down, Free. -/
import Derived.Test.YtbmogecnepgnaaaDk
namespace Go.Proofs.Ytbmogecnepgnaaa
open Go.RowKit Go.Maps
theorem data_text {w : World} {B : Nat} {v : Value} {bs : List UInt8} (h : DataAt w B v bs) : (convert 55 9 v).run Try.prog w = .ok (.string ⟨bs.toArray⟩) w := by
  rcases h with ⟨rfl, rfl⟩ | ⟨g, cap, us, fz, rfl, hb, hh, h1, h2, h3, h4, h5⟩
  · exact run_convert_bytes_nil (P := Try.prog) w _ _ Try.underlying55 Try.underlying5 0 0 _ Try.underlying9
  · have hc := (DataAt.cells (.inr ⟨g, cap, us, fz, rfl, hb, hh, h1, h2, h3, h4, h5⟩)).2.2.2.2
    exact run_convert_bytes_back (P := Try.prog) w _ _ _ ⟨g, 0, none⟩ cap bs Try.underlying55 Try.underlying5 Try.underlying9 (fun j hj => by rw [Addr.add_lit, Nat.zero_add]; exact hc j bs[j] (List.getElem?_eq_getElem hj))
def bytesAt (s : St) (n : ByteArray) : List UInt8 := ((s.F.find? fun f => decide (f.b = blk s n)).map fun f => f.bs).getD []
theorem bytesAt_of {s : St} {n : ByteArray} {f : Fl} (hn : s.F.Pairwise fun f g => f.b ≠ g.b) (hf : f ∈ s.F) (h : s.D1.atKey (kS n) zD = pD f.b) : bytesAt s n = f.bs := by
  unfold bytesAt
  rw [blk_of h]
  cases hx : s.F.find? (fun g => decide (g.b = f.b)) with
  | none =>
    rw [List.find?_eq_none] at hx
    exact absurd (decide_eq_true rfl) (hx f hf)
  | some g =>
    have h2 : g.b = f.b := by simpa using List.find?_some (p := fun g : Fl => decide (g.b = f.b)) hx
    rw [nod_eq hn (List.mem_of_find?_eq_some hx) hf h2]
    rfl
def rdV (s : St) (n : ByteArray) : ByteArray := if fndE s n = 0 then ⟨(bytesAt s n).toArray⟩ else ⟨#[]⟩
def szV (s : St) (n : ByteArray) : Nat := if fndE s n = 0 then (bytesAt s n).length else 0
set_option maxRecDepth 100000 in
set_option maxHeartbeats 8000000 in
theorem read_any {w : World} {B p c : Nat} {s : St} (hD : Disk w B p s c) (n : ByteArray) (hns : n.size ≤ maxLen) :
    Calls Try.prog 26 #[ptrV p, .string n] w fun e w' => e = .returned (.tuple #[.string (rdV s n), .int .i64 (fndE s n)]) ∧ w' = w := by
  obtain ⟨m, h, hl, hn⟩ := hD
  have HM := Lib.hid h
  have HF := Lib.hid (find_any h hl.r1 n hns)
  clear h hl hn
  unfold rdV
  by_cases hf : fndE s n = 0
  · rw [hf] at HF ⊢
    rw [if_pos rfl]
    clear hf
    go_enter Try.func26, Try.ntmps26
    go_wp2_with fail
    refine HF.out.mono ?_
    rintro e w2 ⟨v, rfl, rfl, hv⟩
    obtain ⟨f, hfm, rfl, hfe⟩ := hv (by first | rfl | trivial)
    have z0 := (Cells.of_row (HM.out.con.fl f hfm).1).at_ 0
    simp only [List.getElem?_cons_zero] at z0
    have hconv := data_text (HM.out.con.fl f hfm).2.1
    rw [← bytesAt_of HM.out.con.nod hfm hfe] at hconv
    clear hfe
    go_wp2_with fail
    go_ret2
    exact ⟨rfl, rfl⟩
  · rw [if_neg hf]
    have e2 : decide (fndE s n = 0) = false := decide_eq_false hf
    obtain ⟨q, hq⟩ : ∃ q, fndE s n = q := ⟨_, rfl⟩
    rw [hq] at HF e2 hf ⊢
    clear hq
    go_enter Try.func26, Try.ntmps26
    go_wp2_with fail
    refine HF.out.mono ?_
    rintro e w2 ⟨v, rfl, rfl, hv⟩
    go_wp2_with fail
    go_ret2
    exact ⟨rfl, rfl⟩
set_option maxRecDepth 100000 in
set_option maxHeartbeats 8000000 in
theorem size_any {w : World} {B p c : Nat} {s : St} (hD : Disk w B p s c) (n : ByteArray) (hns : n.size ≤ maxLen) :
    Calls Try.prog 25 #[ptrV p, .string n] w fun e w' => e = .returned (.tuple #[.int .i64 (szV s n : Nat), .int .i64 (fndE s n)]) ∧ w' = w := by
  obtain ⟨m, h, hl, hn⟩ := hD
  have HM := Lib.hid h
  have HF := Lib.hid (find_any h hl.r1 n hns)
  clear h hl hn
  unfold szV
  by_cases hf : fndE s n = 0
  · rw [hf] at HF ⊢
    rw [if_pos rfl]
    clear hf
    go_enter Try.func25, Try.ntmps25
    go_wp2_with fail
    refine HF.out.mono ?_
    rintro e w2 ⟨v, rfl, rfl, hv⟩
    obtain ⟨f, hfm, rfl, hfe⟩ := hv (by first | rfl | trivial)
    have z0 := (Cells.of_row (HM.out.con.fl f hfm).1).at_ 0
    simp only [List.getElem?_cons_zero] at z0
    obtain ⟨A4, c4, hs4, _⟩ := (HM.out.con.fl f hfm).2.1.slice
    rw [hs4, ← bytesAt_of HM.out.con.nod hfm hfe] at z0
    clear hfe hs4
    go_wp2_with fail
    go_ret2
    exact ⟨rfl, rfl⟩
  · rw [if_neg hf]
    have e2 : decide (fndE s n = 0) = false := decide_eq_false hf
    obtain ⟨q, hq⟩ : ∃ q, fndE s n = q := ⟨_, rfl⟩
    rw [hq] at HF e2 hf ⊢
    clear hq
    go_enter Try.func25, Try.ntmps25
    go_wp2_with fail
    refine HF.out.mono ?_
    rintro e w2 ⟨v, rfl, rfl, hv⟩
    go_wp2_with fail
    go_ret2
    exact ⟨rfl, rfl⟩
set_option maxRecDepth 100000 in
set_option maxHeartbeats 8000000 in
theorem crash_any {w : World} {B p c : Nat} {s : St} (hD : Disk w B p s c) :
    Calls Try.prog 33 #[ptrV p] w fun e w' => (∃ v, e = .returned v) ∧ Disk w' B p { s with down := true } c ∧ Below B w w' := by
  obtain ⟨m, h, hl, hn⟩ := hD
  obtain ⟨_, _, _, _, c4, _, _⟩ := h.at4
  have y4 := h.cells.fz 4
  have hlow := h.low
  have HF := Lib.hid (show Disk (w.setCell ⟨p, 4, none⟩ (.bool true)) B p { s with down := true } c from ⟨m, h.set (s' := { s with down := true }) (m' := m) 4 (.bool true) h.con rfl, { hl with }, hn⟩)
  have HB := Lib.hid ((Below.refl B w).setCell (p := ⟨p, 4, none⟩) hlow (.bool true))
  clear h hl hn
  go_enter Try.func33, Try.ntmps33
  go_wp2_with fail
  go_end0
  exact ⟨⟨_, rfl⟩, HF.out, HB.out⟩
set_option maxRecDepth 100000 in
set_option maxHeartbeats 8000000 in
theorem down_any {w : World} {B p c : Nat} {s : St} (hD : Disk w B p s c) :
    Calls Try.prog 32 #[ptrV p] w fun e w' => e = .returned (.bool s.down) ∧ w' = w := by
  obtain ⟨m, h, hl, hn⟩ := hD
  obtain ⟨_, _, _, _, c4, _, _⟩ := h.at4
  clear h hl hn
  go_enter Try.func32, Try.ntmps32
  go_wp2_with fail
  go_ret
  exact ⟨rfl, rfl⟩
def liS (s : St) (n : Int) : St := if s.down then s else { s with lim := decide (0 ≤ n), left := n.toNat }
set_option maxRecDepth 100000 in
set_option maxHeartbeats 8000000 in
theorem limit_any {w : World} {B p c : Nat} {s : St} (hD : Disk w B p s c) (n : Int) (hn2 : n ≤ 4611686018427387904) :
    Calls Try.prog 35 #[ptrV p, .int .i64 n] w fun e w' => e = .returned (.int .i64 (chk s)) ∧ Disk w' B p (liS s n) c ∧ Below B w w' := by
  have HD := Lib.hid hD
  obtain ⟨m, h, hl, hn⟩ := hD
  obtain ⟨_, _, _, _, _, c5, c6⟩ := h.at4
  have y5 := h.cells.fz 5
  have y6 := h.cells.fz 6
  have hlow := h.low
  have HK := Lib.hid (check_any h)
  unfold liS
  by_cases hd : s.down = true
  · have e1 : chk s = 18 := by unfold chk; rw [if_pos hd]
    rw [e1] at HK ⊢
    rw [if_pos hd]
    clear e1 hd h hl hn
    go_enter Try.func35, Try.ntmps35
    go_wp2_with fail
    refine HK.out.mono ?_
    rintro e w2 ⟨rfl, rfl⟩
    go_wp2_with fail
    go_ret
    exact ⟨rfl, HD.out, Below.refl _ _⟩
  · have e1 : chk s = 0 := by unfold chk; rw [if_neg hd]
    rw [e1] at HK ⊢
    rw [if_neg hd]
    have h5 := h.set (s' := { s with lim := decide (0 ≤ n) }) (m' := m) 5 (.bool (decide (0 ≤ n))) h.con rfl
    have h6 := h5.set (s' := { s with lim := decide (0 ≤ n), left := n.toNat }) (m' := m) 6 (.int .i64 (n.toNat : Nat)) h5.con rfl
    have HF := Lib.hid (show Disk ((w.setCell ⟨p, 5, none⟩ (.bool (decide (0 ≤ n)))).setCell ⟨p, 6, none⟩ (.int .i64 (n.toNat : Nat))) B p { s with lim := decide (0 ≤ n), left := n.toNat } c from ⟨m, h6, { hl with ll := by show n.toNat ≤ _; omega }, hn⟩)
    have HB := Lib.hid (((Below.refl B w).setCell (p := ⟨p, 5, none⟩) hlow (.bool (decide (0 ≤ n)))).setCell (p := ⟨p, 6, none⟩) hlow (.int .i64 (n.toNat : Nat)))
    clear e1 hd h hl hn h5 h6
    by_cases h0 : 0 ≤ n
    · obtain ⟨k, rfl⟩ : ∃ k : Nat, n = (k : Int) := ⟨n.toNat, by omega⟩
      rw [decide_eq_true h0, Int.toNat_natCast] at HF HB
      rw [decide_eq_true h0, Int.toNat_natCast]
      by_cases hk0 : k = 0
      · subst hk0
        go_enter Try.func35, Try.ntmps35
        go_wp2_with fail
        refine HK.out.mono ?_
        rintro e w2 ⟨rfl, rfl⟩
        go_wp2_with fail
        go_ret
        exact ⟨rfl, HF.out, HB.out⟩
      · have i1 : (0 : Int) < (k : Int) := by omega
        have i2 : decide ((0 : Int) < (k : Int)) = true := decide_eq_true i1
        have i3 : 0 < k := by omega
        have i4 : ¬ (k : Int) ≤ 0 := by omega
        go_enter Try.func35, Try.ntmps35
        go_wp2_with fail
        refine HK.out.mono ?_
        rintro e w2 ⟨rfl, rfl⟩
        go_wp2_with fail
        go_ret
        exact ⟨rfl, HF.out, HB.out⟩
    · have e2 : n.toNat = 0 := by omega
      rw [decide_eq_false h0, e2] at HF HB
      rw [decide_eq_false h0, e2]
      have t0 : decide (0 ≤ n) = false := decide_eq_false h0
      have t1 : max 0 n = 0 := by omega
      have t2 : decide (n < 0) = true := decide_eq_true (by omega)
      go_enter Try.func35, Try.ntmps35
      go_wp2_with fail
      refine HK.out.mono ?_
      rintro e w2 ⟨rfl, rfl⟩
      go_wp2_with fail
      go_ret
      exact ⟨rfl, HF.out, HB.out⟩
def frV (s : St) : Nat := if s.down then 0 else s.cap - usedD s.F s.D1
set_option maxRecDepth 100000 in
set_option maxHeartbeats 8000000 in
theorem free_any {w : World} {B p c : Nat} {s : St} (hD : Disk w B p s c) (hc : c < 1000000) :
    Calls Try.prog 30 #[ptrV p] w fun e w' => e = .returned (.int .i64 (frV s : Nat)) ∧ Disk w' B p s c ∧ Below B w w' := by
  have HD := Lib.hid hD
  obtain ⟨m, h, hl, hn1, hn2, hno⟩ := hD
  have HM := Lib.hid h
  have HL := Lib.hid hl
  have HK := Lib.hid (check_any h)
  have hsz := h.con.nm.size_le
  have hu := usedD_le (fun f hf => (hl.fl f hf).1) s.D1
  have hub : Maps.size s.D1 * 16777216 ≤ 16777216000000 := by
    have : Maps.size s.D1 * 16777216 ≤ 1000000 * 16777216 := Nat.mul_le_mul_right _ (by omega)
    omega
  have hcl := hl.cl
  unfold frV
  by_cases hd : s.down = true
  · have e1 : chk s = 18 := by unfold chk; rw [if_pos hd]
    rw [e1] at HK
    rw [if_pos hd]
    clear e1 hd h hl
    go_enter Try.func30, Try.ntmps30
    go_wp2_with fail
    refine HK.out.mono ?_
    rintro e w2 ⟨rfl, rfl⟩
    go_wp2_with fail
    go_ret
    exact ⟨rfl, HD.out, Below.refl _ _⟩
  · have e1 : chk s = 0 := by unfold chk; rw [if_neg hd]
    rw [e1] at HK
    rw [if_neg hd]
    obtain ⟨U, hU⟩ : ∃ n, usedD s.F s.D1 = n := ⟨_, rfl⟩
    rw [hU] at hu ⊢
    have e2 : IntKind.i64.wrap ((s.cap : Int) - (U : Int)) = (s.cap : Int) - (U : Int) := IntWalk.i64_in _ (by omega)
    clear e1 hd h hl hub
    by_cases hUc : U < s.cap
    · have i1 : (0 : Int) < (s.cap : Int) - (U : Int) := by omega
      have i2 : decide ((0 : Int) < (s.cap : Int) - (U : Int)) = true := decide_eq_true i1
      have i3 : (U : Int) < (s.cap : Int) := by omega
      go_enter Try.func30, Try.ntmps30
      go_wp2_with fail
      refine HK.out.mono ?_
      rintro e w2 ⟨rfl, rfl⟩
      go_upto_region 3 with fail
      have HS := Lib.hid (fun w' (hb : Below w2.heap.size w2 w') => (show w'.cell? ⟨p, 0, none⟩ = some (.int .i64 (s.cap : Nat)) from (HM.out.keep hb).at4.1))
      refine Till.begin 8 (fun w' => w'.cell? ⟨p, 0, none⟩ = some (.int .i64 (s.cap : Nat))) (by kernel_rfl) (HS.out _ (Below.refl _ _).drew) (fun hH => ?_)
      clear hH
      have HB0 := Lib.hid (Below.refl w2.heap.size w2).drew
      generalize w2.drew = V0 at HB0 ⊢
      try simp only [List.setIfInBounds_toArray, List.set_cons_zero, List.set_cons_succ]
      refine Till.tL 0 [1, 2, 3, 6, 7, 8] 6 (ptrV p) (HS.out _ HB0.out) ?_
      try simp only [Act.put, List.setIfInBounds_toArray, List.set_cons_zero, List.set_cons_succ]
      refine Till.tL 1 [2, 3, 6, 7, 8] 7 (ptrV p) (HS.out _ HB0.out) ?_
      try simp only [Act.put, List.setIfInBounds_toArray, List.set_cons_zero, List.set_cons_succ]
      refine Till.tL 2 [3, 6, 7, 8] 8 (.pointer (some ⟨p, 0, none⟩)) (HS.out _ HB0.out) ?_
      try simp only [Act.put, List.setIfInBounds_toArray, List.set_cons_zero, List.set_cons_succ]
      refine Till.tL 3 [6, 7, 8] 9 (.int .i64 (s.cap : Nat)) (HS.out _ HB0.out) ?_
      try simp only [Act.put, List.setIfInBounds_toArray, List.set_cons_zero, List.set_cons_succ]
      refine Till.tL 4 [5, 6, 7, 8] 10 (ptrV p) (HS.out _ HB0.out) ?_
      try simp only [Act.put, List.setIfInBounds_toArray, List.set_cons_zero, List.set_cons_succ]
      refine Till.one (i := 5) (by kernel_rfl) rfl (fun K hK => ?_)
      go_simp
      refine (used_any (HM.out.keep HB0.out) HL.out.r1 (fun f hf => (HL.out.fl f hf).1) (by omega)).mono ?_
      rintro e V1 ⟨rfl, hb⟩
      have HB1 := Lib.hid (below_on HB0.out hb)
      rw [hU]
      refine hK.out _ _ (fun _ => HS.out _ HB1.out) ?_
      clear hK K hb
      try simp only [List.setIfInBounds_toArray, List.set_cons_zero, List.set_cons_succ]
      refine Till.one (i := 6) (by kernel_rfl) rfl (fun K hK => ?_)
      go_simp
      refine hK.out _ _ (fun _ => HS.out _ HB1.out) ?_
      clear hK K
      try simp only [List.setIfInBounds_toArray, List.set_cons_zero, List.set_cons_succ]
      refine Till.one (i := 7) (by kernel_rfl) rfl (fun K hK => ?_)
      go_simp
      refine hK.out _ _ (fun _ => HS.out _ HB1.out) ?_
      clear hK K
      try simp only [List.setIfInBounds_toArray, List.set_cons_zero, List.set_cons_succ]
      refine Till.one (i := 8) (by kernel_rfl) rfl (fun K hK => ?_)
      go_simp
      refine hK.out _ _ (fun h => absurd h (by simp)) ?_
      clear hK K
      try simp only [List.setIfInBounds_toArray, List.set_cons_zero, List.set_cons_succ]
      refine Till.done (by kernel_rfl) ?_ _
      have HKw := Lib.hid (show Below B w2 V1 from HB1.out.mono (by have := HM.out.low; have := row_lt HM.out.obj; omega))
      have HDD := Lib.hid (HD.out.keep HB1.out)
      go_wp2_with fail
      go_ret
      exact ⟨by rw [show ((s.cap : Int) - (U : Int) : Int) = ((s.cap - U : Nat) : Int) by omega]; rfl, HDD.out, HKw.out⟩
    · have i1 : ¬ (0 : Int) < (s.cap : Int) - (U : Int) := by omega
      have i2 : decide ((0 : Int) < (s.cap : Int) - (U : Int)) = false := decide_eq_false i1
      have i3 : ¬ (U : Int) < (s.cap : Int) := by omega
      go_enter Try.func30, Try.ntmps30
      go_wp2_with fail
      refine HK.out.mono ?_
      rintro e w2 ⟨rfl, rfl⟩
      go_upto_region 3 with fail
      have HS := Lib.hid (fun w' (hb : Below w2.heap.size w2 w') => (show w'.cell? ⟨p, 0, none⟩ = some (.int .i64 (s.cap : Nat)) from (HM.out.keep hb).at4.1))
      refine Till.begin 8 (fun w' => w'.cell? ⟨p, 0, none⟩ = some (.int .i64 (s.cap : Nat))) (by kernel_rfl) (HS.out _ (Below.refl _ _).drew) (fun hH => ?_)
      clear hH
      have HB0 := Lib.hid (Below.refl w2.heap.size w2).drew
      generalize w2.drew = V0 at HB0 ⊢
      try simp only [List.setIfInBounds_toArray, List.set_cons_zero, List.set_cons_succ]
      refine Till.tL 0 [1, 2, 3, 6, 7, 8] 6 (ptrV p) (HS.out _ HB0.out) ?_
      try simp only [Act.put, List.setIfInBounds_toArray, List.set_cons_zero, List.set_cons_succ]
      refine Till.tL 1 [2, 3, 6, 7, 8] 7 (ptrV p) (HS.out _ HB0.out) ?_
      try simp only [Act.put, List.setIfInBounds_toArray, List.set_cons_zero, List.set_cons_succ]
      refine Till.tL 2 [3, 6, 7, 8] 8 (.pointer (some ⟨p, 0, none⟩)) (HS.out _ HB0.out) ?_
      try simp only [Act.put, List.setIfInBounds_toArray, List.set_cons_zero, List.set_cons_succ]
      refine Till.tL 3 [6, 7, 8] 9 (.int .i64 (s.cap : Nat)) (HS.out _ HB0.out) ?_
      try simp only [Act.put, List.setIfInBounds_toArray, List.set_cons_zero, List.set_cons_succ]
      refine Till.tL 4 [5, 6, 7, 8] 10 (ptrV p) (HS.out _ HB0.out) ?_
      try simp only [Act.put, List.setIfInBounds_toArray, List.set_cons_zero, List.set_cons_succ]
      refine Till.one (i := 5) (by kernel_rfl) rfl (fun K hK => ?_)
      go_simp
      refine (used_any (HM.out.keep HB0.out) HL.out.r1 (fun f hf => (HL.out.fl f hf).1) (by omega)).mono ?_
      rintro e V1 ⟨rfl, hb⟩
      have HB1 := Lib.hid (below_on HB0.out hb)
      rw [hU]
      refine hK.out _ _ (fun _ => HS.out _ HB1.out) ?_
      clear hK K hb
      try simp only [List.setIfInBounds_toArray, List.set_cons_zero, List.set_cons_succ]
      refine Till.one (i := 6) (by kernel_rfl) rfl (fun K hK => ?_)
      go_simp
      refine hK.out _ _ (fun _ => HS.out _ HB1.out) ?_
      clear hK K
      try simp only [List.setIfInBounds_toArray, List.set_cons_zero, List.set_cons_succ]
      refine Till.one (i := 7) (by kernel_rfl) rfl (fun K hK => ?_)
      go_simp
      refine hK.out _ _ (fun _ => HS.out _ HB1.out) ?_
      clear hK K
      try simp only [List.setIfInBounds_toArray, List.set_cons_zero, List.set_cons_succ]
      refine Till.one (i := 8) (by kernel_rfl) rfl (fun K hK => ?_)
      go_simp
      refine hK.out _ _ (fun h => absurd h (by simp)) ?_
      clear hK K
      try simp only [List.setIfInBounds_toArray, List.set_cons_zero, List.set_cons_succ]
      refine Till.done (by kernel_rfl) ?_ _
      have HKw := Lib.hid (show Below B w2 V1 from HB1.out.mono (by have := HM.out.low; have := row_lt HM.out.obj; omega))
      have HDD := Lib.hid (HD.out.keep HB1.out)
      go_wp2_with fail
      go_ret
      exact ⟨by rw [show (0 : Int) = ((s.cap - U : Nat) : Int) by omega]; rfl, HDD.out, HKw.out⟩
end Go.Proofs.Ytbmogecnepgnaaa
