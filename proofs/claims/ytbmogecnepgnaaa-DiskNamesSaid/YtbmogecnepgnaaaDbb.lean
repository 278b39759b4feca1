/- An act. -/
import Derived.Test.YtbmogecnepgnaaaDba
namespace Go.Proofs.Ytbmogecnepgnaaa
open Go.RowKit Go.Maps Go.Shelf
set_option maxRecDepth 100000 in
set_option maxHeartbeats 4000000 in
theorem start_up {w : World} {B p c : Nat} {s : St} (hD : Disk w B p s c) (hdn : s.down = false) (v : Value) : Calls Try.prog 34 #[ptrV p, v] w fun e w' => (∃ v, e = .returned v) ∧ w' = w := by
  obtain ⟨m, h, _⟩ := hD
  obtain ⟨_, _, _, _, c4, _, _⟩ := h.at4
  rw [hdn] at c4
  clear h
  go_enter Try.func34, Try.ntmps34
  go_wp2_with fail
  refine bodyPost_ret (results_none rfl _ _ _) rfl ?_
  exact ⟨⟨_, rfl⟩, rfl⟩
def acV (x : Ac) : Value := .agg #[.int .u8 (x.kind : Nat), .string x.name, .string x.dst, .int .i8 x.num, .slice x.sA x.sn x.sc]
theorem Disk.dl {w : World} {B p c : Nat} {s : St} (h : Disk w B p s c) : DL s := let ⟨_, _, h, _⟩ := h; h
theorem Disk.lo {w : World} {B p c : Nat} {s : St} (h : Disk w B p s c) : B ≤ w.heap.size := by
  obtain ⟨m, h, _⟩ := h
  have := row_lt h.obj
  have := h.low
  omega
set_option maxRecDepth 100000 in
set_option maxHeartbeats 16000000 in
theorem act_any {w : World} {B p c : Nat} {s : St} (hD : Disk w B p s c) (hc : c < 1000000) {x : Ac} {l : List Int} (_hk8 : x.kind < 256) (hn : x.name.size ≤ 1000000) (hd : x.dst.size ≤ 1000000) (hz : -128 ≤ x.num ∧ x.num ≤ 127) (hl : IntL w x.sA l) (hlk : ∀ b o t, l ≠ [] → x.sA = some ⟨b, o, t⟩ → b < w.heap.size ∧ (b < B ∨ ∃ cur fz, w.heap[b]? = some (.cells cur 3 fz))) (hll : l.length = x.sn) (hbd : ∀ k ∈ l, -9223372036854775808 ≤ k ∧ k ≤ 9223372036854775807) :
    Calls Try.prog 15 #[ptrV p, acV x] w fun e w' => ∃ r s', e = .returned (.int .i64 r) ∧ AcR s x l r s' ∧ Disk w' B p s' (c + 1) ∧ Below B w w' := by
  unfold acV
  have hlo := hD.lo
  have k1 := (Below.refl w.heap.size w).alloc (Nat.le_refl _) (.cells #[.int .u8 (x.kind : Nat), .string x.name, .string x.dst, .int .i8 x.num, .slice x.sA x.sn x.sc] 40)
  have C1 := Cells.new w #[.int .u8 (x.kind : Nat), .string x.name, .string x.dst, .int .i8 x.num, .slice x.sA x.sn x.sc] 40
  obtain ⟨w1, hw1⟩ : ∃ u, w.alloc (.cells #[.int .u8 (x.kind : Nat), .string x.name, .string x.dst, .int .i8 x.num, .slice x.sA x.sn x.sc] 40) = u := ⟨_, rfl⟩
  rw [hw1] at k1 C1
  have HD := Lib.hid (hD.keep k1)
  have HK := Lib.hid (k1.mono hlo)
  have HI := Lib.hid (⟨hl.keep k1, fun b o t e1 e2 => ⟨Nat.lt_of_lt_of_le (hlk b o t e1 e2).1 k1.size, (hlk b o t e1 e2).2.imp id fun ⟨cur, fz, h⟩ => ⟨cur, fz, row_keep h k1⟩⟩, hll, hbd⟩ : IntL w1 x.sA l ∧ (∀ b o t, l ≠ [] → x.sA = some ⟨b, o, t⟩ → b < w1.heap.size ∧ (b < B ∨ ∃ cur fz, w1.heap[b]? = some (.cells cur 3 fz))) ∧ l.length = x.sn ∧ ∀ k ∈ l, -9223372036854775808 ≤ k ∧ k ≤ 9223372036854775807)
  have z0 := C1.at_ 0
  have z1 := C1.at_ 1
  have z2 := C1.at_ 2
  have z3 := C1.at_ 3
  have z4 := C1.at_ 4
  simp only [List.getElem?_cons_zero, List.getElem?_cons_succ] at z0 z1 z2 z3 z4
  have hns : x.name.size ≤ maxLen := by unfold maxLen; omega
  have hds : x.dst.size ≤ maxLen := by unfold maxLen; omega
  have e5 : IntKind.i64.wrap x.num = x.num := IntWalk.i64_in _ (by omega)
  have HR := Lib.hid (fun (k : Nat) (hk : x.kind % 11 = k) (r : Int) (s' : St) (h : acM s x l r s' k) => (show AcR s x l r s' by unfold AcR; rw [hk]; exact h))
  obtain ⟨k, hk⟩ : ∃ k, x.kind % 11 = k := ⟨_, rfl⟩
  have e2 : (x.kind : Int).tmod 11 = (k : Nat) := by rw [← hk]; exact (Int.ofNat_tmod x.kind 11).symm
  have Hk := Lib.hid hk
  have hk11 : k < 11 := by omega
  clear hk hD C1 k1 hl hlk hll hbd
  have hc2 : c < 1000000 := hc
  rcases (show k = 0 ∨ k = 1 ∨ k = 2 ∨ k = 3 ∨ k = 4 ∨ k = 5 ∨ k = 6 ∨ k = 7 ∨ k = 8 ∨ k = 9 ∨ k = 10 by omega) with rfl | rfl | rfl | rfl | rfl | rfl | rfl | rfl | rfl | rfl | rfl
  · have e4 : (x.kind : Int).tmod 11 = 0 := by rw [e2]; rfl
    clear e2
    go_enter Try.func15, Try.ntmps15
    go_wp2_with fail
    refine (append_any HD.out hc2 x.name x.dst hn (by omega)).mono ?_
    rintro e w2 ⟨b, rfl, hD, hfr, hb⟩
    have HX := Lib.hid hfr
    clear hfr
    have HF := Lib.hid hD
    have HB := Lib.hid (HK.out.trans hb)
    clear hD hb
    go_wp2_with fail
    go_ret
    exact ⟨_, _, rfl, HR.out 0 Hk.out _ _ ⟨b, HX.out, rfl, rfl⟩, HF.out, HB.out⟩
  · have e4 : (x.kind : Int).tmod 11 = 1 := by rw [e2]; rfl
    clear e2
    go_enter Try.func15, Try.ntmps15
    go_wp2_with fail
    refine (sync_any HD.out x.name hns).mono ?_
    rintro e w2 ⟨rfl, hD, hb⟩
    have HF := Lib.hid hD
    have HB := Lib.hid (HK.out.trans hb)
    clear hD hb
    go_wp2_with fail
    go_ret
    exact ⟨_, _, rfl, HR.out 1 Hk.out _ _ ⟨rfl, rfl⟩, HF.out.mono (Nat.le_succ c), HB.out⟩
  · have e4 : (x.kind : Int).tmod 11 = 2 := by rw [e2]; rfl
    clear e2
    go_enter Try.func15, Try.ntmps15
    go_wp2_with fail
    refine (rename_any HD.out hc2 x.name x.dst hns hd).mono ?_
    rintro e w2 ⟨rfl, hD, hb⟩
    have HF := Lib.hid hD
    have HB := Lib.hid (HK.out.trans hb)
    clear hD hb
    go_wp2_with fail
    go_ret
    exact ⟨_, _, rfl, HR.out 2 Hk.out _ _ ⟨rfl, rfl⟩, HF.out, HB.out⟩
  · have e4 : (x.kind : Int).tmod 11 = 3 := by rw [e2]; rfl
    clear e2
    go_enter Try.func15, Try.ntmps15
    go_wp2_with fail
    refine (remove_any HD.out hc2 x.name hns).mono ?_
    rintro e w2 ⟨rfl, hD, hb⟩
    have HF := Lib.hid hD
    have HB := Lib.hid (HK.out.trans hb)
    clear hD hb
    go_wp2_with fail
    go_ret
    exact ⟨_, _, rfl, HR.out 3 Hk.out _ _ ⟨rfl, rfl⟩, HF.out, HB.out⟩
  · have e4 : (x.kind : Int).tmod 11 = 4 := by rw [e2]; rfl
    clear e2
    go_enter Try.func15, Try.ntmps15
    go_wp2_with fail
    refine (publish_any HD.out).mono ?_
    rintro e w2 ⟨rfl, hD, hb⟩
    have HF := Lib.hid hD
    have HB := Lib.hid (HK.out.trans hb)
    clear hD hb
    go_wp2_with fail
    go_ret
    exact ⟨_, _, rfl, HR.out 4 Hk.out _ _ ⟨rfl, rfl⟩, HF.out.mono (Nat.le_succ c), HB.out⟩
  · have e4 : (x.kind : Int).tmod 11 = 5 := by rw [e2]; rfl
    clear e2
    go_enter Try.func15, Try.ntmps15
    go_wp2_with fail
    refine (limit_any HD.out x.num (by omega)).mono ?_
    rintro e w2 ⟨rfl, hD, hb⟩
    have HF := Lib.hid hD
    have HB := Lib.hid (HK.out.trans hb)
    clear hD hb
    go_wp2_with fail
    go_ret
    exact ⟨_, _, rfl, HR.out 5 Hk.out _ _ ⟨rfl, rfl⟩, HF.out.mono (Nat.le_succ c), HB.out⟩
  · have e4 : (x.kind : Int).tmod 11 = 6 := by rw [e2]; rfl
    clear e2
    go_enter Try.func15, Try.ntmps15
    go_wp2_with fail
    refine (crash_any HD.out).mono ?_
    rintro e w2 ⟨⟨v, rfl⟩, hD, hb⟩
    have HF := Lib.hid hD
    have HB := Lib.hid (HK.out.trans hb)
    clear hD hb
    go_wp2_with fail
    go_ret
    exact ⟨_, _, rfl, HR.out 6 Hk.out _ _ ⟨rfl, rfl⟩, HF.out.mono (Nat.le_succ c), HB.out⟩
  · have e4 : (x.kind : Int).tmod 11 = 7 := by rw [e2]; rfl
    clear e2
    by_cases hdn : s.down = true
    · have HDN := Lib.hid hdn
      clear hdn
      go_enter Try.func15, Try.ntmps15
      go_wp2_with fail
      refine (start_any HD.out hc2 HDN.out HI.out.1 HI.out.2.1 HI.out.2.2.1 HI.out.2.2.2).mono ?_
      rintro e w2 ⟨⟨v, rfl⟩, ⟨ss, hp, hq, hD⟩, hb⟩
      have HF := Lib.hid hD
      have HB := Lib.hid (HK.out.trans hb)
      have HP := Lib.hid (⟨hp, hq⟩ : _ ∧ _)
      clear hD hb hp hq
      go_wp2_with fail
      go_ret
      exact ⟨_, _, rfl, HR.out 7 Hk.out _ _ ⟨rfl, by rw [if_pos HDN.out]; exact ⟨ss, HP.out.1, HP.out.2, rfl⟩⟩, HF.out.mono (Nat.le_succ c), HB.out⟩
    · have HDN := Lib.hid (show s.down = false by simpa using hdn)
      clear hdn
      go_enter Try.func15, Try.ntmps15
      go_wp2_with fail
      refine (start_up HD.out HDN.out _).mono ?_
      rintro e w2 ⟨⟨v, rfl⟩, rfl⟩
      go_wp2_with fail
      go_ret
      exact ⟨_, s, rfl, HR.out 7 Hk.out _ _ ⟨rfl, by rw [if_neg (by rw [HDN.out]; decide)]⟩, HD.out.mono (Nat.le_succ c), HK.out⟩
  · have e4 : (x.kind : Int).tmod 11 = 8 := by rw [e2]; rfl
    clear e2
    go_enter Try.func15, Try.ntmps15
    go_wp2_with fail
    refine (append_any HD.out hc2 x.name x.dst hn (by omega)).mono ?_
    rintro e w2 ⟨b, rfl, hD, hfr, hb⟩
    have HX := Lib.hid hfr
    clear hfr
    have HF := Lib.hid hD
    have HB := Lib.hid (HK.out.trans hb)
    clear hD hb
    go_wp2_with fail
    go_ret
    exact ⟨_, _, rfl, HR.out 8 Hk.out _ _ ⟨b, HX.out, rfl, rfl⟩, HF.out, HB.out⟩
  · have e4 : (x.kind : Int).tmod 11 = 9 := by rw [e2]; rfl
    clear e2
    go_enter Try.func15, Try.ntmps15
    go_wp2_with fail
    refine (append_any HD.out hc2 x.name x.dst hn (by omega)).mono ?_
    rintro e w2 ⟨b, rfl, hD, hfr, hb⟩
    have HX := Lib.hid hfr
    clear hfr
    have HF := Lib.hid hD
    have HB := Lib.hid (HK.out.trans hb)
    clear hD hb
    go_wp2_with fail
    go_ret
    exact ⟨_, _, rfl, HR.out 9 Hk.out _ _ ⟨b, HX.out, rfl, rfl⟩, HF.out, HB.out⟩
  · have e4 : (x.kind : Int).tmod 11 = 10 := by rw [e2]; rfl
    clear e2
    go_enter Try.func15, Try.ntmps15
    go_wp2_with fail
    refine (append_any HD.out hc2 x.name x.dst hn (by omega)).mono ?_
    rintro e w2 ⟨b, rfl, hD, hfr, hb⟩
    have HX := Lib.hid hfr
    clear hfr
    have HF := Lib.hid hD
    have HB := Lib.hid (HK.out.trans hb)
    clear hD hb
    go_wp2_with fail
    go_ret
    exact ⟨_, _, rfl, HR.out 10 Hk.out _ _ ⟨b, HX.out, rfl, rfl⟩, HF.out, HB.out⟩
end Go.Proofs.Ytbmogecnepgnaaa
