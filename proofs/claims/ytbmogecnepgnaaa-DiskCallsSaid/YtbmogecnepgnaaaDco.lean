/- The model: an act. -/
import Derived.Test.YtbmogecnepgnaaaDcn
namespace Go.Proofs.Ytbmogecnepgnaaa
open Go.RowKit Go.Maps Go.Shelf
def acvV (x : Ac) : Value := .agg #[.int .u8 (x.kind : Nat), .string x.name, .string x.dst, .int .i8 x.num, .slice x.sA x.sn x.sc]
def mkE (md : Md) (x : Ac) (k : Nat) : Int := match k with
  | 1 => sMe md x.name
  | 2 => nMe md x.name x.dst
  | 3 => rMe md x.name
  | 4 => pMe md
  | 5 => if md.down then 18 else 0
  | 6 => 0
  | 7 => 0
  | _ => aMe md x.name x.dst
def mkS (md : Md) (x : Ac) (l : List Int) (k : Nat) : Md := match k with
  | 1 => sMs md x.name
  | 2 => nMs md x.name x.dst
  | 3 => rMs md x.name
  | 4 => pMs md
  | 5 => if md.down then md else { md with lim := max x.num (-1) }
  | 6 => { md with down := true }
  | 7 => stM md l
  | _ => aMs md x.name x.dst
set_option maxRecDepth 100000 in
set_option maxHeartbeats 16000000 in
theorem actM_any {w : World} {pm : Nat} {md : Md} (hM : MdAt w pm md) (hB : MB md) (hpx : ∀ c ∈ md.pend, isE c.2.1 = false → c.2.2 < md.files.length) (hdp : md.dur.length + md.pend.length ≤ 900) {x : Ac} {l : List Int} (_hk8 : x.kind < 256) (hn : x.name.size ≤ 16777216) (hd : x.dst.size ≤ 16777216) (hz : -128 ≤ x.num ∧ x.num ≤ 127)
    (hsc : x.sn ≤ x.sc ∧ x.sc ≤ maxLen) (hl : IntL w x.sA l) (hlk : ∀ b o t, l ≠ [] → x.sA = some ⟨b, o, t⟩ → b < pm) (hll : l.length = x.sn) (hbd : ∀ k ∈ l, -9223372036854775808 ≤ k ∧ k ≤ 9223372036854775807) :
    Calls Try.prog 16 #[ptrV pm, acvV x] w fun e w' => e = .returned (.int .i64 (mkE md x (x.kind % 11))) ∧ MdAt w' pm (mkS md x l (x.kind % 11)) ∧ w.grownBy w' (some pm) := by
  unfold acvV
  have k1 := (Below.refl w.heap.size w).alloc (Nat.le_refl _) (.cells #[.int .u8 (x.kind : Nat), .string x.name, .string x.dst, .int .i8 x.num, .slice x.sA x.sn x.sc] 40)
  have C1 := Cells.new w #[.int .u8 (x.kind : Nat), .string x.name, .string x.dst, .int .i8 x.num, .slice x.sA x.sn x.sc] 40
  obtain ⟨w1, hw1⟩ : ∃ u, w.alloc (.cells #[.int .u8 (x.kind : Nat), .string x.name, .string x.dst, .int .i8 x.num, .slice x.sA x.sn x.sc] 40) = u := ⟨_, rfl⟩
  rw [hw1] at k1 C1
  have HM := Lib.hid (hM.keep k1)
  have HG := Lib.hid (gb_of k1 (some pm))
  have HB := Lib.hid hB
  have HP := Lib.hid (⟨hpx, hdp⟩ : _ ∧ _)
  have HI := Lib.hid (⟨hl.keep k1, hlk, hll, hbd⟩ : IntL w1 x.sA l ∧ (∀ b o t, l ≠ [] → x.sA = some ⟨b, o, t⟩ → b < pm) ∧ l.length = x.sn ∧ ∀ k ∈ l, -9223372036854775808 ≤ k ∧ k ≤ 9223372036854775807)
  have HSC := Lib.hid hsc
  have z0 := C1.at_ 0
  have z1 := C1.at_ 1
  have z2 := C1.at_ 2
  have z3 := C1.at_ 3
  have z4 := C1.at_ 4
  simp only [List.getElem?_cons_zero, List.getElem?_cons_succ] at z0 z1 z2 z3 z4
  have e5 : IntKind.i64.wrap x.num = x.num := IntWalk.i64_in _ (by omega)
  obtain ⟨vf, vn, vd, vp, hv⟩ := HM.out
  have HV := Lib.hid hv
  obtain ⟨k, hk⟩ : ∃ k, x.kind % 11 = k := ⟨_, rfl⟩
  have e2 : (x.kind : Int).tmod 11 = (k : Nat) := by rw [← hk]; exact (Int.ofNat_tmod x.kind 11).symm
  rw [hk]
  have hk11 : k < 11 := by omega
  clear hk hM C1 k1 hl hlk hll hbd hB hpx hdp hv hsc
  rcases (show k = 0 ∨ k = 1 ∨ k = 2 ∨ k = 3 ∨ k = 4 ∨ k = 5 ∨ k = 6 ∨ k = 7 ∨ k = 8 ∨ k = 9 ∨ k = 10 by omega) with rfl | rfl | rfl | rfl | rfl | rfl | rfl | rfl | rfl | rfl | rfl
  · have e4 : (x.kind : Int).tmod 11 = 0 := by rw [e2]; rfl
    clear e2
    go_enter Try.func16, Try.ntmps16
    go_wp2_with fail
    refine (appendM_any HM.out HB.out x.name x.dst hn hd).mono ?_
    rintro e w2 ⟨rfl, hm, hg⟩
    have HF := Lib.hid hm
    have HGF := Lib.hid (grown_trans HG.out hg)
    clear hm hg
    go_wp2_with fail
    go_ret
    exact ⟨rfl, HF.out, HGF.out⟩
  · have e4 : (x.kind : Int).tmod 11 = 1 := by rw [e2]; rfl
    clear e2
    go_enter Try.func16, Try.ntmps16
    go_wp2_with fail
    refine (syncM_any HM.out HB.out x.name).mono ?_
    rintro e w2 ⟨rfl, hm, hg⟩
    have HF := Lib.hid hm
    have HGF := Lib.hid (grown_trans HG.out hg)
    clear hm hg
    go_wp2_with fail
    go_ret
    exact ⟨rfl, HF.out, HGF.out⟩
  · have e4 : (x.kind : Int).tmod 11 = 2 := by rw [e2]; rfl
    clear e2
    go_enter Try.func16, Try.ntmps16
    go_wp2_with fail
    refine (renameM_any HM.out HB.out x.name x.dst hd).mono ?_
    rintro e w2 ⟨rfl, hm, hg⟩
    have HF := Lib.hid hm
    have HGF := Lib.hid (grown_trans HG.out hg)
    clear hm hg
    go_wp2_with fail
    go_ret
    exact ⟨rfl, HF.out, HGF.out⟩
  · have e4 : (x.kind : Int).tmod 11 = 3 := by rw [e2]; rfl
    clear e2
    go_enter Try.func16, Try.ntmps16
    go_wp2_with fail
    refine (removeM_any HM.out HB.out x.name).mono ?_
    rintro e w2 ⟨rfl, hm, hg⟩
    have HF := Lib.hid hm
    have HGF := Lib.hid (grown_trans HG.out hg)
    clear hm hg
    go_wp2_with fail
    go_ret
    exact ⟨rfl, HF.out, HGF.out⟩
  · have e4 : (x.kind : Int).tmod 11 = 4 := by rw [e2]; rfl
    clear e2
    go_enter Try.func16, Try.ntmps16
    go_wp2_with fail
    refine (publishM_any HM.out HB.out).mono ?_
    rintro e w2 ⟨rfl, hm, hg⟩
    have HF := Lib.hid hm
    have HGF := Lib.hid (grown_trans HG.out hg)
    clear hm hg
    go_wp2_with fail
    go_ret
    exact ⟨rfl, HF.out, HGF.out⟩
  · have e4 : (x.kind : Int).tmod 11 = 5 := by rw [e2]; rfl
    clear e2
    obtain ⟨_, _, c2, _, _, _, _⟩ := HV.out.at7
    have y1 := HV.out.fz 1
    by_cases hdn : md.down = true
    · have HE := Lib.hid (show mkE md x 5 = 18 ∧ mkS md x l 5 = md from ⟨by unfold mkE; rw [if_pos hdn]; rfl, by unfold mkS; rw [if_pos hdn]; rfl⟩)
      rw [hdn] at c2
      clear hdn
      go_enter Try.func16, Try.ntmps16
      go_wp2_with fail
      go_ret
      exact ⟨by rw [HE.out.1]; rfl, by rw [HE.out.2]; exact HM.out, HG.out⟩
    · have hdn2 : md.down = false := by simpa using hdn
      have HE := Lib.hid (show mkE md x 5 = 0 ∧ mkS md x l 5 = { md with lim := max x.num (-1) } from ⟨by unfold mkE; rw [if_neg hdn]; rfl, by unfold mkS; rw [if_neg hdn]; rfl⟩)
      rw [hdn2] at c2
      have hs := HV.out.set (md' := { md with lim := max x.num (-1) }) 1 (.int .i64 (max x.num (-1))) rfl HV.out.f HV.out.n HV.out.d HV.out.p
      have HF := Lib.hid hs.1
      have HGF := Lib.hid (grown_trans HG.out hs.2)
      clear hdn hdn2 hs
      go_enter Try.func16, Try.ntmps16
      go_wp2_with fail
      go_ret
      exact ⟨by rw [HE.out.1]; rfl, by rw [HE.out.2]; exact ⟨_, _, _, _, HF.out⟩, HGF.out⟩
  · have e4 : (x.kind : Int).tmod 11 = 6 := by rw [e2]; rfl
    clear e2
    have y2 := HV.out.fz 2
    obtain ⟨_, _, c2, _, _, _, _⟩ := HV.out.at7
    have hs := HV.out.set (md' := { md with down := true }) 2 (.bool true) rfl HV.out.f HV.out.n HV.out.d HV.out.p
    have HF := Lib.hid hs.1
    have HGF := Lib.hid (grown_trans HG.out hs.2)
    clear hs
    go_enter Try.func16, Try.ntmps16
    go_wp2_with fail
    go_ret
    exact ⟨rfl, ⟨_, _, _, _, HF.out⟩, HGF.out⟩
  · have e4 : (x.kind : Int).tmod 11 = 7 := by rw [e2]; rfl
    clear e2
    go_enter Try.func16, Try.ntmps16
    go_wp2_with fail
    refine (startM_any HM.out HB.out HP.out.1 HP.out.2 HI.out.1 HI.out.2.2.1 HSC.out HI.out.2.1 HI.out.2.2.2).mono ?_
    rintro e w2 ⟨⟨v, rfl⟩, hm, hg⟩
    have HF := Lib.hid hm
    have HGF := Lib.hid (grown_trans HG.out hg)
    clear hm hg
    go_wp2_with fail
    go_ret
    exact ⟨rfl, HF.out, HGF.out⟩
  · have e4 : (x.kind : Int).tmod 11 = 8 := by rw [e2]; rfl
    clear e2
    go_enter Try.func16, Try.ntmps16
    go_wp2_with fail
    refine (appendM_any HM.out HB.out x.name x.dst hn hd).mono ?_
    rintro e w2 ⟨rfl, hm, hg⟩
    have HF := Lib.hid hm
    have HGF := Lib.hid (grown_trans HG.out hg)
    clear hm hg
    go_wp2_with fail
    go_ret
    exact ⟨rfl, HF.out, HGF.out⟩
  · have e4 : (x.kind : Int).tmod 11 = 9 := by rw [e2]; rfl
    clear e2
    go_enter Try.func16, Try.ntmps16
    go_wp2_with fail
    refine (appendM_any HM.out HB.out x.name x.dst hn hd).mono ?_
    rintro e w2 ⟨rfl, hm, hg⟩
    have HF := Lib.hid hm
    have HGF := Lib.hid (grown_trans HG.out hg)
    clear hm hg
    go_wp2_with fail
    go_ret
    exact ⟨rfl, HF.out, HGF.out⟩
  · have e4 : (x.kind : Int).tmod 11 = 10 := by rw [e2]; rfl
    clear e2
    go_enter Try.func16, Try.ntmps16
    go_wp2_with fail
    refine (appendM_any HM.out HB.out x.name x.dst hn hd).mono ?_
    rintro e w2 ⟨rfl, hm, hg⟩
    have HF := Lib.hid hm
    have HGF := Lib.hid (grown_trans HG.out hg)
    clear hm hg
    go_wp2_with fail
    go_ret
    exact ⟨rfl, HF.out, HGF.out⟩
end Go.Proofs.Ytbmogecnepgnaaa
