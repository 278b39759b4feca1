/- The first example of the chapter. -/
import Derived.Test.YtmfmpkihmadjmaaVan
import Derived.Test.YtmfmpkihmadjmaaVam
namespace Go.Proofs.Ytmfmpkihmadjmaa
open Go.RowKit Go.Shelf
def krK : List (List Int) := [[0, 1], [-6, -1], [-1, 2]]
def rsK : List (ByteArray × List (Nat × Bool)) := [(⟨#[114, 49]⟩, [(0, true), (1, true)]), (⟨#[114, 50]⟩, [(0, false), (1, false)]), (⟨#[114, 51]⟩, [(1, false), (2, true)])]
def osK : List ByteArray := [⟨#[97]⟩, ⟨#[98]⟩, ⟨#[99]⟩]
theorem famO_k : famO (1 + 2) = osK := by decide +kernel
theorem famR_k : famR (1 + 2) krK = rsK := by decide +kernel
theorem famR_kl : (famR (1 + 2) krK).length = 3 := by decide +kernel
theorem famG_k : famG (1 + 2) [] = [] := rfl
theorem famV_k : famV (1 + 2) [] = [] := rfl
theorem AL_k : (AL 3 rsK []).length = 3 := by decide +kernel
theorem AL_k1 : (AL 3 rsK []).isEmpty = false := by decide +kernel
theorem fst_k : fstL 3 osK rsK [] = [⟨#[97]⟩, ⟨#[99]⟩] := by decide +kernel
theorem AL_k2 : AL 3 rsK [(1, true)] ≠ [] := by decide +kernel
theorem frc_k : frcU ((AL 3 rsK [(1, true)]).map cF) 3 = [(0, false), (1, true), (2, true)] := by decide +kernel
theorem AL_k3 : AL 3 rsK [(1, true), (2, false)] = [] := by decide +kernel
theorem cfL_k : (cfL 3 rsK [(1, true), (2, false)] 3).1 = [2] := by decide +kernel
theorem rsK_set : rsK.set 1 (⟨#[114, 50]⟩, [(0, false), (1, false)]) = rsK := rfl
theorem ch_k1 : chE 3 none (lc []) = 0 := rfl
theorem ch_k2 : chE 3 none (lc [(1, true)]) = 0 := by decide +kernel
theorem ch_k3 : chE 3 none (lc [(1, true), (2, false)]) = 0 := by decide +kernel
theorem ch_k4 : chE 3 none (lc [(0, false), (1, false)]) = 0 := by decide +kernel
theorem lits_of {w : World} {p : Nat} {us : List Value} {l : List (Nat × Bool)} (h : Cells w p us) (hu : us = litV l) : LitL w (some ⟨p, 0, none⟩) (lc l) := fun k e hk => by
  obtain ⟨x, s, hx, rfl⟩ := lc_at hk
  obtain ⟨h1, h2⟩ := litV_at hx
  rw [← hu] at h1 h2
  exact ⟨p, 0, rfl, h.lt, by rw [Nat.zero_add]; exact (h.at_ _).trans h1, by rw [Nat.zero_add]; exact (h.at_ _).trans h2⟩
theorem nats_of {w : World} {p : Nat} {us : List Value} {l : List Nat} (h : Cells w p us) (hu : us = natsV l) : NatL w (some ⟨p, 0, none⟩) l := fun k x hk =>
  ⟨p, 0, rfl, h.lt, by rw [Nat.zero_add, h.at_, hu]; unfold natsV; rw [List.getElem?_map, hk]; rfl⟩
theorem strs_of {w : World} {p : Nat} {us : List Value} {l : List ByteArray} (h : Cells w p us) (hu : us = strs l) : StrL w (some ⟨p, 0, none⟩) l := fun k x hk =>
  ⟨p, 0, rfl, h.lt, by rw [Nat.zero_add, h.at_, hu]; unfold strs; rw [List.getElem?_map, hk]; rfl⟩
theorem i8_of {w : World} {p : Nat} {us : List Value} {l : List Int} (h : Cells w p us) (hu : us = l.map (.int .i8)) : I8L w (some ⟨p, 0, none⟩) l := fun k x hk =>
  ⟨p, 0, rfl, h.lt, by rw [Nat.zero_add, h.at_, hu, List.getElem?_map, hk]; rfl⟩
theorem fam_known (A : Option Addr) (c : Nat) (I J : Option Addr) (ic : Nat) (w : World) (hk : I8LL w A krK) (hD : DimL w J plainD) :
    Calls Try.prog 12 #[.agg #[.int .u8 2, .slice A 3 c, .slice none 0 0, .slice none 0 0], .agg #[.string { data := #[98, 97, 115, 101] }, .slice none 0 0, .slice I 3 ic, .slice J 2 2, .slice none 0 0, .slice none 0 0]] w fun e w' =>
      ∃ OA oc rA rC gA gC vA vC, e = .returned (.agg #[.string { data := #[98, 97, 115, 101] }, .slice none 0 0, .slice I 3 ic, .slice J 2 2, .slice none 0 0, .slice none 0 0, .slice OA 3 oc, .slice rA 3 rC, .slice gA 0 gC, .slice vA 0 vC]) ∧
        FamOK w' (famF I ic J OA rA gA vA 3 oc 3 rC 0 gC 0 vC) osK rsK [] [] plainD ∧ FamOwn w' w.heap.size OA oc rA rC osK rsK ∧ Below w.heap.size w w' := by
  have h := family_any 2 2 (by decide) (by decide) A none none I J 3 c 0 0 0 0 ic krK [] [] w hk (fun k l hk => by simp at hk) (fun k l hk => by simp at hk) rfl rfl rfl (by decide +kernel) (fun l hl => by cases hl) (fun l hl => by cases hl) hD
  simp only [famO_k, famR_k, famG_k, famV_k, List.length_nil] at h
  exact h.mono fun e w' ⟨OA, oc, rA, rC, gA, gC, vA, vC, he, h1, h2, _, h3⟩ => ⟨OA, oc, rA, rC, gA, gC, vA, vC, he, h1, h2, h3⟩
set_option maxRecDepth 100000 in
set_option maxHeartbeats 16000000 in
theorem known_true (w : World) : Calls Try.prog 11 #[] w fun e w' => e = .returned (.bool true) ∧ Below w.heap.size w w' := by
  go_enter Try.func11, Try.ntmps11
  go_wp2_with fail
  have k0 := Below.refl w.heap.size w
  have h0 : w.heap.size = w.heap.size := by rfl
  have kx := (Below.refl w.heap.size w).alloc (Nat.le_refl _) (.cells #[.int .i8 0, .int .i8 1] 95)
  have C0 := Cells.new w #[.int .i8 0, .int .i8 1] 95
  rw [h0] at C0
  have k1 := below_on k0 kx
  have s1 : (w.alloc (.cells #[.int .i8 0, .int .i8 1] 95)).heap.size = w.heap.size + 1 := by simp
  obtain ⟨wa, hwwa⟩ : ∃ u, w.alloc (.cells #[.int .i8 0, .int .i8 1] 95) = u := ⟨_, rfl⟩
  rw [hwwa] at kx C0 k1 s1 ⊢
  have h1 : wa.heap.size = w.heap.size + 1 := by exact s1
  have kx := (Below.refl wa.heap.size wa).alloc (Nat.le_refl _) (.cells #[.int .i8 (-6), .int .i8 (-1)] 95)
  have C1 := Cells.new wa #[.int .i8 (-6), .int .i8 (-1)] 95
  rw [h1] at C1
  have C0 := C0.keep kx
  have k2 := below_on k1 kx
  have s2 : (wa.alloc (.cells #[.int .i8 (-6), .int .i8 (-1)] 95)).heap.size = w.heap.size + 1 + 1 := by simp [s1]
  obtain ⟨wb, hwwb⟩ : ∃ u, wa.alloc (.cells #[.int .i8 (-6), .int .i8 (-1)] 95) = u := ⟨_, rfl⟩
  rw [hwwb] at kx C1 k2 s2 ⊢
  rw [hwwb] at C0
  have h2 : wb.heap.size = w.heap.size + 1 + 1 := by exact s2
  have kx := (Below.refl wb.heap.size wb).alloc (Nat.le_refl _) (.cells #[.int .i8 (-1), .int .i8 2] 95)
  have C2 := Cells.new wb #[.int .i8 (-1), .int .i8 2] 95
  rw [h2] at C2
  have C0 := C0.keep kx
  have C1 := C1.keep kx
  have k3 := below_on k2 kx
  have s3 : (wb.alloc (.cells #[.int .i8 (-1), .int .i8 2] 95)).heap.size = w.heap.size + 1 + 1 + 1 := by simp [s2]
  obtain ⟨wc, hwwc⟩ : ∃ u, wb.alloc (.cells #[.int .i8 (-1), .int .i8 2] 95) = u := ⟨_, rfl⟩
  rw [hwwc] at kx C2 k3 s3 ⊢
  rw [hwwc] at C0 C1
  have h3 : wc.heap.size = w.heap.size + 1 + 1 + 1 := by exact s3
  have kx := (Below.refl wc.heap.size wc).alloc (Nat.le_refl _) (.cells #[.slice (some ⟨w.heap.size, 0, none⟩) 2 2, .slice (some ⟨w.heap.size + 1, 0, none⟩) 2 2, .slice (some ⟨w.heap.size + 1 + 1, 0, none⟩) 2 2] 63)
  have C3 := Cells.new wc #[.slice (some ⟨w.heap.size, 0, none⟩) 2 2, .slice (some ⟨w.heap.size + 1, 0, none⟩) 2 2, .slice (some ⟨w.heap.size + 1 + 1, 0, none⟩) 2 2] 63
  rw [h3] at C3
  have C0 := C0.keep kx
  have C1 := C1.keep kx
  have C2 := C2.keep kx
  have k4 := below_on k3 kx
  have s4 : (wc.alloc (.cells #[.slice (some ⟨w.heap.size, 0, none⟩) 2 2, .slice (some ⟨w.heap.size + 1, 0, none⟩) 2 2, .slice (some ⟨w.heap.size + 1 + 1, 0, none⟩) 2 2] 63)).heap.size = w.heap.size + 1 + 1 + 1 + 1 := by simp [s3]
  obtain ⟨wd, hwwd⟩ : ∃ u, wc.alloc (.cells #[.slice (some ⟨w.heap.size, 0, none⟩) 2 2, .slice (some ⟨w.heap.size + 1, 0, none⟩) 2 2, .slice (some ⟨w.heap.size + 1 + 1, 0, none⟩) 2 2] 63) = u := ⟨_, rfl⟩
  rw [hwwd] at kx C3 k4 s4 ⊢
  rw [hwwd] at C0 C1 C2
  have hI : I8LL wd (some ⟨w.heap.size + 1 + 1 + 1, 0, none⟩) krK := fun k l hk => by
    match k, hk with
    | 0, hk => injection hk with hk; subst hk; exact ⟨_, 0, _, 2, rfl, C3.lt, C3.at_ 0, i8_of C0 rfl⟩
    | 1, hk => injection hk with hk; subst hk; exact ⟨_, 0, _, 2, rfl, C3.lt, C3.at_ 1, i8_of C1 rfl⟩
    | 2, hk => injection hk with hk; subst hk; exact ⟨_, 0, _, 2, rfl, C3.lt, C3.at_ 2, i8_of C2 rfl⟩
  have HI := Lib.hid hI
  have HK := Lib.hid k4
  clear hI C0 C1 C2 C3 k0 k1 k2 k3 k4 s1 s2 s3 s4 h0 h1 h2 h3 hwwa hwwb hwwc hwwd kx
  refine (plain_any wd).mono ?_
  rintro e we ⟨I, ic, J, rfl, _, hJ, _, hb⟩
  have HJ := Lib.hid hJ
  have HI := Lib.hid (HI.out.keep hb)
  have HK := Lib.hid (below_on HK.out hb)
  have HWe := Lib.hid HK.out.size
  clear hJ hb
  go_wp2_with fail
  refine (fam_known (some ⟨w.heap.size + 1 + 1 + 1, 0, none⟩) 3 I J ic we HI.out HJ.out).mono ?_
  rintro e wf ⟨OA, oc, rA, rC, gA, gC, vA, vC, rfl, hOK, hOwn, hb⟩
  have HOK := Lib.hid hOK
  have HOwn := Lib.hid hOwn
  have HK := Lib.hid (below_on HK.out hb)
  have HSz := Lib.hid hb.size
  clear hOK hOwn hb
  go_upto_region 2 with fail
  have kg := (Below.refl wf.heap.size wf).alloc (Nat.le_refl _) (.cells #[.string { data := #[98, 97, 115, 101] }, .slice none 0 0, .slice I 3 ic, .slice J 2 2, .slice none 0 0, .slice none 0 0, .slice OA 3 oc, .slice rA 3 rC, .slice gA 0 gC, .slice vA 0 vC] 40)
  have CF := Cells.new wf #[.string { data := #[98, 97, 115, 101] }, .slice none 0 0, .slice I 3 ic, .slice J 2 2, .slice none 0 0, .slice none 0 0, .slice OA 3 oc, .slice rA 3 rC, .slice gA 0 gC, .slice vA 0 vC] 40
  obtain ⟨wg, hwg⟩ : ∃ u, wf.alloc (.cells #[.string { data := #[98, 97, 115, 101] }, .slice none 0 0, .slice I 3 ic, .slice J 2 2, .slice none 0 0, .slice none 0 0, .slice OA 3 oc, .slice rA 3 rC, .slice gA 0 gC, .slice vA 0 vC] 40) = u := ⟨_, rfl⟩
  rw [hwg] at kg CF ⊢
  obtain ⟨p, hp⟩ : ∃ p, wf.heap.size = p := ⟨_, rfl⟩
  rw [hp] at CF ⊢
  have kh := (Below.refl wg.heap.size wg).alloc (Nat.le_refl _) (.cells #[.int .i64 0, .bool false, .int .i64 1, .bool false] 68)
  have CL := Cells.new wg #[.int .i64 0, .bool false, .int .i64 1, .bool false] 68
  obtain ⟨wh, hwh⟩ : ∃ u, wg.alloc (.cells #[.int .i64 0, .bool false, .int .i64 1, .bool false] 68) = u := ⟨_, rfl⟩
  rw [hwh] at kh CL
  have kfh := below_on kg kh
  have HOKh := HOK.out.keep kfh
  have HOwnh := HOwn.out.keep kfh
  have hRb : ∀ b o t, rA = some ⟨b, o, t⟩ → b < wf.heap.size := fun b o t e => by
    obtain ⟨b', o', _, _, e', hlt, _⟩ := HOK.out.rsL 0 _ rfl
    have e2 : rA = some ⟨b', o', none⟩ := e'
    rw [e] at e2
    injection e2 with e2
    injection e2 with e2
    rw [e2]; exact hlt
  have hJb : ∀ b o t, J = some ⟨b, o, t⟩ → b < we.heap.size := fun b o t e => by
    obtain ⟨b', o', e', hlt, _⟩ := HJ.out 0 _ rfl
    rw [e] at e'
    injection e' with e'
    injection e' with e'
    rw [e']; exact hlt
  have hql : wf.heap.size < wg.heap.size := by rw [← hwg]; simp
  obtain ⟨g, hg1, hg2, ⟨ug, hg3⟩, hg4, hg5⟩ := fam_write (i := 1) (r := (⟨#[114, 50]⟩, [(0, false), (1, false)])) (l := [(0, false), (1, false)]) (A := some ⟨wg.heap.size, 0, none⟩) (c := 2) HOKh HOwnh hJb rfl (fun g hg => lits_of (CL.other (fun e => by have := hRb g 0 none hg; omega) _ _) rfl) (by decide) ch_k4
  have hgp : g < p := by rw [← hp]; exact hRb g 0 none hg1
  have CFs := (CF.keep kh).other (show p ≠ g by omega) 3 (.slice (some ⟨wg.heap.size, 0, none⟩) 2 2)
  have hg1 : rA = some ⟨g, 0, none⟩ := hg1
  subst hg1
  have HOKs := Lib.hid (show FamOK (wh.setCell ⟨g, 3, none⟩ (.slice (some ⟨wg.heap.size, 0, none⟩) 2 2)) (famF I ic J OA (some ⟨g, 0, none⟩) gA vA 3 oc 3 rC 0 gC 0 vC) osK rsK [] [] plainD from hg5)
  have HCs := Lib.hid CFs
  have HKs := Lib.hid ((below_on HK.out kfh).setCell (p := ⟨g, 3, none⟩) (Nat.le_trans (Nat.le_trans HWe.out (Nat.le_refl _)) hg2) (.slice (some ⟨wg.heap.size, 0, none⟩) 2 2))
  have c7 := CF.at_ 7
  simp only [List.getElem?_cons_zero, List.getElem?_cons_succ] at c7
  clear HOK HOwn HK HSz HJ HI CF CL kg kh kfh HOKh HOwnh hRb hJb hql hg5 CFs
  obtain ⟨ws, hws⟩ : ∃ u, wh.setCell ⟨g, 3, none⟩ (.slice (some ⟨wg.heap.size, 0, none⟩) 2 2) = u := ⟨_, rfl⟩
  rw [hws] at HOKs HCs HKs
  go_upto_region 3 with fail
  have ki := (Below.refl ws.heap.size ws).alloc (Nat.le_refl _) (.cells #[.int .i64 1, .bool true] 68)
  have CB := Cells.new ws #[.int .i64 1, .bool true] 68
  have HOK := Lib.hid (HOKs.out.keep ki)
  have HC := Lib.hid (HCs.out.keep ki)
  have HK := Lib.hid (below_on HKs.out ki)
  obtain ⟨wi, hwi⟩ : ∃ u, ws.alloc (.cells #[.int .i64 1, .bool true] 68) = u := ⟨_, rfl⟩
  rw [hwi] at CB HOK HC HK
  obtain ⟨pb, hpb⟩ : ∃ q, ws.heap.size = q := ⟨_, rfl⟩
  rw [hpb] at CB
  have HB := Lib.hid CB
  clear ki CB HOKs HCs HKs c7 hgp hg2 hg3 hg4 hws hwh hwg hp
  have HL0 := Lib.hid (fun W => (show LitL W none (lc []) from fun k e hk => by simp [lc] at hk))
  have c0 := HC.out.at_ 0
  have c1 := HC.out.at_ 1
  have c2 := HC.out.at_ 2
  have c3 := HC.out.at_ 3
  have c4 := HC.out.at_ 4
  have c5 := HC.out.at_ 5
  have c6 := HC.out.at_ 6
  have c7 := HC.out.at_ 7
  have c8 := HC.out.at_ 8
  have c9 := HC.out.at_ 9
  simp only [List.getElem?_cons_zero, List.getElem?_cons_succ] at c0 c1 c2 c3 c4 c5 c6 c7 c8 c9
  go_wp2_with fail
  have R1 := count_ok (famF I ic J OA (some ⟨g, 0, none⟩) gA vA 3 oc 3 rC 0 gC 0 vC) osK rsK [] [] plainD none 0 0 [] wi HOK.out (HL0.out _) rfl (by omega) ch_k1
  rw [show (AL ((famF I ic J OA (some ⟨g, 0, none⟩) gA vA 3 oc 3 rC 0 gC 0 vC)).n rsK []).length = 3 from AL_k] at R1
  refine R1.mono ?_
  rintro e wj ⟨rfl, hb⟩
  clear R1 hwi
  have HOK := Lib.hid (HOK.out.keep hb)
  have HC := Lib.hid (HC.out.keep hb)
  have HB := Lib.hid (HB.out.keep hb)
  have HK := Lib.hid (below_on HK.out hb)
  clear hb
  have c0 := HC.out.at_ 0
  have c1 := HC.out.at_ 1
  have c2 := HC.out.at_ 2
  have c3 := HC.out.at_ 3
  have c4 := HC.out.at_ 4
  have c5 := HC.out.at_ 5
  have c6 := HC.out.at_ 6
  have c7 := HC.out.at_ 7
  have c8 := HC.out.at_ 8
  have c9 := HC.out.at_ 9
  simp only [List.getElem?_cons_zero, List.getElem?_cons_succ] at c0 c1 c2 c3 c4 c5 c6 c7 c8 c9
  go_wp2_with fail
  have R1 := first_ok (famF I ic J OA (some ⟨g, 0, none⟩) gA vA 3 oc 3 rC 0 gC 0 vC) osK rsK [] [] plainD none 0 0 [] wj HOK.out (HL0.out _) rfl (by omega) ch_k1
  rw [show (AL ((famF I ic J OA (some ⟨g, 0, none⟩) gA vA 3 oc 3 rC 0 gC 0 vC)).n rsK []).isEmpty = false from AL_k1, show fstL ((famF I ic J OA (some ⟨g, 0, none⟩) gA vA 3 oc 3 rC 0 gC 0 vC)).n osK rsK [] = [⟨#[97]⟩, ⟨#[99]⟩] from fst_k] at R1
  refine R1.mono ?_
  rintro e wk ⟨⟨A1, d1, rfl, hS⟩, hb⟩
  clear R1
  have HS := Lib.hid hS
  have HOK := Lib.hid (HOK.out.keep hb)
  have HC := Lib.hid (HC.out.keep hb)
  have HB := Lib.hid (HB.out.keep hb)
  have HK := Lib.hid (below_on HK.out hb)
  clear hb hS
  have c0 := HC.out.at_ 0
  have c1 := HC.out.at_ 1
  have c2 := HC.out.at_ 2
  have c3 := HC.out.at_ 3
  have c4 := HC.out.at_ 4
  have c5 := HC.out.at_ 5
  have c6 := HC.out.at_ 6
  have c7 := HC.out.at_ 7
  have c8 := HC.out.at_ 8
  have c9 := HC.out.at_ 9
  simp only [List.getElem?_cons_zero, List.getElem?_cons_succ] at c0 c1 c2 c3 c4 c5 c6 c7 c8 c9
  have b0 := HB.out.at_ 0
  have b1 := HB.out.at_ 1
  simp only [List.getElem?_cons_zero, List.getElem?_cons_succ] at b0 b1
  have kx := (Below.refl wk.heap.size wk).alloc (Nat.le_refl _) (.cells #[.int .i64 1, .bool true] 68)
  have CX := Cells.new wk #[.int .i64 1, .bool true] 68
  obtain ⟨wl, hwl⟩ : ∃ u, wk.alloc (.cells #[.int .i64 1, .bool true] 68) = u := ⟨_, rfl⟩
  rw [hwl] at kx CX
  have HX := Lib.hid (lits_of (l := [(1, true)]) CX rfl)
  have HS := Lib.hid (HS.out.keep kx)
  have HOK := Lib.hid (HOK.out.keep kx)
  have HC := Lib.hid (HC.out.keep kx)
  have HB := Lib.hid (HB.out.keep kx)
  have HK := Lib.hid (below_on HK.out kx)
  clear kx CX
  go_wp2_with fail
  have R1 := forced_ok (famF I ic J OA (some ⟨g, 0, none⟩) gA vA 3 oc 3 rC 0 gC 0 vC) osK rsK [] [] plainD (some ⟨wk.heap.size, 0, none⟩) 1 1 [(1, true)] wl HOK.out HX.out rfl (by omega) ch_k2
  rw [show frcU ((AL ((famF I ic J OA (some ⟨g, 0, none⟩) gA vA 3 oc 3 rC 0 gC 0 vC)).n rsK [(1, true)]).map cF) ((famF I ic J OA (some ⟨g, 0, none⟩) gA vA 3 oc 3 rC 0 gC 0 vC)).n = [(0, false), (1, true), (2, true)] from frc_k] at R1
  refine R1.mono ?_
  rintro e wm ⟨h1 | ⟨_, v1, rfl, hown⟩, hb⟩
  · exact absurd h1.1 AL_k2
  obtain ⟨A2, d2, rfl, hF⟩ := own_lits hown
  clear R1 hwl hown
  have HF := Lib.hid hF
  have HS := Lib.hid (HS.out.keep hb)
  have HOK := Lib.hid (HOK.out.keep hb)
  have HC := Lib.hid (HC.out.keep hb)
  have HB := Lib.hid (HB.out.keep hb)
  have HK := Lib.hid (below_on HK.out hb)
  clear hb hF
  have c0 := HC.out.at_ 0
  have c1 := HC.out.at_ 1
  have c2 := HC.out.at_ 2
  have c3 := HC.out.at_ 3
  have c4 := HC.out.at_ 4
  have c5 := HC.out.at_ 5
  have c6 := HC.out.at_ 6
  have c7 := HC.out.at_ 7
  have c8 := HC.out.at_ 8
  have c9 := HC.out.at_ 9
  simp only [List.getElem?_cons_zero, List.getElem?_cons_succ] at c0 c1 c2 c3 c4 c5 c6 c7 c8 c9
  have b0 := HB.out.at_ 0
  have b1 := HB.out.at_ 1
  simp only [List.getElem?_cons_zero, List.getElem?_cons_succ] at b0 b1
  have kx := (Below.refl wm.heap.size wm).alloc (Nat.le_refl _) (.cells #[.int .i64 1, .bool true, .int .i64 2, .bool false] 68)
  have CX := Cells.new wm #[.int .i64 1, .bool true, .int .i64 2, .bool false] 68
  obtain ⟨wn, hwn⟩ : ∃ u, wm.alloc (.cells #[.int .i64 1, .bool true, .int .i64 2, .bool false] 68) = u := ⟨_, rfl⟩
  rw [hwn] at kx CX
  have HX := Lib.hid (lits_of (l := [(1, true), (2, false)]) CX rfl)
  have HS := Lib.hid (HS.out.keep kx)
  have HF := Lib.hid (HF.out.keep kx)
  have HOK := Lib.hid (HOK.out.keep kx)
  have HC := Lib.hid (HC.out.keep kx)
  have HB := Lib.hid (HB.out.keep kx)
  have HK := Lib.hid (below_on HK.out kx)
  clear kx CX
  go_wp2_with fail
  have R1 := conflict_ok (famF I ic J OA (some ⟨g, 0, none⟩) gA vA 3 oc 3 rC 0 gC 0 vC) osK rsK [] [] plainD (some ⟨wm.heap.size, 0, none⟩) 2 2 [(1, true), (2, false)] wn HOK.out HX.out rfl (by omega) ch_k3
  rw [show (cfL ((famF I ic J OA (some ⟨g, 0, none⟩) gA vA 3 oc 3 rC 0 gC 0 vC)).n rsK [(1, true), (2, false)] ((famF I ic J OA (some ⟨g, 0, none⟩) gA vA 3 oc 3 rC 0 gC 0 vC)).rn).1 = [2] from cfL_k] at R1
  refine R1.mono ?_
  rintro e wo ⟨h1 | ⟨_, v1, rfl, hown⟩, hb⟩
  · exact absurd AL_k3 h1.1
  obtain ⟨A3, d3, rfl, hN⟩ := own_nats hown rfl
  clear R1 hwn hown HX
  have HN := Lib.hid hN
  have HF := Lib.hid (HF.out.keep hb)
  have HS := Lib.hid (HS.out.keep hb)
  have HB := Lib.hid (HB.out.keep hb)
  have HK := Lib.hid (below_on HK.out hb)
  clear hb hN HOK HC
  have b0 := HB.out.at_ 0
  have b1 := HB.out.at_ 1
  simp only [List.getElem?_cons_zero, List.getElem?_cons_succ] at b0 b1
  go_wp2_with fail
  have kx := (Below.refl wo.heap.size wo).alloc (Nat.le_refl _) (.cells #[.string { data := #[97] }, .string { data := #[99] }] 9)
  have CX := Cells.new wo #[.string { data := #[97] }, .string { data := #[99] }] 9
  obtain ⟨wp, hwp⟩ : ∃ u, wo.alloc (.cells #[.string { data := #[97] }, .string { data := #[99] }] 9) = u := ⟨_, rfl⟩
  rw [hwp] at kx CX ⊢
  have R1 := sameNames_any A1 (some ⟨wo.heap.size, 0, none⟩) 2 2 d1 2 [⟨#[97]⟩, ⟨#[99]⟩] [⟨#[97]⟩, ⟨#[99]⟩] wp (HS.out.keep kx) (strs_of CX rfl) rfl rfl (by omega) (by omega)
  rw [decide_eq_true rfl] at R1
  have HN := Lib.hid (HN.out.keep kx)
  have HF := Lib.hid (HF.out.keep kx)
  have HB := Lib.hid (HB.out.keep kx)
  have HK := Lib.hid (below_on HK.out kx)
  clear kx CX hwp
  refine R1.mono ?_
  rintro e wq ⟨rfl, hb⟩
  clear R1
  have HN := Lib.hid (HN.out.keep hb)
  have HF := Lib.hid (HF.out.keep hb)
  have HB := Lib.hid (HB.out.keep hb)
  have HK := Lib.hid (below_on HK.out hb)
  clear hb
  have b0 := HB.out.at_ 0
  have b1 := HB.out.at_ 1
  simp only [List.getElem?_cons_zero, List.getElem?_cons_succ] at b0 b1
  go_wp2_with fail
  have kx := (Below.refl wq.heap.size wq).alloc (Nat.le_refl _) (.cells #[.int .i64 0, .bool false, .int .i64 1, .bool true, .int .i64 2, .bool true] 68)
  have CX := Cells.new wq #[.int .i64 0, .bool false, .int .i64 1, .bool true, .int .i64 2, .bool true] 68
  obtain ⟨wr, hwr⟩ : ∃ u, wq.alloc (.cells #[.int .i64 0, .bool false, .int .i64 1, .bool true, .int .i64 2, .bool true] 68) = u := ⟨_, rfl⟩
  rw [hwr] at kx CX ⊢
  have R1 := sameLiterals_any A2 (some ⟨wq.heap.size, 0, none⟩) 3 3 d2 3 (lc [(0, false), (1, true), (2, true)]) (lc [(0, false), (1, true), (2, true)]) wr (HF.out.keep kx) (lits_of CX rfl) rfl rfl (by omega) (by omega)
  rw [decide_eq_true rfl] at R1
  have HN := Lib.hid (HN.out.keep kx)
  have HK := Lib.hid (below_on HK.out kx)
  clear kx CX hwr
  refine R1.mono ?_
  rintro e wt ⟨rfl, hb⟩
  clear R1
  have HN := Lib.hid (HN.out.keep hb)
  have HK := Lib.hid (below_on HK.out hb)
  clear hb
  go_wp2_with fail
  have kx := (Below.refl wt.heap.size wt).alloc (Nat.le_refl _) (.cells #[.int .i64 2] 3)
  have CX := Cells.new wt #[.int .i64 2] 3
  obtain ⟨wu, hwu⟩ : ∃ u, wt.alloc (.cells #[.int .i64 2] 3) = u := ⟨_, rfl⟩
  rw [hwu] at kx CX ⊢
  have R1 := sameInts_any A3 (some ⟨wt.heap.size, 0, none⟩) 1 1 d3 1 [2] [2] wu (HN.out.keep kx) (nats_of CX rfl) rfl rfl (by omega) (by omega)
  rw [decide_eq_true rfl] at R1
  have HK := Lib.hid (below_on HK.out kx)
  clear kx CX hwu
  refine R1.mono ?_
  rintro e wv ⟨rfl, hb⟩
  clear R1
  have HK := Lib.hid (below_on HK.out hb)
  clear hb
  go_wp2_with fail
  go_ret
  exact ⟨rfl, HK.out⟩
end Go.Proofs.Ytmfmpkihmadjmaa
