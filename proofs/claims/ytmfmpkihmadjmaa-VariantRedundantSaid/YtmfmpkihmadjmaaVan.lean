/- The reference's Family. -/
import Derived.Test.YtmfmpkihmadjmaaVao
import Derived.Deep.CutBlock
namespace Go.Proofs.Ytmfmpkihmadjmaa
open Go.RowKit Go.Shelf
theorem info_rul : (Try.prog.info? 76).map (fun i => (i.zero, i.size, i.bytes)) = some (some (.agg #[.string ByteArray.empty, .slice none 0 0]), 2, 40) := by kernel_rfl
theorem info_grd : (Try.prog.info? 88).map (fun i => (i.zero, i.size, i.bytes)) = some (some (.agg #[.int .i64 0, .slice none 0 0]), 2, 32) := by kernel_rfl
theorem info_ovr : (Try.prog.info? 92).map (fun i => (i.zero, i.size, i.bytes)) = some (some (.agg #[.slice none 0 0, .int .i64 0, .string ByteArray.empty, .int .i64 0, .int .i64 0, .int .i64 0]), 6, 72) := by kernel_rfl
theorem info_fam : (Try.prog.info? 40).map (·.size) = some 10 := by kernel_rfl
theorem famO_succ (n : Nat) : famO (n + 1) = famO n ++ [optN n] := by unfold famO; rw [List.range_succ, List.map_append]; rfl
theorem strs_snoc (l : List ByteArray) (s : ByteArray) : strs (l ++ [s]) = strs l ++ [.string s] := by unfold strs; rw [List.map_append]; rfl
theorem take_map_succ {α : Type} (f : Nat → α) (m j : Nat) (h : j < m) : ((List.range m).map f).take (j + 1) = ((List.range m).map f).take j ++ [f j] := by
  rw [List.take_add_one, List.getElem?_map, List.getElem?_range h]
  rfl
theorem take_map_full {α : Type} (f : Nat → α) (m j : Nat) (h : m ≤ j) : ((List.range m).map f).take j = (List.range m).map f := List.take_of_length_le (by simpa using h)
/-- The name of a rule, made out of its two letters. -/
theorem rule_text : ∀ j : Nat, j < 6 → (IntKind.u8.wrap (49 + IntKind.u8.wrap (j : Int)) = 49 + (j : Int)) ∧ ruleN j = ⟨#[114, (49 + j).toUInt8]⟩ ∧ (((49 + j).toUInt8.toNat : Nat) : Int) = 49 + (j : Int) := by decide +kernel
set_option maxRecDepth 100000 in
set_option maxHeartbeats 16000000 in
theorem family_any (o m : Nat) (_ho : o < 256) (hm : o % 6 = m) (RA GA VA I J : Option Addr) (rn rc gn gc vn vc ic : Nat) (kr kg kv : List (List Int)) (w : World)
    (hkr : I8LL w RA kr) (hkg : I8LL w GA kg) (hkv : I8LL w VA kv) (lr : kr.length = rn) (lg : kg.length = gn) (lv : kv.length = vn) (h8r : ∀ l ∈ kr, ∀ k ∈ l, -128 ≤ k ∧ k < 128) (h8g : ∀ l ∈ kg, ∀ k ∈ l, -128 ≤ k ∧ k < 128) (h8v : ∀ l ∈ kv, ∀ k ∈ l, -128 ≤ k ∧ k < 128)
    (hD : DimL w J plainD) :
    Calls Try.prog 12 #[.agg #[.int .u8 (o : Nat), .slice RA rn rc, .slice GA gn gc, .slice VA vn vc], .agg #[.string { data := #[98, 97, 115, 101] }, .slice none 0 0, .slice I 3 ic, .slice J 2 2, .slice none 0 0, .slice none 0 0]] w fun e w' => ∃ OA oc rA rC gA gC vA vC, e = .returned (famF I ic J OA rA gA vA (1 + m) oc (famR (1 + m) kr).length rC (famG (1 + m) kg).length gC (famV (1 + m) kv).length vC).v ∧
      FamOK w' (famF I ic J OA rA gA vA (1 + m) oc (famR (1 + m) kr).length rC (famG (1 + m) kg).length gC (famV (1 + m) kv).length vC) (famO (1 + m)) (famR (1 + m) kr) (famG (1 + m) kg) (famV (1 + m) kv) plainD ∧ FamOwn w' w.heap.size OA oc rA rC (famO (1 + m)) (famR (1 + m) kr) ∧ FamMem w' w.heap.size (famF I ic J OA rA gA vA (1 + m) oc (famR (1 + m) kr).length rC (famG (1 + m) kg).length gC (famV (1 + m) kv).length vC) (famO (1 + m)) (famR (1 + m) kr) (famG (1 + m) kg) (famV (1 + m) kv) ∧ Below w.heap.size w w' := by
  have e0 : Int.tmod (o : Int) 6 = ((o % 6 : Nat) : Int) := (Int.ofNat_tmod _ _).symm
  have e1 : IntKind.u8.wrap ((o % 6 : Nat) : Int) = ((o % 6 : Nat) : Int) := IntWalk.u8_in _ (by omega)
  have e2 : IntKind.i64.wrap ((o % 6 : Nat) : Int) = ((o % 6 : Nat) : Int) := IntWalk.i64_in _ (by omega)
  rw [hm] at e0 e1 e2
  have hm6 : m < 6 := by omega
  have HDec := Lib.hid (fun (A : Option Addr) (c : Nat) (l : List Int) (W : World) (h : I8L W A l) (h8 : ∀ k ∈ l, -128 ≤ k ∧ k < 128) => show Calls Try.prog 25 #[.int .i64 (1 + (m : Int)), .slice A l.length c] W fun e w' => ∃ v, e = .returned v ∧ w'.ownsRow W.heap.size 68 2 v (decN (1 + m) l).length (litV (decN (1 + m) l)) ∧ Below W.heap.size W w' from by
    have := decode_any (1 + m) A l.length c l W h rfl (by omega) (by omega) h8
    rwa [show (((1 + m : Nat) : Int)) = 1 + (m : Int) by omega] at this)
  obtain ⟨io, hio, hio0, hio1, hio2⟩ := info_parts info_str
  obtain ⟨ir, hir, hir0, hir1, hir2⟩ := info_parts info_rul
  obtain ⟨ig, hig, hig0, hig1, hig2⟩ := info_parts info_grd
  obtain ⟨iv, hiv, hiv0, hiv1, hiv2⟩ := info_parts info_ovr
  go_enter Try.func12, Try.ntmps12
  go_upto_block 0 with fail
  have kA := (Below.refl w.heap.size w).alloc (Nat.le_refl _) (.cells #[.int .u8 (o : Nat), .slice RA rn rc, .slice GA gn gc, .slice VA vn vc] 24)
  have CA := Cells.new w #[.int .u8 (o : Nat), .slice RA rn rc, .slice GA gn gc, .slice VA vn vc] 24
  have sA : (w.alloc (.cells #[.int .u8 (o : Nat), .slice RA rn rc, .slice GA gn gc, .slice VA vn vc] 24)).heap.size = w.heap.size + 1 := by simp
  obtain ⟨wA, hwA⟩ : ∃ u, w.alloc (.cells #[.int .u8 (o : Nat), .slice RA rn rc, .slice GA gn gc, .slice VA vn vc] 24) = u := ⟨_, rfl⟩
  rw [hwA] at kA CA sA ⊢
  have k1 := (Below.refl wA.heap.size wA).alloc (Nat.le_refl _) (.cells #[.string { data := #[98, 97, 115, 101] }, .slice none 0 0, .slice I 3 ic, .slice J 2 2, .slice none 0 0, .slice none 0 0] 35)
  have CB := Cells.new wA #[.string { data := #[98, 97, 115, 101] }, .slice none 0 0, .slice I 3 ic, .slice J 2 2, .slice none 0 0, .slice none 0 0] 35
  have CA := CA.keep k1
  have kB := below_on kA k1
  have sB : (wA.alloc (.cells #[.string { data := #[98, 97, 115, 101] }, .slice none 0 0, .slice I 3 ic, .slice J 2 2, .slice none 0 0, .slice none 0 0] 35)).heap.size = w.heap.size + 1 + 1 := by simp [sA]
  rw [sA] at CB
  obtain ⟨wB, hwB⟩ : ∃ u, wA.alloc (.cells #[.string { data := #[98, 97, 115, 101] }, .slice none 0 0, .slice I 3 ic, .slice J 2 2, .slice none 0 0, .slice none 0 0] 35) = u := ⟨_, rfl⟩
  rw [hwB] at kB CA CB sB ⊢
  have k2 := (Below.refl wB.heap.size wB).alloc (Nat.le_refl _) (.cells #[.string { data := #[] }, .slice none 0 0, .slice none 0 0, .slice none 0 0, .slice none 0 0, .slice none 0 0, .slice none 0 0, .slice none 0 0, .slice none 0 0, .slice none 0 0] 40)
  have RC := heap_new wB (.cells #[.string { data := #[] }, .slice none 0 0, .slice none 0 0, .slice none 0 0, .slice none 0 0, .slice none 0 0, .slice none 0 0, .slice none 0 0, .slice none 0 0, .slice none 0 0] 40)
  have CA := CA.keep k2
  have CB := CB.keep k2
  have kC := below_on kB k2
  have sC : (wB.alloc (.cells #[.string { data := #[] }, .slice none 0 0, .slice none 0 0, .slice none 0 0, .slice none 0 0, .slice none 0 0, .slice none 0 0, .slice none 0 0, .slice none 0 0, .slice none 0 0] 40)).heap.size = w.heap.size + 1 + 1 + 1 := by simp [sB]
  rw [sB] at RC
  obtain ⟨wC, hwC⟩ : ∃ u, wB.alloc (.cells #[.string { data := #[] }, .slice none 0 0, .slice none 0 0, .slice none 0 0, .slice none 0 0, .slice none 0 0, .slice none 0 0, .slice none 0 0, .slice none 0 0, .slice none 0 0] 40) = u := ⟨_, rfl⟩
  rw [hwC] at kC CA CB RC sC ⊢
  have k3 := (Below.refl wC.heap.size wC).alloc (Nat.le_refl _) (.cells #[.string { data := #[98, 97, 115, 101] }, .slice none 0 0, .slice I 3 ic, .slice J 2 2, .slice none 0 0, .slice none 0 0, .slice none 0 0, .slice none 0 0, .slice none 0 0, .slice none 0 0] 40)
  have CF := Cells.new wC #[.string { data := #[98, 97, 115, 101] }, .slice none 0 0, .slice I 3 ic, .slice J 2 2, .slice none 0 0, .slice none 0 0, .slice none 0 0, .slice none 0 0, .slice none 0 0, .slice none 0 0] 40
  have CA := CA.keep k3
  have CB := CB.keep k3
  have RC := row_keep RC k3
  have kD := below_on kC k3
  have sD : (wC.alloc (.cells #[.string { data := #[98, 97, 115, 101] }, .slice none 0 0, .slice I 3 ic, .slice J 2 2, .slice none 0 0, .slice none 0 0, .slice none 0 0, .slice none 0 0, .slice none 0 0, .slice none 0 0] 40)).heap.size = w.heap.size + 1 + 1 + 1 + 1 := by simp [sC]
  rw [sC] at CF
  obtain ⟨wD, hwD⟩ : ∃ u, wC.alloc (.cells #[.string { data := #[98, 97, 115, 101] }, .slice none 0 0, .slice I 3 ic, .slice J 2 2, .slice none 0 0, .slice none 0 0, .slice none 0 0, .slice none 0 0, .slice none 0 0, .slice none 0 0] 40) = u := ⟨_, rfl⟩
  rw [hwD] at kD CA CB CF RC sD ⊢
  have FS0 : FS w wD [.int .u8 (o : Nat), .slice RA rn rc, .slice GA gn gc, .slice VA vn vc] (prodC (.slice I 3 ic) (.slice J 2 2)) (.slice none 0 0) (.slice none 0 0) (.slice none 0 0) (.slice none 0 0) (famO 0) [] 0 0 [] [] [] :=
    { kin := CA, base := CB, b6 := rfl, res := RC, fam := CF, low := kD, siz := Nat.le_of_eq sD.symm
      rO := World.ownsRow_nil _ _ _ _, rR := World.ownsRow_nil _ _ _ _, rG := World.ownsRow_nil _ _ _ _, rV := World.ownsRow_nil _ _ _ _, lits := fun q hq => by cases hq }
  have FS0 := Lib.hid FS0
  clear kA kB kC kD CA CB CF RC sA sB sC sD k1 k2 k3 hwA hwB hwC hwD
  go_cut [7] (fun _ wx => ∃ vO, FS w wx [.int .u8 (o : Nat), .slice RA rn rc, .slice GA gn gc, .slice VA vn vc] (prodC (.slice I 3 ic) (.slice J 2 2)) vO (.slice none 0 0) (.slice none 0 0) (.slice none 0 0) (famO (1 + m)) [] 0 0 [] [] [])
  case first =>
    go_wp2_with fail
    go_loopw [7] (fun i wr => ∃ (j : Nat) (vO : Value), i = .int .i64 (j : Nat) ∧ j ≤ 1 + m ∧ FS w wr [.int .u8 (o : Nat), .slice RA rn rc, .slice GA gn gc, .slice VA vn vc] (prodC (.slice I 3 ic) (.slice J 2 2)) vO (.slice none 0 0) (.slice none 0 0) (.slice none 0 0) (famO j) [] 0 0 [] [] []) (fun i _ => 1 + m - (intOf i).toNat)
    case atStart => exact ⟨0, _, rfl, Nat.zero_le _, FS0.out⟩
    case round =>
      obtain ⟨j, vO, rfl, hj, hF⟩ := hrel
      have HF := Lib.hid hF
      clear hF
      by_cases hlt : j < 1 + m
      · have i1 : (j : Int) < 1 + (m : Int) := by omega
        have HO := Lib.hid (fun w' => option_any j w' (by omega))
        go_upto_region 6 with fail
        have HS := Lib.hid (fun w' (hb : Below wr.heap.size wr w') => (show w'.cell? ⟨w.heap.size + 1 + 1 + 1, 6, none⟩ = some vO from (HF.out.keep hb).fam.at_ 6))
        refine Till.begin 7 (fun w' => w'.cell? ⟨w.heap.size + 1 + 1 + 1, 6, none⟩ = some vO) (by kernel_rfl) (HS.out _ (Below.refl _ _).drew) (fun hH => ?_)
        clear hH
        have HB0 := Lib.hid (Below.refl wr.heap.size wr).drew
        generalize wr.drew = V0 at HB0 ⊢
        try simp only [List.setIfInBounds_toArray, List.set_cons_zero, List.set_cons_succ]
        refine Till.tL 0 [1, 5, 7] 25 (.pointer (some ⟨w.heap.size + 1 + 1 + 1, 6, none⟩)) (HS.out _ HB0.out) ?_
        try simp only [Act.put, List.setIfInBounds_toArray, List.set_cons_zero, List.set_cons_succ]
        refine Till.tL 1 [5, 7] 26 (vO) (HS.out _ HB0.out) ?_
        try simp only [Act.put, List.setIfInBounds_toArray, List.set_cons_zero, List.set_cons_succ]
        refine Till.tL 2 [3, 5, 7] 27 (.int .i64 (j : Int)) (HS.out _ HB0.out) ?_
        try simp only [Act.put, List.setIfInBounds_toArray, List.set_cons_zero, List.set_cons_succ]
        refine Till.one (i := 3) (by kernel_rfl) rfl (fun K hK => ?_)
        go_simp
        refine (HO.out V0).mono ?_
        rintro e V1 ⟨rfl, hb1⟩
        have HB1 := Lib.hid (below_on HB0.out hb1)
        refine hK.out _ _ (fun _ => HS.out _ HB1.out) ?_
        clear hK K hb1
        try simp only [List.setIfInBounds_toArray, List.set_cons_zero, List.set_cons_succ]
        refine Till.one (i := 4) (by kernel_rfl) rfl (fun K hK => ?_)
        go_simp
        have kx := (Below.refl V1.heap.size V1).alloc (Nat.le_refl _) (.cells #[.string (optN j)] 9)
        have CN := Cells.new V1 #[.string (optN j)] 9
        obtain ⟨V2, hV⟩ : ∃ u, V1.alloc (.cells #[.string (optN j)] 9) = u := ⟨_, rfl⟩
        rw [hV] at kx CN ⊢
        have HB2 := Lib.hid (below_on HB1.out kx)
        refine hK.out _ _ (fun _ => HS.out _ HB2.out) ?_
        clear hK K hV kx
        try simp only [List.setIfInBounds_toArray, List.set_cons_zero, List.set_cons_succ]
        have F2 := Lib.hid (HF.out.keep HB2.out)
        have jl : (famO j).length = j := by unfold famO; simp
        have OV := F2.out.rO
        rw [jl] at OV
        obtain ⟨v', V9, hrun, hown', hgrow, _⟩ := run_append_own (P := Try.prog) V2 (w.heap.size + 1 + 1 + 1 + 1) 25 25 9 io (.string ByteArray.empty) 1 16 Try.underlying25 hio hio0 hio1 hio2 rfl (by decide) vO j (strs (famO j)) OV ⟨V1.heap.size, 0, none⟩ 1 1 ([.string (optN j)]) rfl (fun k u hu => by rw [Addr.add_lit, Nat.zero_add]; exact (CN.at_ k).trans hu) (fun u hu => by
            simp at hu
            rw [hu]; rfl) (by unfold maxLen; omega) (by omega) F2.out.siz
        obtain ⟨NA, NC, rfl, _⟩ := own_row hown'
        refine Till.one (i := 5) (by kernel_rfl) rfl (fun K hK => ?_)
        refine step_append_run rfl (.tmp 26) (.tmp 29) 25 rfl rfl rfl hrun ?_
        obtain ⟨⟨z2, y2⟩, FN⟩ := FS.appO F2.out hgrow (v' := .slice NA (j + 1) NC) (s := optN j) (by rw [strs_snoc, List.length_append, jl]; exact hown')
        have FN := Lib.hid FN
        refine hK.out _ _ (fun _ => z2) ?_
        clear hK K hown' hrun OV CN
        try simp only [Act.put, List.setIfInBounds_toArray]
        refine Till.one (i := 6) (by kernel_rfl) rfl (fun K hK => ?_)
        go_simp
        refine hK.out _ _ (fun _ => z2) ?_
        clear hK K
        try simp only [List.setIfInBounds_toArray, List.set_cons_zero, List.set_cons_succ]
        refine Till.one (i := 7) (by kernel_rfl) rfl (fun K hK => ?_)
        go_simp
        refine hK.out _ _ (fun h => absurd h (by simp)) ?_
        clear hK K
        try simp only [List.setIfInBounds_toArray, List.set_cons_zero, List.set_cons_succ]
        refine Till.done (by kernel_rfl) ?_ _
        clear z2 y2 hgrow
        rw [← famO_succ] at FN
        have FN := Lib.hid FN.out
        go_wp2_with fail
        go_roundw
        case rel => exact ⟨j + 1, _, by go_num, by omega, FN.out⟩
        case measure => simp [intOf]; omega
      · have hj1 : j = 1 + m := by omega
        subst hj1
        go_wp2_with fail
        go_meet
        exact ⟨vO, HF.out⟩
  case rest =>
    obtain ⟨vO, hF⟩ := hcut
    have HF := Lib.hid hF
    clear hF FS0
    go_upto_block 2 with fail
    go_cut [8] (fun _ wx => ∃ vR qr, qr.map (·.1) = famR (1 + m) kr ∧ FS w wx [.int .u8 (o : Nat), .slice RA rn rc, .slice GA gn gc, .slice VA vn vc] (prodC (.slice I 3 ic) (.slice J 2 2)) vO vR (.slice none 0 0) (.slice none 0 0) (famO (1 + m)) qr 0 0 [] [] (qr.map fun q => (q.1.2, q.2.1, q.2.2)))
    case first =>
      go_wp2_with fail
      go_loopw [8] (fun i wr => ∃ (j : Nat) (vR : Value) (qr : List Rq), i = .int .i64 (j : Nat) ∧ j ≤ min rn 6 ∧ qr.map (·.1) = (famR (1 + m) kr).take j ∧ FS w wr [.int .u8 (o : Nat), .slice RA rn rc, .slice GA gn gc, .slice VA vn vc] (prodC (.slice I 3 ic) (.slice J 2 2)) vO vR (.slice none 0 0) (.slice none 0 0) (famO (1 + m)) qr 0 0 [] [] (qr.map fun q => (q.1.2, q.2.1, q.2.2))) (fun i _ => 6 - (intOf i).toNat)
      case atStart => exact ⟨0, _, [], rfl, Nat.zero_le _, by simp, HF.out⟩
      case round =>
        obtain ⟨j, vR, qr, rfl, hj, hq, hF⟩ := hrel
        clear HF
        have HF := Lib.hid hF
        have k1 := hF.kin.at_ 1
        simp only [List.getElem?_cons_succ, List.getElem?_cons_zero] at k1
        have jl : qr.length = j := by rw [← List.length_map (f := (·.1)), hq, List.length_take]; unfold famR; rw [List.length_map, List.length_range]; omega
        clear hF
        by_cases hlt : j < rn ∧ j < 6
        · have i1 : (j : Int) < (rn : Int) := by omega
          have i2 : (j : Int) < 6 := by omega
          obtain ⟨l, hl⟩ : ∃ l, kr[j]? = some l := ⟨_, List.getElem?_eq_getElem (by omega)⟩
          obtain ⟨bl, ol, LA, LC, rfl, hbl, hcl, hll⟩ := hkr j l hl
          have hlm := List.mem_of_getElem? hl
          have HD := Lib.hid (fun W (hb : Below wr.heap.size wr W) => HDec.out LA LC l W (hll.keep (HF.out.keep hb).low) (h8r l hlm))
          have hrt := rule_text j hlt.2
          have e5 := hrt.1
          have HRT := Lib.hid hrt.2
          clear hrt
          go_upto_region 10 with fail
          have HS := Lib.hid (fun w' (hb : Below wr.heap.size wr w') => (show w'.cell? ⟨w.heap.size + 1 + 1 + 1, 7, none⟩ = some vR ∧ w'.cell? ⟨w.heap.size, 1, none⟩ = some (.slice (some ⟨bl, ol, none⟩) rn rc) ∧ w'.cell? ⟨bl, ol + j, none⟩ = some (.slice LA l.length LC) from ⟨(HF.out.keep hb).fam.at_ 7, (HF.out.keep hb).kin.at_ 1, ((HF.out.keep hb).low.cell (p := ⟨bl, ol + j, none⟩) hbl).trans hcl⟩))
          refine Till.begin 18 (fun w' => w'.cell? ⟨w.heap.size + 1 + 1 + 1, 7, none⟩ = some vR ∧ w'.cell? ⟨w.heap.size, 1, none⟩ = some (.slice (some ⟨bl, ol, none⟩) rn rc) ∧ w'.cell? ⟨bl, ol + j, none⟩ = some (.slice LA l.length LC)) (by kernel_rfl) (HS.out _ (Below.refl _ _).drew) (fun hH => ?_)
          clear hH
          have HB0 := Lib.hid (Below.refl wr.heap.size wr).drew
          generalize wr.drew = V0 at HB0 ⊢
          try simp only [List.setIfInBounds_toArray, List.set_cons_zero, List.set_cons_succ]
          refine Till.tL 0 [1, 16, 18] 43 (.pointer (some ⟨w.heap.size + 1 + 1 + 1, 7, none⟩)) (HS.out _ HB0.out) ?_
          try simp only [Act.put, List.setIfInBounds_toArray, List.set_cons_zero, List.set_cons_succ]
          refine Till.tL 1 [16, 18] 44 (vR) (HS.out _ HB0.out) ?_
          try simp only [Act.put, List.setIfInBounds_toArray, List.set_cons_zero, List.set_cons_succ]
          refine Till.tL 2 [3, 4, 5, 6, 14, 15, 16, 18] 45 (.int .i64 (j : Int)) (HS.out _ HB0.out) ?_
          try simp only [Act.put, List.setIfInBounds_toArray, List.set_cons_zero, List.set_cons_succ]
          refine Till.tL 3 [4, 5, 6, 14, 15, 16, 18] 46 (.int .u8 (IntKind.u8.wrap (j : Int))) (HS.out _ HB0.out) ?_
          try simp only [Act.put, List.setIfInBounds_toArray, List.set_cons_zero, List.set_cons_succ]
          refine Till.tL 4 [5, 6, 14, 15, 16, 18] 47 (.int .u8 (49 + (j : Int))) (HS.out _ HB0.out) ?_
          try simp only [Act.put, List.setIfInBounds_toArray, List.set_cons_zero, List.set_cons_succ]
          refine Till.tL 7 [13, 16, 18] 50 (.int .i64 (1 + (m : Int))) (HS.out _ HB0.out) ?_
          try simp only [Act.put, List.setIfInBounds_toArray, List.set_cons_zero, List.set_cons_succ]
          refine Till.tL 8 [9, 11, 12, 13, 16, 18] 51 (.pointer (some ⟨w.heap.size, 1, none⟩)) (HS.out _ HB0.out) ?_
          try simp only [Act.put, List.setIfInBounds_toArray, List.set_cons_zero, List.set_cons_succ]
          refine Till.tL 9 [11, 12, 13, 16, 18] 52 (.slice (some ⟨bl, ol, none⟩) rn rc) (HS.out _ HB0.out) ?_
          try simp only [Act.put, List.setIfInBounds_toArray, List.set_cons_zero, List.set_cons_succ]
          refine Till.tL 10 [11, 12, 13, 16, 18] 53 (.int .i64 (j : Int)) (HS.out _ HB0.out) ?_
          try simp only [Act.put, List.setIfInBounds_toArray, List.set_cons_zero, List.set_cons_succ]
          refine Till.tL 11 [12, 13, 16, 18] 54 (.pointer (some ⟨bl, ol + j, none⟩)) (HS.out _ HB0.out) ?_
          try simp only [Act.put, List.setIfInBounds_toArray, List.set_cons_zero, List.set_cons_succ]
          refine Till.tL 12 [13, 16, 18] 55 (.slice LA l.length LC) (HS.out _ HB0.out) ?_
          try simp only [Act.put, List.setIfInBounds_toArray, List.set_cons_zero, List.set_cons_succ]
          refine Till.two (i := 5) (j := 13) (by kernel_rfl) rfl rfl ?_ ?_
          · intro K hK
            go_simp
            have kx := (Below.refl V0.heap.size V0).alloc (Nat.le_refl _) (.cells #[.int .u8 114, .int .u8 (49 + (j : Int))] 5)
            have CS := Cells.new V0 #[.int .u8 114, .int .u8 (49 + (j : Int))] 5
            obtain ⟨V1, hV⟩ : ∃ u, V0.alloc (.cells #[.int .u8 114, .int .u8 (49 + (j : Int))] 5) = u := ⟨_, rfl⟩
            rw [hV] at kx CS ⊢
            have HB1 := Lib.hid (below_on HB0.out kx)
            have CSH := Lib.hid CS
            have KX := Lib.hid kx
            refine hK.out _ _ (fun _ => HS.out _ HB1.out) ?_
            clear hK K hV kx CS
            try simp only [List.setIfInBounds_toArray, List.set_cons_zero, List.set_cons_succ]
            refine Till.two (i := 6) (j := 13) (by kernel_rfl) rfl rfl ?_ ?_
            · intro K hK
              have hcv : (convert 97 9 (.slice (some ⟨V0.heap.size, 0, none⟩) 2 2)).run Try.prog V1 = .ok (.string (ruleN j)) V1 := by
                rw [HRT.out.1]
                exact run_convert_bytes_back _ _ _ 5 ⟨V0.heap.size, 0, none⟩ 2 [114, (49 + j).toUInt8] Try.underlying97 Try.underlying5 Try.underlying9 (fun q hq => by
                  have h0 : q = 0 ∨ q = 1 := by simp at hq; omega
                  rcases h0 with rfl | rfl
                  · rw [Addr.add_lit]; exact CSH.out.at_ 0
                  · rw [Addr.add_lit]; refine (CSH.out.at_ 1).trans ?_; simp only [List.getElem?_cons_succ, List.getElem?_cons_zero, ← HRT.out.2]; rfl)
              go_simp
              refine hK.out _ _ (fun _ => HS.out _ HB1.out) ?_
              clear hK K hcv
              try simp only [List.setIfInBounds_toArray, List.set_cons_zero, List.set_cons_succ]
              refine Till.one (i := 13) (by kernel_rfl) rfl (fun K hK => ?_)
              go_simp
              refine (HD.out V1 HB1.out).mono ?_
              rintro e V2 ⟨v5, rfl, hol, hbd⟩
              obtain ⟨PA, PC, rfl, _⟩ := own_row hol
              have HB2 := Lib.hid (below_on HB1.out hbd)
              have OL := Lib.hid (own_down hol HB1.out.size)
              have HBd := Lib.hid hbd
              refine hK.out _ _ (fun _ => HS.out _ HB2.out) ?_
              clear hK K hol hbd
              try simp only [List.setIfInBounds_toArray, List.set_cons_zero, List.set_cons_succ]
              have F1 := Lib.hid (FS.lit HF.out HB2.out OL.out)
              refine Till.one (i := 14) (by kernel_rfl) rfl (fun K hK => ?_)
              go_simp
              refine hK.out _ _ (fun _ => HS.out _ HB2.out) ?_
              clear hK K
              try simp only [List.setIfInBounds_toArray, List.set_cons_zero, List.set_cons_succ]
              refine Till.one (i := 15) (by kernel_rfl) rfl (fun K hK => ?_)
              go_simp
              have kx := (Below.refl V2.heap.size V2).alloc (Nat.le_refl _) (.cells #[.string (ruleN j), .slice PA (decN (1 + m) l).length PC] 76)
              have CN := Cells.new V2 #[.string (ruleN j), .slice PA (decN (1 + m) l).length PC] 76
              obtain ⟨V8, hV⟩ : ∃ u, V2.alloc (.cells #[.string (ruleN j), .slice PA (decN (1 + m) l).length PC] 76) = u := ⟨_, rfl⟩
              rw [hV] at kx CN ⊢
              have HB8 := Lib.hid (below_on HB2.out kx)
              have F2 := Lib.hid (F1.out.keep kx)
              refine hK.out _ _ (fun _ => HS.out _ HB8.out) ?_
              clear hK K hV kx
              try simp only [List.setIfInBounds_toArray, List.set_cons_zero, List.set_cons_succ]
              have OV := F2.out.rR
              rw [jl] at OV
              obtain ⟨v', V9, hrun, hown', hgrow, _⟩ := run_append_own (P := Try.prog) V8 (w.heap.size + 1 + 1 + 1 + 1) 36 36 76 ir (.agg #[.string ByteArray.empty, .slice none 0 0]) 2 40 Try.underlying36 hir hir0 hir1 hir2 rfl (by decide) vR j (rflat qr) OV ⟨V2.heap.size, 0, none⟩ 1 1 ([.string (ruleN j), .slice PA (decN (1 + m) l).length PC]) rfl (fun k u hu => by rw [Addr.add_lit, Nat.zero_add]; exact (CN.at_ k).trans hu) (fun u hu => by
                  simp at hu
                  rcases hu with rfl | rfl <;> rfl) (by unfold maxLen; omega) (by omega) F2.out.siz
              obtain ⟨NA, NC, rfl, _⟩ := own_row hown'
              refine Till.one (i := 16) (by kernel_rfl) rfl (fun K hK => ?_)
              refine step_append_run rfl (.tmp 44) (.tmp 58) 36 rfl rfl rfl hrun ?_
              obtain ⟨⟨z2, y2⟩, FN⟩ := FS.appR F2.out hgrow (v' := .slice NA (j + 1) NC) (q := ((ruleN j, (decN (1 + m) l)), PA, PC)) (by rw [rflat_app, List.length_append, jl]; exact hown')
              have FN := Lib.hid FN
              refine hK.out _ _ (fun _ => ⟨z2, (c_other (show w.heap.size ≠ w.heap.size + 1 + 1 + 1 by omega)).symm.trans (FN.out.kin.at_ 1), (c_other (show bl ≠ w.heap.size + 1 + 1 + 1 by omega)).symm.trans ((FN.out.low.cell (p := ⟨bl, ol + j, none⟩) hbl).trans hcl)⟩) ?_
              clear hK K hown' hrun OV CN
              try simp only [Act.put, List.setIfInBounds_toArray]
              refine Till.one (i := 17) (by kernel_rfl) rfl (fun K hK => ?_)
              go_simp
              refine hK.out _ _ (fun _ => ⟨z2, (c_other (show w.heap.size ≠ w.heap.size + 1 + 1 + 1 by omega)).symm.trans (FN.out.kin.at_ 1), (c_other (show bl ≠ w.heap.size + 1 + 1 + 1 by omega)).symm.trans ((FN.out.low.cell (p := ⟨bl, ol + j, none⟩) hbl).trans hcl)⟩) ?_
              clear hK K
              try simp only [List.setIfInBounds_toArray, List.set_cons_zero, List.set_cons_succ]
              refine Till.one (i := 18) (by kernel_rfl) rfl (fun K hK => ?_)
              go_simp
              refine hK.out _ _ (fun h => absurd h (by simp)) ?_
              clear hK K
              try simp only [List.setIfInBounds_toArray, List.set_cons_zero, List.set_cons_succ]
              refine Till.done (by kernel_rfl) ?_ _
              clear z2 y2 hgrow
              go_wp2_with fail
              go_roundw
              case rel =>
                refine ⟨j + 1, .slice NA (j + 1) NC, qr ++ [((ruleN j, (decN (1 + m) l)), PA, PC)], by go_num, by omega, ?_, ?_⟩
                · rw [List.map_append, hq, famR, lr, take_map_succ _ _ _ (by omega), List.getD_eq_getElem?_getD, hl]
                  rfl
                · rw [List.map_append]
                  exact FN.out
              case measure => simp [intOf]; omega
            · intro K hK
              go_simp
              refine (HD.out V1 HB1.out).mono ?_
              rintro e V2 ⟨v5, rfl, hol, hbd⟩
              obtain ⟨PA, PC, rfl, _⟩ := own_row hol
              have HB2 := Lib.hid (below_on HB1.out hbd)
              have OL := Lib.hid (own_down hol HB1.out.size)
              have HBd := Lib.hid hbd
              refine hK.out _ _ (fun _ => HS.out _ HB2.out) ?_
              clear hK K hol hbd
              try simp only [List.setIfInBounds_toArray, List.set_cons_zero, List.set_cons_succ]
              refine Till.one (i := 6) (by kernel_rfl) rfl (fun K hK => ?_)
              have CS2 := Lib.hid (CSH.out.keep HBd.out)
              have hcv : (convert 97 9 (.slice (some ⟨V0.heap.size, 0, none⟩) 2 2)).run Try.prog V2 = .ok (.string (ruleN j)) V2 := by
                rw [HRT.out.1]
                exact run_convert_bytes_back _ _ _ 5 ⟨V0.heap.size, 0, none⟩ 2 [114, (49 + j).toUInt8] Try.underlying97 Try.underlying5 Try.underlying9 (fun q hq => by
                  have h0 : q = 0 ∨ q = 1 := by simp at hq; omega
                  rcases h0 with rfl | rfl
                  · rw [Addr.add_lit]; exact CS2.out.at_ 0
                  · rw [Addr.add_lit]; refine (CS2.out.at_ 1).trans ?_; simp only [List.getElem?_cons_succ, List.getElem?_cons_zero, ← HRT.out.2]; rfl)
              go_simp
              refine hK.out _ _ (fun _ => HS.out _ HB2.out) ?_
              clear hK K hcv
              try simp only [List.setIfInBounds_toArray, List.set_cons_zero, List.set_cons_succ]
              have F1 := Lib.hid (FS.lit HF.out HB2.out OL.out)
              refine Till.one (i := 14) (by kernel_rfl) rfl (fun K hK => ?_)
              go_simp
              refine hK.out _ _ (fun _ => HS.out _ HB2.out) ?_
              clear hK K
              try simp only [List.setIfInBounds_toArray, List.set_cons_zero, List.set_cons_succ]
              refine Till.one (i := 15) (by kernel_rfl) rfl (fun K hK => ?_)
              go_simp
              have kx := (Below.refl V2.heap.size V2).alloc (Nat.le_refl _) (.cells #[.string (ruleN j), .slice PA (decN (1 + m) l).length PC] 76)
              have CN := Cells.new V2 #[.string (ruleN j), .slice PA (decN (1 + m) l).length PC] 76
              obtain ⟨V8, hV⟩ : ∃ u, V2.alloc (.cells #[.string (ruleN j), .slice PA (decN (1 + m) l).length PC] 76) = u := ⟨_, rfl⟩
              rw [hV] at kx CN ⊢
              have HB8 := Lib.hid (below_on HB2.out kx)
              have F2 := Lib.hid (F1.out.keep kx)
              refine hK.out _ _ (fun _ => HS.out _ HB8.out) ?_
              clear hK K hV kx
              try simp only [List.setIfInBounds_toArray, List.set_cons_zero, List.set_cons_succ]
              have OV := F2.out.rR
              rw [jl] at OV
              obtain ⟨v', V9, hrun, hown', hgrow, _⟩ := run_append_own (P := Try.prog) V8 (w.heap.size + 1 + 1 + 1 + 1) 36 36 76 ir (.agg #[.string ByteArray.empty, .slice none 0 0]) 2 40 Try.underlying36 hir hir0 hir1 hir2 rfl (by decide) vR j (rflat qr) OV ⟨V2.heap.size, 0, none⟩ 1 1 ([.string (ruleN j), .slice PA (decN (1 + m) l).length PC]) rfl (fun k u hu => by rw [Addr.add_lit, Nat.zero_add]; exact (CN.at_ k).trans hu) (fun u hu => by
                  simp at hu
                  rcases hu with rfl | rfl <;> rfl) (by unfold maxLen; omega) (by omega) F2.out.siz
              obtain ⟨NA, NC, rfl, _⟩ := own_row hown'
              refine Till.one (i := 16) (by kernel_rfl) rfl (fun K hK => ?_)
              refine step_append_run rfl (.tmp 44) (.tmp 58) 36 rfl rfl rfl hrun ?_
              obtain ⟨⟨z2, y2⟩, FN⟩ := FS.appR F2.out hgrow (v' := .slice NA (j + 1) NC) (q := ((ruleN j, (decN (1 + m) l)), PA, PC)) (by rw [rflat_app, List.length_append, jl]; exact hown')
              have FN := Lib.hid FN
              refine hK.out _ _ (fun _ => ⟨z2, (c_other (show w.heap.size ≠ w.heap.size + 1 + 1 + 1 by omega)).symm.trans (FN.out.kin.at_ 1), (c_other (show bl ≠ w.heap.size + 1 + 1 + 1 by omega)).symm.trans ((FN.out.low.cell (p := ⟨bl, ol + j, none⟩) hbl).trans hcl)⟩) ?_
              clear hK K hown' hrun OV CN
              try simp only [Act.put, List.setIfInBounds_toArray]
              refine Till.one (i := 17) (by kernel_rfl) rfl (fun K hK => ?_)
              go_simp
              refine hK.out _ _ (fun _ => ⟨z2, (c_other (show w.heap.size ≠ w.heap.size + 1 + 1 + 1 by omega)).symm.trans (FN.out.kin.at_ 1), (c_other (show bl ≠ w.heap.size + 1 + 1 + 1 by omega)).symm.trans ((FN.out.low.cell (p := ⟨bl, ol + j, none⟩) hbl).trans hcl)⟩) ?_
              clear hK K
              try simp only [List.setIfInBounds_toArray, List.set_cons_zero, List.set_cons_succ]
              refine Till.one (i := 18) (by kernel_rfl) rfl (fun K hK => ?_)
              go_simp
              refine hK.out _ _ (fun h => absurd h (by simp)) ?_
              clear hK K
              try simp only [List.setIfInBounds_toArray, List.set_cons_zero, List.set_cons_succ]
              refine Till.done (by kernel_rfl) ?_ _
              clear z2 y2 hgrow
              go_wp2_with fail
              go_roundw
              case rel =>
                refine ⟨j + 1, .slice NA (j + 1) NC, qr ++ [((ruleN j, (decN (1 + m) l)), PA, PC)], by go_num, by omega, ?_, ?_⟩
                · rw [List.map_append, hq, famR, lr, take_map_succ _ _ _ (by omega), List.getD_eq_getElem?_getD, hl]
                  rfl
                · rw [List.map_append]
                  exact FN.out
              case measure => simp [intOf]; omega
          · intro K hK
            go_simp
            refine (HD.out V0 HB0.out).mono ?_
            rintro e V1 ⟨v5, rfl, hol, hbd⟩
            obtain ⟨PA, PC, rfl, _⟩ := own_row hol
            have HB1 := Lib.hid (below_on HB0.out hbd)
            have OL := Lib.hid (own_down hol HB0.out.size)
            have HBd := Lib.hid hbd
            refine hK.out _ _ (fun _ => HS.out _ HB1.out) ?_
            clear hK K hol hbd
            try simp only [List.setIfInBounds_toArray, List.set_cons_zero, List.set_cons_succ]
            refine Till.one (i := 5) (by kernel_rfl) rfl (fun K hK => ?_)
            go_simp
            have kx := (Below.refl V1.heap.size V1).alloc (Nat.le_refl _) (.cells #[.int .u8 114, .int .u8 (49 + (j : Int))] 5)
            have CS := Cells.new V1 #[.int .u8 114, .int .u8 (49 + (j : Int))] 5
            obtain ⟨V2, hV⟩ : ∃ u, V1.alloc (.cells #[.int .u8 114, .int .u8 (49 + (j : Int))] 5) = u := ⟨_, rfl⟩
            rw [hV] at kx CS ⊢
            have HB2 := Lib.hid (below_on HB1.out kx)
            have CSH := Lib.hid CS
            have KX := Lib.hid kx
            refine hK.out _ _ (fun _ => HS.out _ HB2.out) ?_
            clear hK K hV kx CS
            try simp only [List.setIfInBounds_toArray, List.set_cons_zero, List.set_cons_succ]
            have OL := Lib.hid (own_keep OL.out KX.out)
            refine Till.one (i := 6) (by kernel_rfl) rfl (fun K hK => ?_)
            have hcv : (convert 97 9 (.slice (some ⟨V1.heap.size, 0, none⟩) 2 2)).run Try.prog V2 = .ok (.string (ruleN j)) V2 := by
              rw [HRT.out.1]
              exact run_convert_bytes_back _ _ _ 5 ⟨V1.heap.size, 0, none⟩ 2 [114, (49 + j).toUInt8] Try.underlying97 Try.underlying5 Try.underlying9 (fun q hq => by
                have h0 : q = 0 ∨ q = 1 := by simp at hq; omega
                rcases h0 with rfl | rfl
                · rw [Addr.add_lit]; exact CSH.out.at_ 0
                · rw [Addr.add_lit]; refine (CSH.out.at_ 1).trans ?_; simp only [List.getElem?_cons_succ, List.getElem?_cons_zero, ← HRT.out.2]; rfl)
            go_simp
            refine hK.out _ _ (fun _ => HS.out _ HB2.out) ?_
            clear hK K hcv
            try simp only [List.setIfInBounds_toArray, List.set_cons_zero, List.set_cons_succ]
            have F1 := Lib.hid (FS.lit HF.out HB2.out OL.out)
            refine Till.one (i := 14) (by kernel_rfl) rfl (fun K hK => ?_)
            go_simp
            refine hK.out _ _ (fun _ => HS.out _ HB2.out) ?_
            clear hK K
            try simp only [List.setIfInBounds_toArray, List.set_cons_zero, List.set_cons_succ]
            refine Till.one (i := 15) (by kernel_rfl) rfl (fun K hK => ?_)
            go_simp
            have kx := (Below.refl V2.heap.size V2).alloc (Nat.le_refl _) (.cells #[.string (ruleN j), .slice PA (decN (1 + m) l).length PC] 76)
            have CN := Cells.new V2 #[.string (ruleN j), .slice PA (decN (1 + m) l).length PC] 76
            obtain ⟨V8, hV⟩ : ∃ u, V2.alloc (.cells #[.string (ruleN j), .slice PA (decN (1 + m) l).length PC] 76) = u := ⟨_, rfl⟩
            rw [hV] at kx CN ⊢
            have HB8 := Lib.hid (below_on HB2.out kx)
            have F2 := Lib.hid (F1.out.keep kx)
            refine hK.out _ _ (fun _ => HS.out _ HB8.out) ?_
            clear hK K hV kx
            try simp only [List.setIfInBounds_toArray, List.set_cons_zero, List.set_cons_succ]
            have OV := F2.out.rR
            rw [jl] at OV
            obtain ⟨v', V9, hrun, hown', hgrow, _⟩ := run_append_own (P := Try.prog) V8 (w.heap.size + 1 + 1 + 1 + 1) 36 36 76 ir (.agg #[.string ByteArray.empty, .slice none 0 0]) 2 40 Try.underlying36 hir hir0 hir1 hir2 rfl (by decide) vR j (rflat qr) OV ⟨V2.heap.size, 0, none⟩ 1 1 ([.string (ruleN j), .slice PA (decN (1 + m) l).length PC]) rfl (fun k u hu => by rw [Addr.add_lit, Nat.zero_add]; exact (CN.at_ k).trans hu) (fun u hu => by
                simp at hu
                rcases hu with rfl | rfl <;> rfl) (by unfold maxLen; omega) (by omega) F2.out.siz
            obtain ⟨NA, NC, rfl, _⟩ := own_row hown'
            refine Till.one (i := 16) (by kernel_rfl) rfl (fun K hK => ?_)
            refine step_append_run rfl (.tmp 44) (.tmp 58) 36 rfl rfl rfl hrun ?_
            obtain ⟨⟨z2, y2⟩, FN⟩ := FS.appR F2.out hgrow (v' := .slice NA (j + 1) NC) (q := ((ruleN j, (decN (1 + m) l)), PA, PC)) (by rw [rflat_app, List.length_append, jl]; exact hown')
            have FN := Lib.hid FN
            refine hK.out _ _ (fun _ => ⟨z2, (c_other (show w.heap.size ≠ w.heap.size + 1 + 1 + 1 by omega)).symm.trans (FN.out.kin.at_ 1), (c_other (show bl ≠ w.heap.size + 1 + 1 + 1 by omega)).symm.trans ((FN.out.low.cell (p := ⟨bl, ol + j, none⟩) hbl).trans hcl)⟩) ?_
            clear hK K hown' hrun OV CN
            try simp only [Act.put, List.setIfInBounds_toArray]
            refine Till.one (i := 17) (by kernel_rfl) rfl (fun K hK => ?_)
            go_simp
            refine hK.out _ _ (fun _ => ⟨z2, (c_other (show w.heap.size ≠ w.heap.size + 1 + 1 + 1 by omega)).symm.trans (FN.out.kin.at_ 1), (c_other (show bl ≠ w.heap.size + 1 + 1 + 1 by omega)).symm.trans ((FN.out.low.cell (p := ⟨bl, ol + j, none⟩) hbl).trans hcl)⟩) ?_
            clear hK K
            try simp only [List.setIfInBounds_toArray, List.set_cons_zero, List.set_cons_succ]
            refine Till.one (i := 18) (by kernel_rfl) rfl (fun K hK => ?_)
            go_simp
            refine hK.out _ _ (fun h => absurd h (by simp)) ?_
            clear hK K
            try simp only [List.setIfInBounds_toArray, List.set_cons_zero, List.set_cons_succ]
            refine Till.done (by kernel_rfl) ?_ _
            clear z2 y2 hgrow
            go_wp2_with fail
            go_roundw
            case rel =>
              refine ⟨j + 1, .slice NA (j + 1) NC, qr ++ [((ruleN j, (decN (1 + m) l)), PA, PC)], by go_num, by omega, ?_, ?_⟩
              · rw [List.map_append, hq, famR, lr, take_map_succ _ _ _ (by omega), List.getD_eq_getElem?_getD, hl]
                rfl
              · rw [List.map_append]
                exact FN.out
            case measure => simp [intOf]; omega
        · have hjm : j = min rn 6 := by omega
          have hqr : qr.map (·.1) = famR (1 + m) kr := by
            rw [hq, famR, lr]
            exact take_map_full _ _ _ (by omega)
          by_cases h1 : j < rn
          · have i1 : (j : Int) < (rn : Int) := by omega
            have i2 : ¬ ((j : Int) < 6) := by omega
            go_wp2_with fail
            go_meet
            exact ⟨vR, qr, hqr, HF.out⟩
          · have i1 : ¬ ((j : Int) < (rn : Int)) := by omega
            go_wp2_with fail
            go_meet
            exact ⟨vR, qr, hqr, HF.out⟩
    case rest =>
      obtain ⟨vR, qr, hqr, hF⟩ := hcut
      clear HF
      have HF := Lib.hid hF
      clear hF
      go_upto_block 4 with fail
      go_cut [9] (fun _ wx => ∃ vG gq, gq.map (·.1) = famG (1 + m) kg ∧ FS w wx [.int .u8 (o : Nat), .slice RA rn rc, .slice GA gn gc, .slice VA vn vc] (prodC (.slice I 3 ic) (.slice J 2 2)) vO vR vG (.slice none 0 0) (famO (1 + m)) qr gq.length 0 (gflat gq) [] ((qr.map fun q => (q.1.2, q.2.1, q.2.2)) ++ gq.map fun q => (q.1.2, q.2.1, q.2.2)))
      case first =>
        go_wp2_with fail
        go_loopw [9] (fun i wr => ∃ (j : Nat) (vG : Value) (gq : List Gq), i = .int .i64 (j : Nat) ∧ j ≤ min gn 4 ∧ gq.map (·.1) = (famG (1 + m) kg).take j ∧ FS w wr [.int .u8 (o : Nat), .slice RA rn rc, .slice GA gn gc, .slice VA vn vc] (prodC (.slice I 3 ic) (.slice J 2 2)) vO vR vG (.slice none 0 0) (famO (1 + m)) qr gq.length 0 (gflat gq) [] ((qr.map fun q => (q.1.2, q.2.1, q.2.2)) ++ gq.map fun q => (q.1.2, q.2.1, q.2.2))) (fun i _ => 4 - (intOf i).toNat)
        case atStart => exact ⟨0, _, [], rfl, Nat.zero_le _, by simp, by simpa [gflat] using HF.out⟩
        case round =>
          obtain ⟨j, vG, gq, rfl, hj, hq, hF⟩ := hrel
          clear HF
          have HF := Lib.hid hF
          have k2 := hF.kin.at_ 2
          have b2 := hF.base.at_ 2
          simp only [prodC, List.getElem?_cons_succ, List.getElem?_cons_zero] at k2 b2
          have jl : gq.length = j := by rw [← List.length_map (f := (·.1)), hq, List.length_take]; unfold famG; rw [List.length_map, List.length_range]; omega
          clear hF
          by_cases hlt : j < gn ∧ j < 4
          · have i1 : (j : Int) < (gn : Int) := by omega
            have i2 : (j : Int) < 4 := by omega
            obtain ⟨l, hl⟩ : ∃ l, kg[j]? = some l := ⟨_, List.getElem?_eq_getElem (by omega)⟩
            obtain ⟨bl, ol, LA, LC, rfl, hbl, hcl, hll⟩ := hkg j l hl
            have hlm := List.mem_of_getElem? hl
            have HD := Lib.hid (fun W (hb : Below wr.heap.size wr W) => HDec.out LA LC l W (hll.keep (HF.out.keep hb).low) (h8g l hlm))
            obtain ⟨jm, hjm⟩ : ∃ y, j % 3 = y := ⟨_, rfl⟩
            have e5 : Int.tmod (j : Int) 3 = (jm : Int) := by rw [← hjm]; exact (Int.ofNat_tmod _ _).symm
            have e6 : IntKind.i64.wrap (jm : Int) = (jm : Int) := IntWalk.i64_in _ (by omega)
            have hjm := Lib.hid hjm
            go_upto_region 14 with fail
            have HS := Lib.hid (fun w' (hb : Below wr.heap.size wr w') => (show w'.cell? ⟨w.heap.size + 1 + 1 + 1, 8, none⟩ = some vG ∧ w'.cell? ⟨w.heap.size, 2, none⟩ = some (.slice (some ⟨bl, ol, none⟩) gn gc) ∧ w'.cell? ⟨bl, ol + j, none⟩ = some (.slice LA l.length LC) ∧ w'.cell? ⟨w.heap.size + 1, 2, none⟩ = some (.slice I 3 ic) from ⟨(HF.out.keep hb).fam.at_ 8, (HF.out.keep hb).kin.at_ 2, ((HF.out.keep hb).low.cell (p := ⟨bl, ol + j, none⟩) hbl).trans hcl, (HF.out.keep hb).base.at_ 2⟩))
            refine Till.begin 19 (fun w' => w'.cell? ⟨w.heap.size + 1 + 1 + 1, 8, none⟩ = some vG ∧ w'.cell? ⟨w.heap.size, 2, none⟩ = some (.slice (some ⟨bl, ol, none⟩) gn gc) ∧ w'.cell? ⟨bl, ol + j, none⟩ = some (.slice LA l.length LC) ∧ w'.cell? ⟨w.heap.size + 1, 2, none⟩ = some (.slice I 3 ic)) (by kernel_rfl) (HS.out _ (Below.refl _ _).drew) (fun hH => ?_)
            clear hH
            have HB0 := Lib.hid (Below.refl wr.heap.size wr).drew
            generalize wr.drew = V0 at HB0 ⊢
            try simp only [List.setIfInBounds_toArray, List.set_cons_zero, List.set_cons_succ]
            refine Till.tL 0 [1, 17, 19] 79 (.pointer (some ⟨w.heap.size + 1 + 1 + 1, 8, none⟩)) (HS.out _ HB0.out) ?_
            try simp only [Act.put, List.setIfInBounds_toArray, List.set_cons_zero, List.set_cons_succ]
            refine Till.tL 1 [17, 19] 80 (vG) (HS.out _ HB0.out) ?_
            try simp only [Act.put, List.setIfInBounds_toArray, List.set_cons_zero, List.set_cons_succ]
            refine Till.tL 2 [7, 15, 16, 17, 19] 81 (.int .i64 (j : Int)) (HS.out _ HB0.out) ?_
            try simp only [Act.put, List.setIfInBounds_toArray, List.set_cons_zero, List.set_cons_succ]
            refine Till.tL 3 [4, 5, 6, 7, 15, 16, 17, 19] 82 (.pointer (some ⟨w.heap.size + 1, 1, none⟩)) (HS.out _ HB0.out) ?_
            try simp only [Act.put, List.setIfInBounds_toArray, List.set_cons_zero, List.set_cons_succ]
            refine Till.tL 4 [5, 6, 7, 15, 16, 17, 19] 83 (.pointer (some ⟨w.heap.size + 1, 2, none⟩)) (HS.out _ HB0.out) ?_
            try simp only [Act.put, List.setIfInBounds_toArray, List.set_cons_zero, List.set_cons_succ]
            refine Till.tL 5 [6, 7, 15, 16, 17, 19] 84 (.slice I 3 ic) (HS.out _ HB0.out) ?_
            try simp only [Act.put, List.setIfInBounds_toArray, List.set_cons_zero, List.set_cons_succ]
            refine Till.tL 6 [7, 15, 16, 17, 19] 85 (.int .i64 3) (HS.out _ HB0.out) ?_
            try simp only [Act.put, List.setIfInBounds_toArray, List.set_cons_zero, List.set_cons_succ]
            refine Till.tL 7 [15, 16, 17, 19] 86 (.int .i64 (jm : Int)) (HS.out _ HB0.out) ?_
            try simp only [Act.put, List.setIfInBounds_toArray, List.set_cons_zero, List.set_cons_succ]
            refine Till.tL 8 [14, 15, 16, 17, 19] 87 (.int .i64 (1 + (m : Int))) (HS.out _ HB0.out) ?_
            try simp only [Act.put, List.setIfInBounds_toArray, List.set_cons_zero, List.set_cons_succ]
            refine Till.tL 9 [10, 12, 13, 14, 15, 16, 17, 19] 88 (.pointer (some ⟨w.heap.size, 2, none⟩)) (HS.out _ HB0.out) ?_
            try simp only [Act.put, List.setIfInBounds_toArray, List.set_cons_zero, List.set_cons_succ]
            refine Till.tL 10 [12, 13, 14, 15, 16, 17, 19] 89 (.slice (some ⟨bl, ol, none⟩) gn gc) (HS.out _ HB0.out) ?_
            try simp only [Act.put, List.setIfInBounds_toArray, List.set_cons_zero, List.set_cons_succ]
            refine Till.tL 11 [12, 13, 14, 15, 16, 17, 19] 90 (.int .i64 (j : Int)) (HS.out _ HB0.out) ?_
            try simp only [Act.put, List.setIfInBounds_toArray, List.set_cons_zero, List.set_cons_succ]
            refine Till.tL 12 [13, 14, 15, 16, 17, 19] 91 (.pointer (some ⟨bl, ol + j, none⟩)) (HS.out _ HB0.out) ?_
            try simp only [Act.put, List.setIfInBounds_toArray, List.set_cons_zero, List.set_cons_succ]
            refine Till.tL 13 [14, 15, 16, 17, 19] 92 (.slice LA l.length LC) (HS.out _ HB0.out) ?_
            try simp only [Act.put, List.setIfInBounds_toArray, List.set_cons_zero, List.set_cons_succ]
            refine Till.one (i := 14) (by kernel_rfl) rfl (fun K hK => ?_)
            go_simp
            refine (HD.out V0 HB0.out).mono ?_
            rintro e V2 ⟨v5, rfl, hol, hbd⟩
            obtain ⟨PA, PC, rfl, _⟩ := own_row hol
            have HB2 := Lib.hid (below_on HB0.out hbd)
            have OL := Lib.hid (own_down hol HB0.out.size)
            refine hK.out _ _ (fun _ => HS.out _ HB2.out) ?_
            clear hK K hol hbd
            try simp only [List.setIfInBounds_toArray, List.set_cons_zero, List.set_cons_succ]
            have F1 := Lib.hid (FS.lit HF.out HB2.out OL.out)
            refine Till.one (i := 15) (by kernel_rfl) rfl (fun K hK => ?_)
            go_simp
            refine hK.out _ _ (fun _ => HS.out _ HB2.out) ?_
            clear hK K
            try simp only [List.setIfInBounds_toArray, List.set_cons_zero, List.set_cons_succ]
            refine Till.one (i := 16) (by kernel_rfl) rfl (fun K hK => ?_)
            go_simp
            have kx := (Below.refl V2.heap.size V2).alloc (Nat.le_refl _) (.cells #[.int .i64 (jm : Int), .slice PA (decN (1 + m) l).length PC] 88)
            have CN := Cells.new V2 #[.int .i64 (jm : Int), .slice PA (decN (1 + m) l).length PC] 88
            obtain ⟨V8, hV⟩ : ∃ u, V2.alloc (.cells #[.int .i64 (jm : Int), .slice PA (decN (1 + m) l).length PC] 88) = u := ⟨_, rfl⟩
            rw [hV] at kx CN ⊢
            have HB8 := Lib.hid (below_on HB2.out kx)
            have F2 := Lib.hid (F1.out.keep kx)
            refine hK.out _ _ (fun _ => HS.out _ HB8.out) ?_
            clear hK K hV kx
            try simp only [List.setIfInBounds_toArray, List.set_cons_zero, List.set_cons_succ]
            have OV := F2.out.rG
            rw [jl] at OV
            obtain ⟨v', V9, hrun, hown', hgrow, _⟩ := run_append_own (P := Try.prog) V8 (w.heap.size + 1 + 1 + 1 + 1) 37 37 88 ig (.agg #[.int .i64 0, .slice none 0 0]) 2 32 Try.underlying37 hig hig0 hig1 hig2 rfl (by decide) vG j (gflat gq) OV ⟨V2.heap.size, 0, none⟩ 1 1 ([.int .i64 (jm : Int), .slice PA (decN (1 + m) l).length PC]) rfl (fun k u hu => by rw [Addr.add_lit, Nat.zero_add]; exact (CN.at_ k).trans hu) (fun u hu => by
                simp at hu
                rcases hu with rfl | rfl <;> rfl) (by unfold maxLen; omega) (by omega) F2.out.siz
            obtain ⟨NA, NC, rfl, _⟩ := own_row hown'
            refine Till.one (i := 17) (by kernel_rfl) rfl (fun K hK => ?_)
            refine step_append_run rfl (.tmp 80) (.tmp 95) 37 rfl rfl rfl hrun ?_
            obtain ⟨⟨z2, y2⟩, FN⟩ := FS.appG F2.out hgrow (v' := .slice NA (j + 1) NC) (us := gcell ((jm, (decN (1 + m) l)), PA, PC)) (by rw [jl]; exact hown')
            have FN := Lib.hid FN
            refine hK.out _ _ (fun _ => ⟨z2, (c_other (show w.heap.size ≠ w.heap.size + 1 + 1 + 1 by omega)).symm.trans (FN.out.kin.at_ 2), (c_other (show bl ≠ w.heap.size + 1 + 1 + 1 by omega)).symm.trans ((FN.out.low.cell (p := ⟨bl, ol + j, none⟩) hbl).trans hcl), (c_other (show w.heap.size + 1 ≠ w.heap.size + 1 + 1 + 1 by omega)).symm.trans (FN.out.base.at_ 2)⟩) ?_
            clear hK K hown' hrun OV CN
            try simp only [Act.put, List.setIfInBounds_toArray]
            refine Till.one (i := 18) (by kernel_rfl) rfl (fun K hK => ?_)
            go_simp
            refine hK.out _ _ (fun _ => ⟨z2, (c_other (show w.heap.size ≠ w.heap.size + 1 + 1 + 1 by omega)).symm.trans (FN.out.kin.at_ 2), (c_other (show bl ≠ w.heap.size + 1 + 1 + 1 by omega)).symm.trans ((FN.out.low.cell (p := ⟨bl, ol + j, none⟩) hbl).trans hcl), (c_other (show w.heap.size + 1 ≠ w.heap.size + 1 + 1 + 1 by omega)).symm.trans (FN.out.base.at_ 2)⟩) ?_
            clear hK K
            try simp only [List.setIfInBounds_toArray, List.set_cons_zero, List.set_cons_succ]
            refine Till.one (i := 19) (by kernel_rfl) rfl (fun K hK => ?_)
            go_simp
            refine hK.out _ _ (fun h => absurd h (by simp)) ?_
            clear hK K
            try simp only [List.setIfInBounds_toArray, List.set_cons_zero, List.set_cons_succ]
            refine Till.done (by kernel_rfl) ?_ _
            clear z2 y2 hgrow
            go_wp2_with fail
            go_roundw
            case rel =>
              refine ⟨j + 1, .slice NA (j + 1) NC, gq ++ [((jm, (decN (1 + m) l)), PA, PC)], by go_num, by omega, ?_, ?_⟩
              · rw [List.map_append, hq, famG, lg, take_map_succ _ _ _ (by omega), List.getD_eq_getElem?_getD, hl, hjm.out]
                rfl
              · rw [List.map_append, ← List.append_assoc, gflat_app, List.length_append]
                exact FN.out
            case measure => simp [intOf]; omega
          · have hjm : j = min gn 4 := by omega
            have hgq : gq.map (·.1) = famG (1 + m) kg := by
              rw [hq, famG, lg]
              exact take_map_full _ _ _ (by omega)
            by_cases h1 : j < gn
            · have i1 : (j : Int) < (gn : Int) := by omega
              have i2 : ¬ ((j : Int) < 4) := by omega
              go_wp2_with fail
              go_meet
              exact ⟨vG, gq, hgq, HF.out⟩
            · have i1 : ¬ ((j : Int) < (gn : Int)) := by omega
              go_wp2_with fail
              go_meet
              exact ⟨vG, gq, hgq, HF.out⟩
      case rest =>
        obtain ⟨vG, gq, hgq, hF⟩ := hcut
        clear HF
        have HF := Lib.hid hF
        clear hF
        go_upto_block 6 with fail
        go_cut [10, 11, 12] (fun _ _ _ wx => ∃ vV vq, vq.map (·.1) = famV (1 + m) kv ∧ FS w wx [.int .u8 (o : Nat), .slice RA rn rc, .slice GA gn gc, .slice VA vn vc] (prodC (.slice I 3 ic) (.slice J 2 2)) vO vR vG vV (famO (1 + m)) qr gq.length vq.length (gflat gq) (vflat vq) (((qr.map fun q => (q.1.2, q.2.1, q.2.2)) ++ gq.map fun q => (q.1.2, q.2.1, q.2.2)) ++ vq.map fun q => (q.1.all, q.2.1, q.2.2)))
        case first =>
          go_wp2_with fail
          go_loopw [10, 11, 12] (fun i _ _ wr => ∃ (j : Nat) (vV : Value) (vq : List Vq), i = .int .i64 (j : Nat) ∧ j ≤ min vn 4 ∧ vq.map (·.1) = (famV (1 + m) kv).take j ∧ FS w wr [.int .u8 (o : Nat), .slice RA rn rc, .slice GA gn gc, .slice VA vn vc] (prodC (.slice I 3 ic) (.slice J 2 2)) vO vR vG vV (famO (1 + m)) qr gq.length vq.length (gflat gq) (vflat vq) (((qr.map fun q => (q.1.2, q.2.1, q.2.2)) ++ gq.map fun q => (q.1.2, q.2.1, q.2.2)) ++ vq.map fun q => (q.1.all, q.2.1, q.2.2))) (fun i _ _ _ => 4 - (intOf i).toNat)
          case atStart => exact ⟨0, _, [], rfl, Nat.zero_le _, by simp, by simpa [vflat] using HF.out⟩
          case round =>
            obtain ⟨j, vV, vq, rfl, hj, hq, hF⟩ := hrel
            clear HF
            have HF := Lib.hid hF
            have k3 := hF.kin.at_ 3
            have b3 := hF.base.at_ 3
            simp only [prodC, List.getElem?_cons_succ, List.getElem?_cons_zero] at k3 b3
            have jl : vq.length = j := by rw [← List.length_map (f := (·.1)), hq, List.length_take]; unfold famV; rw [List.length_map, List.length_range]; omega
            clear hF
            by_cases hlt : j < vn ∧ j < 4
            · have i1 : (j : Int) < (vn : Int) := by omega
              have i2 : (j : Int) < 4 := by omega
              obtain ⟨l, hl⟩ : ∃ l, kv[j]? = some l := ⟨_, List.getElem?_eq_getElem (by omega)⟩
              obtain ⟨bl, ol, LA, LC, rfl, hbl, hcl, hll⟩ := hkv j l hl
              have hlm := List.mem_of_getElem? hl
              have HD := Lib.hid (fun W (hb : Below w.heap.size w W) => HDec.out LA LC l W (hll.keep hb) (h8v l hlm))
              obtain ⟨jm, hjm⟩ : ∃ y, j % 2 = y := ⟨_, rfl⟩
              have hjm2 : jm < 2 := by omega
              have e5 : Int.tmod (j : Int) 2 = (jm : Int) := by rw [← hjm]; exact (Int.ofNat_tmod _ _).symm
              have e6 : IntKind.i64.wrap (jm : Int) = (jm : Int) := IntWalk.i64_in _ (by omega)
              have e7 : IntKind.i64.wrap (100 + (j : Int)) = 100 + (j : Int) := IntWalk.i64_in _ (by omega)
              have i3 : (jm : Int) < 2 := by omega
              obtain ⟨nd, hd0, hd1, bd, od, rfl, hbd0, d0, d1, d2, d3⟩ : ∃ nd, nd = dimN j ∧ True ∧ ∃ b o, J = some ⟨b, o, none⟩ ∧ b < w.heap.size ∧ w.cell? ⟨b, o + jm * 4, none⟩ = some (.string nd) ∧ (∃ q, w.cell? ⟨b, o + jm * 4 + 1, none⟩ = some (.int .i64 q)) ∧ w.cell? ⟨b, o + jm * 4 + 2, none⟩ = some (.int .i64 (-1)) ∧ w.cell? ⟨b, o + jm * 4 + 3, none⟩ = some (.int .i64 1) := by
                have h01 : jm = 0 ∨ jm = 1 := by omega
                rcases h01 with h0 | h0
                · obtain ⟨b, o, e, hb, c0, c1, c2, c3⟩ := hD 0 _ rfl
                  rw [h0]
                  exact ⟨_, rfl, trivial, b, o, e, hb, by unfold dimN; rw [hjm, h0]; exact c0, ⟨_, c1⟩, c2, c3⟩
                · obtain ⟨b, o, e, hb, c0, c1, c2, c3⟩ := hD 1 _ rfl
                  rw [h0]
                  exact ⟨_, rfl, trivial, b, o, e, hb, by unfold dimN; rw [hjm, h0]; exact c0, ⟨_, c1⟩, c2, c3⟩
              obtain ⟨qd, d1⟩ := d1
              have d0 := (HF.out.low.cell (p := ⟨bd, od + jm * 4, none⟩) hbd0).trans d0
              have d1 := (HF.out.low.cell (p := ⟨bd, od + jm * 4 + 1, none⟩) hbd0).trans d1
              have d2 := (HF.out.low.cell (p := ⟨bd, od + jm * 4 + 2, none⟩) hbd0).trans d2
              have d3 := (HF.out.low.cell (p := ⟨bd, od + jm * 4 + 3, none⟩) hbd0).trans d3
              have hjm := Lib.hid hjm
              go_upto_region 21 with fail
              have kt := (Below.refl wr.heap.size wr).alloc (Nat.le_refl _) (.cells #[.string (dimN j), .int .i64 (100 + (j : Int)), .int .i64 (-1), .int .i64 1] 90)
              have CT := Cells.new wr #[.string (dimN j), .int .i64 (100 + (j : Int)), .int .i64 (-1), .int .i64 1] 90
              obtain ⟨wT, hwT⟩ : ∃ u, wr.alloc (.cells #[.string (dimN j), .int .i64 (100 + (j : Int)), .int .i64 (-1), .int .i64 1] 90) = u := ⟨_, rfl⟩
              rw [hwT] at kt CT ⊢
              have HT := Lib.hid (HF.out.keep kt)
              obtain ⟨pT, hpT⟩ : ∃ p, wr.heap.size = p := ⟨_, rfl⟩
              rw [hpT] at CT ⊢
              have HCT := Lib.hid CT
              clear CT kt hwT hpT d0 d1 d2 d3
              have HS := Lib.hid (fun w' (hb : Below wT.heap.size wT w') => (show w'.cell? ⟨w.heap.size + 1 + 1 + 1, 9, none⟩ = some vV ∧ w'.cell? ⟨w.heap.size, 3, none⟩ = some (.slice (some ⟨bl, ol, none⟩) vn vc) ∧ w'.cell? ⟨bl, ol + j, none⟩ = some (.slice LA l.length LC) ∧ w'.cell? ⟨pT, 0, none⟩ = some (.string (dimN j)) ∧ w'.cell? ⟨pT, 1, none⟩ = some (.int .i64 (100 + (j : Int))) ∧ w'.cell? ⟨pT, 2, none⟩ = some (.int .i64 (-1)) ∧ w'.cell? ⟨pT, 3, none⟩ = some (.int .i64 1) from ⟨(HT.out.keep hb).fam.at_ 9, (HT.out.keep hb).kin.at_ 3, ((HT.out.keep hb).low.cell (p := ⟨bl, ol + j, none⟩) hbl).trans hcl, (HCT.out.keep hb).at_ 0, (HCT.out.keep hb).at_ 1, (HCT.out.keep hb).at_ 2, (HCT.out.keep hb).at_ 3⟩))
              refine Till.begin 13 (fun w' => w'.cell? ⟨w.heap.size + 1 + 1 + 1, 9, none⟩ = some vV ∧ w'.cell? ⟨w.heap.size, 3, none⟩ = some (.slice (some ⟨bl, ol, none⟩) vn vc) ∧ w'.cell? ⟨bl, ol + j, none⟩ = some (.slice LA l.length LC) ∧ w'.cell? ⟨pT, 0, none⟩ = some (.string (dimN j)) ∧ w'.cell? ⟨pT, 1, none⟩ = some (.int .i64 (100 + (j : Int))) ∧ w'.cell? ⟨pT, 2, none⟩ = some (.int .i64 (-1)) ∧ w'.cell? ⟨pT, 3, none⟩ = some (.int .i64 1)) (by kernel_rfl) (HS.out _ (Below.refl _ _).drew) (fun hH => ?_)
              clear hH
              have HB0 := Lib.hid (Below.refl wT.heap.size wT).drew
              generalize wT.drew = V0 at HB0 ⊢
              try simp only [List.setIfInBounds_toArray, List.set_cons_zero, List.set_cons_succ]
              refine Till.tL 0 [1, 13] 128 (.pointer (some ⟨w.heap.size + 1 + 1 + 1, 9, none⟩)) (HS.out _ HB0.out) ?_
              try simp only [Act.put, List.setIfInBounds_toArray, List.set_cons_zero, List.set_cons_succ]
              refine Till.tL 1 [13] 129 (vV) (HS.out _ HB0.out) ?_
              try simp only [Act.put, List.setIfInBounds_toArray, List.set_cons_zero, List.set_cons_succ]
              refine Till.tL 2 [8, 11, 12, 13] 130 (.int .i64 (1 + (m : Int))) (HS.out _ HB0.out) ?_
              try simp only [Act.put, List.setIfInBounds_toArray, List.set_cons_zero, List.set_cons_succ]
              refine Till.tL 3 [4, 6, 7, 8, 11, 12, 13] 131 (.pointer (some ⟨w.heap.size, 3, none⟩)) (HS.out _ HB0.out) ?_
              try simp only [Act.put, List.setIfInBounds_toArray, List.set_cons_zero, List.set_cons_succ]
              refine Till.tL 4 [6, 7, 8, 11, 12, 13] 132 (.slice (some ⟨bl, ol, none⟩) vn vc) (HS.out _ HB0.out) ?_
              try simp only [Act.put, List.setIfInBounds_toArray, List.set_cons_zero, List.set_cons_succ]
              refine Till.tL 5 [6, 7, 8, 11, 12, 13] 133 (.int .i64 (j : Int)) (HS.out _ HB0.out) ?_
              try simp only [Act.put, List.setIfInBounds_toArray, List.set_cons_zero, List.set_cons_succ]
              refine Till.tL 6 [7, 8, 11, 12, 13] 134 (.pointer (some ⟨bl, ol + j, none⟩)) (HS.out _ HB0.out) ?_
              try simp only [Act.put, List.setIfInBounds_toArray, List.set_cons_zero, List.set_cons_succ]
              refine Till.tL 7 [8, 11, 12, 13] 135 (.slice LA l.length LC) (HS.out _ HB0.out) ?_
              try simp only [Act.put, List.setIfInBounds_toArray, List.set_cons_zero, List.set_cons_succ]
              refine Till.tL 9 [11, 12, 13] 137 (.int .i64 (jm : Int)) (HS.out _ HB0.out) ?_
              try simp only [Act.put, List.setIfInBounds_toArray, List.set_cons_zero, List.set_cons_succ]
              refine Till.tL 10 [11, 12, 13] 138 (.agg #[.string (dimN j), .int .i64 (100 + (j : Int)), .int .i64 (-1), .int .i64 1]) (HS.out _ HB0.out) ?_
              try simp only [Act.put, List.setIfInBounds_toArray, List.set_cons_zero, List.set_cons_succ]
              refine Till.one (i := 8) (by kernel_rfl) rfl (fun K hK => ?_)
              go_simp
              refine (HD.out V0 (HT.out.keep HB0.out).low).mono ?_
              rintro e V2 ⟨v5, rfl, hol, hbd⟩
              obtain ⟨PA, PC, rfl, _⟩ := own_row hol
              have HB2 := Lib.hid (below_on HB0.out hbd)
              have OL := Lib.hid (own_down hol HB0.out.size)
              refine hK.out _ _ (fun _ => HS.out _ HB2.out) ?_
              clear hK K hol hbd
              try simp only [List.setIfInBounds_toArray, List.set_cons_zero, List.set_cons_succ]
              have F1 := Lib.hid (FS.lit HT.out HB2.out OL.out)
              refine Till.one (i := 11) (by kernel_rfl) rfl (fun K hK => ?_)
              go_simp
              refine hK.out _ _ (fun _ => HS.out _ HB2.out) ?_
              clear hK K
              try simp only [List.setIfInBounds_toArray, List.set_cons_zero, List.set_cons_succ]
              refine Till.one (i := 12) (by kernel_rfl) rfl (fun K hK => ?_)
              go_simp
              have kx := (Below.refl V2.heap.size V2).alloc (Nat.le_refl _) (.cells #[.slice PA (decN (1 + m) l).length PC, .int .i64 (jm : Int), .string (dimN j), .int .i64 (100 + (j : Int)), .int .i64 (-1), .int .i64 1] 92)
              have CN := Cells.new V2 #[.slice PA (decN (1 + m) l).length PC, .int .i64 (jm : Int), .string (dimN j), .int .i64 (100 + (j : Int)), .int .i64 (-1), .int .i64 1] 92
              obtain ⟨V8, hV⟩ : ∃ u, V2.alloc (.cells #[.slice PA (decN (1 + m) l).length PC, .int .i64 (jm : Int), .string (dimN j), .int .i64 (100 + (j : Int)), .int .i64 (-1), .int .i64 1] 92) = u := ⟨_, rfl⟩
              rw [hV] at kx CN ⊢
              have HB8 := Lib.hid (below_on HB2.out kx)
              have F2 := Lib.hid (F1.out.keep kx)
              refine hK.out _ _ (fun _ => HS.out _ HB8.out) ?_
              clear hK K hV kx
              try simp only [List.setIfInBounds_toArray, List.set_cons_zero, List.set_cons_succ]
              have OV := F2.out.rV
              rw [jl] at OV
              obtain ⟨v', V9, hrun, hown', hgrow, _⟩ := run_append_own (P := Try.prog) V8 (w.heap.size + 1 + 1 + 1 + 1) 38 38 92 iv (.agg #[.slice none 0 0, .int .i64 0, .string ByteArray.empty, .int .i64 0, .int .i64 0, .int .i64 0]) 6 72 Try.underlying38 hiv hiv0 hiv1 hiv2 rfl (by decide) vV j (vflat vq) OV ⟨V2.heap.size, 0, none⟩ 1 1 ([.slice PA (decN (1 + m) l).length PC, .int .i64 (jm : Int), .string (dimN j), .int .i64 (100 + (j : Int)), .int .i64 (-1), .int .i64 1]) rfl (fun k u hu => by rw [Addr.add_lit, Nat.zero_add]; exact (CN.at_ k).trans hu) (fun u hu => by
                  simp at hu
                  rcases hu with rfl | rfl | rfl | rfl | rfl | rfl <;> rfl) (by unfold maxLen; omega) (by omega) F2.out.siz
              obtain ⟨NA, NC, rfl, _⟩ := own_row hown'
              refine Till.one (i := 13) (by kernel_rfl) rfl (fun K hK => ?_)
              refine step_append_run rfl (.tmp 129) (.tmp 140) 38 rfl rfl rfl hrun ?_
              obtain ⟨⟨z2, y2⟩, FN⟩ := FS.appV F2.out hgrow (v' := .slice NA (j + 1) NC) (us := vcell ((⟨(decN (1 + m) l), jm, ⟨dimN j, 100 + j, -1, 1⟩⟩ : Ov), PA, PC)) (by rw [jl]; exact hown')
              have FN := Lib.hid FN
              refine hK.out _ _ (fun h => absurd h (by simp)) ?_
              clear hK K hown' hrun OV CN
              try simp only [Act.put, List.setIfInBounds_toArray]
              refine Till.one (i := 14) (by kernel_rfl) rfl (fun K hK => ?_)
              go_simp
              refine hK.out _ _ (fun h => absurd h (by simp)) ?_
              clear hK K
              try simp only [List.setIfInBounds_toArray, List.set_cons_zero, List.set_cons_succ]
              refine Till.one (i := 15) (by kernel_rfl) rfl (fun K hK => ?_)
              go_simp
              refine hK.out _ _ (fun h => absurd h (by simp)) ?_
              clear hK K
              try simp only [List.setIfInBounds_toArray, List.set_cons_zero, List.set_cons_succ]
              refine Till.done (by kernel_rfl) ?_ _
              clear z2 y2 hgrow
              go_wp2_with fail
              go_roundw
              case rel =>
                refine ⟨j + 1, .slice NA (j + 1) NC, vq ++ [((⟨(decN (1 + m) l), jm, ⟨dimN j, 100 + j, -1, 1⟩⟩ : Ov), PA, PC)], by go_num, by omega, ?_, ?_⟩
                · rw [List.map_append, hq, famV, lv, take_map_succ _ _ _ (by omega), List.getD_eq_getElem?_getD, hl, hjm.out]
                  rfl
                · rw [List.map_append, ← List.append_assoc, vflat_app, List.length_append]
                  exact FN.out
              case measure => simp [intOf]; omega
            · have hjm : j = min vn 4 := by omega
              have hvq : vq.map (·.1) = famV (1 + m) kv := by
                rw [hq, famV, lv]
                exact take_map_full _ _ _ (by omega)
              by_cases h1 : j < vn
              · have i1 : (j : Int) < (vn : Int) := by omega
                have i2 : ¬ ((j : Int) < 4) := by omega
                go_wp2_with fail
                go_meet
                exact ⟨vV, vq, hvq, HF.out⟩
              · have i1 : ¬ ((j : Int) < (vn : Int)) := by omega
                go_wp2_with fail
                go_meet
                exact ⟨vV, vq, hvq, HF.out⟩
        case rest =>
          obtain ⟨vV, vq, hvq, hF⟩ := hcut
          clear HF
          have HF := Lib.hid hF
          clear hF
          have hF := HF.out
          obtain ⟨OA, oc, rA, rC, gA, gC, vA, vC, rfl, rfl, rfl, rfl, hOK⟩ := fam_ok (I := I) (J := J) (ic := ic) hF.rO hF.rR hF.rG hF.rV hF.lits (by omega) hqr hgq hvq (fun q hq => List.mem_append_left _ (List.mem_append_left _ (List.mem_map_of_mem (f := fun q : Rq => (q.1.2, q.2.1, q.2.2)) hq))) (fun q hq => List.mem_append_left _ (List.mem_append_right _ (List.mem_map_of_mem (f := fun q : Gq => (q.1.2, q.2.1, q.2.2)) hq))) (fun q hq => List.mem_append_right _ (List.mem_map_of_mem (f := fun q : Vq => (q.1.all, q.2.1, q.2.2)) hq)) (hD.keep hF.low)
          clear hOK
          have G0 := grown_cells (w.heap.size + 1 + 1) [.string { data := #[98, 97, 115, 101] }, .slice none 0 0, .slice I 3 ic, .slice J 2 2, .slice none 0 0, .slice none 0 0, .slice OA (1 + m) oc, .slice rA (famR (1 + m) kr).length rC, .slice gA (famG (1 + m) kg).length gC, .slice vA (famV (1 + m) kv).length vC] 0 wc
          have RF := row_setCells (w.heap.size + 1 + 1) 40 [.string { data := #[98, 97, 115, 101] }, .slice none 0 0, .slice I 3 ic, .slice J 2 2, .slice none 0 0, .slice none 0 0, .slice OA (1 + m) oc, .slice rA (famR (1 + m) kr).length rC, .slice gA (famG (1 + m) kg).length gC, .slice vA (famV (1 + m) kv).length vC] 0 wc _ hF.res
          obtain ⟨WF, hWF⟩ : ∃ u, wc.setCells (w.heap.size + 1 + 1) 0 [.string { data := #[98, 97, 115, 101] }, .slice none 0 0, .slice I 3 ic, .slice J 2 2, .slice none 0 0, .slice none 0 0, .slice OA (1 + m) oc, .slice rA (famR (1 + m) kr).length rC, .slice gA (famG (1 + m) kg).length gC, .slice vA (famV (1 + m) kv).length vC] = u := ⟨_, rfl⟩
          rw [hWF] at RF G0
          have hDF : DimL WF J plainD := hD.keep (hF.low.grown G0 hF.low.size (fun k e => by injection e with e; omega))
          have hLF : Below w.heap.size w WF := hF.low.grown G0 hF.low.size (fun k e => by injection e with e; omega)
          obtain ⟨OA', oc', rA', rC', gA', gC', vA', vC', E1, E2, E3, E4, hOK⟩ := fam_ok (I := I) (J := J) (ic := ic) (own_grown hF.rO G0 (own_apart hF.rO (by omega))) (own_grown hF.rR G0 (own_apart hF.rR (by omega))) (own_grown hF.rG G0 (own_apart hF.rG (by omega))) (own_grown hF.rV G0 (own_apart hF.rV (by omega))) (fun q hq => own_grown (hF.lits q hq) G0 (own_apart (hF.lits q hq) (by omega))) (by omega) hqr hgq hvq (fun q hq => List.mem_append_left _ (List.mem_append_left _ (List.mem_map_of_mem (f := fun q : Rq => (q.1.2, q.2.1, q.2.2)) hq))) (fun q hq => List.mem_append_left _ (List.mem_append_right _ (List.mem_map_of_mem (f := fun q : Gq => (q.1.2, q.2.1, q.2.2)) hq))) (fun q hq => List.mem_append_right _ (List.mem_map_of_mem (f := fun q : Vq => (q.1.all, q.2.1, q.2.2)) hq)) hDF
          injection E1 with E1 _ E1'
          injection E2 with E2 _ E2'
          injection E3 with E3 _ E3'
          injection E4 with E4 _ E4'
          subst E1 E1' E2 E2' E3 E3' E4 E4'
          have hOwn : FamOwn WF w.heap.size OA oc rA rC (famO (1 + m)) (famR (1 + m) kr) := by
            have nO : (famO (1 + m)).length = 1 + m := by unfold famO; simp
            have nR : qr.length = (famR (1 + m) kr).length := by rw [← hqr, List.length_map]
            refine ⟨?_, qr, hqr, ?_, fun q hq => ?_⟩
            · have := own_down (own_grown hF.rO G0 (own_apart hF.rO (by omega))) (show w.heap.size ≤ w.heap.size + 1 + 1 + 1 + 1 by omega)
              rwa [nO] at this ⊢
            · have := own_down (own_grown hF.rR G0 (own_apart hF.rR (by omega))) (show w.heap.size ≤ w.heap.size + 1 + 1 + 1 + 1 by omega)
              rwa [nR] at this
            · have hm := hF.lits _ (List.mem_append_left _ (List.mem_append_left _ (List.mem_map_of_mem (f := fun q : Rq => (q.1.2, q.2.1, q.2.2)) hq)))
              exact own_down (own_grown hm G0 (own_apart hm (by omega))) (show w.heap.size ≤ w.heap.size + 1 + 1 + 1 + 1 by omega)
          have hMem : FamMem WF w.heap.size (famF I ic J OA rA gA vA (1 + m) oc (famR (1 + m) kr).length rC (famG (1 + m) kg).length gC (famV (1 + m) kv).length vC) (famO (1 + m)) (famR (1 + m) kr) (famG (1 + m) kg) (famV (1 + m) kv) := by
            have nO : (famO (1 + m)).length = 1 + m := by unfold famO; simp
            have nR : qr.length = (famR (1 + m) kr).length := by rw [← hqr, List.length_map]
            have nG : gq.length = (famG (1 + m) kg).length := by rw [← hgq, List.length_map]
            have nV : vq.length = (famV (1 + m) kv).length := by rw [← hvq, List.length_map]
            refine ⟨qr, gq, vq, hqr, hgq, hvq, ?_, ?_, ?_, ?_, fun q hq => ?_, fun q hq => ?_, fun q hq => ?_⟩
            · have := own_down (own_grown hF.rO G0 (own_apart hF.rO (by omega))) (show w.heap.size ≤ w.heap.size + 1 + 1 + 1 + 1 by omega)
              rwa [nO] at this ⊢
            · have := own_down (own_grown hF.rR G0 (own_apart hF.rR (by omega))) (show w.heap.size ≤ w.heap.size + 1 + 1 + 1 + 1 by omega)
              rwa [nR] at this
            · have := own_down (own_grown hF.rG G0 (own_apart hF.rG (by omega))) (show w.heap.size ≤ w.heap.size + 1 + 1 + 1 + 1 by omega)
              rwa [nG] at this
            · have := own_down (own_grown hF.rV G0 (own_apart hF.rV (by omega))) (show w.heap.size ≤ w.heap.size + 1 + 1 + 1 + 1 by omega)
              rwa [nV] at this
            · have hm := hF.lits _ (List.mem_append_left _ (List.mem_append_left _ (List.mem_map_of_mem (f := fun q : Rq => (q.1.2, q.2.1, q.2.2)) hq)))
              exact own_down (own_grown hm G0 (own_apart hm (by omega))) (show w.heap.size ≤ w.heap.size + 1 + 1 + 1 + 1 by omega)
            · have hm := hF.lits _ (List.mem_append_left _ (List.mem_append_right _ (List.mem_map_of_mem (f := fun q : Gq => (q.1.2, q.2.1, q.2.2)) hq)))
              exact own_down (own_grown hm G0 (own_apart hm (by omega))) (show w.heap.size ≤ w.heap.size + 1 + 1 + 1 + 1 by omega)
            · have hm := hF.lits _ (List.mem_append_right _ (List.mem_map_of_mem (f := fun q : Vq => (q.1.all, q.2.1, q.2.2)) hq))
              exact own_down (own_grown hm G0 (own_apart hm (by omega))) (show w.heap.size ≤ w.heap.size + 1 + 1 + 1 + 1 by omega)
          have HOK := Lib.hid (And.intro hOK (And.intro hOwn (And.intro hMem hLF)))
          have RF : WF.heap[w.heap.size + 1 + 1]? = some (.cells [.string { data := #[98, 97, 115, 101] }, .slice none 0 0, .slice I 3 ic, .slice J 2 2, .slice none 0 0, .slice none 0 0, .slice OA (1 + m) oc, .slice rA (famR (1 + m) kr).length rC, .slice gA (famG (1 + m) kg).length gC, .slice vA (famV (1 + m) kv).length vC].toArray 40 (0, 0)) := by
            have e : putL Z10 0 [.string { data := #[98, 97, 115, 101] }, .slice none 0 0, .slice I 3 ic, .slice J 2 2, .slice none 0 0, .slice none 0 0, .slice OA (1 + m) oc, .slice rA (famR (1 + m) kr).length rC, .slice gA (famG (1 + m) kg).length gC, .slice vA (famV (1 + m) kv).length vC] = [.string { data := #[98, 97, 115, 101] }, .slice none 0 0, .slice I 3 ic, .slice J 2 2, .slice none 0 0, .slice none 0 0, .slice OA (1 + m) oc, .slice rA (famR (1 + m) kr).length rC, .slice gA (famG (1 + m) kg).length gC, .slice vA (famV (1 + m) kv).length vC].toArray := by simp [putL, Z10]
            rwa [e] at RF
          have RF := Lib.hid RF
          have q0 := hF.fam.at_ 0
          have q1 := hF.fam.at_ 1
          have q2 := hF.fam.at_ 2
          have q3 := hF.fam.at_ 3
          have q4 := hF.fam.at_ 4
          have q5 := hF.fam.at_ 5
          have q6 := hF.fam.at_ 6
          have q7 := hF.fam.at_ 7
          have q8 := hF.fam.at_ 8
          have q9 := hF.fam.at_ 9
          simp only [famC, prodC, List.cons_append, List.nil_append, List.getElem?_cons_zero, List.getElem?_cons_succ] at q0 q1 q2 q3 q4 q5 q6 q7 q8 q9
          have CR := Cells.of_row hF.res
          have p0 := CR.at_ 0
          have p1 := CR.at_ 1
          have p2 := CR.at_ 2
          have p3 := CR.at_ 3
          have p4 := CR.at_ 4
          have p5 := CR.at_ 5
          have p6 := CR.at_ 6
          have p7 := CR.at_ 7
          have p8 := CR.at_ 8
          have p9 := CR.at_ 9
          simp only [Z10, List.getElem?_cons_zero, List.getElem?_cons_succ] at p0 p1 p2 p3 p4 p5 p6 p7 p8 p9
          have f0 := CR.fz 0
          have f1 := CR.fz 1
          have f2 := CR.fz 2
          have f3 := CR.fz 3
          have f4 := CR.fz 4
          have f5 := CR.fz 5
          have f6 := CR.fz 6
          have f7 := CR.fz 7
          have f8 := CR.fz 8
          have f9 := CR.fz 9
          simp only [World.setCells, Nat.reduceAdd] at hWF
          have HWF := Lib.hid hWF
          clear hWF hF CR HF G0 hDF hLF hOK
          go_wp2_with fail
          rw [HWF.out]
          refine bodyPost_ret (v := .agg [.string { data := #[98, 97, 115, 101] }, .slice none 0 0, .slice I 3 ic, .slice J 2 2, .slice none 0 0, .slice none 0 0, .slice OA (1 + m) oc, .slice rA (famR (1 + m) kr).length rC, .slice gA (famG (1 + m) kg).length gC, .slice vA (famV (1 + m) kv).length vC].toArray) (results_cell_row rfl _ _ (w.heap.size + 1 + 1) 40 _ (0, 0) _ rfl RF.out Try.underlying40 rfl (by rw [info_fam]; rfl)) rfl ?_
          exact ⟨OA, oc, rA, rC, gA, gC, vA, vC, rfl, HOK.out.1, HOK.out.2⟩
end Go.Proofs.Ytmfmpkihmadjmaa
