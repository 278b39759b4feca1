/- The reference's plain product. -/
import Derived.Test.YtmfmpkihmadjmaaVx
namespace Go.Proofs.Ytmfmpkihmadjmaa
open Go.RowKit Go.Shelf
section
variable {P : Program}
theorem step_append_run {ops : Array Oper} {o : Oper} {a : Act} {w : World} {K : Act → World → Prop} {Q : Exit → Act → World → Prop} {E : Prop} (hgd : o.guard = none) (s x : Operand) (t : TypeId)
    (ho : o.op = .call { callee := .builtin .append, args := #[s, x], argTypes := #[t, t] }) {v u v' : Value} {w' : World} (hs : a.eval s = v) (hx : a.eval x = u) (hr : (Builtin.append_ #[t, t] o.type #[v, u]).run P w = .ok v' w') (hK : K (a.put o.dst v') w') : if Region.wanted o (yielded ops a.tmps) = true then Oper.wp P o a w K Q else E := by
  have hw : Region.wanted o (yielded ops a.tmps) = true := by simp [Region.wanted, hgd]
  rw [if_pos hw]
  unfold Oper.wp execOp
  simp only [ho, resolve, invoke, builtin, Sem.run_bind, Sem.run_pure, Result.andThen_ok, List.map_toArray, List.map_cons, List.map_nil, hs, hx, hr]
  exact hK
end
def putL (old : Array Value) (o : Nat) : List Value → Array Value
  | [] => old
  | v :: vs => putL (old.setIfInBounds o v) (o + 1) vs
theorem row_setCells (g : Nat) (T : TypeId) : ∀ (vs : List Value) (o : Nat) (w : World) (old : Array Value), w.heap[g]? = some (.cells old T (0, 0)) → (w.setCells g o vs).heap[g]? = some (.cells (putL old o vs) T (0, 0))
  | [], _, _, _, h => h
  | v :: vs, o, w, old, h => by
    rw [World.setCells]
    exact row_setCells g T vs (o + 1) _ _ (heap_setCell_same w g o old T v h)
theorem row_keep {w w' : World} {g : Nat} {o : Obj} (h : w.heap[g]? = some o) (hb : Below w.heap.size w w') : w'.heap[g]? = some o := by
  have hk : g < w.heap.size := by
    rcases Nat.lt_or_ge g w.heap.size with h1 | h1
    · exact h1
    · rw [Array.getElem?_eq_none h1] at h; cases h
  exact (hb.block g hk).trans h
/-- The instances of the plain product. -/
def insC (nm : ByteArray) : List Value := [.string nm, .string { data := #[112] }, .int .i64 0, .int .i64 0, .int .i64 0, .int .i64 0, .string { data := #[] }, .string { data := #[] }, .string { data := #[] }]
def insV : Nat → List Value
  | 0 => []
  | j + 1 => insV j ++ insC (optN j)
theorem blk_grown {B0 p sz n : Nat} {T : TypeId} {x y : World} {v : Value} {xs : List Value} (ho : x.ownsRow B0 T sz v n xs) (hp : p < B0) (hs : B0 ≤ x.heap.size) (hg : x.grownBy y v.ownBlock) : y.heap[p]? = x.heap[p]? :=
  hg.block p (Nat.lt_of_lt_of_le hp hs) (fun e => by have := own_ge ho e.symm; omega)
theorem cells_grown {B0 p sz n : Nat} {T : TypeId} {x y : World} {v : Value} {xs vs : List Value} (ho : x.ownsRow B0 T sz v n xs) (hp : p < B0) (hs : B0 ≤ x.heap.size) (hc : Cells x p vs) (hg : x.grownBy y v.ownBlock) : Cells y p vs := by
  have e := blk_grown ho hp hs hg
  exact ⟨fun i => (World.cell?_of_block (a := ⟨p, i, none⟩) e).trans (hc.at_ i), fun i => (World.frozen?_of_block (a := ⟨p, i, none⟩) e).trans (hc.fz i), Nat.lt_of_lt_of_le hc.lt hg.size⟩
def prodC (v J : Value) : List Value := [.string { data := #[98, 97, 115, 101] }, .slice none 0 0, v, J, .slice none 0 0, .slice none 0 0]
theorem put_prod (v J : Value) : putL #[.string { data := #[] }, .slice none 0 0, .slice none 0 0, .slice none 0 0, .slice none 0 0, .slice none 0 0] 0 (prodC v J) = (prodC v J).toArray := by simp [putL, prodC]
def plainD : List Dm := [⟨⟨#[100]⟩, 10, -1, 1⟩, ⟨⟨#[101]⟩, 20, -1, 1⟩]
theorem info_ins : (Try.prog.info? 105).map (fun i => (i.zero, i.size, i.bytes)) = some (some (.agg #[.string ByteArray.empty, .string ByteArray.empty, .int .i64 0, .int .i64 0, .int .i64 0, .int .i64 0, .string ByteArray.empty, .string ByteArray.empty, .string ByteArray.empty]), 9, 112) := by kernel_rfl
theorem info_prod : (Try.prog.info? 35).map (·.size) = some 6 := by kernel_rfl
set_option maxRecDepth 100000 in
set_option maxHeartbeats 8000000 in
theorem plain_any (w : World) :
    Calls Try.prog 13 #[] w fun e w' => ∃ I ic J, e = .returned (.agg #[.string { data := #[98, 97, 115, 101] }, .slice none 0 0, .slice I 3 ic, .slice J 2 2, .slice none 0 0, .slice none 0 0]) ∧ w'.ownsRow w.heap.size 105 9 (.slice I 3 ic) 3 (insV 3) ∧ DimL w' J plainD ∧ (∀ b o t, J = some ⟨b, o, t⟩ → w.heap.size ≤ b ∧ b < w'.heap.size) ∧ Below w.heap.size w w' := by
  go_enter Try.func13, Try.ntmps13
  go_wp2_with fail
  have kA := (Below.refl w.heap.size w).alloc (Nat.le_refl _) (.cells #[.string { data := #[] }, .slice none 0 0, .slice none 0 0, .slice none 0 0, .slice none 0 0, .slice none 0 0] 35)
  have RA := heap_new w (.cells #[.string { data := #[] }, .slice none 0 0, .slice none 0 0, .slice none 0 0, .slice none 0 0, .slice none 0 0] 35)
  have sA : (w.alloc (.cells #[.string { data := #[] }, .slice none 0 0, .slice none 0 0, .slice none 0 0, .slice none 0 0, .slice none 0 0] 35)).heap.size = w.heap.size + 1 := by simp
  obtain ⟨wA, hwA⟩ : ∃ u, w.alloc (.cells #[.string { data := #[] }, .slice none 0 0, .slice none 0 0, .slice none 0 0, .slice none 0 0, .slice none 0 0] 35) = u := ⟨_, rfl⟩
  rw [hwA] at kA RA sA ⊢
  have kB := kA.alloc (by omega) (.cells #[.string { data := #[100] }, .int .i64 10, .int .i64 (-1), .int .i64 1, .string { data := #[101] }, .int .i64 20, .int .i64 (-1), .int .i64 1] 90)
  have CB := Cells.new wA #[.string { data := #[100] }, .int .i64 10, .int .i64 (-1), .int .i64 1, .string { data := #[101] }, .int .i64 20, .int .i64 (-1), .int .i64 1] 90
  have RB := heap_old (o := .cells #[.string { data := #[100] }, .int .i64 10, .int .i64 (-1), .int .i64 1, .string { data := #[101] }, .int .i64 20, .int .i64 (-1), .int .i64 1] 90) RA
  have sB : (wA.alloc (.cells #[.string { data := #[100] }, .int .i64 10, .int .i64 (-1), .int .i64 1, .string { data := #[101] }, .int .i64 20, .int .i64 (-1), .int .i64 1] 90)).heap.size = w.heap.size + 1 + 1 := by simp [sA]
  rw [sA] at CB
  obtain ⟨wB, hwB⟩ : ∃ u, wA.alloc (.cells #[.string { data := #[100] }, .int .i64 10, .int .i64 (-1), .int .i64 1, .string { data := #[101] }, .int .i64 20, .int .i64 (-1), .int .i64 1] 90) = u := ⟨_, rfl⟩
  rw [hwB] at kB CB RB sB ⊢
  have kC := kB.alloc (by omega) (.cells #[.string { data := #[98, 97, 115, 101] }, .slice none 0 0, .slice none 0 0, .slice (some ⟨w.heap.size + 1, 0, none⟩) 2 2, .slice none 0 0, .slice none 0 0] 35)
  have CC := Cells.new wB #[.string { data := #[98, 97, 115, 101] }, .slice none 0 0, .slice none 0 0, .slice (some ⟨w.heap.size + 1, 0, none⟩) 2 2, .slice none 0 0, .slice none 0 0] 35
  have kx := (Below.refl wB.heap.size wB).alloc (Nat.le_refl _) (.cells #[.string { data := #[98, 97, 115, 101] }, .slice none 0 0, .slice none 0 0, .slice (some ⟨w.heap.size + 1, 0, none⟩) 2 2, .slice none 0 0, .slice none 0 0] 35)
  have RC := heap_old (o := .cells #[.string { data := #[98, 97, 115, 101] }, .slice none 0 0, .slice none 0 0, .slice (some ⟨w.heap.size + 1, 0, none⟩) 2 2, .slice none 0 0, .slice none 0 0] 35) RB
  have DC := CB.keep kx
  have sC : (wB.alloc (.cells #[.string { data := #[98, 97, 115, 101] }, .slice none 0 0, .slice none 0 0, .slice (some ⟨w.heap.size + 1, 0, none⟩) 2 2, .slice none 0 0, .slice none 0 0] 35)).heap.size = w.heap.size + 1 + 1 + 1 := by simp [sB]
  rw [sB] at CC
  obtain ⟨wC, hwC⟩ : ∃ u, wB.alloc (.cells #[.string { data := #[98, 97, 115, 101] }, .slice none 0 0, .slice none 0 0, .slice (some ⟨w.heap.size + 1, 0, none⟩) 2 2, .slice none 0 0, .slice none 0 0] 35) = u := ⟨_, rfl⟩
  rw [hwC] at kC CC RC DC sC ⊢
  have hs0 : w.heap.size < w.heap.size + 1 + 1 := by omega
  obtain ⟨s2, hs2⟩ : ∃ s, w.heap.size + 1 + 1 = s := ⟨_, rfl⟩
  have HCC := Lib.hid (show Cells wC (w.heap.size + 1 + 1) (prodC (.slice none 0 0) (.slice (some ⟨w.heap.size + 1, 0, none⟩) 2 2)) from CC)
  have HDC := Lib.hid DC
  have HRC := Lib.hid RC
  have HKC := Lib.hid kC
  have HSC := Lib.hid sC
  obtain ⟨i0, hi, hz0, hz1, hz2⟩ := info_parts info_ins
  clear kA kB kC CB CC RA RB RC DC kx sA sB sC hs2 s2 hwA hwB hwC
  go_loopw [2] (fun i wr => ∃ j v, i = .int .i64 (j : Nat) ∧ j ≤ 3 ∧ Cells wr (w.heap.size + 1 + 1) (prodC v (.slice (some ⟨w.heap.size + 1, 0, none⟩) 2 2)) ∧ wr.ownsRow wC.heap.size 105 9 v j (insV j) ∧ Cells wr (w.heap.size + 1) #[.string { data := #[100] }, .int .i64 10, .int .i64 (-1), .int .i64 1, .string { data := #[101] }, .int .i64 20, .int .i64 (-1), .int .i64 1].toList ∧ wr.heap[w.heap.size]? = some (.cells #[.string { data := #[] }, .slice none 0 0, .slice none 0 0, .slice none 0 0, .slice none 0 0, .slice none 0 0] 35 (0, 0)) ∧ Below w.heap.size w wr ∧ wC.heap.size ≤ wr.heap.size) (fun i _ => 3 - (intOf i).toNat)
  case atStart => exact ⟨0, _, rfl, Nat.zero_le _, HCC.out, World.ownsRow_nil _ _ _ _, HDC.out, HRC.out, HKC.out, Nat.le_refl _⟩
  case round =>
    obtain ⟨j, v, rfl, hj, hC, hown, hD, hR, hb, hsz⟩ := hrel
    have HC := Lib.hid hC
    have Ow := Lib.hid hown
    have HD := Lib.hid hD
    have HR := Lib.hid hR
    have B1 := Lib.hid hb
    have Hsz := Lib.hid hsz
    by_cases hlt : j < 3
    · have i1 : (j : Int) < 3 := by omega
      have HO := Lib.hid (fun w' => option_any j w' (by omega))
      clear hC hown hD hR hb hsz
      go_upto_region 5 with fail
      have HS := Lib.hid (fun w' (hb : Below wr.heap.size wr w') => (show w'.cell? ⟨w.heap.size + 1 + 1, 2, none⟩ = some v from (HC.out.keep hb).at_ 2))
      refine Till.begin 10 (fun w' => w'.cell? ⟨w.heap.size + 1 + 1, 2, none⟩ = some v) (by kernel_rfl) (HS.out _ (Below.refl _ _).drew) (fun hH => ?_)
      clear hH
      have HB0 := Lib.hid (Below.refl wr.heap.size wr).drew
      generalize wr.drew = V0 at HB0 ⊢
      try simp only [List.setIfInBounds_toArray, List.set_cons_zero, List.set_cons_succ]
      refine Till.tL 0 [1, 2, 7, 10] 11 (.pointer (some ⟨w.heap.size + 1 + 1, 1, none⟩)) (HS.out _ HB0.out) ?_
      try simp only [Act.put, List.setIfInBounds_toArray, List.set_cons_zero, List.set_cons_succ]
      refine Till.tL 1 [2, 7, 10] 12 (.pointer (some ⟨w.heap.size + 1 + 1, 2, none⟩)) (HS.out _ HB0.out) ?_
      try simp only [Act.put, List.setIfInBounds_toArray, List.set_cons_zero, List.set_cons_succ]
      refine Till.tL 2 [7, 10] 13 v (HS.out _ HB0.out) ?_
      try simp only [Act.put, List.setIfInBounds_toArray, List.set_cons_zero, List.set_cons_succ]
      refine Till.one (i := 3) (by kernel_rfl) rfl (fun K hK => ?_)
      go_simp
      refine hK.out _ _ (fun _ => HS.out _ HB0.out) ?_
      clear hK K
      try simp only [List.setIfInBounds_toArray, List.set_cons_zero, List.set_cons_succ]
      refine Till.one (i := 4) (by kernel_rfl) rfl (fun K hK => ?_)
      go_simp
      refine (HO.out V0).mono ?_
      rintro e V1 ⟨rfl, hb1⟩
      have HB1 := Lib.hid (below_on HB0.out hb1)
      refine hK.out _ _ (fun _ => HS.out _ HB1.out) ?_
      clear hK K hb1
      try simp only [List.setIfInBounds_toArray, List.set_cons_zero, List.set_cons_succ]
      refine Till.one (i := 5) (by kernel_rfl) rfl (fun K hK => ?_)
      go_simp
      refine hK.out _ _ (fun _ => HS.out _ HB1.out) ?_
      clear hK K
      try simp only [List.setIfInBounds_toArray, List.set_cons_zero, List.set_cons_succ]
      refine Till.one (i := 6) (by kernel_rfl) rfl (fun K hK => ?_)
      go_simp
      have kx := (Below.refl V1.heap.size V1).alloc (Nat.le_refl _) (.cells (insC (optN j)).toArray 105)
      have CN := Cells.new V1 (insC (optN j)).toArray 105
      obtain ⟨V2, hV⟩ : ∃ u, V1.alloc (.cells (insC (optN j)).toArray 105) = u := ⟨_, rfl⟩
      rw [hV] at kx CN
      have HB2 := Lib.hid (below_on HB1.out kx)
      have hV' : V1.alloc (.cells #[.string (optN j), .string { data := #[112] }, .int .i64 0, .int .i64 0, .int .i64 0, .int .i64 0, .string { data := #[] }, .string { data := #[] }, .string { data := #[] }] 105) = V2 := hV
      rw [hV']
      refine hK.out _ _ (fun _ => HS.out _ HB2.out) ?_
      clear hK K hV hV' kx
      try simp only [List.setIfInBounds_toArray, List.set_cons_zero, List.set_cons_succ]
      have OV := own_keep Ow.out HB2.out
      obtain ⟨v', V3, hrun, hown', hgrow, _⟩ := run_append_own (P := Try.prog) V2 wC.heap.size 28 28 105 i0 (.agg #[.string ByteArray.empty, .string ByteArray.empty, .int .i64 0, .int .i64 0, .int .i64 0, .int .i64 0, .string ByteArray.empty, .string ByteArray.empty, .string ByteArray.empty]) 9 112 Try.underlying28 hi hz0 hz1 hz2 rfl (by decide) v j (insV j) OV ⟨V1.heap.size, 0, none⟩ 1 1 (insC (optN j)) rfl (fun k u hu => by rw [Addr.add_lit, Nat.zero_add]; exact (CN.at_ k).trans hu) (fun u hu => by
        simp [insC] at hu
        rcases hu with rfl | rfl | rfl | rfl <;> rfl) (by unfold maxLen; omega) (by omega) (Nat.le_trans Hsz.out HB2.out.size)
      obtain ⟨NA, NC, rfl, _⟩ := own_row hown'
      refine Till.one (i := 7) (by kernel_rfl) rfl (fun K hK => ?_)
      refine step_append_run rfl (.tmp 13) (.tmp 17) 28 rfl rfl rfl hrun ?_
      have hgV : wr.grownBy V3 v.ownBlock := ⟨hgrow.os.trans HB2.out.os, hgrow.tape.trans HB2.out.tape, hgrow.output.trans HB2.out.output, Nat.le_trans HB2.out.size hgrow.size, fun k hk hne => (hgrow.block k (Nat.lt_of_lt_of_le hk HB2.out.size) hne).trans (HB2.out.block k hk)⟩
      have hp2 := HCC.out.lt
      have C3 := Lib.hid (cells_grown Ow.out hp2 Hsz.out HC.out hgV)
      have D3 := Lib.hid (cells_grown Ow.out (Nat.lt_of_succ_lt hp2) Hsz.out HD.out hgV)
      have R3 := Lib.hid ((blk_grown Ow.out (by omega) Hsz.out hgV).trans HR.out)
      have HB3 := Lib.hid (B1.out.grown hgV B1.out.size (fun k hk => by have := own_ge Ow.out hk; have := HKC.out.size; omega))
      have Hs3 := Lib.hid (Nat.le_trans Hsz.out hgV.size)
      have Ow3 := Lib.hid hown'
      have z2 := C3.out.at_ 2
      have y2 := C3.out.fz 2
      simp only [prodC, List.getElem?_cons_zero, List.getElem?_cons_succ] at z2
      refine hK.out _ _ (fun _ => z2) ?_
      clear hK K hown' hgrow hgV hrun OV CN
      try simp only [Act.put, List.setIfInBounds_toArray]
      refine Till.one (i := 8) (by kernel_rfl) rfl (fun K hK => ?_)
      go_simp
      refine hK.out _ _ (fun _ => z2) ?_
      clear hK K
      try simp only [List.setIfInBounds_toArray, List.set_cons_zero, List.set_cons_succ]
      refine Till.one (i := 9) (by kernel_rfl) rfl (fun K hK => ?_)
      go_simp
      refine hK.out _ _ (fun _ => z2) ?_
      clear hK K
      try simp only [List.setIfInBounds_toArray, List.set_cons_zero, List.set_cons_succ]
      refine Till.one (i := 10) (by kernel_rfl) rfl (fun K hK => ?_)
      go_simp
      refine hK.out _ _ (fun h => absurd h (by simp)) ?_
      clear hK K
      try simp only [List.setIfInBounds_toArray, List.set_cons_zero, List.set_cons_succ]
      refine Till.done (by kernel_rfl) ?_ _
      have C4 := Lib.hid (C3.out.set 2 (.slice NA (j + 1) NC) (by show 2 < 6; decide))
      have G4 := grown_cells (w.heap.size + 1 + 1) [.slice NA (j + 1) NC] 2 V3
      have D4 := Lib.hid (D3.out.grown G4 (by omega))
      have R4 := Lib.hid ((G4.block w.heap.size (by have := HKC.out.size; have := Hs3.out; omega) (fun e => by injection e with e; omega)).trans R3.out)
      have O4 := Lib.hid (own_grown Ow3.out G4 (fun e => by have := own_ge Ow3.out e; omega))
      have B4 := Lib.hid (HB3.out.setCell (p := ⟨w.heap.size + 1 + 1, 2, none⟩) (by show w.heap.size ≤ w.heap.size + 1 + 1; omega) (.slice NA (j + 1) NC))
      have Hs4 := Lib.hid (Nat.le_trans Hs3.out G4.size)
      clear G4 z2 y2
      go_wp2_with fail
      go_roundw
      case rel => exact ⟨j + 1, .slice NA (j + 1) NC, by go_num, by omega, C4.out, O4.out, D4.out, R4.out, B4.out, Hs4.out⟩
      case measure => simp [intOf]; omega
    · have hj3 : j = 3 := by omega
      subst hj3
      obtain ⟨I, ic, rfl, _⟩ := own_row hown
      have q0 := hC.at_ 0
      have q1 := hC.at_ 1
      have q2 := hC.at_ 2
      have q3 := hC.at_ 3
      have q4 := hC.at_ 4
      have q5 := hC.at_ 5
      simp only [prodC, List.getElem?_cons_zero, List.getElem?_cons_succ] at q0 q1 q2 q3 q4 q5
      have CR := Cells.of_row hR
      have p0 := CR.at_ 0
      have p1 := CR.at_ 1
      have p2 := CR.at_ 2
      have p3 := CR.at_ 3
      have p4 := CR.at_ 4
      have p5 := CR.at_ 5
      simp only [List.getElem?_cons_zero, List.getElem?_cons_succ] at p0 p1 p2 p3 p4 p5
      have f0 := CR.fz 0
      have f1 := CR.fz 1
      have f2 := CR.fz 2
      have f3 := CR.fz 3
      have f4 := CR.fz 4
      have f5 := CR.fz 5
      have RF := row_setCells w.heap.size 35 (prodC (.slice I 3 ic) (.slice (some ⟨w.heap.size + 1, 0, none⟩) 2 2)) 0 wr _ hR
      rw [put_prod] at RF
      have GF := grown_cells w.heap.size (prodC (.slice I 3 ic) (.slice (some ⟨w.heap.size + 1, 0, none⟩) 2 2)) 0 wr
      obtain ⟨WF, hWF⟩ : ∃ u, wr.setCells w.heap.size 0 (prodC (.slice I 3 ic) (.slice (some ⟨w.heap.size + 1, 0, none⟩) 2 2)) = u := ⟨_, rfl⟩
      rw [hWF] at RF GF
      have RF := Lib.hid RF
      have OF := Lib.hid (own_grown (own_down hown HKC.out.size) GF (fun e => by have := own_ge hown e; have := HCC.out.lt; omega))
      have DF := Lib.hid (hD.grown GF (by omega))
      have BF := Lib.hid (hb.grown GF hb.size (fun k e => by injection e with e; subst e; exact Nat.le_refl _))
      simp only [prodC, World.setCells, Nat.reduceAdd] at hWF
      have HWF := Lib.hid hWF
      clear hWF
      clear hC hown hD hR hb hsz CR GF
      go_wp2_with fail
      rw [HWF.out]
      refine bodyPost_ret (v := .agg (prodC (.slice I 3 ic) (.slice (some ⟨w.heap.size + 1, 0, none⟩) 2 2)).toArray) (results_cell_row rfl _ _ w.heap.size 35 _ (0, 0) _ rfl RF.out Try.underlying35 rfl (by rw [info_prod]; rfl)) rfl ?_
      refine ⟨I, ic, some ⟨w.heap.size + 1, 0, none⟩, rfl, OF.out, ?_, fun b o t e => by injection e with e; injection e with e; have := DF.out.lt; omega, BF.out⟩
      intro k d hk
      refine ⟨w.heap.size + 1, 0, rfl, DF.out.lt, ?_⟩
      match k, hk with
      | 0, hk => injection hk with hk; subst hk; exact ⟨DF.out.at_ 0, DF.out.at_ 1, DF.out.at_ 2, DF.out.at_ 3⟩
      | 1, hk => injection hk with hk; subst hk; exact ⟨DF.out.at_ 4, DF.out.at_ 5, DF.out.at_ 6, DF.out.at_ 7⟩
end Go.Proofs.Ytmfmpkihmadjmaa
