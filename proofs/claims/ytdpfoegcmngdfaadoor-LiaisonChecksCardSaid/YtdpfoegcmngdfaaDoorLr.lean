/- Liaisons: the reference's pieces, and lists of lists. -/
import Derived.Test.YtdpfoegcmngdfaaDoorLq
namespace Go.Proofs.YtdpfoegcmngdfaaDoor
open Go.RowKit
def lenOf : Value → Nat
  | .slice _ n _ => n
  | _ => 0
theorem bits_fewer {L : Nat → Nat} {s : Nat} (h0 : s ≠ 0) (hs : s < 18446744073709551616) : (bitsOf (diff s (pieceM L s))).length < (bitsOf s).length := by
  rw [← bits_diff_filter]
  refine List.length_filter_lt_length_iff_exists.2 ⟨Lib.ctz 64 s, mem_bitsOf.2 (ctz_in h0 hs), ?_⟩
  rw [bits_con (ctz_in h0 hs).1, piece_low h0]; simp
theorem lists_ext {a b : List (List Nat)} {k : Nat} (hl : a.length = b.length) (hk : a.length ≤ k) (h : ∀ j, j < k → j < a.length → a[j]? = b[j]?) : a = b := by
  apply List.ext_getElem?
  intro j
  by_cases hj : j < a.length
  · exact h j (by omega) hj
  · rw [List.getElem?_eq_none (by omega), List.getElem?_eq_none (by omega)]
theorem zs_beq (a b : List Nat) : (zs a == zs b) = (a == b) := by
  rw [Bool.eq_iff_iff, beq_iff_eq, beq_iff_eq]
  constructor
  · intro h
    have h2 := congrArg (List.map Int.toNat) h
    unfold zs at h2
    rw [List.map_map, List.map_map] at h2
    have e : (Int.toNat ∘ Int.ofNat) = id := by funext x; simp
    rwa [e, List.map_id, List.map_id] at h2
  · intro h; rw [h]
set_option maxRecDepth 100000 in
set_option maxHeartbeats 8000000 in
theorem sameLists_any (B1 B2 : Nat) (A B : Option Addr) (c d : Nat) (xs ys : List (List Nat)) (w : World) (hx : LL B1 w A xs) (hy : LL B2 w B ys) (hxl : xs.length ≤ 1000000) (_hyl : ys.length ≤ 1000000) (hxs : ∀ l ∈ xs, l.length ≤ 1000000) (hys : ∀ l ∈ ys, l.length ≤ 1000000) :
    Calls Tryd.prog 23 #[.slice A xs.length c, .slice B ys.length d] w fun e w' => e = .returned (.bool (xs == ys)) ∧ Below w.heap.size w w' := by
  by_cases hl : xs.length = ys.length
  · have HX := Lib.hid hx
    have HY := Lib.hid hy
    have HXS := Lib.hid hxs
    have HYS := Lib.hid hys
    have HE := Lib.hid (fun k => @lists_ext xs ys k hl)
    obtain ⟨m, hm⟩ : ∃ m, xs.length = m := ⟨_, rfl⟩
    have hm2 : ys.length = m := by omega
    have HNa := Lib.hid hm
    have HNb := Lib.hid hm2
    rw [hm] at hxl
    rw [hm, hm2]
    have t0 : (((m : Nat) : Int) != ((m : Nat) : Int)) = false := by simp
    clear hx hy hl hm hm2 hxs hys _hyl
    go_enter Tryd.func23, Tryd.ntmps23
    go_wp2_with fail
    go_loopw [5] (fun i wr => ∃ k : Nat, k ≤ m ∧ i = .int .i64 (k : Nat) ∧ (∀ j, j < k → j < xs.length → xs[j]? = ys[j]?) ∧ Below w.heap.size w wr) (fun i _ => m - (intOf i).toNat)
    case atStart => exact ⟨0, Nat.zero_le _, rfl, fun j hj => absurd hj (Nat.not_lt_zero _), Below.refl _ _⟩
    case round =>
      obtain ⟨k, hk, rfl, hz, hbb⟩ := hrel
      obtain ⟨wm, rfl⟩ : ∃ wm : World, wm = wr := ⟨_, rfl⟩
      have Hz := Lib.hid hz
      have B4 := Lib.hid hbb
      clear hz hbb
      by_cases hlt : k < m
      · obtain ⟨x, ab, ao, Ak, ck, hxk, rfl, _, hal', hac, hna⟩ := (HX.out.keep B4.out).at_ (k := k) (by have := HNa.out; omega)
        obtain ⟨y, bb, bo, Bk, dk, hyk, rfl, _, hbl', hbc, hnb⟩ := (HY.out.keep B4.out).at_ (k := k) (by have := HNb.out; omega)
        have hxm := HXS.out x (List.mem_of_getElem? hxk)
        have hym := HYS.out y (List.mem_of_getElem? hyk)
        have HS := Lib.hid (fun w' (hb : Below wm.heap.size wm w') => (⟨(hb.cell (p := ⟨ab, ao + k, none⟩) hal').trans hac, (hb.cell (p := ⟨bb, bo + k, none⟩) hbl').trans hbc⟩ : w'.cell? ⟨ab, ao + k, none⟩ = some (.slice Ak x.length ck) ∧ w'.cell? ⟨bb, bo + k, none⟩ = some (.slice Bk y.length dk)))
        have HT := fun w' (hb : Below wm.heap.size wm w') => same_any Ak Bk ck dk (zs x) (zs y) w' (hna.keep hb).il (hnb.keep hb).il (by rw [zs_len]; exact hxm) (by rw [zs_len]; exact hym)
        simp only [zs_len, zs_beq] at HT
        have Hx := Lib.hid hxk
        have Hy := Lib.hid hyk
        obtain ⟨q, hq⟩ : ∃ q, (x == y) = q := ⟨_, rfl⟩
        rw [hq] at HT
        have HT := Lib.hid HT
        have Hq := Lib.hid hq
        clear hxk hyk hxm hym hq hna hnb hal' hbl' hac hbc
        have i1 : (k : Int) < (m : Int) := by omega
        cases q
        · have Hf := Lib.hid (show (xs == ys) = false by
            rw [beq_eq_false_iff_ne]
            intro e
            have h1 := Hx.out
            rw [e, Hy.out] at h1
            injection h1 with h1
            have h2 := Hq.out
            rw [beq_eq_false_iff_ne] at h2
            exact h2 h1.symm)
          go_upto_region 6 with fail
          refine Till.begin 9 (fun w' => w'.cell? ⟨ab, ao + k, none⟩ = some (.slice Ak x.length ck) ∧ w'.cell? ⟨bb, bo + k, none⟩ = some (.slice Bk y.length dk)) (by kernel_rfl) (HS.out _ (Below.refl _ _).drew) (fun hH => ?_)
          clear hH
          have HB := Lib.hid (Below.refl wm.heap.size wm).drew
          generalize wm.drew = v0 at HB ⊢
          try simp only [List.setIfInBounds_toArray, List.set_cons_zero, List.set_cons_succ]
          refine Till.tL 0 [2, 3, 8, 9] 17 (.slice (some ⟨ab, ao, none⟩) m c) (HS.out _ HB.out) ?_
          try simp only [Act.put, List.setIfInBounds_toArray, List.set_cons_zero, List.set_cons_succ]
          refine Till.tL 1 [2, 3, 8, 9] 18 (.int .i64 (k : Nat)) (HS.out _ HB.out) ?_
          try simp only [Act.put, List.setIfInBounds_toArray, List.set_cons_zero, List.set_cons_succ]
          refine Till.tL 2 [3, 8, 9] 19 (.pointer (some ⟨ab, ao + k, none⟩)) (HS.out _ HB.out) ?_
          try simp only [Act.put, List.setIfInBounds_toArray, List.set_cons_zero, List.set_cons_succ]
          refine Till.tk 3 8 20 (.slice Ak x.length ck) (HS.out _ HB.out) ?_
          try simp only [Act.put, List.setIfInBounds_toArray, List.set_cons_zero, List.set_cons_succ]
          refine Till.tL 4 [6, 7, 8, 9] 21 (.slice (some ⟨bb, bo, none⟩) m d) (HS.out _ HB.out) ?_
          try simp only [Act.put, List.setIfInBounds_toArray, List.set_cons_zero, List.set_cons_succ]
          refine Till.one (i := 5) (by kernel_rfl) rfl (fun K hK => ?_)
          go_simp
          refine hK.out _ _ (fun _ => HS.out _ HB.out) ?_
          clear hK K
          try simp only [List.setIfInBounds_toArray, List.set_cons_zero, List.set_cons_succ]
          refine Till.one (i := 6) (by kernel_rfl) rfl (fun K hK => ?_)
          go_simp
          refine hK.out _ _ (fun _ => HS.out _ HB.out) ?_
          clear hK K
          try simp only [List.setIfInBounds_toArray, List.set_cons_zero, List.set_cons_succ]
          refine Till.tk 7 8 24 (.slice Bk y.length dk) (HS.out _ HB.out) ?_
          try simp only [Act.put, List.setIfInBounds_toArray, List.set_cons_zero, List.set_cons_succ]
          refine Till.one (i := 8) (by kernel_rfl) rfl (fun K hK => ?_)
          go_simp
          refine (HT.out _ HB.out).mono ?_
          rintro e v1 ⟨rfl, g⟩
          replace HB := Lib.hid (below_on HB.out g)
          clear g
          go_wp2_with fail
          refine hK.out _ _ (fun _ => HS.out _ HB.out) ?_
          clear hK K
          try simp only [List.setIfInBounds_toArray, List.set_cons_zero, List.set_cons_succ]
          refine Till.one (i := 9) (by kernel_rfl) rfl (fun K hK => ?_)
          go_simp
          refine hK.out _ _ (fun h => absurd h (by simp)) ?_
          clear hK K
          try simp only [List.setIfInBounds_toArray, List.set_cons_zero, List.set_cons_succ]
          refine Till.done (by kernel_rfl) ?_ _
          have B7 := Lib.hid (B4.out.trans (HB.out.mono B4.out.size))
          go_wp2_with fail
          go_ret
          exact ⟨ret_bool Hf.out.symm, B7.out⟩
        · have Hn := Lib.hid (fun j (hj : j < k + 1) (hja : j < xs.length) => by
            rcases Nat.lt_or_ge j k with h1 | h1
            · exact Hz.out j h1 hja
            · obtain rfl : j = k := by omega
              rw [Hx.out, Hy.out, beq_iff_eq.1 Hq.out])
          go_upto_region 6 with fail
          refine Till.begin 9 (fun w' => w'.cell? ⟨ab, ao + k, none⟩ = some (.slice Ak x.length ck) ∧ w'.cell? ⟨bb, bo + k, none⟩ = some (.slice Bk y.length dk)) (by kernel_rfl) (HS.out _ (Below.refl _ _).drew) (fun hH => ?_)
          clear hH
          have HB := Lib.hid (Below.refl wm.heap.size wm).drew
          generalize wm.drew = v0 at HB ⊢
          try simp only [List.setIfInBounds_toArray, List.set_cons_zero, List.set_cons_succ]
          refine Till.tL 0 [2, 3, 8, 9] 17 (.slice (some ⟨ab, ao, none⟩) m c) (HS.out _ HB.out) ?_
          try simp only [Act.put, List.setIfInBounds_toArray, List.set_cons_zero, List.set_cons_succ]
          refine Till.tL 1 [2, 3, 8, 9] 18 (.int .i64 (k : Nat)) (HS.out _ HB.out) ?_
          try simp only [Act.put, List.setIfInBounds_toArray, List.set_cons_zero, List.set_cons_succ]
          refine Till.tL 2 [3, 8, 9] 19 (.pointer (some ⟨ab, ao + k, none⟩)) (HS.out _ HB.out) ?_
          try simp only [Act.put, List.setIfInBounds_toArray, List.set_cons_zero, List.set_cons_succ]
          refine Till.tk 3 8 20 (.slice Ak x.length ck) (HS.out _ HB.out) ?_
          try simp only [Act.put, List.setIfInBounds_toArray, List.set_cons_zero, List.set_cons_succ]
          refine Till.tL 4 [6, 7, 8, 9] 21 (.slice (some ⟨bb, bo, none⟩) m d) (HS.out _ HB.out) ?_
          try simp only [Act.put, List.setIfInBounds_toArray, List.set_cons_zero, List.set_cons_succ]
          refine Till.one (i := 5) (by kernel_rfl) rfl (fun K hK => ?_)
          go_simp
          refine hK.out _ _ (fun _ => HS.out _ HB.out) ?_
          clear hK K
          try simp only [List.setIfInBounds_toArray, List.set_cons_zero, List.set_cons_succ]
          refine Till.one (i := 6) (by kernel_rfl) rfl (fun K hK => ?_)
          go_simp
          refine hK.out _ _ (fun _ => HS.out _ HB.out) ?_
          clear hK K
          try simp only [List.setIfInBounds_toArray, List.set_cons_zero, List.set_cons_succ]
          refine Till.tk 7 8 24 (.slice Bk y.length dk) (HS.out _ HB.out) ?_
          try simp only [Act.put, List.setIfInBounds_toArray, List.set_cons_zero, List.set_cons_succ]
          refine Till.one (i := 8) (by kernel_rfl) rfl (fun K hK => ?_)
          go_simp
          refine (HT.out _ HB.out).mono ?_
          rintro e v1 ⟨rfl, g⟩
          replace HB := Lib.hid (below_on HB.out g)
          clear g
          go_wp2_with fail
          refine hK.out _ _ (fun _ => HS.out _ HB.out) ?_
          clear hK K
          try simp only [List.setIfInBounds_toArray, List.set_cons_zero, List.set_cons_succ]
          refine Till.one (i := 9) (by kernel_rfl) rfl (fun K hK => ?_)
          go_simp
          refine hK.out _ _ (fun h => absurd h (by simp)) ?_
          clear hK K
          try simp only [List.setIfInBounds_toArray, List.set_cons_zero, List.set_cons_succ]
          refine Till.done (by kernel_rfl) ?_ _
          have B7 := Lib.hid (B4.out.trans (HB.out.mono B4.out.size))
          go_wp2_with fail
          go_roundw
          case rel => exact ⟨k + 1, by omega, by go_num, Hn.out, B7.out⟩
          case measure => simp [intOf]; omega
      · have Hf := Lib.hid (show (xs == ys) = true by
          rw [beq_iff_eq]
          exact HE.out k (by have := HNa.out; omega) Hz.out)
        go_wp2_with fail
        go_ret
        exact ⟨ret_bool Hf.out.symm, B4.out⟩
  · have t0 : (((xs.length : Nat) : Int) != ((ys.length : Nat) : Int)) = true := by simp; omega
    have Hf := Lib.hid (show (xs == ys) = false by rw [beq_eq_false_iff_ne]; exact fun e => hl (by rw [e]))
    obtain ⟨n, hn⟩ : ∃ n, xs.length = n := ⟨_, rfl⟩
    obtain ⟨m, hm⟩ : ∃ m, ys.length = m := ⟨_, rfl⟩
    rw [hn, hm] at t0
    rw [hn, hm]
    clear hl hn hm hxl _hyl hx hy hxs hys
    go_enter Tryd.func23, Tryd.ntmps23
    go_wp2_with fail
    go_ret
    exact ⟨ret_bool Hf.out.symm, Below.refl _ _⟩
set_option maxRecDepth 100000 in
set_option maxHeartbeats 8000000 in
theorem rconnected_any (n : Int) (A : Option Addr) (m c : Nat) (es : List (Nat × Nat)) (B : Option Addr) (d s : Nat) (w : World) (h : EL w A m (cast es)) (hm : m ≤ 4096) (hl : IL w B (zs (bitsOf s))) (h0 : s ≠ 0) (hs : s < 18446744073709551616) :
    Calls Tryd.prog 22 #[gV n A m c, .slice B (bitsOf s).length d] w fun e w' => e = .returned (.bool (conM (adj es) s)) ∧ Below w.heap.size w w' := by
  have kv := (Below.refl w.heap.size w).alloc (Nat.le_refl _) (.cells #[.int .i64 n, .slice A m c] 24)
  have P0 := Cells.new w #[.int .i64 n, .slice A m c] 24
  have HP := Lib.hid (rpiece_any n A m c es B d s _ (h.keep kv) hm (hl.keep kv) h0 hs)
  have g0 := P0.at_ 0
  have g1 := P0.at_ 1
  simp only [List.getElem?_cons_zero, List.getElem?_cons_succ] at g0 g1
  have hp1 : 0 < (bitsOf s).length := by rw [bits_low h0 hs]; simp
  have t0 : decide ((0 : Int) < (((bitsOf s).length : Nat) : Int)) = true := decide_eq_true (by omega)
  have HC := con_len (L := adj es) hs
  obtain ⟨a, ha⟩ : ∃ a, (bitsOf (pieceM (adj es) s)).length = a := ⟨_, rfl⟩
  obtain ⟨b, hb⟩ : ∃ a, (bitsOf s).length = a := ⟨_, rfl⟩
  have Ha := Lib.hid ha
  rw [hb] at HP HC hp1 t0 ⊢
  have Hf := Lib.hid (show ((((bitsOf (pieceM (adj es) s)).length : Nat) : Int) == ((b : Nat) : Int)) = conM (adj es) s by rw [← HC, Bool.eq_iff_iff, beq_iff_eq, beq_iff_eq]; omega)
  have Hf2 := Lib.hid HC
  have t1 : decide (0 < b) = true := decide_eq_true hp1
  have K0 := Lib.hid kv
  clear h hl h0 hs kv P0 HC ha hb
  go_enter Tryd.func22, Tryd.ntmps22
  go_wp2_with fail
  refine HP.out.mono ?_
  rintro e w2 ⟨v, rfl, hown, hb2⟩
  obtain ⟨A2, c2, rfl, _⟩ := RowL.of_own hown
  have B2 := Lib.hid (below_on K0.out hb2)
  clear hb2 hown
  go_wp2_with fail
  go_ret
  exact ⟨by first | exact ret_bool Hf.out | exact ret_bool Hf2.out, B2.out⟩
set_option maxRecDepth 100000 in
set_option maxHeartbeats 8000000 in
theorem rpieces_any (n : Int) (A : Option Addr) (m c : Nat) (es : List (Nat × Nat)) (B : Option Addr) (d s : Nat) (w : World) (h : EL w A m (cast es)) (hm : m ≤ 4096) (hl : RowL w B (bitsOf s)) (hs : s < 4096) :
    Calls Tryd.prog 24 #[gV n A m c, .slice B (bitsOf s).length d] w fun e w' => ∃ v, e = .returned v ∧ OutN w.heap.size w' v ((pcsM (adj es) s).map bitsOf) ∧ Below w.heap.size w w' := by
  obtain ⟨j0, hj, jz0, jz1, jz2⟩ := info_parts info_ints
  have kv := (Below.refl w.heap.size w).alloc (Nat.le_refl _) (.cells #[.int .i64 n, .slice A m c] 24)
  have P0 := Lib.hid (Cells.new w #[.int .i64 n, .slice A m c] 24)
  have HE := Lib.hid (fun w' (hb : Below w.heap.size w w') => h.keep hb)
  have H1 := Lib.hid (hl.keep kv)
  have hz1 := Lib.hid (show w.heap.size + 1 ≤ (w.alloc (.cells #[.int .i64 n, .slice A m c] 24)).heap.size by simp)
  have K0 := Lib.hid kv
  clear h hl kv
  go_enter Tryd.func24, Tryd.ntmps24
  go_wp2_with fail
  go_loopw [1, 5] (fun a b wr => ∃ (x : Nat) (ps : List Nat) (B : Option Addr) (d : Nat), a = .slice B (bitsOf x).length d ∧ x < 4096 ∧ ps ++ pcsM (adj es) x = pcsM (adj es) s ∧ ps.length + x ≤ 4096 ∧ RowL wr B (bitsOf x) ∧ OutN (w.heap.size + 1) wr b (ps.map bitsOf) ∧ Cells wr w.heap.size [.int .i64 n, .slice A m c] ∧ w.heap.size + 1 ≤ wr.heap.size ∧ Below w.heap.size w wr) (fun a _ _ => lenOf a)
  case atStart => exact ⟨s, [], B, d, rfl, hs, rfl, by simp; omega, H1.out, OutN.nil _ _, P0.out, hz1.out, K0.out⟩
  case round =>
    obtain ⟨x, ps, B, d, rfl, hx, hps, hlen, hil, ho, hc, hz, hb⟩ := hrel
    have Hps := Lib.hid hps
    have I1 := Lib.hid hil
    have O1 := Lib.hid ho
    have P1 := Lib.hid hc
    have Z1 := Lib.hid hz
    have Hb := Lib.hid hb
    have Hlen := Lib.hid hlen
    clear hps hil ho hc hz hb hlen
    by_cases h0 : x = 0
    · have hl0 : (bitsOf x).length = 0 := by rw [h0, bitsOf_zero]; rfl
      have t0 : decide ((0 : Int) < (((bitsOf x).length : Nat) : Int)) = false := decide_eq_false (by omega)
      have t1 : decide (0 < (bitsOf x).length) = false := decide_eq_false (by omega)
      have Hf := Lib.hid (show ps = pcsM (adj es) s by have := Hps.out; rwa [h0, pcs_zero, List.append_nil] at this)
      obtain ⟨b, hb⟩ : ∃ a, (bitsOf x).length = a := ⟨_, rfl⟩
      rw [hb] at t0 t1 ⊢
      clear h0 hl0 hb
      go_wp2_with fail
      go_ret
      exact ⟨_, rfl, by rw [← Hf.out]; exact O1.out.down (by omega), Hb.out⟩
    · have hx64 : x < 18446744073709551616 := by omega
      have hp1 : 0 < (bitsOf x).length := by rw [bits_low h0 hx64]; simp
      have t0 : decide ((0 : Int) < (((bitsOf x).length : Nat) : Int)) = true := decide_eq_true (by omega)
      have t1 : decide (0 < (bitsOf x).length) = true := decide_eq_true (by omega)
      have h64 := bitsOf_len x
      have HS := Lib.hid (pcs_step (L := adj es) h0 hx64)
      have HD := Lib.hid (diff_less (L := adj es) h0 hx64)
      have HP := Lib.hid (rpiece_any n A m c es B d x wr (HE.out _ Hb.out) hm I1.out.nl.il h0 hx64)
      have HF := Lib.hid (bits_diff_filter x (pieceM (adj es) x))
      have HLT := Lib.hid (bits_fewer (L := adj es) h0 hx64)
      have h64p := bitsOf_len (pieceM (adj es) x)
      have g0 := P1.out.at_ 0
      have g1 := P1.out.at_ 1
      simp only [List.getElem?_cons_zero, List.getElem?_cons_succ] at g0 g1
      have HWO := Lib.hid (fun w' B Ap cp (hx' : IL w' B (zs (bitsOf x))) (hp : IL w' Ap (zs (bitsOf (pieceM (adj es) x)))) => without_any B Ap d cp (bitsOf x) (bitsOf (pieceM (adj es) x)) w' hx' hp (by omega) (by omega))
      obtain ⟨bx, hbx⟩ : ∃ a, (bitsOf x).length = a := ⟨_, rfl⟩
      rw [hbx] at t0 t1 HP HWO HLT hp1 h64 ⊢
      clear h0 hbx
      go_wp2_with fail
      refine HP.out.mono ?_
      rintro e w3 ⟨v, rfl, hown, hb3⟩
      obtain ⟨A3, c3, rfl, hl3⟩ := RowL.of_own hown
      have B3 := Lib.hid (below_on Hb.out hb3)
      have O3 := Lib.hid (O1.out.keep hb3)
      have P3 := Lib.hid (P1.out.keep hb3)
      have Z3C := Lib.hid (Nat.le_trans Z1.out hb3.size)
      have L3 := Lib.hid hl3
      have I3 := Lib.hid (I1.out.keep hb3)
      clear hb3 hown hl3 g0 g1
      have Hlen := Lib.hid (show (ps.map bitsOf).length + x ≤ 4096 by rw [List.length_map]; exact Hlen.out)
      obtain ⟨vs1, ho1, hr1⟩ := O3.out
      have O1 := Lib.hid ho1
      have R1 := Lib.hid hr1
      have hbc1 : w.heap.size + 1 ≤ w3.heap.size := Z3C.out
      clear ho1 hr1
      go_wp2_with (at_builtin; refine wpList_append_own _ rfl _ _ 32 rfl (w.heap.size + 1) 25 j0 (.slice none 0 0) 1 24 Tryd.underlying32 hj jz0 jz1 jz2 rfl (by decide) _ _ _ rfl (O1.out.alloc _) ⟨w3.heap.size, 0, none⟩ 1 1 [.slice A3 (bitsOf (pieceM (adj es) x)).length c3] rfl rfl ?a1 ?b1 ?c1 ?d1 ?e1 ?_)
      case a1 =>
        intro k u hu
        match k, hu with
        | 0, hu => simp at hu; subst hu; simp [Addr.add]
      case b1 => intro u hu; simp at hu; subst hu; rfl
      case c1 => unfold maxLen; have := Hlen.out; omega
      case d1 => have := Hlen.out; omega
      case e1 => simp; omega
      intro v1 w4 hown1 hgrow1 _
      have O4 := Lib.hid (OutN.push O1.out R1.out L3.out (by first | exact hown1 | (rw [List.length_map]; exact hown1)) hgrow1)
      have LW1 := Lib.hid (fun (Ax : Option Addr) (lx : List Nat) (hx : RowL w3 Ax lx) => hx.grown O1.out hgrow1)
      have g1 := Lib.hid (fun (B : Nat) (hB : B ≤ w.heap.size + 1) => ((Below.refl B w3).alloc (Nat.le_trans hB hbc1) (.cells #[.slice A3 (bitsOf (pieceM (adj es) x)).length c3] 25)).grown hgrow1 (by simp; omega) (fun k hk => Nat.le_trans hB (own_ge O1.out hk)))
      clear hown1 hgrow1
      have B4 := Lib.hid (B3.out.trans (g1.out w.heap.size (by omega)))
      have P4 := Lib.hid (P3.out.keepB (g1.out (w.heap.size + 1) (Nat.le_refl _)) (Nat.lt_succ_self _))
      have Z4 := Lib.hid (Nat.le_trans Z3C.out (g1.out (w.heap.size + 1) (Nat.le_refl _)).size)
      have I4 := Lib.hid (LW1.out B (bitsOf x) I3.out)
      have L4 := Lib.hid (LW1.out A3 (bitsOf (pieceM (adj es) x)) L3.out)
      go_wp2_with fail
      refine (HWO.out w4 B A3 c3 I4.out.nl.il L4.out.nl.il).mono ?_
      rintro e w5 ⟨v5, rfl, hown5, hb5⟩
      rw [show woM (bitsOf x) (bitsOf (pieceM (adj es) x)) = bitsOf (diff x (pieceM (adj es) x)) from HF.out] at hown5
      obtain ⟨A5, c5, rfl, hl5⟩ := RowL.of_own hown5
      have L5 := Lib.hid hl5
      have O5 := Lib.hid (O4.out.keep hb5)
      have P5 := Lib.hid (P4.out.keep hb5)
      have Z5 := Lib.hid (Nat.le_trans Z4.out hb5.size)
      have B5 := Lib.hid (below_on B4.out hb5)
      clear hb5 hown5 hl5
      go_wp2_with fail
      go_roundw
      case rel =>
        refine ⟨diff x (pieceM (adj es) x), ps ++ [pieceM (adj es) x], A5, c5, rfl, diff_lt hx, ?_, ?_, L5.out, ?_, P5.out, Z5.out, B5.out⟩
        · rw [List.append_assoc, ← Hps.out, HS.out]; rfl
        · have := Hlen.out; rw [List.length_map] at this; have := HD.out; rw [List.length_append]; simp; omega
        · rw [List.map_append]; exact O5.out
      case measure => simp [lenOf]; exact HLT.out
end Go.Proofs.YtdpfoegcmngdfaaDoor
