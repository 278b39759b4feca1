/- Liaisons: Subsets refused; Joints. -/
import Derived.Test.YtdpfoegcmngdfaaDoorLn
namespace Go.Proofs.YtdpfoegcmngdfaaDoor
open Go.RowKit Go.Shelf
section
attribute [local go_sem] Oper.semAt_some
set_option maxRecDepth 100000 in
set_option maxHeartbeats 8000000 in
theorem subsetsF_bad (gn ge sv : Value) (m E : Int) (w : World) (hR : ∀ w', Below w.heap.size w w' → Calls Tryd.prog 47 #[.agg #[gn, ge], sv] w' fun e w1 => e = .returned (.tuple #[lvV fun _ => 0, .int .u64 0, .int .i64 E]) ∧ Below w'.heap.size w' w1) (hE : E ≠ 0) (_hgn : gn.oneCell' = true) (_hge : ge.oneCell' = true) :
    Calls Tryd.prog 17 #[.agg #[gn, ge], sv, .int .i64 m] w fun e w' => e = .returned (.tuple #[.slice none 0 0, .int .i64 E]) ∧ Below w.heap.size w w' := by
  have kv := (Below.refl w.heap.size w).alloc (Nat.le_refl _) (.cells #[gn, ge] 24)
  have P0 := Cells.new w #[gn, ge] 24
  have HR := Lib.hid (hR _ kv)
  have g0 := P0.at_ 0
  have g1 := P0.at_ 1
  simp only [List.getElem?_cons_zero, List.getElem?_cons_succ] at g0 g1
  have kv := Lib.hid kv
  have t0 : (E != 0) = true := by simpa using hE
  clear hR hE P0
  refine (callsIn_wide (n := 6)).1 ?_
  refine callsIn_of_wp_marks Tryd.func17 rfl trivial ?_ rfl
  simp only [Tryd.ntmps17, List.size_toArray, List.length_cons, List.length_nil, Nat.reduceAdd, Nat.reduceSub, Array.replicate_succ, Array.replicate_zero, List.push_toArray, List.append_toArray, List.nil_append, List.cons_append]
  gi_wp2_with (refine ⟨trivial, ?_⟩; gi_at_call 47; refine (callsIn_wide.2 HR.out).mono ?_; rintro e w1 ⟨rfl, hb1⟩; have B1 := Lib.hid (below_on kv.out hb1); clear hb1 g0 g1)
  exact ⟨.tuple #[.slice none 0 0, .int .i64 E], by simp [results, Tryd.f17, go_sem], rfl, B1.out.alloc B1.out.size _⟩
set_option maxRecDepth 100000 in
set_option maxHeartbeats 8000000 in
theorem subsetsF_range (gn ge : Value) (SA : Option Addr) (SN SC : Nat) (L : Nat → Nat) (s : Nat) (m : Int) (w : World) (hR : ∀ w', Below w.heap.size w w' → Calls Tryd.prog 47 #[.agg #[gn, ge], .slice SA SN SC] w' fun e w1 => e = .returned (.tuple #[lvV L, .int .u64 (s : Nat), .int .i64 0]) ∧ Below w'.heap.size w' w1) (_hgn : gn.oneCell' = true) (_hge : ge.oneCell' = true) (hm : m < 1 ∨ (SN : Int) < m) :
    Calls Tryd.prog 17 #[.agg #[gn, ge], .slice SA SN SC, .int .i64 m] w fun e w' => e = .returned (.tuple #[.slice none 0 0, .int .i64 2]) ∧ Below w.heap.size w w' := by
  have kv := (Below.refl w.heap.size w).alloc (Nat.le_refl _) (.cells #[gn, ge] 24)
  have P0 := Cells.new w #[gn, ge] 24
  have HR := Lib.hid (hR _ kv)
  have g0 := P0.at_ 0
  have g1 := P0.at_ 1
  simp only [List.getElem?_cons_zero, List.getElem?_cons_succ] at g0 g1
  have kv := Lib.hid kv
  clear hR P0
  by_cases h1 : m < 1
  · have t1 : decide (m < 1) = true := decide_eq_true h1
    clear hm h1
    refine (callsIn_wide (n := 6)).1 ?_
    refine callsIn_of_wp_marks Tryd.func17 rfl trivial ?_ rfl
    simp only [Tryd.ntmps17, List.size_toArray, List.length_cons, List.length_nil, Nat.reduceAdd, Nat.reduceSub, Array.replicate_succ, Array.replicate_zero, List.push_toArray, List.append_toArray, List.nil_append, List.cons_append]
    gi_wp2_with (refine ⟨trivial, ?_⟩; gi_at_call 47; refine (callsIn_wide.2 HR.out).mono ?_; rintro e w1 ⟨rfl, hb1⟩; have B1 := Lib.hid (below_on kv.out hb1); clear hb1 g0 g1)
    exact ⟨.tuple #[.slice none 0 0, .int .i64 2], by simp [results, Tryd.f17, go_sem], rfl, B1.out.alloc B1.out.size _⟩
  · have t1 : decide (m < 1) = false := decide_eq_false h1
    have t2 : decide ((SN : Int) < m) = true := decide_eq_true (hm.resolve_left h1)
    clear hm h1
    refine (callsIn_wide (n := 6)).1 ?_
    refine callsIn_of_wp_marks Tryd.func17 rfl trivial ?_ rfl
    simp only [Tryd.ntmps17, List.size_toArray, List.length_cons, List.length_nil, Nat.reduceAdd, Nat.reduceSub, Array.replicate_succ, Array.replicate_zero, List.push_toArray, List.append_toArray, List.nil_append, List.cons_append]
    gi_wp2_with (refine ⟨trivial, ?_⟩; gi_at_call 47; refine (callsIn_wide.2 HR.out).mono ?_; rintro e w1 ⟨rfl, hb1⟩; have B1 := Lib.hid (below_on kv.out hb1); clear hb1 g0 g1)
    exact ⟨.tuple #[.slice none 0 0, .int .i64 2], by simp [results, Tryd.f17, go_sem], rfl, B1.out.alloc B1.out.size _⟩
end
/-- The nodes without which the rest hangs apart. -/
def jointB (L : Nat → Nat) (s i : Nat) : Bool := diff s (sing i) != 0 && !conM L (diff s (sing i))
def joM (L : Nat → Nat) (s : Nat) (l : List Nat) : List Nat := l.filter (jointB L s)
theorem jo_up {L : Nat → Nat} {s k v : Nat} {l : List Nat} (h : l[k]? = some v) : joM L s (l.take (k + 1)) = if jointB L s v then joM L s (l.take k) ++ [v] else joM L s (l.take k) := by
  unfold joM
  rw [List.take_add_one, h, List.filter_append]
  cases e : jointB L s v <;> simp [e]
theorem jo_len (L : Nat → Nat) (s k : Nat) (l : List Nat) : (joM L s (l.take k)).length ≤ k := Nat.le_trans (List.length_filter_le _ _) (by simp; omega)
set_option maxRecDepth 100000 in
set_option maxHeartbeats 8000000 in
theorem joints_con (gn ge : Value) (SA : Option Addr) (SN SC : Nat) (L : Nat → Nat) (s : Nat) (w : World) (hR : ∀ w', Below w.heap.size w w' → Calls Tryd.prog 47 #[.agg #[gn, ge], .slice SA SN SC] w' fun e w1 => e = .returned (.tuple #[lvV L, .int .u64 (s : Nat), .int .i64 0]) ∧ Below w'.heap.size w' w1) (_hgn : gn.oneCell' = true) (_hge : ge.oneCell' = true) (hL : ∀ i, Under 64 (L i)) (hs : s < 4096) (hw : Good w) (hc : conM L s = false) :
    Calls Tryd.prog 28 #[.agg #[gn, ge], .slice SA SN SC] w fun e w' => e = .returned (.tuple #[.slice none 0 0, .int .i64 17]) ∧ Below w.heap.size w w' := by
  have kv := (Below.refl w.heap.size w).alloc (Nat.le_refl _) (.cells #[gn, ge] 24)
  have P0 := Cells.new w #[gn, ge] 24
  have HR := Lib.hid (hR _ kv)
  have g0 := P0.at_ 0
  have g1 := P0.at_ 1
  simp only [List.getElem?_cons_zero, List.getElem?_cons_succ] at g0 g1
  have kv := Lib.hid kv
  have HL := Lib.hid hL
  have HW := Lib.hid (fun w' (h : Below w.heap.size w w') => hw.below h hw.size)
  clear hR hL hw P0
  go_enter Tryd.func28, Tryd.ntmps28
  go_wp2_with fail
  refine HR.out.mono ?_
  rintro e w1 ⟨rfl, hb1⟩
  have B1 := Lib.hid (below_on kv.out hb1)
  have kk := (Below.refl w1.heap.size w1).alloc (Nat.le_refl _) (.cells (lvC L) 80)
  have B2 := Lib.hid (below_on B1.out kk)
  have C2 := Cells.new w1 (lvC L) 80
  rw [lvC_list] at C2
  have C2 := Lib.hid C2
  have HC := conn_any L s _ HL.out hs (HW.out _ B2.out)
  rw [hc] at HC
  have HC := Lib.hid HC
  clear hb1 g0 g1 kk
  go_wp2_with fail
  refine HC.out.mono ?_
  rintro e w2 ⟨rfl, hb2⟩
  have B3 := Lib.hid (below_on B2.out hb2)
  clear hb2
  go_wp2_with fail
  exact bodyPost_ret (results_tmp2 rfl _ _ _) rfl ⟨rfl, B3.out⟩
set_option maxRecDepth 100000 in
set_option maxHeartbeats 8000000 in
theorem joints_ok (gn ge : Value) (SA : Option Addr) (SC : Nat) (l : List Nat) (L : Nat → Nat) (s : Nat) (w : World) (hR : ∀ w', Below w.heap.size w w' → Calls Tryd.prog 47 #[.agg #[gn, ge], .slice SA l.length SC] w' fun e w1 => e = .returned (.tuple #[lvV L, .int .u64 (s : Nat), .int .i64 0]) ∧ Below w'.heap.size w' w1) (_hgn : gn.oneCell' = true) (_hge : ge.oneCell' = true) (hL : ∀ i, Under 64 (L i)) (hs : s < 4096) (hw : Good w) (hc : conM L s = true) (hl : IL w SA (zs l)) (hll : l.length ≤ 64) (hin : ∀ v ∈ l, v < 64) :
    Calls Tryd.prog 28 #[.agg #[gn, ge], .slice SA l.length SC] w fun e w' => ∃ v, e = .returned (.tuple #[v, .int .i64 0]) ∧ w'.ownsRow w.heap.size 3 1 v (joM L s l).length (nats (joM L s l)) ∧ Below w.heap.size w w' := by
  obtain ⟨i0, hi, hz0, hz1, hz2⟩ := info_parts info_int
  have kv := (Below.refl w.heap.size w).alloc (Nat.le_refl _) (.cells #[gn, ge] 24)
  have P0 := Cells.new w #[gn, ge] 24
  have HR := Lib.hid (hR _ kv)
  have g0 := P0.at_ 0
  have g1 := P0.at_ 1
  simp only [List.getElem?_cons_zero, List.getElem?_cons_succ] at g0 g1
  have kv := Lib.hid kv
  have HL := Lib.hid hL
  have HW := Lib.hid (fun w' (h : Below w.heap.size w w') => hw.below h hw.size)
  clear hR hL hw P0
  go_enter Tryd.func28, Tryd.ntmps28
  go_wp2_with fail
  refine HR.out.mono ?_
  rintro e w1 ⟨rfl, hb1⟩
  have B1 := Lib.hid (below_on kv.out hb1)
  have kk := (Below.refl w1.heap.size w1).alloc (Nat.le_refl _) (.cells (lvC L) 80)
  have B2 := Lib.hid (below_on B1.out kk)
  have C2 := Cells.new w1 (lvC L) 80
  rw [lvC_list] at C2
  have C2 := Lib.hid C2
  have HC := conn_any L s _ HL.out hs (HW.out _ B2.out)
  rw [hc] at HC
  have HC := Lib.hid HC
  clear hb1 g0 g1 kk
  go_wp2_with fail
  refine HC.out.mono ?_
  rintro e w2 ⟨rfl, hb2⟩
  have B3 := Lib.hid (below_on B2.out hb2)
  have HI := Lib.hid (fun w' (h : Below w.heap.size w w') => hl.keep h)
  have HIN := Lib.hid hin
  have p1 : w1.heap.size < w2.heap.size := by have := hb2.size; simp at this; omega
  have C3 := Lib.hid (C2.out.keep hb2)
  have hw2 := Lib.hid B3.out.size
  clear hb2 hl hin
  obtain ⟨p, hp⟩ : ∃ p, w1.heap.size = p := ⟨_, rfl⟩
  rw [hp] at C3 p1
  go_wp2_with fail
  try rw [hp]
  clear hp
  go_loopw [29, 9] (fun i a wr => ∃ k : Nat, k ≤ l.length ∧ i = .int .i64 (k : Nat) ∧ wr.ownsRow w2.heap.size 3 1 a (joM L s (l.take k)).length (nats (joM L s (l.take k))) ∧ Cells wr p (sets12 L) ∧ Below w2.heap.size w2 wr) (fun i _ _ => l.length - (intOf i).toNat)
  case atStart => exact ⟨0, Nat.zero_le _, rfl, World.ownsRow_nil _ _ _ _, C3.out, Below.refl _ _⟩
  case round =>
    obtain ⟨k, hk, rfl, how, hcl, hb⟩ := hrel
    have Ow0 := Lib.hid how
    have C4 := Lib.hid hcl
    have B4 := Lib.hid hb
    have BW := Lib.hid (B3.out.trans (hb.mono B3.out.size))
    clear how hcl hb
    by_cases hlt : k < l.length
    · obtain ⟨x, b, o, hx, rfl, hbl, hcell⟩ := (HI.out wr BW.out).at_ (k := k) (by rw [zs_len]; exact hlt)
      obtain ⟨v, hv, rfl⟩ := zs_at hx
      have hv64 := HIN.out v (List.mem_of_getElem? hv)
      have hsg := sing_lt hv64
      have hd12 : diff s (sing v) < 4096 := diff_lt hs
      have e1 : bits .andNot .u64 (s : Int) ((sing v : Nat) : Int) = ((diff s (sing v) : Nat) : Int) := bits_diff _ _ (by omega) hsg
      have HU := Lib.hid (jo_up (L := L) (s := s) hv)
      have Hln := Lib.hid (jo_len L s k l)
      have hj : jointB L s v = (diff s (sing v) != 0 && !conM L (diff s (sing v))) := rfl
      have HC1 := conn_any L (diff s (sing v)) wr HL.out hd12 (HW.out _ BW.out)
      obtain ⟨d, hd⟩ : ∃ d, diff s (sing v) = d := ⟨_, rfl⟩
      rw [hd] at e1 hj HC1
      obtain ⟨b1, hb1⟩ : ∃ b, conM L d = b := ⟨_, rfl⟩
      rw [hb1] at hj HC1
      have HC1 := Lib.hid HC1
      have Hj := Lib.hid hj
      have y0 := C4.out.at_ 0
      have y1 := C4.out.at_ 1
      have y2 := C4.out.at_ 2
      have y3 := C4.out.at_ 3
      have y4 := C4.out.at_ 4
      have y5 := C4.out.at_ 5
      have y6 := C4.out.at_ 6
      have y7 := C4.out.at_ 7
      have y8 := C4.out.at_ 8
      have y9 := C4.out.at_ 9
      have y10 := C4.out.at_ 10
      have y11 := C4.out.at_ 11
      simp only [sets12, List.range, List.range.loop, List.map_cons, List.map_nil, List.getElem?_cons_zero, List.getElem?_cons_succ] at y0 y1 y2 y3 y4 y5 y6 y7 y8 y9 y10 y11
      clear hx hv hd hb1 hj hd12
      by_cases h0 : d = 0
      · subst h0
        have Hn := Lib.hid (show joM L s (l.take (k + 1)) = joM L s (l.take k) by rw [HU.out, Hj.out]; simp)
        go_wp2_with fail
        refine (single_any v _ hv64).mono ?_
        rintro e w4 ⟨rfl, rfl⟩
        go_wp2_with fail
        go_roundw
        case rel => exact ⟨k + 1, by omega, by go_num, by rw [Hn.out]; exact Ow0.out, C4.out, B4.out⟩
        case measure => simp [intOf]; omega
      · have t0 := u64_neq d h0
        cases b1
        · have Hn := Lib.hid (show joM L s (l.take (k + 1)) = joM L s (l.take k) ++ [v] by rw [HU.out, Hj.out]; simp [h0])
          clear h0
          go_wp2_with fail
          refine (single_any v _ hv64).mono ?_
          rintro e w4 ⟨rfl, rfl⟩
          go_wp2_with fail
          refine HC1.out.mono ?_
          rintro e w4 ⟨rfl, hb4⟩
          have Ow := Lib.hid (own_below Ow0.out hb4)
          have C5 := Lib.hid (C4.out.keep hb4)
          have B5 := Lib.hid (below_on B4.out hb4)
          have hz4 := Lib.hid B5.out.size
          clear hb4 y0 y1 y2 y3 y4 y5 y6 y7 y8 y9 y10 y11
          go_wp2_with (at_builtin; refine wpList_append_own _ rfl _ _ 25 rfl (w2.heap.size) 3 i0 (.int .i64 0) 1 8 Tryd.underlying25 hi hz0 hz1 hz2 rfl (by decide) _ _ _ rfl (Ow.out.alloc _) ⟨w4.heap.size, 0, none⟩ 1 1 [.int .i64 (v : Nat)] rfl rfl ?a1 ?b1 ?c1 ?d1 ?e1 ?_)
          case a1 =>
            intro k u hu
            match k, hu with
            | 0, hu => simp at hu; subst hu; simp [Addr.add]
          case b1 => intro u hu; simp at hu; subst hu; rfl
          case c1 => unfold maxLen; have := Hln.out; omega
          case d1 => have := Hln.out; omega
          case e1 => simp; have := hz4.out; omega
          intro v1 w5 hown1 hgrow1 _
          have O5 := Lib.hid (own_snoc hown1)
          have g1 := Lib.hid (fun (B : Nat) (hB : B ≤ w2.heap.size) (hs : w2.heap.size ≤ w4.heap.size) => ((Below.refl B w4).alloc (Nat.le_trans hB hs) (.cells #[.int .i64 (v : Nat)] 3)).grown hgrow1 (by simp; omega) (fun k hk => Nat.le_trans hB (own_ge Ow.out hk)))
          clear hown1 hgrow1
          have B6 := Lib.hid (B5.out.trans (g1.out w2.heap.size (Nat.le_refl _) hz4.out))
          have C6 := Lib.hid (C5.out.keepB (g1.out w2.heap.size (Nat.le_refl _) hz4.out) p1)
          go_wp2_with fail
          go_roundw
          case rel => exact ⟨k + 1, by omega, by go_num, by rw [Hn.out]; exact O5.out, C6.out, B6.out⟩
          case measure => simp [intOf]; omega
        · have Hn := Lib.hid (show joM L s (l.take (k + 1)) = joM L s (l.take k) by rw [HU.out, Hj.out]; simp)
          clear h0
          go_wp2_with fail
          refine (single_any v _ hv64).mono ?_
          rintro e w4 ⟨rfl, rfl⟩
          go_wp2_with fail
          refine HC1.out.mono ?_
          rintro e w4 ⟨rfl, hb4⟩
          have Ow := Lib.hid (own_below Ow0.out hb4)
          have C5 := Lib.hid (C4.out.keep hb4)
          have B5 := Lib.hid (below_on B4.out hb4)
          clear hb4 y0 y1 y2 y3 y4 y5 y6 y7 y8 y9 y10 y11
          go_wp2_with fail
          go_roundw
          case rel => exact ⟨k + 1, by omega, by go_num, by rw [Hn.out]; exact Ow.out, C5.out, B5.out⟩
          case measure => simp [intOf]; omega
    · have hkl : k = l.length := by omega
      have Hf := Lib.hid (show l.take k = l by rw [hkl, List.take_length])
      have Of := Lib.hid (own_down' Ow0.out hw2.out)
      rw [Hf.out] at Of
      go_wp2_with fail
      exact bodyPost_ret (results_tmp2 rfl _ _ _) rfl ⟨_, rfl, Of.out, BW.out⟩
end Go.Proofs.YtdpfoegcmngdfaaDoor
