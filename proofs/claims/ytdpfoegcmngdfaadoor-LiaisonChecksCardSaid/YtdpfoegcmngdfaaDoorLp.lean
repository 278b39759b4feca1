/- Liaisons: the reference's searches. -/
import Derived.Test.YtdpfoegcmngdfaaDoorLo
namespace Go.Proofs.YtdpfoegcmngdfaaDoor
open Go.RowKit
theorem below_drewN {B n : Nat} {w w' : World} (h : Below B w w') : Below B w (w'.drewN n) := ⟨h.os, h.tape, h.output, h.size, h.block⟩
theorem zs_con (l : List Nat) (n : Nat) : (zs l).contains (n : Int) = l.contains n := by
  unfold zs
  rw [Bool.eq_iff_iff, List.contains_iff_mem, List.contains_iff_mem, List.mem_map]
  exact ⟨fun ⟨a, h, e⟩ => by have : a = n := Int.ofNat.inj e; rwa [← this], fun h => ⟨n, h, rfl⟩⟩
theorem take_con {l : List Int} {k : Nat} {x y : Int} (h : l[k]? = some x) (h0 : (l.take k).contains y = false) (hne : (x == y) = false) : (l.take (k + 1)).contains y = false := by
  rw [List.take_add_one, h, List.contains_append, h0]
  have : (y == x) = false := by rw [beq_eq_false_iff_ne] at hne ⊢; exact fun e => hne e.symm
  simpa using fun e => by rw [beq_eq_false_iff_ne] at this; exact this e
set_option maxRecDepth 100000 in
set_option maxHeartbeats 4000000 in
theorem hasI_any (A : Option Addr) (c : Nat) (l : List Int) (n : Int) (w : World) (h : IL w A l) (hl : l.length ≤ 1000000) :
    Calls Tryd.prog 21 #[.slice A l.length c, .int .i64 n] w fun e w' => e = .returned (.bool (l.contains n)) ∧ w = w' := by
  have H := Lib.hid h
  clear h
  go_enter Tryd.func21, Tryd.ntmps21
  go_wp2_with fail
  go_loopw [5] (fun i wr => ∃ k : Nat, k ≤ l.length ∧ i = .int .i64 (k : Nat) ∧ (l.take k).contains n = false ∧ wr = w) (fun i _ => l.length - (intOf i).toNat)
  case atStart => exact ⟨0, Nat.zero_le _, rfl, rfl, rfl⟩
  case round =>
    obtain ⟨k, hk, rfl, hz, rfl⟩ := hrel
    have Hz := Lib.hid hz
    clear hz
    by_cases hlt : k < l.length
    · obtain ⟨x, b, o, hx, rfl, hbl, hcell⟩ := H.out.at_ hlt
      have Hx := Lib.hid hx
      clear hx
      by_cases he : x = n
      · subst he
        have t0 : (x == x) = true := by simp
        go_wp2_with fail
        go_ret
        exact ⟨ret_bool (by rw [List.contains_iff_mem.2 (List.mem_of_getElem? Hx.out)]), rfl⟩
      · have t0 : (x == n) = false := by simpa using he
        have Hn := Lib.hid (take_con Hx.out Hz.out t0)
        clear he
        go_wp2_with fail
        go_roundw
        case rel => exact ⟨k + 1, by omega, by go_num, Hn.out, trivial⟩
        case measure => simp [intOf]; omega
    · have hkl : k = l.length := by omega
      have Hf := Lib.hid (show l.contains n = false by have := Hz.out; rwa [hkl, List.take_length] at this)
      go_wp2_with fail
      go_ret
      exact ⟨ret_bool Hf.out.symm, rfl⟩
theorem has_nat (A : Option Addr) (c : Nat) (l : List Nat) (n : Nat) (w : World) (h : IL w A (zs l)) (hl : l.length ≤ 1000000) :
    Calls Tryd.prog 21 #[.slice A l.length c, .int .i64 (n : Nat)] w fun e w' => e = .returned (.bool (l.contains n)) ∧ w = w' := by
  have h1 := hasI_any A c (zs l) n w h (by rw [zs_len]; exact hl)
  rw [zs_con, zs_len] at h1
  exact h1
theorem take_pair {es : List (Nat × Nat)} {k x y a b : Nat} (h : es[k]? = some (x, y)) (h0 : (es.take k).contains (a, b) = false) (hne : ¬ (x = a ∧ y = b)) : (es.take (k + 1)).contains (a, b) = false := by
  rw [List.take_add_one, h]
  show (es.take k ++ [(x, y)]).contains (a, b) = false
  rw [con_snoc, h0, Bool.false_or, beq_eq_false_iff_ne]
  exact fun e => hne ⟨(congrArg Prod.fst e).symm, (congrArg Prod.snd e).symm⟩
set_option maxRecDepth 100000 in
set_option maxHeartbeats 4000000 in
theorem touch_any (g : Int) (A : Option Addr) (m c : Nat) (es : List (Nat × Nat)) (a b : Nat) (w : World) (h : EL w A m (cast es)) (hm : m ≤ 4096) :
    Calls Tryd.prog 20 #[gV g A m c, .int .i64 (a : Nat), .int .i64 (b : Nat)] w fun e w' => e = .returned (.bool ((adj es a).testBit b)) ∧ Below w.heap.size w w' := by
  have hcon : (adj es a).testBit b = es.contains (a, b) := by rw [Bool.eq_iff_iff, adj_bit, List.contains_iff_mem]
  rw [hcon]
  have kv := (Below.refl w.heap.size w).alloc (Nat.le_refl _) (.cells #[.int .i64 g, .slice A m c] 24)
  have P0 := Lib.hid (Cells.new w #[.int .i64 g, .slice A m c] 24)
  have E0 := Lib.hid (h.keep kv)
  have hml := h.len'
  have HM := Lib.hid (Nat.le_of_eq hml)
  have HM2 := Lib.hid (Nat.le_of_eq hml.symm)
  have K0 := Lib.hid kv
  have g0 := P0.out.at_ 0
  have g1 := P0.out.at_ 1
  simp only [List.getElem?_cons_zero, List.getElem?_cons_succ] at g0 g1
  obtain ⟨w1, hw1⟩ : ∃ u, w.alloc (.cells #[.int .i64 g, .slice A m c] 24) = u := ⟨_, rfl⟩
  rw [hw1] at E0 K0 g0 g1
  clear h hml hcon P0 kv
  go_enter Tryd.func20, Tryd.ntmps20
  go_wp2_with fail
  go_loopw [7] (fun i wr => ∃ k : Nat, k ≤ m ∧ i = .int .i64 (k : Nat) ∧ (es.take k).contains (a, b) = false ∧ wr = w1) (fun i _ => m - (intOf i).toNat)
  case atStart => exact ⟨0, Nat.zero_le _, rfl, rfl, by first | rfl | exact hw1⟩
  case round =>
    obtain ⟨k, hk, rfl, hz, rfl⟩ := hrel
    have Hz := Lib.hid hz
    clear hz
    by_cases hlt : k < m
    · obtain ⟨e0, bb, o, he, rfl, _, c0, c1⟩ := E0.out.at_ hlt
      obtain ⟨x, z, hx, rfl⟩ := cast_at he
      simp only at c0 c1
      have Hx := Lib.hid hx
      clear he hx
      by_cases h1 : x = a
      · by_cases h2 : z = b
        · subst h1 h2
          have t0 : ((x : Int) == (x : Int)) = true := by simp
          have t1 : ((z : Int) == (z : Int)) = true := by simp
          go_wp2_with fail
          go_ret
          exact ⟨ret_bool (by rw [List.contains_iff_mem.2 (List.mem_of_getElem? Hx.out)]), K0.out⟩
        · have t1 : ((z : Int) == (b : Int)) = false := by rw [beq_eq_false_iff_ne]; omega
          have Hn := Lib.hid (take_pair Hx.out Hz.out (fun h => h2 h.2))
          subst h1
          have t0 : ((x : Int) == (x : Int)) = true := by simp
          clear h2
          go_wp2_with fail
          go_roundw
          case rel => exact ⟨k + 1, by omega, by go_num, Hn.out, trivial⟩
          case measure => simp [intOf]; omega
      · have t0 : ((x : Int) == (a : Int)) = false := by rw [beq_eq_false_iff_ne]; omega
        have Hn := Lib.hid (take_pair Hx.out Hz.out (fun h => h1 h.1))
        clear h1
        go_wp2_with fail
        go_roundw
        case rel => exact ⟨k + 1, by omega, by go_num, Hn.out, trivial⟩
        case measure => simp [intOf]; omega
    · have hkl : es.take k = es := List.take_of_length_le (by have := HM.out; omega)
      have Hf := Lib.hid (show es.contains (a, b) = false by have := Hz.out; rwa [hkl] at this)
      clear hkl
      go_wp2_with fail
      go_ret
      exact ⟨ret_bool Hf.out.symm, K0.out⟩
/-- The numbers of a list that are not in another one. -/
def woM (a b : List Nat) : List Nat := a.filter fun v => !b.contains v
theorem wo_up {a b : List Nat} {k v : Nat} (h : a[k]? = some v) : woM (a.take (k + 1)) b = if b.contains v then woM (a.take k) b else woM (a.take k) b ++ [v] := by
  unfold woM
  rw [List.take_add_one, h, List.filter_append]
  cases e : b.contains v <;> simp_all
theorem wo_len (a b : List Nat) (k : Nat) : (woM (a.take k) b).length ≤ k := Nat.le_trans (List.length_filter_le _ _) (by simp; omega)
set_option maxRecDepth 100000 in
set_option maxHeartbeats 4000000 in
theorem without_any (A B : Option Addr) (c d : Nat) (a b : List Nat) (w : World) (ha : IL w A (zs a)) (hb : IL w B (zs b)) (hal : a.length ≤ 100000) (hbl : b.length ≤ 100000) :
    Calls Tryd.prog 43 #[.slice A a.length c, .slice B b.length d] w fun e w' => ∃ v, e = .returned v ∧ w'.ownsRow w.heap.size 3 1 v (woM a b).length (nats (woM a b)) ∧ Below w.heap.size w w' := by
  obtain ⟨i0, hi, hz0, hz1, hz2⟩ := info_parts info_int
  have HA := Lib.hid (fun w' (h : Below w.heap.size w w') => ha.keep h)
  have HB := Lib.hid (fun w' (h : Below w.heap.size w w') v => has_nat B d b v w' (hb.keep h) (by omega))
  clear ha hb
  go_enter Tryd.func43, Tryd.ntmps43
  go_wp2_with fail
  go_loopw [6, 5] (fun i s wr => ∃ k : Nat, k ≤ a.length ∧ i = .int .i64 (k : Nat) ∧ wr.ownsRow w.heap.size 3 1 s (woM (a.take k) b).length (nats (woM (a.take k) b)) ∧ Below w.heap.size w wr) (fun i _ _ => a.length - (intOf i).toNat)
  case atStart => exact ⟨0, Nat.zero_le _, rfl, World.ownsRow_nil _ _ _ _, Below.refl _ _⟩
  case round =>
    obtain ⟨k, hk, rfl, how, hbb⟩ := hrel
    have Ow := Lib.hid how
    have B4 := Lib.hid hbb
    clear how hbb
    by_cases hlt : k < a.length
    · obtain ⟨x, bb, o, hx, rfl, hbl', hcell⟩ := (HA.out wr B4.out).at_ (k := k) (by rw [zs_len]; exact hlt)
      obtain ⟨v, hv, rfl⟩ := zs_at hx
      have HU := Lib.hid (wo_up (b := b) hv)
      have Hln := Lib.hid (wo_len a b k)
      have HH := HB.out wr B4.out v
      obtain ⟨q, hq⟩ : ∃ q, b.contains v = q := ⟨_, rfl⟩
      rw [hq] at HU HH
      have HH := Lib.hid HH
      clear hx hv hq
      cases q
      · have Hn := Lib.hid (show woM (a.take (k + 1)) b = woM (a.take k) b ++ [v] by rw [HU.out]; simp)
        go_wp2_with fail
        refine HH.out.mono ?_
        rintro e w4 ⟨rfl, rfl⟩
        go_wp2_with (at_builtin; refine wpList_append_own _ rfl _ _ 25 rfl (w.heap.size) 3 i0 (.int .i64 0) 1 8 Tryd.underlying25 hi hz0 hz1 hz2 rfl (by decide) _ _ _ rfl (Ow.out.alloc _) ⟨wr.heap.size, 0, none⟩ 1 1 [.int .i64 (v : Nat)] rfl rfl ?a1 ?b1 ?c1 ?d1 ?e1 ?_)
        case a1 =>
          intro k u hu
          match k, hu with
          | 0, hu => simp at hu; subst hu; simp [Addr.add]
        case b1 => intro u hu; simp at hu; subst hu; rfl
        case c1 => unfold maxLen; have := Hln.out; omega
        case d1 => have := Hln.out; omega
        case e1 => simp; have := B4.out.size; omega
        intro v1 w5 hown1 hgrow1 _
        have O5 := Lib.hid (own_snoc hown1)
        have g1 := Lib.hid (fun (B : Nat) (hB : B ≤ w.heap.size) (hs : w.heap.size ≤ wr.heap.size) => ((Below.refl B wr).alloc (Nat.le_trans hB hs) (.cells #[.int .i64 (v : Nat)] 3)).grown hgrow1 (by simp; omega) (fun k hk => Nat.le_trans hB (own_ge Ow.out hk)))
        clear hown1 hgrow1
        have B6 := Lib.hid (B4.out.trans (g1.out w.heap.size (Nat.le_refl _) B4.out.size))
        go_wp2_with fail
        go_roundw
        case rel => exact ⟨k + 1, by omega, by go_num, by rw [Hn.out]; exact O5.out, B6.out⟩
        case measure => simp [intOf]; omega
      · have Hn := Lib.hid (show woM (a.take (k + 1)) b = woM (a.take k) b by rw [HU.out]; simp)
        go_wp2_with fail
        refine HH.out.mono ?_
        rintro e w4 ⟨rfl, rfl⟩
        go_wp2_with fail
        go_roundw
        case rel => exact ⟨k + 1, by omega, by go_num, by rw [Hn.out]; exact Ow.out, B4.out⟩
        case measure => simp [intOf]; omega
    · have hkl : k = a.length := by omega
      have Hf := Lib.hid (show a.take k = a by rw [hkl, List.take_length])
      rw [Hf.out] at Ow
      go_wp2_with fail
      go_ret
      exact ⟨_, rfl, Ow.out, B4.out⟩
theorem same_ext {a b : List Int} {k : Nat} (hl : a.length = b.length) (hk : a.length ≤ k) (h : ∀ j, j < k → j < a.length → a[j]? = b[j]?) : a = b := by
  apply List.ext_getElem?
  intro j
  by_cases hj : j < a.length
  · exact h j (by omega) hj
  · rw [List.getElem?_eq_none (by omega), List.getElem?_eq_none (by omega)]
set_option maxRecDepth 100000 in
set_option maxHeartbeats 4000000 in
theorem same_any (A B : Option Addr) (c d : Nat) (a b : List Int) (w : World) (ha : IL w A a) (hb : IL w B b) (hal : a.length ≤ 1000000) (_hbl : b.length ≤ 1000000) :
    Calls Tryd.prog 25 #[.slice A a.length c, .slice B b.length d] w fun e w' => e = .returned (.bool (a == b)) ∧ Below w.heap.size w w' := by
  have HA := Lib.hid (fun w' (h : Below w.heap.size w w') => ha.keep h)
  have HB := Lib.hid (fun w' (h : Below w.heap.size w w') => hb.keep h)
  clear ha hb
  by_cases hl : a.length = b.length
  · have t0 : (((a.length : Nat) : Int) != ((b.length : Nat) : Int)) = false := by rw [hl]; simp
    have HE := Lib.hid (fun k => @same_ext a b k)
    have HL := Lib.hid hl
    obtain ⟨n, hn⟩ : ∃ n, a.length = n := ⟨_, rfl⟩
    obtain ⟨m, hm⟩ : ∃ m, b.length = m := ⟨_, rfl⟩
    have HNa := Lib.hid hn
    have HNb := Lib.hid hm
    rw [hn, hm] at t0
    rw [hn] at hal
    rw [hn, hm]
    have hmn : m = n := by omega
    subst hmn
    clear hl hn hm _hbl
    go_enter Tryd.func25, Tryd.ntmps25
    go_wp2_with fail
    go_loopw [5] (fun i wr => ∃ k : Nat, k ≤ m ∧ i = .int .i64 (k : Nat) ∧ (∀ j, j < k → j < a.length → a[j]? = b[j]?) ∧ Below w.heap.size w wr) (fun i _ => m - (intOf i).toNat)
    case atStart => exact ⟨0, Nat.zero_le _, rfl, fun j hj => absurd hj (Nat.not_lt_zero _), Below.refl _ _⟩
    case round =>
      obtain ⟨k, hk, rfl, hz, hbb⟩ := hrel
      have Hz := Lib.hid hz
      have B4 := Lib.hid hbb
      clear hz hbb
      by_cases hlt : k < m
      · obtain ⟨x, b1, o1, hx, rfl, _, c1⟩ := (HA.out wr B4.out).at_ (k := k) (by have := HNa.out; omega)
        obtain ⟨y, b2, o2, hy, rfl, _, c2⟩ := (HB.out wr B4.out).at_ (k := k) (by have := HNb.out; omega)
        have Hx := Lib.hid hx
        have Hy := Lib.hid hy
        clear hx hy
        by_cases he : x = y
        · subst he
          have t1 : (x != x) = false := by simp
          have Hn := Lib.hid (fun j (hj : j < k + 1) (hja : j < a.length) => by
            rcases Nat.lt_or_ge j k with h1 | h1
            · exact Hz.out j h1 hja
            · obtain rfl : j = k := by omega
              exact Hx.out.trans Hy.out.symm)
          go_wp2_with fail
          go_quiet (fail)
          go_wp2_with fail
          go_roundw
          case rel => exact ⟨k + 1, by omega, by go_num, Hn.out, by first | exact B4.out | exact B4.out.drew | exact below_drewN B4.out⟩
          case measure => simp [intOf]; omega
        · have t1 : (x != y) = true := by simpa using he
          have Hf := Lib.hid (show (a == b) = false by
            rw [beq_eq_false_iff_ne]
            intro e
            have h1 := Hx.out
            rw [e, Hy.out] at h1
            injection h1 with h1
            exact he h1.symm)
          clear he
          go_wp2_with fail
          go_quiet (fail)
          go_wp2_with fail
          go_ret
          exact ⟨ret_bool Hf.out.symm, by first | exact B4.out | exact B4.out.drew | exact below_drewN B4.out⟩
      · have Hf := Lib.hid (show (a == b) = true by
          rw [beq_iff_eq]
          exact HE.out k HL.out (by have := HNa.out; omega) Hz.out)
        go_wp2_with fail
        go_ret
        exact ⟨ret_bool Hf.out.symm, B4.out⟩
  · have t0 : (((a.length : Nat) : Int) != ((b.length : Nat) : Int)) = true := by simp; omega
    have Hf := Lib.hid (show (a == b) = false by rw [beq_eq_false_iff_ne]; exact fun e => hl (by rw [e]))
    obtain ⟨n, hn⟩ : ∃ n, a.length = n := ⟨_, rfl⟩
    obtain ⟨m, hm⟩ : ∃ m, b.length = m := ⟨_, rfl⟩
    rw [hn, hm] at t0
    rw [hn, hm]
    clear hl hn hm hal _hbl
    go_enter Tryd.func25, Tryd.ntmps25
    go_wp2_with fail
    go_ret
    exact ⟨ret_bool Hf.out.symm, Below.refl _ _⟩
end Go.Proofs.YtdpfoegcmngdfaaDoor
