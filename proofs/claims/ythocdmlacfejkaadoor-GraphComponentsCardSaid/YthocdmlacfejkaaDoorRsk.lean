/- The reference's Sinks. -/
import Derived.Test.YthocdmlacfejkaaDoorRcs
import Derived.Test.YthocdmlacfejkaaDoorLvm
namespace Go.Proofs.YthocdmlacfejkaaDoor
open Go.RowKit
/-- A list of lists, each in a row of its own. -/
def RL (w : World) (A : Option Addr) (ls : List (List Nat)) : Prop :=
  ∀ (k : Nat) (l : List Nat), ls[k]? = some l → ∃ b o Ak ck, A = some ⟨b, o, none⟩ ∧ b < w.heap.size ∧ w.cell? ⟨b, o + k, none⟩ = some (Value.slice Ak l.length ck) ∧ RowL w Ak l
theorem RL.keep {w w' : World} {A : Option Addr} {ls : List (List Nat)} (h : RL w A ls) (hb : Below w.heap.size w w') : RL w' A ls := fun k l hk => by
  obtain ⟨b, o, Ak, ck, e, h1, h2, h3⟩ := h k l hk
  exact ⟨b, o, Ak, ck, e, Nat.lt_of_lt_of_le h1 hb.size, (hb.cell (p := ⟨b, o + k, none⟩) h1).trans h2, h3.keep hb⟩
theorem OutN.rl {C : Nat} {w : World} {v : Value} {ls : List (List Nat)} (h : OutN C w v ls) : ∃ A c, v = .slice A ls.length c ∧ RL w A ls := by
  obtain ⟨vs, h1, h2⟩ := h
  rcases h1.2 with ⟨rfl, h0⟩ | ⟨g, cap, cur, rfl, hg, hh, hnc, hcm, hcs, hx⟩
  · have : ls = [] := List.eq_nil_of_length_eq_zero h0
    subst this
    exact ⟨none, 0, rfl, fun k l hk => by simp at hk⟩
  · refine ⟨_, cap, rfl, fun k l hk => ?_⟩
    obtain ⟨A, c, e, hr⟩ := h2 k l hk
    have hk2 : k < ls.length := by
      rcases Nat.lt_or_ge k ls.length with h1 | h1
      · exact h1
      · rw [List.getElem?_eq_none h1] at hk; cases hk
    refine ⟨g, 0, A, c, rfl, ?_, ?_, hr⟩
    · rcases Nat.lt_or_ge g w.heap.size with h1 | h1
      · exact h1
      · rw [Array.getElem?_eq_none h1] at hh; cases hh
    · rw [cell_of_row _ _ _ _ _ _ hh, Nat.zero_add, ← Array.getElem?_toList, ← e, ← hx, List.getElem?_take_of_lt (by omega)]
def snkP (n : Nat) (es : List (Nat × Nat)) (s : List Nat) : Bool := decide ((reachL n es s).length = s.length)
theorem snk_step {n : Nat} {es : List (Nat × Nat)} {L : List (List Nat)} {i : Nat} {s : List Nat} (h : L[i]? = some s) : (L.take (i + 1)).filter (snkP n es) = (L.take i).filter (snkP n es) ++ if snkP n es s then [s] else [] := by
  rw [List.take_add_one, h, List.filter_append]
  cases e : snkP n es s <;> simp [e]
theorem cls_in' {n : Nat} {es : List (Nat × Nat)} {l : List Nat} (h : l ∈ clsM n es) : ∀ v ∈ l, v < n := by
  unfold clsM at h
  obtain ⟨a, _, ha⟩ := List.mem_flatMap.1 h
  split at ha
  · rw [List.mem_singleton.1 ha]
    intro v hv
    unfold sccL at hv
    exact List.mem_range.1 (List.mem_filter.1 hv).1
  · cases ha
set_option maxRecDepth 100000 in
set_option maxHeartbeats 8000000 in
theorem refSinks_any (n : Nat) (A : Option Addr) (m c : Nat) (es : List (Nat × Nat)) (w : World) (h : EL w A m (cast es)) (hg : Fine n es) :
    Calls Tryd.prog 53 #[gV n A m c] w fun e w' => ∃ v, e = .returned v ∧ OutN w.heap.size w' v ((clsM n es).filter (snkP n es)) ∧ Below w.heap.size w w' := by
  obtain ⟨j0, hj, jz0, jz1, jz2⟩ := info_parts info_ints
  have kv := (Below.refl w.heap.size w).alloc (Nat.le_refl _) (.cells #[.int .i64 (n : Nat), .slice A m c] 35)
  have G0 := Lib.hid (Cells.new w #[.int .i64 (n : Nat), .slice A m c] 35)
  have HT := Lib.hid (refComps_any n A m c es _ (h.keep kv) hg)
  have HC := Lib.hid (fun B d l w' (hb : Below w.heap.size w w') (hl : IL w' B (zs l)) (hll : l.length ≤ 1000000) (hin : ∀ a ∈ l, a < n) => refClosed_any n A m c es B d l w' (h.keep hb) hg hl hll hin)
  have Hin := Lib.hid (fun l (hl : l ∈ clsM n es) => cls_in' hl)
  have hcl : (clsM n es).length ≤ 1000 ∧ ∀ l ∈ clsM n es, l.length ≤ 64 := by
    obtain ⟨out, _, _, hol, hcl⟩ := comp_ok hg.low hg.n64
    rw [← hcl]
    refine ⟨by rw [List.length_map]; exact hol, fun l hl => ?_⟩
    obtain ⟨x, _, rfl⟩ := List.mem_map.1 hl
    exact bitsOf_len x
  obtain ⟨L, hL⟩ : ∃ L, clsM n es = L := ⟨_, rfl⟩
  rw [hL] at HT Hin hcl ⊢
  have Hlen := Lib.hid hcl.2
  have hL1 := hcl.1
  have kv := Lib.hid kv
  clear h hg hL hcl
  go_enter Tryd.func53, Tryd.ntmps53
  have g0 := G0.out.at_ 0
  have g1 := G0.out.at_ 1
  simp only [List.getElem?_cons_zero, List.getElem?_cons_succ] at g0 g1
  go_wp2_with fail
  refine HT.out.mono ?_
  rintro e w1 ⟨v, rfl, hout, hb1⟩
  obtain ⟨T, cT, rfl, hT⟩ := hout.rl
  have T1 := Lib.hid hT
  have G1 := Lib.hid (G0.out.keep hb1)
  have B1 := Lib.hid (below_on kv.out hb1)
  clear hb1 hout hT g0 g1
  go_wp2_with fail
  go_loopw [4, 5] (fun v i wr => ∃ k : Nat, i = .int .i64 (k : Nat) ∧ k ≤ L.length ∧ OutN w1.heap.size wr v ((L.take k).filter (snkP n es)) ∧ Below w1.heap.size w1 wr) (fun _ i _ => L.length - (intOf i).toNat)
  case atStart => exact ⟨0, rfl, Nat.zero_le _, OutN.nil _ _, Below.refl _ _⟩
  case round =>
    obtain ⟨k, rfl, hk, hout, hb⟩ := hrel
    have Hout := Lib.hid hout
    have B6 := Lib.hid hb
    have Bw := Lib.hid (below_on B1.out hb)
    have hsz := hb.size
    clear hout hb
    obtain ⟨wa, rfl⟩ : ∃ wa : World, wa = wr := ⟨_, rfl⟩
    by_cases hlt : k < L.length
    · obtain ⟨s, hs⟩ : ∃ s, L[k]? = some s := ⟨_, List.getElem?_eq_getElem hlt⟩
      have Hlt := Lib.hid hlt
      obtain ⟨b, o, As, cs, rfl, _, c0, hrow⟩ := (T1.out.keep B6.out) k s hs
      have hsl := Hlen.out s (List.mem_of_getElem? hs)
      have HCs := Lib.hid (HC.out As cs s wa.drew Bw.out.drew (hrow.nl.il.keep (Below.refl _ _).drew) (by omega) (Hin.out s (List.mem_of_getElem? hs)))
      have Hst := Lib.hid (snk_step (n := n) (es := es) hs)
      have g0 := (G1.out.keep B6.out).at_ 0
      have g1 := (G1.out.keep B6.out).at_ 1
      simp only [List.getElem?_cons_zero, List.getElem?_cons_succ] at g0 g1
      have ki : (k : Int) < (L.length : Int) := by omega
      have Hfl := Lib.hid (show ((L.take k).filter (snkP n es)).length ≤ 1000 from Nat.le_trans (List.length_filter_le _ _) (by rw [List.length_take]; omega))
      obtain ⟨q, hq⟩ : ∃ q, snkP n es s = q := ⟨_, rfl⟩
      rw [show decide ((reachL n es s).length = s.length) = snkP n es s from rfl, hq] at HCs
      rw [hq] at Hst
      have L6 := Lib.hid hrow
      clear hs hrow hlt hq
      go_wp2_with fail
      go_still_tail 5, (by kernel_rfl)
      change wpList _ _ _ _ _ wa.drew
      go_wp2_with fail
      refine HCs.out.mono ?_
      rintro e w8 ⟨rfl, hb8⟩
      have b8 := below_on (Below.refl wa.heap.size wa).drew hb8
      have B8 := Lib.hid (B6.out.trans (b8.mono hsz))
      have c8 := (b8.cell (World.block_lt_of_cell? _ _ c0)).trans c0
      have L8 := Lib.hid (L6.out.keep b8)
      have hs8 : w1.heap.size ≤ w8.heap.size := Nat.le_trans hsz b8.size
      obtain ⟨vs, hown2, hrows⟩ := Hout.out.keep b8
      have O8 := Lib.hid hown2
      have R8 := Lib.hid hrows
      have Hk8 := Lib.hid (Hout.out.keep b8)
      clear hb8 b8 hown2 hrows c0 g0 g1
      cases q with
      | true =>
        rw [if_pos rfl] at Hst
        go_wp2_with (at_builtin; refine wpList_append_own _ rfl _ _ 47 rfl w1.heap.size 50 j0 (.slice none 0 0) 1 24 Tryd.underlying47 hj jz0 jz1 jz2 rfl (by decide) _ _ _ rfl (O8.out.alloc _) ⟨w8.heap.size, 0, none⟩ 1 1 [.slice As s.length cs] rfl rfl ?c1 ?c2 ?c3 ?c4 ?c5 ?_)
        case c1 =>
          intro k u hu
          match k, hu with
          | 0, hu => simp at hu; subst hu; simp [Addr.add]
        case c2 => intro u hu; simp at hu; subst hu; rfl
        case c3 => unfold maxLen; have := Hfl.out; omega
        case c4 => have := Hfl.out; omega
        case c5 => simp; omega
        intro v' w3 hown' hgrow _
        have HO := Lib.hid (OutN.push O8.out R8.out L8.out hown' hgrow)
        rw [← Hst.out] at HO
        have B9 := Lib.hid ((B8.out.alloc hs8 (.cells #[.slice As s.length cs] 50)).grown hgrow (by simp; omega) (fun k hk => own_ge O8.out hk))
        clear hown' hgrow
        go_wp2_with fail
        go_roundw
        case rel => exact ⟨k + 1, by go_num, Hlt.out, HO.out, B9.out⟩
        case measure => simp [intOf]; have := Hlt.out; omega
      | false =>
        rw [if_neg (by simp), List.append_nil] at Hst
        have HO := Lib.hid (show OutN w1.heap.size w8 _ ((L.take (k + 1)).filter (snkP n es)) by rw [Hst.out]; exact Hk8.out)
        go_wp2_with fail
        go_roundw
        case rel => exact ⟨k + 1, by go_num, Hlt.out, HO.out, B8.out⟩
        case measure => simp [intOf]; have := Hlt.out; omega
    · have hkm : L.take k = L := List.take_of_length_le (by omega)
      have hni : ¬ ((k : Int) < (L.length : Int)) := by omega
      have HO := Lib.hid (show OutN w.heap.size wa _ (L.filter (snkP n es)) by have h := Hout.out; rw [hkm] at h; exact h.down B1.out.size)
      go_wp2_with fail
      go_ret
      exact ⟨_, rfl, HO.out, Bw.out⟩
theorem bits_inj {a b : Nat} (ha : a < 18446744073709551616) (hb : b < 18446744073709551616) (h : bitsOf a = bitsOf b) : a = b := by
  rw [← setI_bits ha, ← setI_bits hb, h]
theorem sink_same {n : Nat} {es : List (Nat × Nat)} (hl : Low n es) (hn : n ≤ 64) {out : List Nat} (h64 : ∀ x ∈ out, x < 18446744073709551616) (ho : out.map bitsOf = clsM n es) : (sinkM es out).map bitsOf = (clsM n es).filter (snkP n es) := by
  rw [← ho, List.filter_map]
  unfold sinkM
  congr 1
  refine List.filter_congr fun x hx => ?_
  have hin : ∀ a ∈ bitsOf x, a < n := cls_in' (n := n) (es := es) (by rw [← ho]; exact List.mem_map.2 ⟨x, hx, rfl⟩)
  have hr := reach_list hl hn hin
  rw [setI_bits (h64 x hx)] at hr
  unfold snkP
  simp only [Function.comp_apply]
  have hU : ∀ i, Under 64 (adj es i) := fun i v hv => Nat.lt_of_lt_of_le (adj_under hl i v hv) hn
  have hlt := lt_under'.1 (lev_under hU (lt_under'.2 (h64 x hx)) 64)
  rw [← hr, Bool.eq_iff_iff, beq_iff_eq, decide_eq_true_eq]
  constructor
  · intro h; rw [h]
  · intro h
    refine (bits_inj hlt (h64 x hx) ?_)
    refine (List.Sublist.eq_of_length ?_ h.symm).symm
    unfold bitsOf
    have : (fun i => x.testBit i) = fun i => x.testBit i && (lev (adj es) x 64).testBit i := by
      funext i
      cases e : x.testBit i with
      | false => rfl
      | true => rw [lev_up (Nat.zero_le 64) i e]; rfl
    rw [this]
    have := List.filter_filter (p := fun i => x.testBit i) (q := fun i => (lev (adj es) x 64).testBit i) (l := List.range 64)
    rw [← this]
    exact List.filter_sublist
end Go.Proofs.YthocdmlacfejkaaDoor
