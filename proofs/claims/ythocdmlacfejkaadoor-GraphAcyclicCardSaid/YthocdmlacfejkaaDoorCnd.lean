/- Condense: the graph of the components, the program's. -/
import Derived.Test.YthocdmlacfejkaaDoorCnm
import Derived.Test.YthocdmlacfejkaaDoorRvs
namespace Go.Proofs.YthocdmlacfejkaaDoor
open Go.RowKit
theorem NL.other {B : Nat} {w : World} {A : Option Addr} {l : List Nat} (h : NL B w A l) {q : Nat} (hq : q < B) (i : Nat) (u : Value) : NL B (w.setCell ⟨q, i, none⟩ u) A l := fun k n hk => by
  obtain ⟨b, o, e, h1, h2, h3⟩ := h k n hk
  exact ⟨b, o, e, h1, by simpa [World.setCell] using h2, (World.cell?_of_block (Below.heap_setCell w ⟨q, i, none⟩ u b (by simp; omega))).trans h3⟩
theorem own_drew2 {w : World} {C n : Nat} {e : TypeId} {v : Value} {xs : List Value} (h : w.ownsRow C e 2 v n xs) : w.drew.ownsRow C e 2 v n xs :=
  World.ownsRow.kept h (w' := w.drew) (row := none) ⟨rfl, rfl, rfl, Nat.le_refl _, fun k hk _ => rfl⟩ (by cases Value.ownBlock _ <;> simp)
def fI (n : Nat) (f : Nat → Nat) : List Value := numsN n fun v => ((f v : Nat) : Int)
theorem fI_at {n : Nat} (f : Nat → Nat) {i : Nat} (h : i < n) : (fI n f)[i]? = some (.int .i64 (f i : Nat)) := numsN_at _ h
theorem fI_set {n : Nat} (f : Nat → Nat) (i v : Nat) : (fI n f).set i (.int .i64 (v : Nat)) = fI n fun j => if i = j then v else f j := by
  unfold fI
  rw [numsN_set]
  refine numsN_congr fun j _ => ?_
  by_cases h : i = j <;> simp [h]
theorem fI_len (n : Nat) (f : Nat → Nat) : (fI n f).length = n := numsN_len _ _
def CndPost (n K : Nat) (f : Nat → Nat) (cd : List (Nat × Nat)) (w : World) (e : Ending) (w' : World) : Prop :=
  (∃ B c g, e = .returned (.tuple #[gV K B (makeL K cd).length c, .slice (some ⟨g, 0, none⟩) n n, .int .i64 0]) ∧ EL w' B (makeL K cd).length (cast (makeL K cd)) ∧ IL w' (some ⟨g, 0, none⟩) ((List.range n).map fun v => ((f v : Nat) : Int))) ∧ Below w.heap.size w w'
set_option maxRecDepth 100000 in
set_option maxHeartbeats 8000000 in
theorem condense_any (n : Nat) (A : Option Addr) (m c : Nat) (es : List (Nat × Nat)) (out : List Nat) (C : List (List Nat)) (w : World) (h : EL w A m (cast es)) (hg : Fine n es) (hout : compM es n = some out) (ho64 : ∀ x ∈ out, x < 18446744073709551616) (hoc : out.map bitsOf = C) (hol : out.length ≤ 64) (hin : ∀ l ∈ C, ∀ v ∈ l, v < n) (f : Nat → Nat) (hf : ofC C out.length = f) (cd : List (Nat × Nat)) (hcdq : cdM f es = cd) (hcd : Low out.length cd) (hw : Good w) :
    Calls Tryd.prog 29 #[gV n A m c] w (CndPost n out.length f cd w) := by
  obtain ⟨i0, hi, hz0, hz1, hz2⟩ := info_parts info_edge
  obtain ⟨j0, hj, jz0, jz1, jz2⟩ := info_parts info_int
  have hlen := h.len
  have hm : m ≤ 4096 := by have := hg.len; omega
  have hn64 := hg.n64
  have kv := ((Below.refl w.heap.size w).alloc (Nat.le_refl _) (.cells #[.int .i64 (n : Nat), .slice A m c] 26)).alloc (by simp) (.cells #[.int .i64 0, .slice none 0 0] 26)
  have HC := check_any (n : Int) A m c (cast es) _ (h.keep kv) (by omega)
  rw [hg.check] at HC
  have HC := Lib.hid HC
  have G0 := Lib.hid ((Cells.new w #[.int .i64 (n : Nat), .slice A m c] 26).keep ((Below.refl _ _).alloc (Nat.le_refl _) (.cells #[.int .i64 0, .slice none 0 0] 26)))
  have X0 := Cells.new (w.alloc (.cells #[.int .i64 (n : Nat), .slice A m c] 26)) #[.int .i64 0, .slice none 0 0] 26
  simp only [World.size_alloc] at X0
  have X0 := Lib.hid X0
  have HG := Lib.hid (fun w' (hb' : Below w.heap.size w w') => hw.below hb' hw.size)
  have HM := Lib.hid (fun w' (hb' : Below w.heap.size w w') => components_any n A m c es out w' (h.keep hb') hg.low64 hm hn64 hout (hw.below hb' hw.size))
  have E0 := Lib.hid (fun w' (hb' : Below w.heap.size w w') => h.keep hb')
  have Hlow := Lib.hid hg.low
  have Ho := Lib.hid ho64
  have Hin := Lib.hid hin
  have Hcd := Lib.hid hcd
  have Hf := Lib.hid hf
  have Hcdq := Lib.hid hcdq
  have Kv := Lib.hid kv
  have Hlen := Lib.hid hlen
  have Hgd := Lib.hid (show ∀ i s, out[i]? = some s → C.getD i [] = bitsOf s from fun i s hs => by rw [← hoc, List.getD_eq_getElem?_getD, List.getElem?_map, hs]; rfl)
  have Hmem := Lib.hid (show ∀ i s, out[i]? = some s → bitsOf s ∈ C from fun i s hs => by rw [← hoc]; exact List.mem_map.2 ⟨s, List.mem_of_getElem? hs, rfl⟩)
  clear h hg hw hout hlen ho64 hin hcd kv hoc hf hcdq
  go_enter Tryd.func29, Tryd.ntmps29
  go_wp2_with fail
  refine HC.out.mono ?_
  rintro e w1 ⟨rfl, hb1⟩
  have G1 := Lib.hid (G0.out.keep hb1)
  have X1 := Lib.hid (X0.out.keep hb1)
  have B1 := Lib.hid (below_on Kv.out hb1)
  have g0 := G1.out.at_ 0
  have g1 := G1.out.at_ 1
  simp only [List.getElem?_cons_zero, List.getElem?_cons_succ] at g0 g1
  have hx1 := X1.out.lt
  clear hb1
  go_wp2_with fail
  refine (HM.out _ B1.out).mono ?_
  rintro e w2 ⟨v, rfl, hown, hb2⟩
  obtain ⟨A2, c2, rfl, hU, _, _⟩ := own_sets hown
  have U2 := Lib.hid hU
  have G2 := Lib.hid (G1.out.keep hb2)
  have X2 := Lib.hid (X1.out.keep hb2)
  have B2 := Lib.hid (below_on B1.out hb2)
  have hs12 := hb2.size
  clear hU hown hb2 g0 g1
  have g0 := G2.out.at_ 0
  have g1 := G2.out.at_ 1
  simp only [List.getElem?_cons_zero, List.getElem?_cons_succ] at g0 g1
  go_wp2_with (at_make; refine wpList_make_full _ rfl _ _ 50 rfl w2.heap.size 3 j0 (.int .i64 0) 1 Tryd.underlying50 hj jz0 jz1 _ _ _ _ n rfl rfl rfl rfl (by rw [jz2]; omega) (by unfold maxLen; omega) (Nat.le_refl _) ?_)
  intro w3 hown hgr
  have b3 := Lib.hid ((Below.refl w2.heap.size w2).grown hgr (Nat.le_refl _) (by simp))
  have I3 := Lib.hid (show Cells w3 w2.heap.size (fI n (ofC C 0)) from made_ints hown)
  clear hown hgr g0 g1
  obtain ⟨g, hg⟩ : ∃ g, w2.heap.size = g := ⟨_, rfl⟩
  rw [hg] at b3 I3 ⊢
  have Hg := Lib.hid hg
  clear hg
  go_wp2_with fail
  go_loopw [8, 9, 11, 30, 38] (fun _ _ _ iv _ wr => ∃ i : Nat, iv = .int .i64 (i : Nat) ∧ i ≤ out.length ∧ Cells wr g (fI n (ofC C i)) ∧ Below g w2 wr) (fun _ _ _ iv _ _ => out.length - (intOf iv).toNat)
  case atStart => exact ⟨0, rfl, Nat.zero_le _, I3.out, b3.out⟩
  case round =>
    obtain ⟨i, rfl, hi2, hcl, hb⟩ := hrel
    have C6 := Lib.hid hcl
    have B6 := Lib.hid hb
    have Bw := Lib.hid (show Below w.heap.size w wr from B2.out.trans (hb.mono (by have := B2.out.size; have := Hg.out; omega)))
    have hgw := hcl.lt
    clear hcl hb
    obtain ⟨wa, rfl⟩ : ∃ wa : World, wa = wr := ⟨_, rfl⟩
    by_cases hlt : i < out.length
    · obtain ⟨s, b, o, hs, rfl, _, hbl, c0⟩ := ((U2.out.keep ((Hg.out ▸ B6.out : Below w2.heap.size w2 wa)))).at_ hlt
      have Hlt := Lib.hid hlt
      have HL := Lib.hid (list_any s wa (Ho.out s (List.mem_of_getElem? hs)) (HG.out _ Bw.out))
      have hgd := Hgd.out i s hs
      have hmem := Hmem.out i s hs
      obtain ⟨ls, hls⟩ : ∃ ls, bitsOf s = ls := ⟨_, rfl⟩
      rw [hls] at HL hgd hmem
      have Hgi := Lib.hid hgd
      have Hmi := Lib.hid hmem
      have hll : ls.length ≤ 64 := by rw [← hls]; exact bitsOf_len s
      have ii : (i : Int) < (out.length : Int) := by omega
      clear hs hls hgd hmem
      go_wp2_with fail
      refine HL.out.mono ?_
      rintro e w4 ⟨v, rfl, hown, hb4⟩
      obtain ⟨A4, c4, rfl, hn4, _, _⟩ := own_nats hown
      have N4 := Lib.hid hn4
      have C4 := Lib.hid (show Cells w4 g (fI n (ofI C i 0)) by rw [ofI_zero]; exact C6.out.keep hb4)
      have B4 := Lib.hid (show Below g w2 w4 from B6.out.trans (hb4.mono (by omega)))
      clear hown hn4 hb4 c0 ii hlt
      go_wp2_with fail
      go_loopw [11, 38] (fun _ kv wr => ∃ k : Nat, kv = .int .i64 (k : Nat) ∧ k ≤ ls.length ∧ Cells wr g (fI n (ofI C i k)) ∧ NL wa.heap.size wr A4 ls ∧ Below g w2 wr) (fun _ kv _ => ls.length - (intOf kv).toNat)
      case atStart => exact ⟨0, rfl, Nat.zero_le _, C4.out, N4.out, B4.out⟩
      case round =>
        obtain ⟨k, rfl, hk, hcl, hnl, hb⟩ := hrel
        have C7 := Lib.hid hcl
        have N7 := Lib.hid hnl
        have B7 := Lib.hid hb
        clear hcl hnl hb
        obtain ⟨wb, rfl⟩ : ∃ wb : World, wb = wr := ⟨_, rfl⟩
        by_cases hkl : k < ls.length
        · obtain ⟨x, hx⟩ : ∃ x, ls[k]? = some x := ⟨_, List.getElem?_eq_getElem hkl⟩
          obtain ⟨b, o, rfl, _, _, c0⟩ := N7.out k x hx
          have hxn : x < n := Hin.out _ Hmi.out x (List.mem_of_getElem? hx)
          have Hkl := Lib.hid hkl
          have xi : (x : Int) < (n : Int) := by omega
          have ki : (k : Int) < (ls.length : Int) := by omega
          have z0 := (C7.out.at_ x).trans (fI_at _ hxn)
          have f0 := C7.out.fz x
          have C8 := C7.out.set x (.int .i64 (i : Nat)) (by rw [fI_len]; exact hxn)
          rw [fI_set, ofI_step (by rw [Hgi.out]; exact hx)] at C8
          have C8 := Lib.hid C8
          have N8 := Lib.hid (N7.out.other hgw x (.int .i64 (i : Nat)))
          have B8 := Lib.hid (B7.out.setCell (p := ⟨g, x, none⟩) (Nat.le_refl _) (.int .i64 (i : Nat)))
          obtain ⟨z, hz⟩ : ∃ z, ofI C i k x = z := ⟨_, rfl⟩
          rw [hz] at z0
          clear hx hz
          go_wp2_with fail
          go_roundw
          case rel => exact ⟨k + 1, by go_num, Hkl.out, C8.out, N8.out, B8.out⟩
          case measure => simp [intOf]; have := Hkl.out; omega
        · have Ce := Lib.hid (show Cells wb g (fI n (ofC C (i + 1))) by rw [← ofI_end (k := k) (by rw [Hgi.out]; omega)]; exact C7.out)
          go_wp2_with fail
          go_roundw
          case rel => exact ⟨i + 1, by go_num, Hlt.out, Ce.out, B7.out⟩
          case measure => simp [intOf]; have := Hlt.out; omega
    · have hio : i = out.length := by omega
      have F6 := C6.out
      rw [hio] at F6
      rw [Hf.out] at F6
      have F6 := Lib.hid F6
      have G6 := Lib.hid (G2.out.keepB B6.out (by have := Hg.out; omega))
      have X6 := Lib.hid (X2.out.keepB B6.out (by have := Hg.out; omega))
      have g0 := G6.out.at_ 0
      have g1 := G6.out.at_ 1
      simp only [List.getElem?_cons_zero, List.getElem?_cons_succ] at g0 g1
      have hnio : ¬ ((i : Int) < (out.length : Int)) := by omega
      clear hio
      go_wp2_with fail
      clear hnio hlt g0 g1
      go_loopw [12, 14, 51] (fun lv _ kv wr => ∃ k : Nat, kv = .int .i64 (k : Nat) ∧ k ≤ m ∧ wr.ownsRow wa.heap.size 32 2 lv (cdM f (es.take k)).length (flat (cast (cdM f (es.take k)))) ∧ Below wa.heap.size wa wr) (fun _ _ kv _ => m - (intOf kv).toNat)
      case atStart => exact ⟨0, rfl, Nat.zero_le _, World.ownsRow_nil _ _ _ _, Below.refl _ _⟩
      case round =>
        obtain ⟨k, rfl, hk, hown, hb⟩ := hrel
        have O7 := Lib.hid hown
        have D7 := Lib.hid hb
        have Bx := Lib.hid (below_on Bw.out hb)
        have hsz := hb.size
        clear hown hb
        obtain ⟨wb, rfl⟩ : ∃ wb : World, wb = wr := ⟨_, rfl⟩
        by_cases hkm : k < m
        · obtain ⟨e, b, o, he, rfl, hbl, c0, c1⟩ := (E0.out _ Bx.out).at_ hkm
          obtain ⟨x, y, hxy, rfl⟩ := cast_at he
          simp only at c0 c1
          obtain ⟨hx, hy⟩ := Hlow.out _ (List.mem_of_getElem? hxy)
          simp only at hx hy
          have Hkm := Lib.hid hkm
          have Hst := Lib.hid (cdM_step (f := f) hxy)
          have hll := cdM_len f (es.take k)
          rw [List.length_take] at hll
          have hlb : (cdM f (es.take k)).length ≤ 5000 := by omega
          have Hlb := Lib.hid hlb
          have bx := (Below.refl wb.heap.size wb).alloc (Nat.le_refl _) (.cells #[.int .i64 (x : Int), .int .i64 (y : Int)] 32)
          have Y7 := Lib.hid (Cells.new wb #[.int .i64 (x : Int), .int .i64 (y : Int)] 32)
          have D8 := Lib.hid (D7.out.alloc hsz (.cells #[.int .i64 (x : Int), .int .i64 (y : Int)] 32))
          have O8 := Lib.hid (O7.out.alloc (.cells #[.int .i64 (x : Int), .int .i64 (y : Int)] 32))
          obtain ⟨w8, hw8⟩ : ∃ u, wb.alloc (.cells #[.int .i64 (x : Int), .int .i64 (y : Int)] 32) = u := ⟨_, rfl⟩
          obtain ⟨pe, hpe⟩ : ∃ pe, wb.heap.size = pe := ⟨_, rfl⟩
          rw [hw8] at Y7 D8 O8
          rw [hpe] at Y7
          have d0 := Y7.out.at_ 0
          have d1 := Y7.out.at_ 1
          simp only [List.getElem?_cons_zero, List.getElem?_cons_succ] at d0 d1
          have F8 := F6.out.keep D8.out
          have p0 := (F8.at_ x).trans (fI_at _ hx)
          have p1 := (F8.at_ y).trans (fI_at _ hy)
          have xi : (x : Int) < (n : Int) := by omega
          have yi : (y : Int) < (n : Int) := by omega
          have hszw := D8.out.size
          obtain ⟨fx, hfx⟩ : ∃ fx, f x = fx := ⟨_, rfl⟩
          obtain ⟨fy, hfy⟩ : ∃ fy, f y = fy := ⟨_, rfl⟩
          simp only at Hst
          rw [hfx, hfy] at Hst
          rw [hfx] at p0
          rw [hfy] at p1
          clear he hxy bx F8 hll hfx hfy hkm
          by_cases hff : fx = fy
          · subst hff
            have tq : ((fx : Int) != (fx : Int)) = false := by simp
            rw [if_neg (by simp), List.append_nil] at Hst
            have O9 := Lib.hid (show w8.ownsRow wa.heap.size 32 2 _ (cdM f (es.take (k + 1))).length (flat (cast (cdM f (es.take (k + 1))))) by rw [Hst.out]; exact O8.out)
            go_wp2_with fail
            go_still_tail 10, (by kernel_rfl)
            change wpList _ _ _ _ _ w8.drew
            go_wp2_with fail
            go_roundw
            case rel => exact ⟨k + 1, by go_num, Hkm.out, own_drew2 O9.out, D8.out.drew⟩
            case measure => simp [intOf]; have := Hkm.out; omega
          · have tq : ((fx : Int) != (fy : Int)) = true := by simp; omega
            rw [if_pos hff] at Hst
            clear hff
            go_wp2_with fail
            go_still_tail 10, (by kernel_rfl)
            change wpList _ _ _ _ _ w8.drew
            go_wp2_with fail
            have T0 := Lib.hid (D8.out.drew.drew)
            have U0 := Lib.hid (own_drew2 (own_drew2 O8.out))
            have s0 : (fun w' : World => w'.cell? ⟨pe, 0, none⟩ = some (.int .i64 (x : Nat)) ∧ w'.cell? ⟨pe, 1, none⟩ = some (.int .i64 (y : Nat)) ∧ w'.cell? ⟨g, x, none⟩ = some (.int .i64 (fx : Nat)) ∧ w'.cell? ⟨g, y, none⟩ = some (.int .i64 (fy : Nat))) w8.drew.drew := ⟨d0, d1, p0, p1⟩
            refine Till.begin 13 (fun w' => w'.cell? ⟨pe, 0, none⟩ = some (.int .i64 (x : Nat)) ∧ w'.cell? ⟨pe, 1, none⟩ = some (.int .i64 (y : Nat)) ∧ w'.cell? ⟨g, x, none⟩ = some (.int .i64 (fx : Nat)) ∧ w'.cell? ⟨g, y, none⟩ = some (.int .i64 (fy : Nat))) (by kernel_rfl) s0 (fun hH => ?_)
            clear hH
            obtain ⟨V0, hV⟩ : ∃ V, w8.drew.drew = V := ⟨_, rfl⟩
            rw [hV] at s0 T0 U0 ⊢
            have hsz7 := T0.out.size
            clear hV
            try simp only at s0
            try simp only [List.setIfInBounds_toArray, List.set_cons_zero, List.set_cons_succ]
            refine Till.tL 0 [13] 66 (u12) s0 ?_
            try simp only [Act.put, List.setIfInBounds_toArray, List.set_cons_zero, List.set_cons_succ]
            refine Till.tL 1 [4, 5, 11, 12, 13] 67 (.slice (some ⟨g, 0, none⟩) n n) s0 ?_
            try simp only [Act.put, List.setIfInBounds_toArray, List.set_cons_zero, List.set_cons_succ]
            refine Till.tL 2 [3, 4, 5, 11, 12, 13] 68 (.pointer (some ⟨pe, 0, none⟩)) s0 ?_
            try simp only [Act.put, List.setIfInBounds_toArray, List.set_cons_zero, List.set_cons_succ]
            refine Till.tL 3 [4, 5, 11, 12, 13] 69 (.int .i64 (x : Nat)) s0 ?_
            try simp only [Act.put, List.setIfInBounds_toArray, List.set_cons_zero, List.set_cons_succ]
            refine Till.tL 4 [5, 11, 12, 13] 70 (.pointer (some ⟨g, x, none⟩)) s0 ?_
            try simp only [Act.put, List.setIfInBounds_toArray, List.set_cons_zero, List.set_cons_succ]
            refine Till.tL 5 [11, 12, 13] 71 (.int .i64 (fx : Nat)) s0 ?_
            try simp only [Act.put, List.setIfInBounds_toArray, List.set_cons_zero, List.set_cons_succ]
            refine Till.tL 6 [9, 10, 11, 12, 13] 72 (.slice (some ⟨g, 0, none⟩) n n) s0 ?_
            try simp only [Act.put, List.setIfInBounds_toArray, List.set_cons_zero, List.set_cons_succ]
            refine Till.tL 7 [8, 9, 10, 11, 12, 13] 73 (.pointer (some ⟨pe, 1, none⟩)) s0 ?_
            try simp only [Act.put, List.setIfInBounds_toArray, List.set_cons_zero, List.set_cons_succ]
            refine Till.tL 8 [9, 10, 11, 12, 13] 74 (.int .i64 (y : Nat)) s0 ?_
            try simp only [Act.put, List.setIfInBounds_toArray, List.set_cons_zero, List.set_cons_succ]
            refine Till.tL 9 [10, 11, 12, 13] 75 (.pointer (some ⟨g, y, none⟩)) s0 ?_
            try simp only [Act.put, List.setIfInBounds_toArray, List.set_cons_zero, List.set_cons_succ]
            refine Till.tL 10 [11, 12, 13] 76 (.int .i64 (fy : Nat)) s0 ?_
            try simp only [Act.put, List.setIfInBounds_toArray, List.set_cons_zero, List.set_cons_succ]
            refine Till.tL 11 [12, 13] 77 (.agg #[.int .i64 (fx : Nat), .int .i64 (fy : Nat)]) s0 ?_
            try simp only [Act.put, List.setIfInBounds_toArray, List.set_cons_zero, List.set_cons_succ]
            refine Till.one (i := 12) (by kernel_rfl) rfl (fun K hK => ?_)
            go_simp
            have s1 : (fun w' : World => w'.cell? ⟨pe, 0, none⟩ = some (.int .i64 (x : Nat)) ∧ w'.cell? ⟨pe, 1, none⟩ = some (.int .i64 (y : Nat)) ∧ w'.cell? ⟨g, x, none⟩ = some (.int .i64 (fx : Nat)) ∧ w'.cell? ⟨g, y, none⟩ = some (.int .i64 (fy : Nat))) (V0.alloc (.cells #[.int .i64 (fx : Nat), .int .i64 (fy : Nat)] 32)) := by
              have kx := (Below.refl V0.heap.size V0).alloc (Nat.le_refl _) (.cells #[.int .i64 (fx : Nat), .int .i64 (fy : Nat)] 32)
              simp only
              repeat' apply And.intro
              all_goals (first | exact (kx.cell (World.block_lt_of_cell? _ _ s0.1)).trans s0.1 | exact (kx.cell (World.block_lt_of_cell? _ _ s0.2)).trans s0.2 | exact (kx.cell (World.block_lt_of_cell? _ _ s0.2.1)).trans s0.2.1 | exact (kx.cell (World.block_lt_of_cell? _ _ s0.2.2)).trans s0.2.2 | exact (kx.cell (World.block_lt_of_cell? _ _ s0.2.2.1)).trans s0.2.2.1 | exact (kx.cell (World.block_lt_of_cell? _ _ s0.2.2.2)).trans s0.2.2.2)
            refine hK.out _ _ (fun _ => s1) ?_
            clear hK K
            try simp only [Act.put, List.setIfInBounds_toArray, List.set_cons_zero, List.set_cons_succ]
            refine Till.one (i := 13) (by kernel_rfl) rfl (fun K hK => ?_)
            have T1 := Lib.hid (T0.out.alloc hsz7 (.cells #[.int .i64 (fx : Nat), .int .i64 (fy : Nat)] 32))
            refine step_append_lies _ rfl (.tmp 66) (.tmp 78) 22 rfl wa.heap.size 32 i0 (.agg #[.int .i64 0, .int .i64 0]) 2 16 Tryd.underlying22 hi hz0 hz1 hz2 rfl (by decide) _ _ _ rfl (U0.out.alloc _) ⟨V0.heap.size, 0, none⟩ 1 1 [.int .i64 (fx : Nat), .int .i64 (fy : Nat)] rfl rfl ?c1 ?c2 (by decide) ?c3 ?c4 ?c5 (V0.heap.size + 1) (by simp) ?_
            case c1 =>
              intro k u hu
              match k, hu with
              | 0, hu => simp at hu; subst hu; simp [Addr.add, go_sem]
              | 1, hu => simp at hu; subst hu; simp [Addr.add, go_sem]
            case c2 => intro u hu; simp at hu; rcases hu with rfl | rfl <;> rfl
            case c3 => unfold maxLen; have := Hlb.out; omega
            case c4 => have := Hlb.out; omega
            case c5 => simp; omega
            intro gg cap w8' hown' hgrow _ _
            have T2 := Lib.hid (T1.out.grown hgrow (by simp; omega) (fun k hk => own_ge U0.out hk))
            have O9 := Lib.hid (show w8'.ownsRow wa.heap.size 32 2 (.slice (some ⟨gg, 0, none⟩) ((cdM f (es.take k)).length + 1) cap) (cdM f (es.take (k + 1))).length (flat (cast (cdM f (es.take (k + 1))))) by
              rw [Hst.out, List.length_append, cast_snoc, flat_snoc]; exact hown')
            clear hown' hgrow
            refine hK.out _ _ (fun h => absurd h (by decide)) ?_
            clear hK K
            try simp only [Act.put, List.setIfInBounds_toArray]
            refine Till.one (i := 14) (by kernel_rfl) rfl (fun K hK => ?_)
            go_simp
            refine hK.out _ _ (fun h => absurd h (by decide)) ?_
            clear hK K
            refine Till.done (by kernel_rfl) ?_ _
            try simp only [Exit.then]
            go_wp2_with fail
            go_roundw
            case rel => exact ⟨k + 1, by go_num, Hkm.out, O9.out, T2.out⟩
            case measure => simp [intOf]; have := Hkm.out; omega
        · have hkm2 : es.take k = es := List.take_of_length_le (by rw [Hlen.out]; omega)
          have hnk : ¬ ((k : Int) < (m : Int)) := by omega
          have Of := O7.out
          rw [hkm2, Hcdq.out] at Of
          have hll := cdM_len f es
          rw [Hcdq.out] at hll
          have hcl : (cast cd).length = cd.length := cast_len _
          rw [← hcl] at Of
          obtain ⟨B, cB, hv, hE, hBb⟩ := own_pairs Of
          rw [hcl] at hv hE
          subst hv
          have HMk := Lib.hid (make_ok out.length B cd.length cB cd wb hE (by have := Hlen.out; omega) Hcd.out hol)
          have F7 := Lib.hid (F6.out.keep D7.out)
          have X7 := Lib.hid (X6.out.keep D7.out)
          have hgx : g ≠ w.heap.size + 1 := by have := Hg.out; omega
          clear hkm2 Of hE hBb hcl hll
          go_wp2_with fail
          refine HMk.out.mono ?_
          rintro e w9 ⟨⟨B9, c9, rfl, hE, hBb⟩, hb9⟩
          have Bw9 := below_on Bx.out hb9
          have b10 := (Below.refl w9.heap.size w9).alloc (Nat.le_refl _) (.cells #[.int .i64 (out.length : Nat), .slice B9 (makeL out.length cd).length c9] 26)
          have hE10 := hE.keep b10
          have X10 := (X7.out.keep hb9).keep b10
          have F10 := (F7.out.keep hb9).keep b10
          have Z10 := Lib.hid (Cells.new w9 #[.int .i64 (out.length : Nat), .slice B9 (makeL out.length cd).length c9] 26)
          have Bw10 := below_on Bw9 b10
          obtain ⟨w10, hw10⟩ : ∃ u, w9.alloc (.cells #[.int .i64 (out.length : Nat), .slice B9 (makeL out.length cd).length c9] 26) = u := ⟨_, rfl⟩
          rw [hw10] at hE10 X10 F10 Z10 Bw10
          have z0 := Z10.out.at_ 0
          have z1 := Z10.out.at_ 1
          have x0 := X10.at_ 0
          have x1 := X10.at_ 1
          have f0 := X10.fz 0
          have f1 := X10.fz 1
          simp only [List.getElem?_cons_zero, List.getElem?_cons_succ] at x0 x1 z0 z1
          have X11 := Lib.hid ((X10.set 0 (.int .i64 (out.length : Nat)) (by simp)).set 1 (.slice B9 (makeL out.length cd).length c9) (by simp))
          have F11 := Lib.hid (numsN_il ((F10.other hgx 0 (.int .i64 (out.length : Nat))).other hgx 1 (.slice B9 (makeL out.length cd).length c9)))
          have B11 := Lib.hid ((Bw10.setCell (p := ⟨w.heap.size + 1, 0, none⟩) (by simp) (.int .i64 (out.length : Nat))).setCell (p := ⟨w.heap.size + 1, 1, none⟩) (by simp) (.slice B9 (makeL out.length cd).length c9))
          have E11 := Lib.hid (el_sets2 (q := w.heap.size + 1) hE10 (fun b o hb => (hBb b o hb).imp (fun h1 => by have := Hg.out; omega) (fun h1 => by rw [h1]; rfl)) (.int .i64 (out.length : Nat)) (.slice B9 (makeL out.length cd).length c9))
          clear hE hBb hb9 b10 hE10 X10 F10 Bw10 Bw9
          go_wp2_with fail
          exact bodyPost_ret (ret_graph3 rfl _ _ (w.heap.size + 1) _ _ rfl X11.out) rfl ⟨⟨B9, c9, g, rfl, E11.out, F11.out⟩, B11.out⟩
theorem condC_any (n : Nat) (A : Option Addr) (m c : Nat) (es : List (Nat × Nat)) (w : World) (h : EL w A m (cast es)) (hg : Fine n es) (hw : Good w) :
    Calls Tryd.prog 29 #[gV n A m c] w (CndPost n (clsM n es).length (ofN n es) (cdE n es) w) := by
  obtain ⟨out, hout, h64, _, hcl⟩ := comp_ok hg.low hg.n64
  have hl : out.length = (clsM n es).length := by rw [← hcl, List.length_map]
  rw [← hl]
  have hn := hg.n64
  have := cls_len n es
  exact condense_any n A m c es out (clsM n es) w h hg hout h64 hcl (by omega) (fun l hl => cls_in hl) (ofN n es) (by rw [hl]; rfl) (cdE n es) rfl (by rw [hl]; exact cd_low hg.low hn) hw
end Go.Proofs.YthocdmlacfejkaaDoor
