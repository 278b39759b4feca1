/- The reference's Make. -/
import Derived.Test.YthocdmlacfejkaaDoorMak
import Derived.Test.YthocdmlacfejkaaDoorInd
namespace Go.Proofs.YthocdmlacfejkaaDoor
open Go.RowKit
theorem ret_refg {fn : Func} {p u : Tmp} (hf : fn.results = #[.cell p 35, .tmp u]) (tmps : Array Value) (w : World) (g : Nat) (x y : Value) (hp : tmps.getD p undef = .pointer (some ⟨g, 0, none⟩)) (h : Cells w g [x, y]) :
    (results fn tmps).run Tryd.prog w = .ok (.tuple #[.agg #[x, y], tmps.getD u undef]) w := by
  rw [results_cell_tmp hf, hp]
  simp [asAddr, load_ref w g x y h]
def rowM (_n : Nat) (es : List (Nat × Nat)) (a j : Nat) : List (Nat × Nat) := ((List.range j).filter (hasE es a)).map fun b => (a, b)
/-- The edges from the nodes below a, and those from a to the nodes below j. -/
def parM (n : Nat) (es : List (Nat × Nat)) (a j : Nat) : List (Nat × Nat) := ((List.range a).flatMap fun a => rowM n es a n) ++ rowM n es a j
theorem parM_step (n : Nat) (es : List (Nat × Nat)) (a j : Nat) : parM n es a (j + 1) = parM n es a j ++ if hasE es a j then [(a, j)] else [] := by
  unfold parM rowM
  rw [reach_up, List.map_append, List.append_assoc]
  cases hasE es a j <;> rfl
theorem parM_next (n : Nat) (es : List (Nat × Nat)) (a : Nat) : parM n es (a + 1) 0 = parM n es a n := by
  unfold parM
  rw [List.range_succ, List.flatMap_append]
  simp [rowM]
theorem parM_end (n : Nat) (es : List (Nat × Nat)) : parM n es n 0 = makeL n es := by
  unfold parM makeL
  simp [rowM]
theorem parM_len (n : Nat) (es : List (Nat × Nat)) (a j : Nat) : (parM n es a j).length ≤ a * n + j := by
  unfold parM
  rw [List.length_append]
  have h1 : ∀ l : List Nat, (l.flatMap fun a => rowM n es a n).length ≤ l.length * n := by
    intro l
    induction l with
    | nil => simp
    | cons a l ih =>
      rw [List.flatMap_cons, List.length_append, List.length_cons, Nat.add_mul]
      have h2 : (rowM n es a n).length ≤ n := by
        unfold rowM
        rw [List.length_map]
        have := List.length_filter_le (hasE es a) (List.range n)
        rwa [List.length_range] at this
      omega
  have h3 := h1 (List.range a)
  rw [List.length_range] at h3
  have h4 : (rowM n es a j).length ≤ j := by
    unfold rowM
    rw [List.length_map]
    have := List.length_filter_le (hasE es a) (List.range j)
    rwa [List.length_range] at this
  omega
set_option maxRecDepth 100000 in
set_option maxHeartbeats 8000000 in
theorem refMake_ok (k : Nat) (A : Option Addr) (m c : Nat) (l : List (Nat × Nat)) (w : World) (h : EL w A m (cast l)) (hm : m ≤ 100000) (hl : Low k l) (hk : k ≤ 64) :
    Calls Tryd.prog 18 #[.int .i64 (k : Nat), .slice A m c] w (MakPost k l w) := by
  have kv := (Below.refl w.heap.size w).alloc (Nat.le_refl _) (.cells #[.int .i64 0, .slice none 0 0] 35)
  have X0 := Lib.hid (Cells.new w #[.int .i64 0, .slice none 0 0] 35)
  have HE := inside_any (k : Int) A m c (cast l) (w.alloc (.cells #[.int .i64 0, .slice none 0 0] 35)) (h.keep kv) (by omega)
  have hall : (cast l).all (okE k) = true := by
    have := edges_cast hl
    unfold edgesE at this
    cases e : (cast l).all (okE k) with
    | true => rfl
    | false => rw [e] at this; simp at this
  rw [hall] at HE
  have HE := Lib.hid HE
  have t0 : decide ((k : Int) < 0) = false := decide_eq_false (by omega)
  have t1 : decide ((64 : Int) < (k : Int)) = false := decide_eq_false (by omega)
  obtain ⟨i0, hi, hz0, hz1, hz2⟩ := info_parts info_pair
  have k3 := (kv.alloc (by simp) (.cells #[.int .i64 (k : Nat), .slice A m c] 35)).alloc (by simp; omega) (.cells #[.int .i64 (k : Nat), .slice none 0 0] 35)
  have X0 := X0.out
  have X1 := X0.keep ((Below.refl _ _).alloc (Nat.le_refl _) (.cells #[.int .i64 (k : Nat), .slice A m c] 35))
  have X3 := X1.keep ((Below.refl _ _).alloc (Nat.le_refl _) (.cells #[.int .i64 (k : Nat), .slice none 0 0] 35))
  have Y1 := Cells.new (w.alloc (.cells #[.int .i64 0, .slice none 0 0] 35)) #[.int .i64 (k : Nat), .slice A m c] 35
  have Y3 := Y1.keep ((Below.refl _ _).alloc (Nat.le_refl _) (.cells #[.int .i64 (k : Nat), .slice none 0 0] 35))
  have Z3 := Cells.new ((w.alloc (.cells #[.int .i64 0, .slice none 0 0] 35)).alloc (.cells #[.int .i64 (k : Nat), .slice A m c] 35)) #[.int .i64 (k : Nat), .slice none 0 0] 35
  simp only [World.size_alloc] at Y3 Z3
  have HH := Lib.hid (fun w' x y (hb : Below w.heap.size w w') => has_edge k A m c l x y w' (h.keep hb) (by omega))
  clear h hl kv hall X0 X1 Y1
  go_enter Tryd.func18, Tryd.ntmps18
  go_wp2_with fail
  refine HE.out.mono ?_
  rintro e w1 ⟨rfl, rfl⟩
  have Xa := Lib.hid X3
  have Ya := Lib.hid Y3
  have Za := Lib.hid Z3
  have Ka := Lib.hid k3
  clear k3 X3 Y3 Z3
  go_wp2_with fail
  have xb := Xa.out
  have yb := Ya.out
  have zb := Za.out
  have kb := Ka.out
  obtain ⟨w3, hw3⟩ : ∃ u, ((w.alloc (.cells #[.int .i64 0, .slice none 0 0] 35)).alloc (.cells #[.int .i64 (k : Nat), .slice A m c] 35)).alloc (.cells #[.int .i64 (k : Nat), .slice none 0 0] 35) = u := ⟨_, rfl⟩
  obtain ⟨p, hp⟩ : ∃ p, w.heap.size + 1 + 1 = p := ⟨_, rfl⟩
  rw [hw3] at kb xb yb zb
  rw [hp] at zb
  rw [hw3, hp]
  have K3 := Lib.hid kb
  have X3 := Lib.hid xb
  have Y3 := Lib.hid yb
  have Z3 := Lib.hid zb
  have Hp := Lib.hid hp
  clear kb xb yb zb Xa Ya Za Ka
  clear hw3 hp
  go_loopw [8, 9] (fun av _ wr => ∃ (a : Nat) (v : Value), av = .int .i64 (a : Nat) ∧ a ≤ k ∧ Cells wr p [.int .i64 (k : Nat), v] ∧ wr.ownsRow (p + 1) 55 2 v (parM k l a 0).length (flat (cast (parM k l a 0))) ∧ Below p w3 wr) (fun av _ _ => k - (intOf av).toNat)
  case atStart => exact ⟨0, _, rfl, Nat.zero_le _, Z3.out, World.ownsRow_nil _ _ _ _, Below.refl _ _⟩
  case round =>
    obtain ⟨a, v, rfl, ha, hz, hown, hb⟩ := hrel
    have Z6 := Lib.hid hz
    have O6 := Lib.hid hown
    have B6 := Lib.hid hb
    clear hz hown hb
    obtain ⟨wa, rfl⟩ : ∃ wa : World, wa = wr := ⟨_, rfl⟩
    by_cases hlt : a < k
    · have Hlt := Lib.hid hlt
      have hak : a * k ≤ 64 * 64 := Nat.mul_le_mul (by omega) (by omega)
      go_wp2_with fail
      clear hlt
      go_loopw [9] (fun jv wr => ∃ (j : Nat) (v : Value), jv = .int .i64 (j : Nat) ∧ j ≤ k ∧ Cells wr p [.int .i64 (k : Nat), v] ∧ wr.ownsRow (p + 1) 55 2 v (parM k l a j).length (flat (cast (parM k l a j))) ∧ Below p w3 wr) (fun jv _ => k - (intOf jv).toNat)
      case atStart => exact ⟨0, v, rfl, Nat.zero_le _, Z6.out, O6.out, B6.out⟩
      case round =>
        obtain ⟨j, v7, rfl, hj, hz, hown, hb⟩ := hrel
        have Z7 := Lib.hid hz
        have O7 := Lib.hid hown
        have B7 := Lib.hid hb
        have hpl := Z7.out.lt
        clear hz hown hb
        obtain ⟨wb, rfl⟩ : ∃ wb : World, wb = wr := ⟨_, rfl⟩
        by_cases hjk : j < k
        · have Hjk := Lib.hid hjk
          have Hst := Lib.hid (parM_step k l a j)
          have hpm := parM_len k l a j
          have y0 := (Y3.out.keepB B7.out (by have := Hp.out; omega)).at_ 0
          have y1 := (Y3.out.keepB B7.out (by have := Hp.out; omega)).at_ 1
          simp only [List.getElem?_cons_zero, List.getElem?_cons_succ] at y0 y1
          have HHk := HH.out wb a j (K3.out.trans (B7.out.mono (by have := Hp.out; omega)))
          obtain ⟨hh, hhe⟩ : ∃ hh, hasE l a j = hh := ⟨_, rfl⟩
          rw [hhe] at HHk Hst
          have HHk := Lib.hid HHk
          clear hhe
          go_wp2_with fail
          refine HHk.out.mono ?_
          rintro e w8 ⟨rfl, hb8⟩
          have Z8 := Lib.hid (Z7.out.keep hb8)
          have O8 := Lib.hid (World.ownsRow.kept O7.out (row := none) ⟨hb8.os, hb8.tape, hb8.output, hb8.size, fun k hk _ => hb8.block k hk⟩ (by cases Value.ownBlock _ <;> simp))
          have B8 := Lib.hid (B7.out.trans (hb8.mono (by omega)))
          have hs8 := hb8.size
          clear hb8 y0 y1
          cases hh with
          | false =>
            rw [if_neg (by simp), List.append_nil] at Hst
            have O9 := Lib.hid (show w8.ownsRow (p + 1) 55 2 v7 (parM k l a (j + 1)).length (flat (cast (parM k l a (j + 1)))) by rw [Hst.out]; exact O8.out)
            go_wp2_with fail
            go_roundw
            case rel => exact ⟨j + 1, v7, by go_num, Hjk.out, Z8.out, O9.out, B8.out⟩
            case measure => simp [intOf]; have := Hjk.out; omega
          | true =>
            rw [if_pos rfl] at Hst
            have z0 := Z8.out.at_ 0
            have z1 := Z8.out.at_ 1
            simp only [List.getElem?_cons_zero, List.getElem?_cons_succ] at z0 z1
            have hp8 : p + 1 ≤ w8.heap.size := by omega
            go_wp2_with (at_builtin; refine wpList_append_own_wide _ rfl (.tmp 43) (.tmp 47) 33 rfl (p + 1) 55 i0 (.agg #[.int .i64 0, .int .i64 0]) 2 16 Tryd.underlying33 hi hz0 hz1 hz2 rfl (by decide) _ _ _ rfl (O8.out.alloc _) ⟨w8.heap.size, 0, none⟩ 1 1 [.int .i64 (a : Int), .int .i64 (j : Int)] rfl rfl ?c1 ?c2 ?c3 ?c4 ?c5 ?_)
            case c1 =>
              intro k u hu
              match k, hu with
              | 0, hu => simp at hu; subst hu; simp [Addr.add, go_sem]
              | 1, hu => simp at hu; subst hu; simp [Addr.add, go_sem]
            case c2 => intro u hu; simp at hu; rcases hu with rfl | rfl <;> rfl
            case c3 => unfold maxLen; omega
            case c4 => omega
            case c5 => simp; omega
            intro v' w9 hown' hgrow _
            have b9 := ((Below.refl (p + 1) w8).alloc hp8 (.cells #[.int .i64 (a : Int), .int .i64 (j : Int)] 55)).grown hgrow (by simp; omega) (fun k hk => own_ge O8.out hk)
            have Z9 := Z8.out.keepB b9 (Nat.lt_succ_self p)
            have x1 := Z9.at_ 1
            have f1 := Z9.fz 1
            simp only [List.getElem?_cons_zero, List.getElem?_cons_succ] at x1
            have Z10 := Lib.hid (Z9.set 1 v' (by simp))
            have O9 : w9.ownsRow (p + 1) 55 2 v' (parM k l a (j + 1)).length (flat (cast (parM k l a (j + 1)))) := by
              rw [Hst.out, List.length_append, cast_snoc, flat_snoc]; exact hown'
            have O10 := Lib.hid (ownsRow_setCell_below O9 (a := ⟨p, 1, none⟩) (Nat.lt_succ_self p) v')
            have B10 := Lib.hid ((B8.out.trans (b9.mono (Nat.le_succ p))).setCell (p := ⟨p, 1, none⟩) (Nat.le_refl _) v')
            obtain ⟨A9, c9, hv9, _, _⟩ := own_pairs (es := cast (parM k l a (j + 1))) (by rw [cast_len]; exact O9)
            rw [cast_len] at hv9
            subst hv9
            clear hown' hgrow b9 Z9 O9
            go_wp2_with fail
            go_roundw
            case rel => exact ⟨j + 1, _, by go_num, Hjk.out, Z10.out, O10.out, B10.out⟩
            case measure => simp [intOf]; have := Hjk.out; omega
        · have hjk' : j = k := by omega
          subst hjk'
          have Hnx := Lib.hid (parM_next j l a)
          have O8 := Lib.hid (show wb.ownsRow (p + 1) 55 2 v7 (parM j l (a + 1) 0).length (flat (cast (parM j l (a + 1) 0))) by rw [Hnx.out]; exact O7.out)
          go_wp2_with fail
          go_roundw
          case rel => exact ⟨a + 1, v7, by go_num, Hlt.out, Z7.out, O8.out, B7.out⟩
          case measure => simp [intOf]; have := Hlt.out; omega
    · have hak : a = k := by omega
      subst hak
      have Hend := Lib.hid (parM_end a l)
      have Of := O6.out
      rw [Hend.out] at Of
      have hcl : (cast (makeL a l)).length = (makeL a l).length := cast_len _
      rw [← hcl] at Of
      obtain ⟨B, cB, hv, hE, hBb⟩ := own_pairs Of
      rw [hcl] at hv hE
      subst hv
      have X6 := X3.out.keepB B6.out (show w.heap.size < p by have := Hp.out; omega)
      have z0 := Z6.out.at_ 0
      have z1 := Z6.out.at_ 1
      have x0 := X6.at_ 0
      have x1 := X6.at_ 1
      have f0 := X6.fz 0
      have f1 := X6.fz 1
      simp only [List.getElem?_cons_zero, List.getElem?_cons_succ] at z0 z1 x0 x1
      have HBn := fun b o (hb : B = some ⟨b, o, none⟩) => (show b ≠ w.heap.size from fun hh => by have := hBb b o hb; have := Hp.out; omega)
      have X7 := Lib.hid ((X6.set 0 (.int .i64 (a : Nat)) (by simp)).set 1 (.slice B (makeL a l).length cB) (by simp))
      have E7 := Lib.hid ((hE.other HBn 0 (.int .i64 (a : Nat))).other HBn 1 (.slice B (makeL a l).length cB))
      have Bf := K3.out.trans (B6.out.mono (by have := Hp.out; omega))
      have B7 := Lib.hid ((Bf.setCell (p := ⟨w.heap.size, 0, none⟩) (by simp) (.int .i64 (a : Nat))).setCell (p := ⟨w.heap.size, 1, none⟩) (by simp) (.slice B (makeL a l).length cB))
      have HB7 := Lib.hid (show ∀ b o, B = some ⟨b, o, none⟩ → w.heap.size ≤ b ∨ makeL a l = [] from fun b o hb => .inl (by have := hBb b o hb; have := Hp.out; omega))
      clear hcl hE hBb Of X6 Bf
      go_wp2_with fail
      exact bodyPost_ret (ret_refg rfl _ _ w.heap.size _ _ rfl X7.out) rfl ⟨⟨B, cB, rfl, E7.out, HB7.out⟩, B7.out⟩
end Go.Proofs.YthocdmlacfejkaaDoor
