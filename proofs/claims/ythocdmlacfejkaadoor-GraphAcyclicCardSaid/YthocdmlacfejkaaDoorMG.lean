/- Graph: Rch, Clo, Clu, Clr. -/
import Derived.Test.YthocdmlacfejkaaDoorME
import Derived.Test.YthocdmlacfejkaaDoorMD
namespace Go.Proofs.YthocdmlacfejkaaDoor
open Go.RowKit
def RchPost (n : Nat) (es : List (Nat × Nat)) (l : List Int) (w : World) (e : Ending) (w' : World) : Prop :=
  ((errN n l ≠ 0 ∧ e = .returned (.tuple #[.slice none 0 0, .int .i64 (errN n l)])) ∨ (errN n l = 0 ∧ ∃ v, e = .returned (.tuple #[v, .int .i64 0]) ∧ w'.ownsRow w.heap.size 3 1 v (bitsOf (lev (adj es) (setI l) 64)).length (nats (bitsOf (lev (adj es) (setI l) 64))))) ∧ Below w.heap.size w w'
theorem setI_under {n : Nat} {l : List Int} (hn : n ≤ 64) (h : errN n l = 0) : setI l < 18446744073709551616 := by
  unfold errN at h
  by_cases h1 : l.all (inN n) = true
  · exact setI_lt (all_mono hn h1)
  · simp [h1] at h
set_option maxRecDepth 100000 in
set_option maxHeartbeats 8000000 in
theorem reachG_any (n : Nat) (A : Option Addr) (m c : Nat) (es : List (Nat × Nat)) (B : Option Addr) (d : Nat) (l : List Int) (w : World) (h : EL w A m (cast es)) (hg : Fine n es) (hl : IL w B l) (hll : l.length ≤ 1000000) (hw : Good w) :
    Calls Tryd.prog 33 #[gV n A m c, .slice B l.length d] w (RchPost n es l w) := by
  have hlen := h.len
  have hm : m ≤ 4096 := by have := hg.len; omega
  have hn64 := hg.n64
  have HL : ∀ i, Under 64 (adj es i) := fun i => adj_under hg.low64 i
  have kv := (Below.refl w.heap.size w).alloc (Nat.le_refl _) (.cells #[.int .i64 (n : Nat), .slice A m c] 26)
  have G0 := Lib.hid (Cells.new w #[.int .i64 (n : Nat), .slice A m c] 26)
  have HC := Lib.hid (checkNodes_any n A m c es B d l _ (h.keep kv) hg (hl.keep kv) hll)
  have HG := Lib.hid (fun w' (hb' : Below w.heap.size w w') => hw.below hb' hw.size)
  have HN := Lib.hid (fun w' (hb' : Below w.heap.size w w') => next_any n A m c es w' (h.keep hb') hg.low64 hm)
  have HL := Lib.hid HL
  have Hs := Lib.hid (fun h0 => setI_under hn64 (l := l) h0)
  have kv := Lib.hid kv
  clear h hg hw hlen hl hll
  go_enter Tryd.func33, Tryd.ntmps33
  go_wp2_with fail
  refine HC.out.mono ?_
  rintro e w1 ⟨hc, hb1⟩
  have G1 := Lib.hid (G0.out.keep hb1)
  have B1 := Lib.hid (below_on kv.out hb1)
  have g0 := G1.out.at_ 0
  have g1 := G1.out.at_ 1
  simp only [List.getElem?_cons_zero, List.getElem?_cons_succ] at g0 g1
  clear hb1
  rcases hc with ⟨hne, rfl⟩ | ⟨h0, rfl⟩
  · have Hne := Lib.hid hne
    obtain ⟨er, her⟩ : ∃ er, errN n l = er := ⟨_, rfl⟩
    rw [her] at hne ⊢
    have t0 : (er != 0) = true := by simpa using hne
    have Her := Lib.hid her
    clear hne her
    go_wp2_with fail
    go_ret2
    exact ⟨.inl ⟨Hne.out, by rw [Her.out]; rfl⟩, B1.out⟩
  · have hs64 := Hs.out h0
    have H0 := Lib.hid h0
    clear h0
    go_wp2_with fail
    refine (HN.out _ B1.out).mono ?_
    rintro e w2 ⟨p, rfl, hp, hps, hb2⟩
    have B2 := Lib.hid (below_on B1.out hb2)
    have HR := Lib.hid (reach_any p (adj es) (setI l) w2 hp HL.out hs64 (HG.out _ B2.out))
    clear hp hps hb2 g0 g1
    go_wp2_with fail
    refine HR.out.mono ?_
    rintro e w3 ⟨rfl, hb3⟩
    have B3 := Lib.hid (below_on B2.out hb3)
    have HLs := Lib.hid (list_any (lev (adj es) (setI l) 64) w3 (under_lt (lev_under HL.out (lt_under (k := 64) hs64) 64)) (HG.out _ B3.out))
    clear hb3
    go_wp2_with fail
    refine HLs.out.mono ?_
    rintro e w4 ⟨v, rfl, hown, hb4⟩
    have B4 := Lib.hid (below_on B3.out hb4)
    have O4 := Lib.hid (own_down' hown B3.out.size)
    clear hown hb4
    go_wp2_with fail
    go_ret2
    exact ⟨.inr ⟨H0.out, v, rfl, O4.out⟩, B4.out⟩
end Go.Proofs.YthocdmlacfejkaaDoor
namespace Go.Proofs.YthocdmlacfejkaaDoor
open Go.RowKit
def outE (s : Nat) (e : Nat × Nat) : Bool := s.testBit e.1 && !s.testBit e.2
set_option maxRecDepth 100000 in
set_option maxHeartbeats 8000000 in
theorem closed1_any (s x y p : Nat) (w : World) (hs : s < 18446744073709551616) (hx : x < 64) (hy : y < 64) (hp : w.cell? ⟨p, 0, none⟩ = some (.int .u64 (s : Nat))) :
    Calls Tryd.prog 90 #[.agg #[.int .i64 (x : Nat), .int .i64 (y : Nat)], .pointer (some ⟨p, 0, none⟩)] w fun e w' => e = .returned (.bool (outE s (x, y))) ∧ Below w.heap.size w w' := by
  have kv := (Below.refl w.heap.size w).alloc (Nat.le_refl _) (.cells #[.int .i64 (x : Nat), .int .i64 (y : Nat)] 32)
  have hp2 := (kv.cell (p := ⟨p, 0, none⟩) (by
    rcases Nat.lt_or_ge p w.heap.size with h1 | h1
    · exact h1
    · simp [World.cell?, Array.getElem?_eq_none h1] at hp)).trans hp
  have kv := Lib.hid kv
  have H1 := Lib.hid (fun w' => has_any s x w' hx hs)
  have H2 := Lib.hid (fun w' => has_any s y w' hy hs)
  rw [show outE s (x, y) = (s.testBit x && !s.testBit y) from rfl]
  obtain ⟨b1, h1⟩ : ∃ b1, s.testBit x = b1 := ⟨_, rfl⟩
  obtain ⟨b2, h2⟩ : ∃ b2, s.testBit y = b2 := ⟨_, rfl⟩
  rw [h1] at H1 ⊢
  rw [h2] at H2 ⊢
  clear hp h1 h2
  go_enter Tryd.func90, Tryd.ntmps90
  go_wp2_with fail
  refine (H1.out _).mono ?_
  rintro e w1 ⟨rfl, rfl⟩
  cases b1
  · go_wp2_with fail
    go_ret
    exact ⟨rfl, kv.out⟩
  · go_wp2_with fail
    refine (H2.out _).mono ?_
    rintro e w1 ⟨rfl, rfl⟩
    go_wp2_with fail
    go_ret
    exact ⟨by simp, kv.out⟩
def EdxPost (es : List (Nat × Nat)) (del : Nat × Nat → Bool) (w : World) (e : Ending) (w' : World) : Prop :=
  ((es.any del = false ∧ e = .returned (.int .i64 (-1))) ∨ ∃ k : Nat, es.any del = true ∧ e = .returned (.int .i64 (k : Nat))) ∧ Below w.heap.size w w'
set_option maxRecDepth 100000 in
set_option maxHeartbeats 8000000 in
theorem edx_any (A : Option Addr) (m c : Nat) (es : List (Nat × Nat)) (del : Nat × Nat → Bool) (y : Value) (w : World) (h : EL w A m (cast es)) (hm : m ≤ 4096)
    (hF : ∀ w' e, e ∈ es → Below w.heap.size w w' → Calls Tryd.prog 90 #[.agg #[.int .i64 (e.1 : Nat), .int .i64 (e.2 : Nat)], y] w' fun r w2 => r = .returned (.bool (del e)) ∧ Below w'.heap.size w' w2) :
    Calls Tryd.prog 104 #[.slice A m c, .func (.func 90) #[] #[y]] w (EdxPost es del w) := by
  have hel := h.len
  have E0 := Lib.hid h
  have HF := Lib.hid hF
  clear h hF
  go_enter Tryd.func104, Tryd.ntmps104
  go_wp2_with fail
  go_loopw [8] (fun i wr => ∃ j : Nat, i = .int .i64 (j : Nat) ∧ j ≤ m ∧ (es.take j).any del = false ∧ Below w.heap.size w wr) (fun i _ => m - (intOf i).toNat)
  case atStart => exact ⟨0, rfl, Nat.zero_le _, rfl, Below.refl _ _⟩
  case round =>
    obtain ⟨j, rfl, hj, hall, hb⟩ := hrel
    have Hall := Lib.hid hall
    have B6 := Lib.hid hb
    have E6 := Lib.hid (E0.out.keep hb)
    clear hall hb
    obtain ⟨wa, rfl⟩ : ∃ wa : World, wa = wr := ⟨_, rfl⟩
    by_cases hlt : j < m
    · obtain ⟨e0, b, o, he, rfl, _, c0, c1⟩ := E6.out.at_ hlt
      obtain ⟨x, z, hx, rfl⟩ := cast_at he
      simp only at c0 c1
      have Hlt := Lib.hid hlt
      have Hx := Lib.hid hx
      have HFx := HF.out wa (x, z) (List.mem_of_getElem? hx) B6.out
      obtain ⟨bx, hbx⟩ : ∃ bx, del (x, z) = bx := ⟨_, rfl⟩
      rw [hbx] at HFx
      simp only at HFx
      have HFx := Lib.hid HFx
      have Hb := Lib.hid hbx
      have Hs := Lib.hid (show es.take (j + 1) = es.take j ++ [(x, z)] by rw [List.take_add_one, hx]; rfl)
      clear hx hbx he
      go_wp2_with fail
      refine HFx.out.mono ?_
      rintro e w7 ⟨rfl, hb7⟩
      have B7 := Lib.hid (below_on B6.out hb7)
      clear hb7
      cases bx
      · go_wp2_with fail
        go_roundw
        case rel => exact ⟨j + 1, by go_num, Hlt.out, by rw [Hs.out, List.any_append, Hall.out]; simp [Hb.out], B7.out⟩
        case measure => simp [intOf]; have := Hlt.out; omega
      · go_wp2_with fail
        go_ret
        exact ⟨.inr ⟨j, List.any_eq_true.2 ⟨(x, z), List.mem_of_getElem? Hx.out, Hb.out⟩, rfl⟩, B7.out⟩
    · have hjl : es.take j = es := List.take_of_length_le (by omega)
      rw [hjl] at Hall
      clear hjl
      go_wp2_with fail
      go_ret
      exact ⟨.inl ⟨Hall.out, rfl⟩, B6.out⟩
set_option maxRecDepth 100000 in
set_option maxHeartbeats 8000000 in
theorem contains_any (A : Option Addr) (m c : Nat) (es : List (Nat × Nat)) (del : Nat × Nat → Bool) (y : Value) (w : World) (h : EL w A m (cast es)) (hm : m ≤ 4096)
    (hF : ∀ w' e, e ∈ es → Below w.heap.size w w' → Calls Tryd.prog 90 #[.agg #[.int .i64 (e.1 : Nat), .int .i64 (e.2 : Nat)], y] w' fun r w2 => r = .returned (.bool (del e)) ∧ Below w'.heap.size w' w2) :
    Calls Tryd.prog 65 #[.slice A m c, .func (.func 90) #[] #[y]] w fun e w' => e = .returned (.bool (es.any del)) ∧ Below w.heap.size w w' := by
  have HI := Lib.hid (edx_any A m c es del y w h hm hF)
  clear h hF
  go_enter Tryd.func65, Tryd.ntmps65
  go_wp2_with fail
  refine HI.out.mono ?_
  rintro e w1 ⟨hc, hb1⟩
  have B1 := Lib.hid hb1
  clear hb1
  rcases hc with ⟨ha, rfl⟩ | ⟨k, ha, rfl⟩
  · have Ha := Lib.hid ha
    clear ha
    go_wp2_with fail
    go_ret
    exact ⟨by rw [Ha.out]; rfl, B1.out⟩
  · have Ha := Lib.hid ha
    have t0 : decide ((0 : Int) ≤ (k : Int)) = true := decide_eq_true (by omega)
    clear ha
    go_wp2_with fail
    go_ret
    exact ⟨by rw [Ha.out]; simp, B1.out⟩
def CloPost (n : Nat) (es : List (Nat × Nat)) (l : List Int) (w : World) (e : Ending) (w' : World) : Prop :=
  ((errN n l ≠ 0 ∧ e = .returned (.tuple #[.bool false, .int .i64 (errN n l)])) ∨ (errN n l = 0 ∧ e = .returned (.tuple #[.bool (!es.any (outE (setI l))), .int .i64 0]))) ∧ Below w.heap.size w w'
set_option maxRecDepth 100000 in
set_option maxHeartbeats 8000000 in
theorem closedG_any (n : Nat) (A : Option Addr) (m c : Nat) (es : List (Nat × Nat)) (B : Option Addr) (d : Nat) (l : List Int) (w : World) (h : EL w A m (cast es)) (hg : Fine n es) (hl : IL w B l) (hll : l.length ≤ 1000000) :
    Calls Tryd.prog 35 #[gV n A m c, .slice B l.length d] w (CloPost n es l w) := by
  have hlen := h.len
  have hm : m ≤ 4096 := by have := hg.len; omega
  have hn64 := hg.n64
  have HLow := hg.low64
  have kv := (Below.refl w.heap.size w).alloc (Nat.le_refl _) (.cells #[.int .i64 (n : Nat), .slice A m c] 26)
  have G0 := Lib.hid (Cells.new w #[.int .i64 (n : Nat), .slice A m c] 26)
  have HC := Lib.hid (checkNodes_any n A m c es B d l _ (h.keep kv) hg (hl.keep kv) hll)
  have HE := Lib.hid (fun w' (hb' : Below w.heap.size w w') => h.keep hb')
  have Hs := Lib.hid (fun h0 => setI_under hn64 (l := l) h0)
  have HLow := Lib.hid HLow
  have kv := Lib.hid kv
  clear h hg hlen hl hll
  go_enter Tryd.func35, Tryd.ntmps35
  go_wp2_with fail
  refine HC.out.mono ?_
  rintro e w1 ⟨hc, hb1⟩
  have B1 := Lib.hid (below_on kv.out hb1)
  rcases hc with ⟨hne, rfl⟩ | ⟨h0, rfl⟩
  · have Hne := Lib.hid hne
    obtain ⟨er, her⟩ : ∃ er, errN n l = er := ⟨_, rfl⟩
    rw [her] at hne ⊢
    have t0 : (er != 0) = true := by simpa using hne
    have Her := Lib.hid her
    have B2 := Lib.hid (B1.out.alloc B1.out.size (.cells #[.int .u64 0] 98))
    clear hne her hb1
    go_wp2_with fail
    go_ret2
    exact ⟨.inl ⟨Hne.out, by rw [Her.out]; rfl⟩, B2.out⟩
  · have hs64 := Hs.out h0
    have H0 := Lib.hid h0
    obtain ⟨s, hs⟩ : ∃ s, setI l = s := ⟨_, rfl⟩
    have Hsl := Lib.hid hs
    rw [hs] at hs64 ⊢
    have G1 := Lib.hid ((G0.out.keep hb1).keep ((Below.refl _ _).alloc (Nat.le_refl _) (.cells #[.int .u64 (s : Nat)] 98)))
    have S1 := Lib.hid (Cells.new w1 #[.int .u64 (s : Nat)] 98)
    have B2 := Lib.hid (B1.out.alloc B1.out.size (.cells #[.int .u64 (s : Nat)] 98))
    have HK := Lib.hid (contains_any A m c es (outE s) (.pointer (some ⟨w1.heap.size, 0, none⟩)) _ (HE.out _ B2.out) hm (fun w' e he hb => closed1_any s e.1 e.2 w1.heap.size w' hs64 (HLow.out e he).1 (HLow.out e he).2 ((S1.out.keep hb).at_ 0)))
    have g1 := G1.out.at_ 1
    simp only [List.getElem?_cons_zero, List.getElem?_cons_succ] at g1
    clear hb1 h0 hs
    go_wp2_with fail
    refine HK.out.mono ?_
    rintro e w3 ⟨rfl, hb3⟩
    have B3 := Lib.hid (below_on B2.out hb3)
    clear hb3
    go_wp2_with fail
    go_ret2
    exact ⟨.inr ⟨H0.out, by rw [Hsl.out]; rfl⟩, B3.out⟩
end Go.Proofs.YthocdmlacfejkaaDoor
namespace Go.Proofs.YthocdmlacfejkaaDoor
open Go.RowKit
def numsU (n : Nat) (f : Nat → Nat) : List Value := (List.range n).map fun i => Value.int .u64 (f i : Nat)
theorem numsU_len (n : Nat) (f : Nat → Nat) : (numsU n f).length = n := by unfold numsU; simp
theorem numsU_at {n : Nat} (f : Nat → Nat) {i : Nat} (h : i < n) : (numsU n f)[i]? = some (.int .u64 (f i : Nat)) := by unfold numsU; simp [h]
theorem numsU_up {n k : Nat} (f : Nat → Nat) : (numsU n fun j => if j < k then f j else 0).set k (.int .u64 (f k : Nat)) = numsU n fun j => if j < k + 1 then f j else 0 := by
  apply List.ext_getElem?
  intro i
  rw [List.getElem?_set]
  by_cases hi : i < n
  · rw [numsU_at _ hi, numsU_at _ hi, numsU_len]
    by_cases hk : k = i
    · subst hk; simp [hi]
    · rw [if_neg hk]
      by_cases h1 : i < k
      · rw [if_pos h1, if_pos (by omega)]
      · rw [if_neg h1, if_neg (by omega)]
  · rw [List.getElem?_eq_none (l := numsU n fun j => if j < k + 1 then f j else 0) (by rw [numsU_len]; omega), List.getElem?_eq_none (l := numsU n fun j => if j < k then f j else 0) (by rw [numsU_len]; omega), numsU_len]
    split
    · rw [if_neg (by omega)]
    · rfl
theorem made_sets {w w1 : World} {n : Nat} (hown : w1.ownsRow w.heap.size 98 1 (.slice (some ⟨w.heap.size, 0, none⟩) n n) n (madeCells #[.int .u64 0] n).toList) : Cells w1 w.heap.size (numsU n fun _ => 0) := by
  rcases hown.2 with ⟨h1, _⟩ | ⟨g', cap, cur, h1, hg, hh, hnc, hcm, hcs, hx⟩
  · cases h1
  · injection h1 with h1 _ h3
    injection h1 with h1
    injection h1 with h1
    subst h1 h3
    rw [List.take_of_length_le (by rw [Array.length_toList, hcs]; exact Nat.le_refl _)] at hx
    have e : cur.toList = numsU n fun _ => 0 := by
      rw [hx]
      apply List.ext_getElem?
      intro i
      by_cases hi : i < n
      · rw [numsU_at _ hi]
        simp [madeCells, hi, Nat.mod_one]
      · rw [List.getElem?_eq_none (by simp [madeCells]; omega), List.getElem?_eq_none (by rw [numsU_len]; omega)]
    rw [← e]
    exact Cells.of_row hh
def closM (es : List (Nat × Nat)) (n : Nat) : List Nat := (List.range n).map fun i => lev (adj es) (sing i) 64
set_option maxRecDepth 100000 in
set_option maxHeartbeats 8000000 in
theorem closure_any (n : Nat) (A : Option Addr) (m c : Nat) (es : List (Nat × Nat)) (w : World) (h : EL w A m (cast es)) (hl : Low 64 es) (hm : m ≤ 4096) (hn : n ≤ 64) (hw : Good w) :
    Calls Tryd.prog 80 #[gV n A m c] w fun e w' => ∃ A', e = .returned (.slice A' n n) ∧ UL w.heap.size w' A' (closM es n) ∧ Below w.heap.size w w' := by
  obtain ⟨i0, hi, hz0, hz1, hz2⟩ := info_parts info_set
  have HL : ∀ i, Under 64 (adj es i) := fun i => adj_under hl i
  have kv := (Below.refl w.heap.size w).alloc (Nat.le_refl _) (.cells #[.int .i64 (n : Nat), .slice A m c] 26)
  have G0 := Lib.hid (Cells.new w #[.int .i64 (n : Nat), .slice A m c] 26)
  have HN := Lib.hid (next_any n A m c es _ (h.keep kv) hl hm)
  have HG := Lib.hid (fun w' (hb' : Below w.heap.size w w') => hw.below hb' hw.size)
  have HL := Lib.hid HL
  have kv := Lib.hid kv
  clear h hl hw
  go_enter Tryd.func80, Tryd.ntmps80
  go_wp2_with fail
  refine HN.out.mono ?_
  rintro e w1 ⟨p, rfl, hp, hps, hb1⟩
  have G1 := Lib.hid (G0.out.keep hb1)
  have B1 := Lib.hid (below_on kv.out hb1)
  have P1 := Lib.hid hp
  have g0 := G1.out.at_ 0
  simp only [List.getElem?_cons_zero] at g0
  have hsz := B1.out.size
  clear hp hps hb1
  go_wp2_with (at_make; refine wpList_make_full _ rfl _ _ 103 rfl w1.heap.size 98 i0 (.int .u64 0) 1 Tryd.underlying103 hi hz0 hz1 _ _ _ _ n rfl rfl rfl rfl (by rw [hz2]; omega) (by unfold maxLen; omega) (Nat.le_refl _) ?_)
  intro w2 hown hgr
  have I2 := Lib.hid (made_sets hown)
  have b2 := (Below.refl w1.heap.size w1).grown hgr (Nat.le_refl _) (by simp)
  have P2 := Lib.hid (P1.out.keep b2)
  have B2 := Lib.hid (below_on B1.out b2)
  have hpl := P1.out.lt
  clear hown hgr b2 g0
  go_wp2_with fail
  go_loopw [13] (fun i wr => ∃ k : Nat, i = .int .i64 (k : Nat) ∧ k ≤ n ∧ Cells wr w1.heap.size (numsU n fun j => if j < k then lev (adj es) (sing j) 64 else 0) ∧ Cells wr p (sets (adj es)) ∧ Below w.heap.size w wr) (fun i _ => n - (intOf i).toNat)
  case atStart => exact ⟨0, rfl, Nat.zero_le _, by simpa using I2.out, P2.out, B2.out⟩
  case round =>
    obtain ⟨k, rfl, hk, hc, hpp, hb⟩ := hrel
    have C6 := Lib.hid hc
    have P6 := Lib.hid hpp
    have B6 := Lib.hid hb
    clear hc hpp hb
    obtain ⟨wa, rfl⟩ : ∃ wa : World, wa = wr := ⟨_, rfl⟩
    by_cases hlt : k < n
    · have Hlt := Lib.hid hlt
      have hk64 : k < 64 := by omega
      have Hsg := Lib.hid (single_any k wa hk64)
      have HR := Lib.hid (reach_any p (adj es) (sing k) wa P6.out HL.out (sing_lt hk64) (HG.out _ B6.out))
      go_wp2_with fail
      refine Hsg.out.mono ?_
      rintro e w3 ⟨rfl, rfl⟩
      go_wp2_with fail
      refine HR.out.mono ?_
      rintro e w4 ⟨rfl, hb4⟩
      have C4 := Lib.hid (C6.out.keep hb4)
      have P4 := Lib.hid (P6.out.keep hb4)
      have B4 := Lib.hid (below_on B6.out hb4)
      have z0 := (C4.out.at_ k).trans (numsU_at _ Hlt.out)
      have f0 := C4.out.fz k
      have C5 := Lib.hid (C4.out.set k (.int .u64 (lev (adj es) (sing k) 64 : Nat)) (by rw [numsU_len]; exact Hlt.out))
      rw [numsU_up] at C5
      have P5 := Lib.hid (P4.out.other (q := w1.heap.size) (by omega) k (.int .u64 (lev (adj es) (sing k) 64 : Nat)))
      have B5 := Lib.hid (B4.out.setCell (p := ⟨w1.heap.size, k, none⟩) (by simpa using hsz) (.int .u64 (lev (adj es) (sing k) 64 : Nat)))
      clear hb4
      go_wp2_with fail
      go_roundw
      case rel => exact ⟨k + 1, by go_num, Hlt.out, C5.out, P5.out, B5.out⟩
      case measure => simp [intOf]; have := Hlt.out; omega
    · have hkn : k = n := by omega
      subst hkn
      have hU : UL w.heap.size wa (some ⟨w1.heap.size, 0, none⟩) (closM es k) := fun j x hj => by
        have hjk : j < k := by
          rcases Nat.lt_or_ge j k with h1 | h1
          · exact h1
          · rw [List.getElem?_eq_none (by simpa [closM] using h1)] at hj; cases hj
        refine ⟨_, 0, rfl, hsz, C6.out.lt, ?_⟩
        rw [C6.out.at_, Nat.zero_add, numsU_at _ hjk]
        simp [closM, hjk] at hj
        simp [hjk, hj]
      have HU := Lib.hid hU
      clear hU
      go_wp2_with fail
      go_ret
      exact ⟨_, rfl, HU.out, B6.out⟩
end Go.Proofs.YthocdmlacfejkaaDoor
namespace Go.Proofs.YthocdmlacfejkaaDoor
open Go.RowKit
theorem closM_len (es : List (Nat × Nat)) (n : Nat) : (closM es n).length = n := by unfold closM; simp
theorem closM_lt {es : List (Nat × Nat)} {n : Nat} (hl : Low 64 es) (hn : n ≤ 64) : ∀ x ∈ closM es n, x < 18446744073709551616 := fun x hx => by
  unfold closM at hx
  obtain ⟨i, hi, rfl⟩ := List.mem_map.1 hx
  have hi64 : i < 64 := by have := List.mem_range.1 hi; omega
  exact under_lt (lev_under (fun i => adj_under hl i) (lt_under (k := 64) (sing_lt hi64)) 64)
theorem UL.other {B : Nat} {w : World} {A : Option Addr} {l : List Nat} (h : UL B w A l) {q : Nat} (hq : q < B) (i : Nat) (u : Value) : UL B (w.setCell ⟨q, i, none⟩ u) A l := fun k n hk => by
  obtain ⟨b, o, e, h1, h2, h3⟩ := h k n hk
  exact ⟨b, o, e, h1, by simpa [World.setCell] using h2, (World.cell?_of_block (Below.heap_setCell w ⟨q, i, none⟩ u b (by simp; omega))).trans h3⟩
set_option maxRecDepth 100000 in
set_option maxHeartbeats 8000000 in
theorem closureG_any (n : Nat) (A : Option Addr) (m c : Nat) (es : List (Nat × Nat)) (w : World) (h : EL w A m (cast es)) (hg : Fine n es) (hw : Good w) :
    Calls Tryd.prog 27 #[gV n A m c] w fun e w' => ∃ A', e = .returned (.tuple #[.slice A' n n, .int .i64 0]) ∧ LL w.heap.size w' A' ((closM es n).map bitsOf) ∧ Below w.heap.size w w' := by
  obtain ⟨i0, hi, hz0, hz1, hz2⟩ := info_parts info_ints
  have hlen := h.len
  have hm : m ≤ 4096 := by have := hg.len; omega
  have hn64 := hg.n64
  have kv := (Below.refl w.heap.size w).alloc (Nat.le_refl _) (.cells #[.int .i64 (n : Nat), .slice A m c] 26)
  have G0 := Lib.hid (Cells.new w #[.int .i64 (n : Nat), .slice A m c] 26)
  have HC := check_any (n : Int) A m c (cast es) (w.alloc (.cells #[.int .i64 (n : Nat), .slice A m c] 26)) (h.keep kv) (by omega)
  rw [hg.check] at HC
  have HC := Lib.hid HC
  have HG := Lib.hid (fun w' (hb' : Below w.heap.size w w') => hw.below hb' hw.size)
  have HK := Lib.hid (fun w' (hb' : Below w.heap.size w w') => closure_any n A m c es w' (h.keep hb') hg.low64 hm hn64 (hw.below hb' hw.size))
  have Hlt := Lib.hid (closM_lt hg.low64 hn64)
  have kv := Lib.hid kv
  have hcl := closM_len es n
  obtain ⟨l, hl⟩ : ∃ l, closM es n = l := ⟨_, rfl⟩
  rw [hl] at HK Hlt hcl ⊢
  clear h hg hw hlen hl
  go_enter Tryd.func27, Tryd.ntmps27
  go_wp2_with fail
  refine HC.out.mono ?_
  rintro e w1 ⟨rfl, hb1⟩
  have G1 := Lib.hid (G0.out.keep hb1)
  have B1 := Lib.hid (below_on kv.out hb1)
  have g0 := G1.out.at_ 0
  have g1 := G1.out.at_ 1
  simp only [List.getElem?_cons_zero, List.getElem?_cons_succ] at g0 g1
  have hsz := B1.out.size
  clear hb1
  go_wp2_with (at_make; refine wpList_make_full _ rfl _ _ 47 rfl w1.heap.size 50 i0 (.slice none 0 0) 1 Tryd.underlying47 hi hz0 hz1 _ _ _ _ n rfl rfl rfl rfl (by rw [hz2]; omega) (by unfold maxLen; omega) (Nat.le_refl _) ?_)
  intro w2 hown hgr
  have b2 := (Below.refl w1.heap.size w1).grown hgr (Nat.le_refl _) (by simp)
  have C2 := Lib.hid (LsInv.start (C := w1.heap.size) (ls := l.map bitsOf) (by rw [List.length_map, hcl]; exact made_slices hown))
  have G2 := Lib.hid (G1.out.keep b2)
  have B2 := Lib.hid (below_on B1.out b2)
  have hg2 : w1.heap.size < w2.heap.size := by obtain ⟨vs, _, h2, _⟩ := C2.out; exact h2.lt
  clear hown hgr b2 g0 g1
  have g0 := G2.out.at_ 0
  have g1 := G2.out.at_ 1
  simp only [List.getElem?_cons_zero, List.getElem?_cons_succ] at g0 g1
  go_wp2_with fail
  refine (HK.out _ B2.out).mono ?_
  rintro e w3 ⟨A3, rfl, hU, hb3⟩
  have U3 := Lib.hid hU
  have B3 := Lib.hid (below_on B2.out hb3)
  have C3 := Lib.hid (C2.out.keep hb3)
  have hg3 : w1.heap.size < w3.heap.size := Nat.lt_of_lt_of_le hg2 hb3.size
  clear hU hb3 g0 g1
  go_wp2_with fail
  go_loopw [19] (fun i wr => ∃ k : Nat, i = .int .i64 (k : Nat) ∧ k ≤ n ∧ LsInv w1.heap.size w1.heap.size (l.map bitsOf) k wr ∧ UL w2.heap.size wr A3 l ∧ Below w.heap.size w wr ∧ w1.heap.size < wr.heap.size) (fun i _ => n - (intOf i).toNat)
  case atStart => exact ⟨0, rfl, Nat.zero_le _, C3.out, U3.out, B3.out, hg3⟩
  case round =>
    obtain ⟨k, rfl, hk, hinv, hu, hb, hszr⟩ := hrel
    have Hinv := Lib.hid hinv
    have Hb := Lib.hid hb
    have Hu := Lib.hid hu
    clear hinv hb hu
    obtain ⟨wa, rfl⟩ : ∃ wa : World, wa = wr := ⟨_, rfl⟩
    by_cases hlt : k < n
    · obtain ⟨x, b, o, hx, rfl, _, hbl, hcell⟩ := Hu.out.at_ (k := k) (by omega)
      have Hlk := Lib.hid hlt
      have Hx := Lib.hid hx
      have HLs := Lib.hid (list_any x wa (Hlt.out x (List.mem_of_getElem? hx)) (HG.out _ Hb.out))
      clear hx
      go_wp2_with fail
      refine HLs.out.mono ?_
      rintro e w4 ⟨v, rfl, hown, hb4⟩
      obtain ⟨A4, c4, rfl, hn4, _, _⟩ := own_nats hown
      have I2 := Hinv.out.keep hb4
      obtain ⟨vs, hv1, hv2, hv3⟩ := I2
      have f0 := hv2.fz k
      have z0 := hv2.at_ k
      have hkv : k < vs.length := by rw [hv1, List.length_map]; omega
      rw [List.getElem?_eq_getElem hkv] at z0
      obtain ⟨u0, hu0⟩ : ∃ u, vs[k]'hkv = u := ⟨_, rfl⟩
      rw [hu0] at z0
      have I3 := Lib.hid (LsInv.step (C := w1.heap.size) (c := c4) ⟨vs, hv1, hv2, hv3⟩ (l := bitsOf x) (by rw [List.getElem?_map, Hx.out]; rfl) (hn4.down (by omega)))
      have B5 := Lib.hid ((below_on Hb.out hb4).setCell (p := ⟨w1.heap.size, k, none⟩) hsz (.slice A4 (bitsOf x).length c4))
      have U5 := Lib.hid ((Hu.out.keep hb4).other hg2 k (.slice A4 (bitsOf x).length c4))
      have hs4 := hb4.size
      clear hown hb4 hn4 hv1 hv2 hv3 hu0
      go_wp2_with fail
      go_roundw
      case rel => exact ⟨k + 1, by go_num, Hlk.out, I3.out, U5.out, B5.out, by simp [World.setCell]; omega⟩
      case measure => simp [intOf]; have := Hlk.out; omega
    · have Hf := Lib.hid ((Hinv.out.done (by rw [List.length_map]; omega) (Nat.le_refl _)).down hsz)
      go_wp2_with fail
      go_ret2
      exact ⟨_, rfl, Hf.out, Hb.out⟩
end Go.Proofs.YthocdmlacfejkaaDoor
