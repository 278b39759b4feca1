/- Whether an edge leaves a list of nodes. -/
import Derived.Test.YthocdmlacfejkaaDoorRch
namespace Go.Proofs.YthocdmlacfejkaaDoor
open Go.RowKit
def outE (s : Nat) (e : Nat × Nat) : Bool := s.testBit e.1 && !s.testBit e.2
set_option maxRecDepth 100000 in
set_option maxHeartbeats 8000000 in
theorem closed1_any (s x y p : Nat) (w : World) (hs : s < 18446744073709551616) (hx : x < 64) (hy : y < 64) (hp : w.cell? ⟨p, 0, none⟩ = some (.int .u64 (s : Nat))) :
    Calls Tryd.prog 90 #[.agg #[.int .i64 (x : Nat), .int .i64 (y : Nat)], .pointer (some ⟨p, 0, none⟩)] w fun e w' => e = .returned (.bool (outE s (x, y))) ∧ Below w.heap.size w w' := by
  have kv := (Below.refl w.heap.size w).alloc (Nat.le_refl _) (.cells #[.int .i64 (x : Nat), .int .i64 (y : Nat)] 32)
  have hp2 := (kv.cell (p := ⟨p, 0, none⟩) (by
    rcases Nat.lt_or_ge p w.heap.size with h1 | h1
    · exact h1
    · simp [World.cell?, Array.getElem?_eq_none h1] at hp)).trans hp
  have kv := Lib.hid kv
  have H1 := Lib.hid (fun w' => has_any s x w' hx hs)
  have H2 := Lib.hid (fun w' => has_any s y w' hy hs)
  rw [show outE s (x, y) = (s.testBit x && !s.testBit y) from rfl]
  obtain ⟨b1, h1⟩ : ∃ b1, s.testBit x = b1 := ⟨_, rfl⟩
  obtain ⟨b2, h2⟩ : ∃ b2, s.testBit y = b2 := ⟨_, rfl⟩
  rw [h1] at H1 ⊢
  rw [h2] at H2 ⊢
  clear hp h1 h2
  go_enter Tryd.func90, Tryd.ntmps90
  go_wp2_with fail
  refine (H1.out _).mono ?_
  rintro e w1 ⟨rfl, rfl⟩
  cases b1
  · go_wp2_with fail
    go_ret
    exact ⟨rfl, kv.out⟩
  · go_wp2_with fail
    refine (H2.out _).mono ?_
    rintro e w1 ⟨rfl, rfl⟩
    go_wp2_with fail
    go_ret
    exact ⟨by simp, kv.out⟩
def EdxPost (es : List (Nat × Nat)) (del : Nat × Nat → Bool) (w : World) (e : Ending) (w' : World) : Prop :=
  ((es.any del = false ∧ e = .returned (.int .i64 (-1))) ∨ ∃ k : Nat, es.any del = true ∧ e = .returned (.int .i64 (k : Nat))) ∧ Below w.heap.size w w'
set_option maxRecDepth 100000 in
set_option maxHeartbeats 8000000 in
theorem edx_any (A : Option Addr) (m c : Nat) (es : List (Nat × Nat)) (del : Nat × Nat → Bool) (y : Value) (w : World) (h : EL w A m (cast es)) (hm : m ≤ 4096)
    (hF : ∀ w' e, e ∈ es → Below w.heap.size w w' → Calls Tryd.prog 90 #[.agg #[.int .i64 (e.1 : Nat), .int .i64 (e.2 : Nat)], y] w' fun r w2 => r = .returned (.bool (del e)) ∧ Below w'.heap.size w' w2) :
    Calls Tryd.prog 104 #[.slice A m c, .func (.func 90) #[] #[y]] w (EdxPost es del w) := by
  have hel := h.len
  have E0 := Lib.hid h
  have HF := Lib.hid hF
  clear h hF
  go_enter Tryd.func104, Tryd.ntmps104
  go_wp2_with fail
  go_loopw [8] (fun i wr => ∃ j : Nat, i = .int .i64 (j : Nat) ∧ j ≤ m ∧ (es.take j).any del = false ∧ Below w.heap.size w wr) (fun i _ => m - (intOf i).toNat)
  case atStart => exact ⟨0, rfl, Nat.zero_le _, rfl, Below.refl _ _⟩
  case round =>
    obtain ⟨j, rfl, hj, hall, hb⟩ := hrel
    have Hall := Lib.hid hall
    have B6 := Lib.hid hb
    have E6 := Lib.hid (E0.out.keep hb)
    clear hall hb
    obtain ⟨wa, rfl⟩ : ∃ wa : World, wa = wr := ⟨_, rfl⟩
    by_cases hlt : j < m
    · obtain ⟨e0, b, o, he, rfl, _, c0, c1⟩ := E6.out.at_ hlt
      obtain ⟨x, z, hx, rfl⟩ := cast_at he
      simp only at c0 c1
      have Hlt := Lib.hid hlt
      have Hx := Lib.hid hx
      have HFx := HF.out wa (x, z) (List.mem_of_getElem? hx) B6.out
      obtain ⟨bx, hbx⟩ : ∃ bx, del (x, z) = bx := ⟨_, rfl⟩
      rw [hbx] at HFx
      simp only at HFx
      have HFx := Lib.hid HFx
      have Hb := Lib.hid hbx
      have Hs := Lib.hid (show es.take (j + 1) = es.take j ++ [(x, z)] by rw [List.take_add_one, hx]; rfl)
      clear hx hbx he
      go_wp2_with fail
      refine HFx.out.mono ?_
      rintro e w7 ⟨rfl, hb7⟩
      have B7 := Lib.hid (below_on B6.out hb7)
      clear hb7
      cases bx
      · go_wp2_with fail
        go_roundw
        case rel => exact ⟨j + 1, by go_num, Hlt.out, by rw [Hs.out, List.any_append, Hall.out]; simp [Hb.out], B7.out⟩
        case measure => simp [intOf]; have := Hlt.out; omega
      · go_wp2_with fail
        go_ret
        exact ⟨.inr ⟨j, List.any_eq_true.2 ⟨(x, z), List.mem_of_getElem? Hx.out, Hb.out⟩, rfl⟩, B7.out⟩
    · have hjl : es.take j = es := List.take_of_length_le (by omega)
      rw [hjl] at Hall
      clear hjl
      go_wp2_with fail
      go_ret
      exact ⟨.inl ⟨Hall.out, rfl⟩, B6.out⟩
set_option maxRecDepth 100000 in
set_option maxHeartbeats 8000000 in
theorem contains_any (A : Option Addr) (m c : Nat) (es : List (Nat × Nat)) (del : Nat × Nat → Bool) (y : Value) (w : World) (h : EL w A m (cast es)) (hm : m ≤ 4096)
    (hF : ∀ w' e, e ∈ es → Below w.heap.size w w' → Calls Tryd.prog 90 #[.agg #[.int .i64 (e.1 : Nat), .int .i64 (e.2 : Nat)], y] w' fun r w2 => r = .returned (.bool (del e)) ∧ Below w'.heap.size w' w2) :
    Calls Tryd.prog 65 #[.slice A m c, .func (.func 90) #[] #[y]] w fun e w' => e = .returned (.bool (es.any del)) ∧ Below w.heap.size w w' := by
  have HI := Lib.hid (edx_any A m c es del y w h hm hF)
  clear h hF
  go_enter Tryd.func65, Tryd.ntmps65
  go_wp2_with fail
  refine HI.out.mono ?_
  rintro e w1 ⟨hc, hb1⟩
  have B1 := Lib.hid hb1
  clear hb1
  rcases hc with ⟨ha, rfl⟩ | ⟨k, ha, rfl⟩
  · have Ha := Lib.hid ha
    clear ha
    go_wp2_with fail
    go_ret
    exact ⟨by rw [Ha.out]; rfl, B1.out⟩
  · have Ha := Lib.hid ha
    have t0 : decide ((0 : Int) ≤ (k : Int)) = true := decide_eq_true (by omega)
    clear ha
    go_wp2_with fail
    go_ret
    exact ⟨by rw [Ha.out]; simp, B1.out⟩
def CloPost (n : Nat) (es : List (Nat × Nat)) (l : List Int) (w : World) (e : Ending) (w' : World) : Prop :=
  ((errN n l ≠ 0 ∧ e = .returned (.tuple #[.bool false, .int .i64 (errN n l)])) ∨ (errN n l = 0 ∧ e = .returned (.tuple #[.bool (!es.any (outE (setI l))), .int .i64 0]))) ∧ Below w.heap.size w w'
set_option maxRecDepth 100000 in
set_option maxHeartbeats 8000000 in
theorem closedG_any (n : Nat) (A : Option Addr) (m c : Nat) (es : List (Nat × Nat)) (B : Option Addr) (d : Nat) (l : List Int) (w : World) (h : EL w A m (cast es)) (hg : Fine n es) (hl : IL w B l) (hll : l.length ≤ 1000000) :
    Calls Tryd.prog 35 #[gV n A m c, .slice B l.length d] w (CloPost n es l w) := by
  have hlen := h.len
  have hm : m ≤ 4096 := by have := hg.len; omega
  have hn64 := hg.n64
  have HLow := hg.low64
  have kv := (Below.refl w.heap.size w).alloc (Nat.le_refl _) (.cells #[.int .i64 (n : Nat), .slice A m c] 26)
  have G0 := Lib.hid (Cells.new w #[.int .i64 (n : Nat), .slice A m c] 26)
  have HC := Lib.hid (checkNodes_any n A m c es B d l _ (h.keep kv) hg (hl.keep kv) hll)
  have HE := Lib.hid (fun w' (hb' : Below w.heap.size w w') => h.keep hb')
  have Hs := Lib.hid (fun h0 => setI_under hn64 (l := l) h0)
  have HLow := Lib.hid HLow
  have kv := Lib.hid kv
  clear h hg hlen hl hll
  go_enter Tryd.func35, Tryd.ntmps35
  go_wp2_with fail
  refine HC.out.mono ?_
  rintro e w1 ⟨hc, hb1⟩
  have B1 := Lib.hid (below_on kv.out hb1)
  rcases hc with ⟨hne, rfl⟩ | ⟨h0, rfl⟩
  · have Hne := Lib.hid hne
    obtain ⟨er, her⟩ : ∃ er, errN n l = er := ⟨_, rfl⟩
    rw [her] at hne ⊢
    have t0 : (er != 0) = true := by simpa using hne
    have Her := Lib.hid her
    have B2 := Lib.hid (B1.out.alloc B1.out.size (.cells #[.int .u64 0] 98))
    clear hne her hb1
    go_wp2_with fail
    go_ret2
    exact ⟨.inl ⟨Hne.out, by rw [Her.out]; rfl⟩, B2.out⟩
  · have hs64 := Hs.out h0
    have H0 := Lib.hid h0
    obtain ⟨s, hs⟩ : ∃ s, setI l = s := ⟨_, rfl⟩
    have Hsl := Lib.hid hs
    rw [hs] at hs64 ⊢
    have G1 := Lib.hid ((G0.out.keep hb1).keep ((Below.refl _ _).alloc (Nat.le_refl _) (.cells #[.int .u64 (s : Nat)] 98)))
    have S1 := Lib.hid (Cells.new w1 #[.int .u64 (s : Nat)] 98)
    have B2 := Lib.hid (B1.out.alloc B1.out.size (.cells #[.int .u64 (s : Nat)] 98))
    have HK := Lib.hid (contains_any A m c es (outE s) (.pointer (some ⟨w1.heap.size, 0, none⟩)) _ (HE.out _ B2.out) hm (fun w' e he hb => closed1_any s e.1 e.2 w1.heap.size w' hs64 (HLow.out e he).1 (HLow.out e he).2 ((S1.out.keep hb).at_ 0)))
    have g1 := G1.out.at_ 1
    simp only [List.getElem?_cons_zero, List.getElem?_cons_succ] at g1
    clear hb1 h0 hs
    go_wp2_with fail
    refine HK.out.mono ?_
    rintro e w3 ⟨rfl, hb3⟩
    have B3 := Lib.hid (below_on B2.out hb3)
    clear hb3
    go_wp2_with fail
    go_ret2
    exact ⟨.inr ⟨H0.out, by rw [Hsl.out]; rfl⟩, B3.out⟩
end Go.Proofs.YthocdmlacfejkaaDoor
