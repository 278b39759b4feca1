/- The law GraphPaths. -/
import Derived.Test.YthocdmlacfejkaaDoorMJ
import Derived.Test.YthocdmlacfejkaaDoorMI
import Derived.Test.YthocdmlacfejkaaDoorGrh
namespace Go.Proofs.YthocdmlacfejkaaDoor
open Go.RowKit
def pthE (es : List (Nat × Nat)) (a b : Nat) : Int := if dist (adjR es) (sing b) a < 0 then 10 else 0
def pthL (es : List (Nat × Nat)) (a b : Nat) : List Nat := if dist (adjR es) (sing b) a < 0 then [] else wayM (adj es) (dist (adjR es) (sing b)) (dist (adjR es) (sing b) a).toNat a
theorem pthL_len (es : List (Nat × Nat)) (a b : Nat) : (pthL es a b).length ≤ 65 := by
  unfold pthL
  split
  · simp
  · rw [wayM_len]
    have := distTo_bd (adjR es) (sing b) 65 a
    unfold dist
    omega
theorem PthPost.one {n : Nat} {es : List (Nat × Nat)} {a b : Nat} {w w' : World} {e : Ending} (h : PthPost n es a b w e w') : (∃ A c, e = .returned (.tuple #[.slice A (pthL es a b).length c, .int .i64 (pthE es a b)]) ∧ NL w.heap.size w' A (pthL es a b)) ∧ Below w.heap.size w w' := by
  obtain ⟨h1, h2⟩ := h
  refine ⟨?_, h2⟩
  rcases h1 with ⟨h0, rfl⟩ | ⟨d, v, hd, rfl, hown⟩
  · unfold pthL pthE
    rw [if_pos h0, if_pos h0]
    exact ⟨none, 0, rfl, fun k n hk => by simp at hk⟩
  · have e : pthL es a b = wayM (adj es) (dist (adjR es) (sing b)) d a := by
      unfold pthL
      rw [hd, if_neg (by omega), Int.toNat_natCast]
    have e2 : pthE es a b = 0 := by
      unfold pthE
      rw [hd, if_neg (by omega)]
    rw [← e] at hown
    obtain ⟨A, c, rfl, hn, _, _⟩ := own_nats hown
    rw [e2]
    exact ⟨A, c, rfl, hn⟩
theorem path_one (n : Nat) (A : Option Addr) (m c : Nat) (es : List (Nat × Nat)) (a b : Nat) (w : World) (h : EL w A m (cast es)) (hg : Fine n es) (ha : a < n) (hb : b < n) (hw : Good w) :
    Calls Tryd.prog 36 #[gV n A m c, .int .i64 a, .int .i64 b] w fun e w' => (∃ A c, e = .returned (.tuple #[.slice A (pthL es a b).length c, .int .i64 (pthE es a b)]) ∧ NL w.heap.size w' A (pthL es a b)) ∧ Below w.heap.size w w' := by
  by_cases h0 : dist (adjR es) (sing b) a < 0
  · exact (path_no n A m c es a b w h hg ha hb h0 hw).mono fun e w' ⟨h1, h2⟩ => PthPost.one (n := n) ⟨.inl ⟨h0, h1⟩, h2⟩
  · obtain ⟨d, hd⟩ : ∃ d : Nat, dist (adjR es) (sing b) a = (d : Int) := ⟨(dist (adjR es) (sing b) a).toNat, by omega⟩
    exact (path_yes n A m c es a b d w h hg ha hb hd hw).mono fun e w' ⟨v, h1, h2, h3⟩ => PthPost.one (n := n) ⟨.inr ⟨d, v, hd, h1, h2⟩, h3⟩
set_option maxRecDepth 100000 in
set_option maxHeartbeats 8000000 in
theorem gpt_any (n : Int) (A : Option Addr) (m c : Nat) (es : List (Int × Int)) (a b : Nat) (w : World) (h : EL w A m es) (ha : a < 256) (hb : b < 256) (hw : Good w) :
    Calls Tryd.prog 10 #[gV n A m c, .int .u8 a, .int .u8 b] w fun e w' => e = .returned (.bool true) ∧ Below w.heap.size w w' := by
  have kv := (Below.refl w.heap.size w).alloc (Nat.le_refl _) (.cells #[.int .i64 n, .slice A m c] 26)
  have HG := Lib.hid (fun w' (hb : Below w.heap.size w w') => hw.below hb hw.size)
  have HK := Lib.hid (fun w' (hb : Below w.heap.size w w') => known_any w' (hw.below hb hw.size))
  have HE := Lib.hid (fun w' (hb : Below w.heap.size w w') => h.keep hb)
  have G0 := Lib.hid (Cells.new w #[.int .i64 n, .slice A m c] 26)
  have HF := Lib.hid (fun w' (hb : Below w.heap.size w w') => fine_any n A m c es w' (h.keep hb))
  have hml := h.1
  obtain ⟨fb, hfb⟩ : ∃ fb, fineG n m es = fb := ⟨_, rfl⟩
  rw [hfb] at HF
  have B0 := Lib.hid kv
  clear h hw kv
  go_enter Tryd.func10, Tryd.ntmps10
  go_wp2_with fail
  refine (HK.out _ B0.out).mono ?_
  rintro e w1 ⟨rfl, hb1⟩
  have G1 := Lib.hid (G0.out.keep hb1)
  have B1 := Lib.hid (below_on B0.out hb1)
  have g0 := G1.out.at_ 0
  have g1 := G1.out.at_ 1
  simp only [List.getElem?_cons_zero, List.getElem?_cons_succ] at g0 g1
  clear hb1
  go_wp2_with fail
  refine (HF.out _ B1.out).mono ?_
  rintro e w2 ⟨rfl, hb2⟩
  have G2 := Lib.hid (G1.out.keep hb2)
  have B2 := Lib.hid (below_on B1.out hb2)
  clear hb2 g0 g1
  cases fb with
  | false =>
    clear hfb
    go_wp2_with fail
    refine (HK.out _ B2.out).mono ?_
    rintro e w3 ⟨rfl, hb3⟩
    have B3 := Lib.hid (below_on B2.out hb3)
    clear hb3
    go_wp2_with fail
    go_ret
    exact ⟨rfl, B3.out⟩
  | true =>
    obtain ⟨k, l, rfl, rfl, hf, hk8, hm24⟩ := fine_split hfb
    have Hf := Lib.hid hf
    have hM2 := Lib.hid (show m ≤ 100000 by omega)
    clear hfb
    have g0 := G2.out.at_ 0
    have g1 := G2.out.at_ 1
    simp only [List.getElem?_cons_zero, List.getElem?_cons_succ] at g0 g1
    by_cases hk0 : k = 0
    · subst hk0
      go_wp2_with fail
      refine (HK.out _ B2.out).mono ?_
      rintro e w3 ⟨rfl, hb3⟩
      have B3 := Lib.hid (below_on B2.out hb3)
      clear hb3
      go_wp2_with fail
      go_ret
      exact ⟨rfl, B3.out⟩
    have hk1 : ((k : Int) == 0) = false := by rw [beq_eq_false_iff_ne]; omega
    have hxa := Nat.mod_lt a (show 0 < k by omega)
    have hxb := Nat.mod_lt b (show 0 < k by omega)
    have ea : (a : Int) % (k : Int) = ((a % k : Nat) : Int) := rfl
    have eb : (b : Int) % (k : Int) = ((b % k : Nat) : Int) := rfl
    obtain ⟨x, hx⟩ : ∃ x, a % k = x := ⟨_, rfl⟩
    obtain ⟨y, hy⟩ : ∃ y, b % k = y := ⟨_, rfl⟩
    rw [hx] at ea hxa
    rw [hy] at eb hxb
    clear hx hy
    have HPa := Lib.hid (fun P d w' (h : EL w' P m (cast l)) (hb : Below w.heap.size w w') => path_one k P m d l x y w' h hf hxa hxb (HG.out _ hb))
    have HPb := Lib.hid (fun P d w' (h : EL w' P m (cast l)) => (refPath_any k P m d l x y w' h hf hxa hxb).mono fun e w2 h => h.one)
    have HTr := Lib.hid (fun P d w' (h : EL w' P m (cast l)) (hb : Below w.heap.size w w') => tree_any k P m d l x w' h hf hxa (HG.out _ hb))
    have HBk := Lib.hid (fun P d w' (h : EL w' P m (cast l)) (hb : Below w.heap.size w w') => back_any k P m d l y w' h hf hxb (HG.out _ hb))
    have HTs := Lib.hid (fun P d w' (h : EL w' P m (cast l)) => refTree_any k P m d l x w' h hf hxa)
    have HBs := Lib.hid (fun P d w' (h : EL w' P m (cast l)) => refBack_any k P m d l y w' h hf hxb)
    have hpl := pthL_len l x y
    obtain ⟨er, her⟩ : ∃ er, pthE l x y = er := ⟨_, rfl⟩
    obtain ⟨L, hL⟩ : ∃ L, pthL l x y = L := ⟨_, rfl⟩
    obtain ⟨tv, htv⟩ : ∃ tv, (List.range k).map (treeV l x) = tv := ⟨_, rfl⟩
    obtain ⟨bv, hbv⟩ : ∃ bv, (List.range k).map (backV l y) = bv := ⟨_, rfl⟩
    have htl : tv.length = k := by rw [← htv]; simp
    have hbl : bv.length = k := by rw [← hbv]; simp
    unfold NbPost at HTr HBk
    rw [her, hL] at HPa HPb
    rw [hL] at hpl
    rw [htv] at HTr HTs
    rw [hbv] at HBk HBs
    have ter : (er == er) = true := by simp
    clear her hL hf htv hbv
    go_wp2_with fail
    go_quiet (fail)
    have b3 := below_drewN (Below.refl w2.heap.size w2) nq
    obtain ⟨w3, hw3⟩ : ∃ u, w2.drewN nq = u := ⟨_, rfl⟩
    rw [hw3] at b3 ⊢
    have G3 := Lib.hid (G2.out.keep b3)
    have B3 := Lib.hid (below_on B2.out b3)
    clear b3 hw3 g0 g1
    have g0 := G3.out.at_ 0
    have g1 := G3.out.at_ 1
    simp only [List.getElem?_cons_zero, List.getElem?_cons_succ] at g0 g1
    go_wp2_with fail
    refine (copied_any k A m c (cast l) w3 (HE.out _ B3.out) hM2.out).mono ?_
    rintro e w4 ⟨P4, d4, rfl, hE4, hb4⟩
    have G4 := Lib.hid (G3.out.keep hb4)
    have B4 := Lib.hid (below_on B3.out hb4)
    have E4 := Lib.hid (hE4)
    clear hb4 g0 g1 hE4
    go_wp2_with fail
    refine (HPa.out _ _ _ E4.out B4.out).mono ?_
    rintro e w5 ⟨⟨A5, c5, rfl, hN5⟩, hb5⟩
    have G5 := Lib.hid (G4.out.keep hb5)
    have B5 := Lib.hid (below_on B4.out hb5)
    have N5 := Lib.hid (hN5.il)
    clear hb5  hN5
    have g0 := G5.out.at_ 0
    have g1 := G5.out.at_ 1
    simp only [List.getElem?_cons_zero, List.getElem?_cons_succ] at g0 g1
    go_wp2_with fail
    refine (plain_any k A m c (cast l) w5 (HE.out _ B5.out) hM2.out).mono ?_
    rintro e w6 ⟨P6, d6, rfl, hE6, hb6⟩
    have G6 := Lib.hid (G5.out.keep hb6)
    have N6 := Lib.hid (N5.out.keep hb6)
    have B6 := Lib.hid (below_on B5.out hb6)
    have E6 := Lib.hid (hE6)
    clear hb6 g0 g1 hE6
    go_wp2_with fail
    refine (HPb.out _ _ _ E6.out).mono ?_
    rintro e w7 ⟨⟨A7, c7, rfl, hN7⟩, hb7⟩
    have G7 := Lib.hid (G6.out.keep hb7)
    have N7 := Lib.hid (N6.out.keep hb7)
    have B7 := Lib.hid (below_on B6.out hb7)
    have M7 := Lib.hid (hN7.il)
    clear hb7  hN7
    have g0 := G7.out.at_ 0
    have g1 := G7.out.at_ 1
    simp only [List.getElem?_cons_zero, List.getElem?_cons_succ] at g0 g1
    go_wp2_with fail
    refine (copied_any k A m c (cast l) w7 (HE.out _ B7.out) hM2.out).mono ?_
    rintro e w8 ⟨P8, d8, rfl, hE8, hb8⟩
    have G8 := Lib.hid (G7.out.keep hb8)
    have N8 := Lib.hid (N7.out.keep hb8)
    have M8 := Lib.hid (M7.out.keep hb8)
    have B8 := Lib.hid (below_on B7.out hb8)
    have E8 := Lib.hid (hE8)
    clear hb8 g0 g1 hE8
    go_wp2_with fail
    refine (HTr.out _ _ _ E8.out B8.out).mono ?_
    rintro e w9 ⟨⟨g9, rfl, _, hI9⟩, hb9⟩
    have G9 := Lib.hid (G8.out.keep hb9)
    have N9 := Lib.hid (N8.out.keep hb9)
    have M9 := Lib.hid (M8.out.keep hb9)
    have B9 := Lib.hid (below_on B8.out hb9)
    have T9 := Lib.hid (hI9)
    clear hb9  hI9
    have g0 := G9.out.at_ 0
    have g1 := G9.out.at_ 1
    simp only [List.getElem?_cons_zero, List.getElem?_cons_succ] at g0 g1
    go_wp2_with fail
    refine (copied_any k A m c (cast l) w9 (HE.out _ B9.out) hM2.out).mono ?_
    rintro e w10 ⟨P10, d10, rfl, hE10, hb10⟩
    have G10 := Lib.hid (G9.out.keep hb10)
    have N10 := Lib.hid (N9.out.keep hb10)
    have M10 := Lib.hid (M9.out.keep hb10)
    have T10 := Lib.hid (T9.out.keep hb10)
    have B10 := Lib.hid (below_on B9.out hb10)
    have E10 := Lib.hid (hE10)
    clear hb10 g0 g1 hE10
    go_wp2_with fail
    refine (HBk.out _ _ _ E10.out B10.out).mono ?_
    rintro e w11 ⟨⟨g11, rfl, _, hI11⟩, hb11⟩
    have G11 := Lib.hid (G10.out.keep hb11)
    have N11 := Lib.hid (N10.out.keep hb11)
    have M11 := Lib.hid (M10.out.keep hb11)
    have T11 := Lib.hid (T10.out.keep hb11)
    have B11 := Lib.hid (below_on B10.out hb11)
    have K11 := Lib.hid (hI11)
    clear hb11  hI11
    have HQ := equal_any A5 A7 c5 c7 (zs L) (zs L) w11 N11.out M11.out (by rw [zs_len]; omega) (by rw [zs_len]; omega)
    rw [zs_len, beq_self_eq_true] at HQ
    have HQ := Lib.hid HQ
    go_wp2_with fail
    refine (HQ.out).mono ?_
    rintro e w12 ⟨rfl, hb12⟩
    have G12 := Lib.hid (G11.out.keep hb12)
    have T12 := Lib.hid (T11.out.keep hb12)
    have K12 := Lib.hid (K11.out.keep hb12)
    have B12 := Lib.hid (below_on B11.out hb12)
    clear hb12  
    have g0 := G12.out.at_ 0
    have g1 := G12.out.at_ 1
    simp only [List.getElem?_cons_zero, List.getElem?_cons_succ] at g0 g1
    go_wp2_with fail
    refine (plain_any k A m c (cast l) w12 (HE.out _ B12.out) hM2.out).mono ?_
    rintro e w13 ⟨P13, d13, rfl, hE13, hb13⟩
    have G13 := Lib.hid (G12.out.keep hb13)
    have T13 := Lib.hid (T12.out.keep hb13)
    have K13 := Lib.hid (K12.out.keep hb13)
    have B13 := Lib.hid (below_on B12.out hb13)
    have E13 := Lib.hid (hE13)
    clear hb13 g0 g1 hE13
    go_wp2_with fail
    refine (HTs.out _ _ _ E13.out).mono ?_
    rintro e w14 ⟨g14, rfl, hI14, hb14⟩
    have G14 := Lib.hid (G13.out.keep hb14)
    have T14 := Lib.hid (T13.out.keep hb14)
    have K14 := Lib.hid (K13.out.keep hb14)
    have B14 := Lib.hid (below_on B13.out hb14)
    have U14 := Lib.hid (hI14)
    clear hb14  hI14
    have HQ := equal_any (some ⟨g9, 0, none⟩) (some ⟨g14, 0, none⟩) k k tv tv w14 T14.out U14.out (by omega) (by omega)
    rw [htl, beq_self_eq_true] at HQ
    have HQ := Lib.hid HQ
    go_wp2_with fail
    refine (HQ.out).mono ?_
    rintro e w15 ⟨rfl, hb15⟩
    have G15 := Lib.hid (G14.out.keep hb15)
    have K15 := Lib.hid (K14.out.keep hb15)
    have B15 := Lib.hid (below_on B14.out hb15)
    clear hb15  
    have g0 := G15.out.at_ 0
    have g1 := G15.out.at_ 1
    simp only [List.getElem?_cons_zero, List.getElem?_cons_succ] at g0 g1
    go_wp2_with fail
    refine (plain_any k A m c (cast l) w15 (HE.out _ B15.out) hM2.out).mono ?_
    rintro e w16 ⟨P16, d16, rfl, hE16, hb16⟩
    have G16 := Lib.hid (G15.out.keep hb16)
    have K16 := Lib.hid (K15.out.keep hb16)
    have B16 := Lib.hid (below_on B15.out hb16)
    have E16 := Lib.hid (hE16)
    clear hb16 g0 g1 hE16
    go_wp2_with fail
    refine (HBs.out _ _ _ E16.out).mono ?_
    rintro e w17 ⟨g17, rfl, hI17, hb17⟩
    have G17 := Lib.hid (G16.out.keep hb17)
    have K17 := Lib.hid (K16.out.keep hb17)
    have B17 := Lib.hid (below_on B16.out hb17)
    have U17 := Lib.hid (hI17)
    clear hb17  hI17
    have HQ := equal_any (some ⟨g11, 0, none⟩) (some ⟨g17, 0, none⟩) k k bv bv w17 K17.out U17.out (by omega) (by omega)
    rw [hbl, beq_self_eq_true] at HQ
    have HQ := Lib.hid HQ
    go_wp2_with fail
    refine (HQ.out).mono ?_
    rintro e w18 ⟨rfl, hb18⟩
    have B18 := Lib.hid (below_on B17.out hb18)
    clear hb18  
    go_wp2_with fail
    go_ret
    exact ⟨by simp, B18.out⟩
end Go.Proofs.YthocdmlacfejkaaDoor
