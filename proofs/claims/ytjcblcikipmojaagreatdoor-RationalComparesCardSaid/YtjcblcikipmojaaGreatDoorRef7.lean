/- The reference's Mul. -/
import Derived.Test.YtjcblcikipmojaaGreatDoorRef4
import Derived.Test.YtjcblcikipmojaaGreatDoorOps
namespace Go.Proofs.YtjcblcikipmojaaGreatDoor
open Go.RowKit

/-- Block g begins with these ints. -/
def IBlk (w : World) (g : Nat) (xs : List Int) : Prop := ∃ cur : Array Value, w.heap[g]? = some (.cells cur 3 (0, 0)) ∧ cur.toList.take xs.length = ints xs
theorem IBlk.lt {w : World} {g : Nat} {xs : List Int} (h : IBlk w g xs) : g < w.heap.size := by
  obtain ⟨cur, h, _⟩ := h
  rcases Nat.lt_or_ge g w.heap.size with hlt | hge
  · exact hlt
  · rw [Array.getElem?_eq_none hge] at h; cases h
theorem IBlk.cell {w : World} {g : Nat} {xs : List Int} (h : IBlk w g xs) {i : Nat} (hi : i < xs.length) : w.cell? ⟨g, i, none⟩ = some (.int .i64 (xs.getD i 0)) := by
  obtain ⟨cur, h, hc⟩ := h
  rw [cell_of_row w g i cur 3 (0, 0) h]
  have e : cur.toList[i]? = (ints xs)[i]? := by rw [← hc, List.getElem?_take, if_pos hi]
  rw [← Array.getElem?_toList, e]
  simp [ints, hi]
theorem IBlk.frozen {w : World} {g : Nat} {xs : List Int} (h : IBlk w g xs) (i : Nat) : w.frozen? ⟨g, i, none⟩ = false := by
  obtain ⟨cur, h, _⟩ := h
  simp [World.frozen?, h]
theorem IBlk.set_ {w : World} {g : Nat} {xs : List Int} (h : IBlk w g xs) (i : Nat) (d : Int) : IBlk (w.setCell ⟨g, i, none⟩ (.int .i64 d)) g (xs.set i d) := by
  obtain ⟨cur, h, hc⟩ := h
  refine ⟨cur.setIfInBounds i (.int .i64 d), by simp [World.setCell, Array.getElem?_modify, h], ?_⟩
  rw [Array.toList_setIfInBounds, List.length_set, List.take_set, hc]
  simp [ints, List.map_set]
theorem IBlk.drewN {w : World} {g : Nat} {xs : List Int} (h : IBlk w g xs) (n : Nat) : IBlk (w.drewN n) g xs := h
theorem IBlk.isL {w : World} {g : Nat} {xs : List Int} (h : IBlk w g xs) {n c : Nat} (hn : xs.length = n) (hc : n ≤ c) : IsL w (some ⟨g, 0, none⟩) n c (ints xs) := by
  refine ⟨by simp [ints]; omega, hc, fun _ => ⟨g, 0, rfl, h.lt, fun j u hu => ?_⟩⟩
  simp only [ints, List.getElem?_map, Option.map_eq_some_iff] at hu
  obtain ⟨d, hd, rfl⟩ := hu
  have hj : j < xs.length := (List.getElem?_eq_some_iff.1 hd).1
  rw [Nat.zero_add, h.cell hj]
  simp [List.getD, hd]
theorem zeros_int (n : Nat) : (madeCells #[.int .i64 0] n).toList = ints (List.replicate n 0) := by
  unfold ints madeCells
  apply List.ext_getElem
  · simp
  · intro i h1 h2
    simp [Nat.mod_one]
theorem made_iblk {w w1 : World} {N : Nat} (hown : w1.ownsRow w.heap.size 3 1 (.slice (some ⟨w.heap.size, 0, none⟩) N N) N (madeCells #[.int .i64 0] N).toList) (h0 : 0 < N) : IBlk w1 w.heap.size (List.replicate N 0) := by
  rw [zeros_int] at hown
  have hl := hown.1
  rcases hown.2 with ⟨_, h⟩ | ⟨g, cap, cur, e, hg, hh, hnc, hcm, hcs, hx⟩
  · omega
  · injection e with e1 e2 e3
    injection e1 with e1
    injection e1 with e1
    subst e1
    refine ⟨cur, hh, ?_⟩
    rw [List.length_replicate, ← hx, Nat.mul_one]
theorem dval_zeros (n : Nat) : dval (List.replicate n 0) = 0 := by
  induction n with
  | zero => rfl
  | succ n ih => rw [List.replicate_succ, dval, ih]; rfl
theorem dig_zeros (n : Nat) : Dig (List.replicate n 0) := fun d hd => by rw [(List.mem_replicate.1 hd).2]; decide
theorem dval_set {P : List Int} {k : Nat} {p s : Int} (hk : k < P.length) (hp : P.getD k 0 = p) : dval (P.set k s) + ten k * p.toNat = dval P + ten k * s.toNat := by
  have e1 : P[k] = p := by rw [← hp]; simp [List.getD, hk]
  have l1 : (P.take k).length = k := by simp; omega
  have a1 : P = P.take k ++ (p :: P.drop (k + 1)) := by
    conv => lhs; rw [← List.take_append_drop k P, List.drop_eq_getElem_cons hk, e1]
  have a2 : P.set k s = P.take k ++ (s :: P.drop (k + 1)) := by
    conv => lhs; rw [a1]
    rw [List.set_append_right _ _ (by omega), l1, Nat.sub_self]
    rfl
  rw [a2, dval_append, l1, dval]
  conv => rhs; rw [a1]
  rw [dval_append, l1, dval, Nat.mul_add, Nat.mul_add]
  omega
theorem dig_set {P : List Int} (h : Dig P) (k : Nat) {s : Int} (h0 : 0 ≤ s) (h9 : s ≤ 9) : Dig (P.set k s) := by
  intro x hx
  rcases List.mem_or_eq_of_mem_set hx with h1 | h1
  · exact h x h1
  · rw [h1]; exact ⟨h0, h9⟩
theorem mul_room {xs ys P : List Int} {i k N : Nat} {x c : Int} (hx : xs.getD i 0 = x) (hi : i < xs.length) (hdx : Dig xs) (hdy : Dig ys) (hN : xs.length + ys.length < N) (hc : 0 < c)
    (hv : dval P + ten (i + k) * c.toNat = dval (xs.take i) * dval ys + ten i * (x.toNat * dval (ys.take k))) (hyk : ys.length ≤ k) : i + k < N := by
  rcases Nat.lt_or_ge (i + k) N with h | h
  · exact h
  · exfalso
    rw [List.take_of_length_le hyk] at hv
    have e : dval (xs.take i) * dval ys + ten i * (x.toNat * dval ys) = dval (xs.take (i + 1)) * dval ys := by
      rw [take_upD hx, Nat.add_mul, Nat.mul_assoc]
    rw [e] at hv
    have h1 := dval_lt (dig_take hdx (i + 1))
    have h2 := dval_lt hdy
    have l1 : (xs.take (i + 1)).length ≤ xs.length := by simp; omega
    have h3 : dval (xs.take (i + 1)) < ten xs.length := Nat.lt_of_lt_of_le h1 (ten_le l1)
    have h4 : dval (xs.take (i + 1)) * dval ys ≤ ten xs.length * ten ys.length := Nat.mul_le_mul (by omega) (by omega)
    have h5 : ten xs.length * ten ys.length = ten (xs.length + ys.length) := by unfold ten; rw [Nat.pow_add]
    have h6 : ten (xs.length + ys.length + 1) ≤ ten (i + k) := ten_le (by omega)
    rw [ten_succ] at h6
    have h7 := ten_pos (xs.length + ys.length)
    have h8 : ten (i + k) * 1 ≤ ten (i + k) * c.toNat := Nat.mul_le_mul_left _ (by omega)
    omega

def InnerInv (w0 : World) (g N i : Nat) (xs ys : List Int) (x : Int) (vc vk : Value) (wr : World) : Prop :=
  ∃ (P : List Int) (c : Int) (k : Nat), vc = .int .i64 c ∧ vk = .int .i64 (k : Nat) ∧ 0 ≤ c ∧ c ≤ 9 ∧ k ≤ N ∧ P.length = N ∧ Dig P ∧ dval P + ten (i + k) * c.toNat = dval (xs.take i) * dval ys + ten i * (x.toNat * dval (ys.take k)) ∧ IBlk wr g P ∧ Below w0.heap.size w0 wr
theorem inner_step {w0 wr : World} {g N i k m : Nat} {xs ys P : List Int} {x y c p s d : Int} (hg : w0.heap.size ≤ g) (hp : P.getD (i + k) 0 = p) (hy : ys.getD k 0 = y) (hx0 : 0 ≤ x) (hx9 : x ≤ 9) (hy0 : 0 ≤ y) (hy9 : y ≤ 9) (hc0 : 0 ≤ c) (hc9 : c ≤ 9) (hk : i + k < N) (hP : P.length = N) (hd : Dig P)
    (hs : s = (p + c + x * y) % 10) (hdv : d = (p + c + x * y) / 10) (hv : dval P + ten (i + k) * c.toNat = dval (xs.take i) * dval ys + ten i * (x.toNat * dval (ys.take k))) (hb : IBlk wr g P) (hbel : Below w0.heap.size w0 wr) :
    InnerInv w0 g N i xs ys x (.int .i64 d) (.int .i64 ((k : Int) + 1)) ((wr.drewN m).setCell ⟨g, i + k, none⟩ (.int .i64 s)) := by
  have hp0 := (getD_dig hd (i + k)).1
  have hp9 := (getD_dig hd (i + k)).2
  rw [hp] at hp0 hp9
  have hxy : 0 ≤ x * y ∧ x * y ≤ 81 := ⟨Int.mul_nonneg hx0 hy0, by have := Int.mul_le_mul hx9 hy9 hy0 (by omega); omega⟩
  have exy : (x * y).toNat = x.toNat * y.toNat := by
    obtain ⟨a, rfl⟩ := Int.eq_ofNat_of_zero_le hx0
    obtain ⟨b, rfl⟩ := Int.eq_ofNat_of_zero_le hy0
    rfl
  obtain ⟨q, hq⟩ : ∃ q, x * y = q := ⟨_, rfl⟩
  rw [hq] at hs hdv hxy exy
  refine ⟨P.set (i + k) s, d, k + 1, rfl, rfl, by omega, by omega, by omega, by rw [List.length_set]; exact hP, dig_set hd _ (by omega) (by omega), ?_, (hb.drewN m).set_ _ _, (below_drewN hbel m).setCell (p := ⟨g, i + k, none⟩) hg _⟩
  have h1 := dval_set (s := s) (by omega : i + k < P.length) hp
  rw [← Nat.add_assoc, ten_succ, take_upD hy]
  have e2 : ten (i + k) * s.toNat + 10 * ten (i + k) * d.toNat = ten (i + k) * (p.toNat + c.toNat + q.toNat) := by
    rw [show p.toNat + c.toNat + q.toNat = s.toNat + 10 * d.toNat by omega]
    simp only [Nat.mul_add, Nat.mul_assoc, Nat.mul_left_comm]
  rw [Nat.mul_add, Nat.mul_add] at e2
  have e3 : ten i * (x.toNat * (dval (ys.take k) + ten k * y.toNat)) = ten i * (x.toNat * dval (ys.take k)) + ten (i + k) * q.toNat := by
    have e4 : ten (i + k) = ten i * ten k := by unfold ten; rw [Nat.pow_add]
    rw [exy, e4, Nat.mul_add, Nat.mul_add]
    simp only [Nat.mul_assoc, Nat.mul_left_comm]
  rw [e3]
  omega
end Go.Proofs.YtjcblcikipmojaaGreatDoor
