/- The numbers of a script. -/
import Derived.Test.YtbmogecnepgnaaaDl
namespace Go.Proofs.Ytbmogecnepgnaaa
open Go.RowKit Go.Maps
/-- A list of ints in memory. -/
def IntL (w : World) (A : Option Addr) (l : List Int) : Prop :=
  ∀ k x, l[k]? = some x → ∃ b o, A = some ⟨b, o, none⟩ ∧ b < w.heap.size ∧ w.cell? ⟨b, o + k, none⟩ = some (.int .i64 x)
theorem IntL.keep {w w' : World} {A : Option Addr} {l : List Int} (h : IntL w A l) (hb : Below w.heap.size w w') : IntL w' A l := fun k x hk =>
  let ⟨b, o, e, hl, hc⟩ := h k x hk
  ⟨b, o, e, Nat.lt_of_lt_of_le hl hb.size, (hb.cell (p := ⟨b, o + k, none⟩) hl).trans hc⟩
/-- The number that a script chooses. -/
def chN (l : List Int) (nx most : Nat) : Nat := (l.getD nx 0).toNat % (most + 1)
theorem chN_le (l : List Int) (nx most : Nat) : chN l nx most ≤ most := by
  unfold chN
  have := Nat.mod_lt (l.getD nx 0).toNat (show 0 < most + 1 by omega)
  omega
/-- A script under way: the cell of its counter, and the cell of its list. -/
structure ScA (w : World) (B cb sb : Nat) (A : Option Addr) (n c : Nat) (l : List Int) (nx : Nat) : Prop where
  cc : w.heap[cb]? = some (.cells #[.int .i64 (nx : Nat)] 3 (0, 0))
  cs : w.heap[sb]? = some (.cells #[.slice A n c] 38 (0, 0))
  ll : IntL w A l
  lk : ∀ b o t, l ≠ [] → A = some ⟨b, o, t⟩ → b ≠ cb ∧ (b < B ∨ ∃ cur fz, w.heap[b]? = some (.cells cur 3 fz))
  ln : l.length = n
  lb : ∀ x ∈ l, -9223372036854775808 ≤ x ∧ x ≤ 9223372036854775807
  ge : B ≤ cb
theorem ScA.keep {w w' : World} {B cb sb : Nat} {A : Option Addr} {n c : Nat} {l : List Int} {nx : Nat} (h : ScA w B cb sb A n c l nx) (hb : Below w.heap.size w w') : ScA w' B cb sb A n c l nx :=
  { h with cc := row_keep h.cc hb, cs := row_keep h.cs hb, ll := h.ll.keep hb, lk := fun b o t z e => ⟨(h.lk b o t z e).1, (h.lk b o t z e).2.imp id fun ⟨cur, fz, h1⟩ => ⟨cur, fz, row_keep h1 hb⟩⟩ }
theorem IntL.grown {w w' : World} {A : Option Addr} {l : List Int} {k : Nat} (h : IntL w A l) (hg : w.grownBy w' (some k)) (hk : ∀ b o t, l ≠ [] → A = some ⟨b, o, t⟩ → b ≠ k) : IntL w' A l := fun j x hj => by
  obtain ⟨b, o, e, hl, hc⟩ := h j x hj
  have hb := hg.block b hl (fun e2 => hk b o none (fun z => by rw [z] at hj; cases hj) e (by injection e2))
  exact ⟨b, o, e, Nat.lt_of_lt_of_le hl hg.size, (World.cell?_of_block (a := ⟨b, o + j, none⟩) hb).trans hc⟩
/-- A block of the disk turns. -/
theorem ScA.turn {w w' : World} {B cb sb : Nat} {A : Option Addr} {n c : Nat} {l : List Int} {nx k : Nat} {o : Obj} (h : ScA w B cb sb A n c l nx) (hg : w.grownBy w' (some k)) (hk : B ≤ k) (ho : w.heap[k]? = some o) (h1 : ∀ us fz, o ≠ .cells us 3 fz) (h2 : ∀ us fz, o ≠ .cells us 38 fz) : ScA w' B cb sb A n c l nx := by
  have n1 : ∀ {a : Nat} {us : Array Value} {fz : Nat × Nat}, w.heap[a]? = some (.cells us 3 fz) → some k ≠ some a := fun {a us fz} ha e => by
    injection e with e
    rw [← e, ho] at ha
    exact h1 _ _ (Option.some.inj ha)
  have nl : ∀ b o t, l ≠ [] → A = some ⟨b, o, t⟩ → b ≠ k := fun b o t z e e2 => by
    rcases (h.lk b o t z e).2 with h3 | ⟨cur, fz, h3⟩
    · omega
    · exact n1 h3 (by rw [e2])
  exact { h with
    cc := heap_stay h.cc hg (n1 h.cc)
    cs := heap_stay h.cs hg (fun e => by
      injection e with e
      have h3 := h.cs
      rw [← e, ho] at h3
      exact h2 _ _ (Option.some.inj h3))
    ll := h.ll.grown hg nl
    lk := fun b o t z e => ⟨(h.lk b o t z e).1, (h.lk b o t z e).2.imp id fun ⟨cur, fz, h3⟩ => ⟨cur, fz, heap_stay h3 hg (n1 h3)⟩⟩ }
theorem ScA.next {w : World} {B cb sb : Nat} {A : Option Addr} {n c : Nat} {l : List Int} {nx : Nat} (h : ScA w B cb sb A n c l nx) : ScA (w.setCell ⟨cb, 0, none⟩ (.int .i64 ((nx + 1 : Nat) : Int))) B cb sb A n c l (nx + 1) := by
  have hne : cb ≠ sb := fun e => by
    have h1 := h.cc
    rw [e, h.cs] at h1
    injection h1 with h1; injection h1 with _ h1; exact absurd h1 (by decide)
  have g2 := grown_cells cb [.int .i64 ((nx + 1 : Nat) : Int)] 0 w
  have e2 : w.setCells cb 0 [.int .i64 ((nx + 1 : Nat) : Int)] = w.setCell ⟨cb, 0, none⟩ (.int .i64 ((nx + 1 : Nat) : Int)) := rfl
  rw [e2] at g2
  exact { h with
    cc := heap_setF w cb 0 _ _ _ _ h.cc
    cs := heap_stay h.cs g2 (fun e => hne (by injection e))
    ll := h.ll.grown g2 (fun b o t z e => (h.lk b o t z e).1)
    lk := fun b o t z e => ⟨(h.lk b o t z e).1, (h.lk b o t z e).2.imp id fun ⟨cur, fz, h3⟩ => ⟨cur, fz, heap_stay h3 g2 (fun e3 => (h.lk b o t z e).1 (by injection e3 with e3; exact e3.symm))⟩⟩ }
abbrev scV (cb sb : Nat) : Value := .func (.func 69) #[] #[ptrV cb, ptrV sb]
set_option maxRecDepth 100000 in
set_option maxHeartbeats 4000000 in
theorem choices_any (A : Option Addr) (n c B : Nat) (l : List Int) (w : World) (hB : B ≤ w.heap.size) (hl : IntL w A l) (hlk : ∀ b o t, l ≠ [] → A = some ⟨b, o, t⟩ → b < w.heap.size ∧ (b < B ∨ ∃ cur fz, w.heap[b]? = some (.cells cur 3 fz))) (hn : l.length = n) (hb : ∀ x ∈ l, -9223372036854775808 ≤ x ∧ x ≤ 9223372036854775807) :
    Calls Try.prog 56 #[.slice A n c] w fun e w' => e = .returned (scV (w.heap.size + 1) w.heap.size) ∧ ScA w' B (w.heap.size + 1) w.heap.size A n c l 0 ∧ Below w.heap.size w w' := by
  have hmf : ∀ (fn : Fn) (first cap : Array Value) (w : World), (Instr.makeFunc fn first cap).run Try.prog w = .ok (.func fn first cap) w := fun _ _ _ _ => rfl
  have k1 := (Below.refl w.heap.size w).alloc (Nat.le_refl _) (.cells #[.slice A n c] 38)
  have s1 : (w.alloc (.cells #[.slice A n c] 38)).heap.size = w.heap.size + 1 := by simp
  have r1 := heap_new w (.cells #[.slice A n c] 38)
  have k2 := (Below.refl (w.alloc (.cells #[.slice A n c] 38)).heap.size (w.alloc (.cells #[.slice A n c] 38))).alloc (Nat.le_refl _) (.cells #[.int .i64 0] 3)
  have r2 := heap_new (w.alloc (.cells #[.slice A n c] 38)) (.cells #[.int .i64 0] 3)
  have k3 := below_on k1 k2
  have HS := Lib.hid (show ScA ((w.alloc (.cells #[.slice A n c] 38)).alloc (.cells #[.int .i64 0] 3)) B (w.heap.size + 1) w.heap.size A n c l 0 from ⟨by rw [← s1]; exact r2, row_keep r1 k2, hl.keep k3, fun b o t z e => ⟨by have := (hlk b o t z e).1; omega, (hlk b o t z e).2.imp id fun ⟨cur, fz, h3⟩ => ⟨cur, fz, row_keep h3 k3⟩⟩, hn, hb, by omega⟩)
  have HB := Lib.hid k3
  clear k1 k2 r1 r2 hl hn hb k3 hlk
  go_enter Try.func56, Try.ntmps56
  go_wp2_with fail
  go_ret
  exact ⟨rfl, HS.out, HB.out⟩
theorem tmod_np {x : Int} (y : Int) (h : x ≤ 0) : x.tmod y ≤ 0 := by
  obtain ⟨k, rfl⟩ : ∃ k : Nat, x = -(k : Int) := ⟨(-x).toNat, by omega⟩
  rw [Int.neg_tmod]
  have := Int.tmod_nonneg y (show (0 : Int) ≤ (k : Int) by omega)
  omega
theorem tmod_any (x : Int) (m : Nat) : (if (0 : Int) < x.tmod ((m : Int) + 1) then x.tmod ((m : Int) + 1) else 0) = ((x.toNat % (m + 1) : Nat) : Int) := by
  rcases Int.le_total 0 x with h | h
  · obtain ⟨k, rfl⟩ : ∃ k : Nat, x = (k : Int) := ⟨x.toNat, by omega⟩
    have e : (k : Int).tmod ((m : Int) + 1) = ((k % (m + 1) : Nat) : Int) := by
      rw [show (m : Int) + 1 = ((m + 1 : Nat) : Int) by omega]
      exact (Int.ofNat_tmod k (m + 1)).symm
    rw [e, Int.toNat_natCast]
    split <;> omega
  · have e : x.tmod ((m : Int) + 1) ≤ 0 := tmod_np _ h
    have e2 : x.toNat = 0 := by omega
    rw [e2, Nat.zero_mod]
    split
    · omega
    · rfl
set_option maxRecDepth 100000 in
set_option maxHeartbeats 4000000 in
theorem choose_any {w : World} {B cb sb : Nat} {A : Option Addr} {n c : Nat} {l : List Int} {nx : Nat} (h : ScA w B cb sb A n c l nx) (most : Nat) (hm : most ≤ 4611686018427387904) (hnx : nx ≤ 4611686018427387904) :
    Calls Try.prog 69 #[.int .i64 (most : Nat), ptrV cb, ptrV sb] w fun e w' => e = .returned (.int .i64 (chN l nx most : Nat)) ∧ ScA w' B cb sb A n c l (nx + 1) ∧ w.grownBy w' (some cb) := by
  have c0 := (Cells.of_row h.cc).at_ 0
  have y0 := (Cells.of_row h.cc).fz 0
  have s0 := (Cells.of_row h.cs).at_ 0
  simp only [List.getElem?_cons_zero] at c0 s0
  have g2 := grown_cells cb [.int .i64 ((nx + 1 : Nat) : Int)] 0 w
  have e2 : w.setCells cb 0 [.int .i64 ((nx + 1 : Nat) : Int)] = w.setCell ⟨cb, 0, none⟩ (.int .i64 ((nx + 1 : Nat) : Int)) := rfl
  rw [e2] at g2
  have HS := Lib.hid h.next
  have HG := Lib.hid g2
  rw [show ((nx + 1 : Nat) : Int) = (nx : Int) + 1 by omega] at HS HG
  clear g2 e2
  have e3 : IntKind.i64.wrap ((nx : Int) + 1) = (nx : Int) + 1 := IntWalk.i64_in _ (by omega)
  have e4 : IntKind.i64.wrap ((most : Int) + 1) = (most : Int) + 1 := IntWalk.i64_in _ (by omega)
  have e5 : ((most : Int) + 1 == 0) = false := by rw [beq_eq_false_iff_ne]; omega
  have e6 : ¬ ((most : Int) + 1 = 0) := by omega
  by_cases hlt : nx < n
  · have hx : l[nx]? = some (l.getD nx 0) := by rw [List.getD_eq_getElem?_getD, List.getElem?_eq_getElem (by rw [h.ln]; exact hlt)]; rfl
    obtain ⟨b, o, rfl, hbl, hc⟩ := h.ll nx _ hx
    have hc' := hc
    obtain ⟨x, hxe⟩ : ∃ x, l.getD nx 0 = x := ⟨_, rfl⟩
    have hxb := h.lb x (by rw [← hxe]; exact List.mem_of_getElem? hx)
    rw [hxe] at hc'
    have ht := tmod_any x most
    have HR := Lib.hid (show chN l nx most = x.toNat % (most + 1) by unfold chN; rw [hxe])
    have htb : -9223372036854775808 ≤ x.tmod ((most : Int) + 1) ∧ x.tmod ((most : Int) + 1) ≤ 9223372036854775807 := by
      rcases Int.le_total 0 x with h0 | h0
      · have := Int.tmod_nonneg ((most : Int) + 1) h0
        have := Int.tmod_lt_of_pos x (show (0 : Int) < (most : Int) + 1 by omega)
        omega
      · have h1 : x.tmod ((most : Int) + 1) ≤ 0 := tmod_np _ h0
        have h2 := Int.tmod_add_mul_tdiv x ((most : Int) + 1)
        have h3 := Int.lt_tmod_of_pos x (show (0 : Int) < (most : Int) + 1 by omega)
        omega
    have e7 : IntKind.i64.wrap (x.tmod ((most : Int) + 1)) = x.tmod ((most : Int) + 1) := IntWalk.i64_in _ (by omega)
    have i1 : (nx : Int) < (n : Int) := by omega
    obtain ⟨K, hK⟩ : ∃ K, x.toNat % (most + 1) = K := ⟨_, rfl⟩
    rw [hK] at ht HR
    clear h hx hc hxe hxb htb hK
    by_cases hp : (0 : Int) < x.tmod ((most : Int) + 1)
    · rw [if_pos hp] at ht
      rw [ht] at e7
      have hp' := hp
      rw [ht] at hp'
      have Ht := Lib.hid ht
      go_enter Try.func69, Try.ntmps69
      go_wp2_with fail
      go_ret
      rw [HR.out]
      exact ⟨rfl, HS.out, HG.out⟩
    · rw [if_neg hp] at ht
      have hp2 : decide ((0 : Int) < x.tmod ((most : Int) + 1)) = false := decide_eq_false hp
      have Ht := Lib.hid ht
      clear ht
      go_enter Try.func69, Try.ntmps69
      go_wp2_with fail
      go_ret
      rw [HR.out, ← Ht.out]
      exact ⟨rfl, HS.out, HG.out⟩
  · have i1 : ¬ ((nx : Int) < (n : Int)) := by omega
    have i2 : decide ((nx : Int) < (n : Int)) = false := decide_eq_false i1
    have i3 : decide (nx < n) = false := decide_eq_false hlt
    have HR := Lib.hid (show chN l nx most = 0 by
      unfold chN
      rw [List.getD_eq_getElem?_getD, List.getElem?_eq_none (by rw [h.ln]; omega)]
      exact Nat.zero_mod _)
    clear h
    go_enter Try.func69, Try.ntmps69
    go_wp2_with fail
    go_ret
    rw [HR.out]
    exact ⟨rfl, HS.out, HG.out⟩
end Go.Proofs.Ytbmogecnepgnaaa
