/- The model: without. -/
import Derived.Test.YtbmogecnepgnaaaDcb
namespace Go.Proofs.Ytbmogecnepgnaaa
open Go.RowKit Go.Maps Go.Shelf
theorem info_ent : (Try.prog.info? 75).map (fun i => (i.zero, i.size, i.bytes)) = some (some (.agg #[.string ⟨#[]⟩, .int .i64 0]), 2, 24) := by kernel_rfl
theorem info_fil : (Try.prog.info? 73).map (fun i => (i.zero, i.size, i.bytes)) = some (some (.agg #[.string ⟨#[]⟩, .int .i64 0]), 2, 24) := by kernel_rfl
theorem info_chg : (Try.prog.info? 87).map (fun i => (i.zero, i.size, i.bytes)) = some (some (.agg #[.string ⟨#[]⟩, .string ⟨#[]⟩, .int .i64 0]), 3, 40) := by kernel_rfl
theorem RowAt.fresh (w : World) (T : TypeId) (k n : Nat) (us : Array Value) (h : us.size = n * k) (hn : n ≤ maxLen) : RowAt (w.alloc (.cells us T)) T k (.slice (some ⟨w.heap.size, 0, none⟩) n n) n us.toList :=
  ⟨by rw [Array.length_toList, h], .inr ⟨w.heap.size, 0, n, us, (0, 0), rfl, Nat.le_refl _, hn, heap_new w _, fun i x hx => by rw [Nat.zero_add, ← Array.getElem?_toList]; exact hx⟩⟩
def eqN (a b : ByteArray) : Bool := decide (a.data.toList = b.data.toList)
def withoutM (l : List Ent) (name : ByteArray) : List Ent := l.filter fun e => !eqN e.1 name
theorem filter_snoc {α : Type} (p : α → Bool) (l : List α) (j : Nat) (x : α) (h : l[j]? = some x) : (l.take (j + 1)).filter p = (l.take j).filter p ++ (if p x then [x] else []) := by
  rw [List.take_add_one, h, List.filter_append]
  show _ ++ ([x] : List α).filter p = _
  rw [List.filter_cons, List.filter_nil]
theorem below_row {B : Nat} {w w' : World} {q : Option Nat} (hg : w.grownBy w' q) (hq : ∀ k, q = some k → B ≤ k) (hB : B ≤ w.heap.size) : Below B w w' :=
  ⟨hg.os, hg.tape, hg.output, hg.size, fun j hj => hg.block j (by omega) (fun e => by have := hq j e.symm; omega)⟩
theorem size_le {B : Nat} {w : World} {o : Obj} (h : B ≤ w.heap.size) : B ≤ (w.alloc o).heap.size := by simp; omega
set_option maxRecDepth 100000 in
set_option maxHeartbeats 8000000 in
theorem without_any {w : World} {v : Value} {n : Nat} {l : List Ent} (h : RowAt w 75 2 v n (entC l)) (hn : l.length = n) (hnm : n ≤ 1000) (name : ByteArray) :
    Calls Try.prog 70 #[v, .string name] w fun e w' => ∃ v', e = .returned v' ∧ w'.ownsRow w.heap.size 75 2 v' (withoutM l name).length (entC (withoutM l name)) ∧ Below w.heap.size w w' := by
  obtain ⟨i0, hi, hz0, hz1, hz2⟩ := info_parts info_ent
  obtain ⟨A, c, rfl, hc1, hc2, _, _⟩ := h.slice
  have HR := Lib.hid h
  have HN := Lib.hid hn
  obtain ⟨B, hB⟩ : ∃ B, w.heap.size = B := ⟨_, rfl⟩
  rw [hB]
  have HB := Lib.hid hB
  clear h hn hB
  go_enter Try.func70, Try.ntmps70
  go_wp2_with fail
  go_loopw [5, 6] (fun u i wr => ∃ j : Nat, i = .int .i64 (j : Nat) ∧ j ≤ n ∧ wr.ownsRow B 75 2 u ((l.take j).filter fun e => !eqN e.1 name).length (entC ((l.take j).filter fun e => !eqN e.1 name)) ∧ Below B w wr) (fun _ i _ => n - (intOf i).toNat)
  case atStart => exact ⟨0, rfl, Nat.zero_le _, World.ownsRow_nil _ _ _ _, Below.refl _ _⟩
  case round =>
    obtain ⟨j, rfl, hj, hown, hbel⟩ := hrel
    have HO := Lib.hid hown
    have HK := Lib.hid hbel
    clear hown hbel
    by_cases hlt : j < n
    · have i1 : (j : Int) < (n : Int) := by omega
      have i2 : IntKind.i64.wrap ((j : Int) + 1) = (j : Int) + 1 := IntWalk.i64_in _ (by omega)
      obtain ⟨x, hx⟩ : ∃ x, l[j]? = some x := ⟨_, List.getElem?_eq_getElem (by have := HN.out; omega)⟩
      have he := entC_at l j x hx
      obtain ⟨A2, c2, ev, _, _, _, hc⟩ := (HR.out.keep (by rw [HB.out]; exact HK.out)).slice
      injection ev with ev1 _ ev3
      subst ev1 ev3
      obtain ⟨g, o, e, hgw, z0⟩ := hc _ _ he.1
      subst e
      obtain ⟨g', o', e, _, z1⟩ := hc _ _ he.2
      injection e with e
      injection e with e1 e2 _
      subst e1 e2
      rw [show o + (j * 2 + 1) = o + j * 2 + 1 by omega] at z1
      have hs := filter_snoc (fun e : Ent => !eqN e.1 name) l j x hx
      have hb := beq_str (a := x.1) (b := name)
      have hjl : ((l.take j).filter fun e => !eqN e.1 name).length ≤ 1000 := Nat.le_trans (List.length_filter_le _ _) (by rw [List.length_take]; omega)
      clear he hx hc
      by_cases hq : x.1.data.toList = name.data.toList
      · rw [decide_eq_true hq] at hb
        rw [show (!eqN x.1 name) = false by unfold eqN; rw [decide_eq_true hq]; rfl, if_neg (by decide), List.append_nil] at hs
        have HF := Lib.hid hs
        clear hq hs
        go_wp2_with fail
        go_roundw
        case rel => exact ⟨j + 1, by go_num, by omega, by rw [HF.out]; exact HO.out, HK.out⟩
        case measure => simp [intOf]; omega
      · rw [decide_eq_false hq] at hb
        rw [show (!eqN x.1 name) = true by unfold eqN; rw [decide_eq_false hq]; rfl, if_pos rfl] at hs
        have HF := Lib.hid hs
        clear hq hs
        go_wp2_with (at_builtin; refine wpList_append_row rfl _ _ 31 rfl B 75 i0 _ 2 24 Try.underlying31 hi hz0 hz1 hz2 rfl (by decide) rfl (HO.out.alloc _) rfl (RowAt.fresh wr 75 2 1 #[.string x.1, .int .i64 (x.2 : Nat)] rfl (by decide)) ?c1 ?c2 (by decide) ?c3 ?_)
        case c1 => exact ⟨rfl, rfl⟩
        case c2 => omega
        case c3 =>
          have := HK.out.size
          have := HB.out
          simp
          omega
        intro v' w' ho hg
        have hg' : Below B wr w' := ((Below.refl B wr).alloc (by have := HK.out.size; have := HB.out; omega) _).trans (below_row hg (fun k hk => own_ge HO.out hk) (by have := HK.out.size; have := HB.out; simp; omega))
        have HO' := Lib.hid (show w'.ownsRow B 75 2 v' ((l.take (j + 1)).filter fun e => !eqN e.1 name).length (entC ((l.take (j + 1)).filter fun e => !eqN e.1 name)) by
          rw [HF.out, entC_app, List.length_append]
          exact ho)
        have HK' := Lib.hid (HK.out.trans hg')
        clear ho hg hg'
        go_wp2_with fail
        go_roundw
        case rel => exact ⟨j + 1, by go_num, by omega, HO'.out, HK'.out⟩
        case measure => simp [intOf]; omega
    · have i1 : ¬ (j : Int) < (n : Int) := by omega
      have hjn : j = n := by omega
      subst hjn
      have ho := HO.out
      rw [List.take_of_length_le (by have := HN.out; omega)] at ho
      have HO' := Lib.hid ho
      clear ho
      go_wp2_with fail
      go_ret
      exact ⟨_, rfl, HO'.out, HK.out⟩
end Go.Proofs.Ytbmogecnepgnaaa
