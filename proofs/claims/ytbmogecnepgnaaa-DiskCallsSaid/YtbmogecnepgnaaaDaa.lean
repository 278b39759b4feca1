/- A file whose bytes are all durable is there behind a start. -/
import Derived.Test.YtbmogecnepgnaaaDu
namespace Go.Proofs.Ytbmogecnepgnaaa
open Go.RowKit Go.Maps Go.Shelf
def Fl.full (f : Fl) : Prop := f.dur = f.bs.length
theorem failF_full {l : List Int} {nx : Nat} {f : Fl} (h : f.full) : failF l nx f = f := by
  have hk : failK l nx f = 0 := by
    have := chN_le l nx (f.bs.length - f.dur)
    unfold Fl.full at h
    unfold failK
    omega
  unfold failF failB
  rw [hk]
  simp only [Nat.lt_irrefl, false_and, if_false, Nat.add_zero]
  rw [h, List.take_length, ← h]
theorem stepF_keep {l : List Int} {D : Mp} {st : List Fl × Nat} {n : List UInt8} {f : Fl} (hf : f ∈ st.1) (h : f.full) : f ∈ (stepF l D st n).1 := by
  unfold stepF
  split
  · rename_i g _
    refine List.mem_map.2 ⟨f, hf, ?_⟩
    split
    · exact failF_full h
    · rfl
  · exact hf
theorem fold_keep {l : List Int} {D : Mp} {f : Fl} (h : f.full) : ∀ (ss : List (List UInt8)) (st : List Fl × Nat), f ∈ st.1 → f ∈ (ss.foldl (stepF l D) st).1
  | [], _, hf => hf
  | _ :: ss, _, hf => fold_keep h ss _ (stepF_keep hf h)
/-- What is read behind a start: the bytes of the file that the name leads to, if all of them were durable. -/
theorem st_read {w : World} {B p c : Nat} {s : St} {l : List Int} {ss : List (List UInt8)} (hD : Disk w B p (stS s l ss) c) {f : Fl} (hf : f ∈ s.F) (h : f.full) {n : ByteArray} (hh : has (stD s l) (kS n) = true) (hk : (stD s l).atKey (kS n) zD = pD f.b) :
    fndE (stS s l ss) n = 0 ∧ rdV (stS s l ss) n = ⟨f.bs.toArray⟩ := by
  obtain ⟨m, h1, _⟩ := hD
  have h0 : fndE (stS s l ss) n = 0 := by
    unfold fndE
    rw [if_neg (by show ¬ (false = true); decide)]
    exact if_pos hh
  have hF : f ∈ (stS s l ss).F := fold_keep h ss (s.F, 1) hf
  refine ⟨h0, ?_⟩
  unfold rdV
  rw [if_pos h0, bytesAt_of h1.con.nod hF hk]
end Go.Proofs.Ytbmogecnepgnaaa
