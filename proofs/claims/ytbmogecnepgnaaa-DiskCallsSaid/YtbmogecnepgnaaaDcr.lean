/- The disk and its model: the operations. -/
import Derived.Test.YtbmogecnepgnaaaDcq
namespace Go.Proofs.Ytbmogecnepgnaaa
open Go.RowKit Go.Maps Go.Shelf
theorem cntS_eq {X Y : St} (h1 : Y.down = X.down) (h2 : Y.lim = X.lim) (h3 : Y.left = X.left) : (cntS Y).down = (cntS X).down ∧ (cntS Y).lim = (cntS X).lim ∧ (cntS Y).left = (cntS X).left := by
  unfold cntS
  rw [h2, h3]
  split
  · split
    · exact ⟨rfl, rfl, rfl⟩
    · exact ⟨h1, rfl, rfl⟩
  · exact ⟨h1, h2, h3⟩
/-- A counted state is like its model, if all but the count is. -/
theorem Sim.of {s X : St} {md M : Md} (h : Sim s md) (x1 : X.down = s.down) (x2 : X.lim = s.lim) (x3 : X.left = s.left) (x4 : X.cap = s.cap) (m1 : M.down = (flS md).down) (m2 : M.lim = (flS md).lim) (m3 : M.cap = md.cap)
    (fl : M.files = X.F.map entF) (nm : NR X.F X.D1 M.names) (dm : NR X.F X.D2 M.dur) (pd : PR X.F X.D2 X.ops M.pend) : Sim (cntS X) M := by
  obtain ⟨f1, f2, f3, f4, f5⟩ := cntS_F X
  obtain ⟨c1, c2⟩ := cnt_sim h.down h.lim
  obtain ⟨e1, e2, e3⟩ := cntS_eq (X := s) (Y := X) x1 x2 x3
  exact ⟨by rw [m3, h.cap, f5, x4], by rw [m1, c1, e1], by rw [m2, c2, e2, e3], by rw [f1, fl], by rw [f1, f2]; exact nm, by rw [f1, f3]; exact dm, by rw [f1, f3, f4]; exact pd⟩
theorem fnd_sim {s : St} {md : Md} (h : Sim s md) (n : ByteArray) : fndE s n = if md.down then 18 else if findM md.names n < 0 then 10 else 0 := by
  unfold fndE
  simp only [h.down, h.nm.find_lt]
  cases s.down <;> cases Maps.has s.D1 (kS n) <;> rfl
theorem data_back {a b : List UInt8} {d : ByteArray} (h : b = d.data.toList) : (⟨(a ++ b).toArray⟩ : ByteArray) = ⟨a.toArray⟩ ++ d := ba_of (by rw [ByteArray.data_append, Array.toList_append, h])
section
variable {s : St} {md : Md} (h : Sim s md) (hl : DL s) (hn : s.F.Pairwise fun f g => f.b ≠ g.b)
include h hl hn
omit hl in
theorem sim_sync (n : ByteArray) : sMe md n = syE s n ∧ Sim (syS s n) (sMs md n) := by
  have hf := fnd_sim h n
  have hc := h.cntE
  unfold sMe syE sMs syS
  rw [hf]
  by_cases hd : md.down = true
  · rw [if_pos hd, if_pos hd, if_pos hd, if_neg (by decide), if_neg (by decide)]
    exact ⟨rfl, h⟩
  · rw [if_neg hd, if_neg hd, if_neg hd]
    by_cases hk : findM md.names n < 0
    · rw [if_pos hk, if_pos hk, if_pos hk, if_neg (by decide), if_neg (by decide)]
      exact ⟨rfl, h⟩
    · rw [if_neg hk, if_neg hk, if_neg hk, if_pos rfl, if_pos rfl]
      refine ⟨hc, ?_⟩
      by_cases hb : flB md = true
      · rw [if_pos hb] at hc ⊢
        rw [if_neg (by rw [← hc]; decide)]
        exact h.cnt
      · rw [if_neg hb] at hc ⊢
        rw [if_pos hc.symm]
        have hh : Maps.has s.D1 (kS n) = true := by
          rw [h.nm.find_lt] at hk
          simpa using hk
        obtain ⟨i, f, e1, e2, e3, _⟩ := h.nm.found hh
        rw [e1, Int.toNat_natCast, blk_of e3]
        have hcs := h.cnt
        obtain ⟨f1, f2, f3, f4, f5⟩ := cntS_F s
        have hk := upd_keep (F := s.F) (k := f.b) (g := fun f => { f with dur := f.bs.length }) (fun _ => rfl)
        refine ⟨hcs.cap, hcs.down, hcs.lim, ?_, ?_, ?_, ?_⟩
        · show durM (flS md).files i = (updF s.F f.b _).map entF
          rw [hcs.fl, f1, upd_map hn e2]
          unfold durM
          rw [at_map e2]
          show (s.F.map entF).set i ((entF f).1, (entF f).1.size) = _
          congr 1
        · have := hcs.nm
          rw [f1] at this
          exact this.mono hk
        · have := hcs.dm
          rw [f1] at this
          exact this.mono hk
        · have := hcs.pd
          rw [f1] at this
          exact this.mono hk
omit hl hn in
theorem sim_op {o : Opn} {c : Chg} (ho : OR s.F s.D1 o c) (hl : DL s) : Sim (opS s o) (apM (flS md) c) := by
  obtain ⟨g1, g2, g3, g4, g5⟩ := flS_keep md
  refine h.of (X := { s with D1 := appO o s.D1, ops := s.ops ++ [o] }) rfl rfl rfl rfl rfl rfl (by show (flS md).cap = _; exact g5) (by show (flS md).files = _; rw [g1, h.fl]) ?_ (by show NR s.F s.D2 (flS md).dur; rw [g3]; exact h.dm) ?_
  · show NR s.F (appO o s.D1) (changedM (flS md).names c)
    rw [g2]
    exact ho.step h.nm
  · show PR s.F s.D2 (s.ops ++ [o]) ((flS md).pend ++ [c])
    rw [g4]
    exact h.pd.snoc (by rw [hl.run]; exact ho)
omit hn in
theorem sim_remove (n : ByteArray) : rMe md n = rmE s n ∧ Sim (rmS s n) (rMs md n) := by
  have hf := fnd_sim h n
  have hc := h.cntE
  unfold rMe rmE rMs rmS
  rw [hf]
  by_cases hd : md.down = true
  · rw [if_pos hd, if_pos hd, if_pos hd, if_neg (by decide), if_neg (by decide)]
    exact ⟨rfl, h⟩
  · rw [if_neg hd, if_neg hd, if_neg hd]
    by_cases hk : findM md.names n < 0
    · rw [if_pos hk, if_pos hk, if_pos hk, if_neg (by decide), if_neg (by decide)]
      exact ⟨rfl, h⟩
    · rw [if_neg hk, if_neg hk, if_neg hk, if_pos rfl, if_pos rfl]
      refine ⟨hc, ?_⟩
      have hh : Maps.has s.D1 (kS n) = true := by
        rw [h.nm.find_lt] at hk
        simpa using hk
      obtain ⟨i, f, _, _, _, e4⟩ := h.nm.found hh
      exact sim_op h (o := .rem n) (c := (n, ⟨#[]⟩, 0)) ⟨rfl, rfl, e4⟩ hl
omit hn in
theorem sim_rename (a b : ByteArray) : nMe md a b = rnE s a b ∧ Sim (rnS s a b) (nMs md a b) := by
  have hf := fnd_sim h a
  have hc := h.cntE
  unfold nMe rnE nMs rnS
  rw [hf]
  by_cases hd : md.down = true
  · rw [if_pos hd, if_pos hd, if_pos hd, if_neg (by decide), if_neg (by decide)]
    exact ⟨rfl, h⟩
  · rw [if_neg hd, if_neg hd, if_neg hd]
    by_cases hk : findM md.names a < 0
    · rw [if_pos hk, if_pos hk, if_pos hk, if_neg (by decide), if_neg (by decide)]
      exact ⟨rfl, h⟩
    · rw [if_neg hk, if_neg hk, if_neg hk, if_pos rfl, if_pos rfl]
      cases hb : fileB b with
      | false => simp only [reduceIte, Bool.false_eq_true]; exact ⟨trivial, h⟩
      | true =>
        simp only [reduceIte, Bool.true_eq_false]
        refine ⟨hc, ?_⟩
        have hh : Maps.has s.D1 (kS a) = true := by
          rw [h.nm.find_lt] at hk
          simpa using hk
        obtain ⟨i, f, e1, e2, e3, e4⟩ := h.nm.found hh
        rw [e1, Int.toNat_natCast]
        exact sim_op h (o := .ren a b) (c := (a, b, i)) ⟨rfl, rfl, e4, hb, f, e2, e3⟩ hl
omit hl hn in
theorem sim_publish (_hl : DL s) : pMe md = puE s ∧ Sim (puS s) (pMs md) := by
  have hc := h.cntE
  unfold pMe puE pMs puS
  rw [h.down]
  by_cases hd : s.down = true
  · rw [if_pos hd, if_pos hd, if_pos hd, if_pos hd]
    exact ⟨rfl, h⟩
  · rw [if_neg hd, if_neg hd, if_neg hd, if_neg hd]
    refine ⟨hc, ?_⟩
    have hcs := h.cnt
    by_cases hb : flB md = true
    · rw [if_pos hb] at hc ⊢
      rw [if_neg (by rw [← hc]; decide)]
      exact hcs
    · rw [if_neg hb] at hc ⊢
      rw [if_pos hc.symm]
      obtain ⟨f1, f2, f3, f4, f5⟩ := cntS_F s
      refine ⟨hcs.cap, hcs.down, hcs.lim, hcs.fl, hcs.nm, ?_, trivial⟩
      have := hcs.nm
      rw [f2] at this
      exact this
theorem sim_append (n d : ByteArray) {b : Nat} (_hb : ap0 s n d = 0 → ∀ f ∈ s.F, f.b ≠ b) : aMe md n d = apE s n d ∧ Sim (apS s n d b) (aMs md n d) := by
  have hc := h.cntE
  have e0 : aM0 md n d = ap0 s n d := by
    unfold aM0 ap0
    simp only [h.down, h.nm.find_lt, h.nm.size, h.cap, h.fl, h.nm.used hn]
  unfold aMe apE aMs apS
  rw [e0]
  by_cases h0 : ap0 s n d = 0
  · rw [if_pos h0, if_pos h0, if_pos h0, if_pos h0]
    refine ⟨hc, ?_⟩
    obtain ⟨g1, g2, g3, g4, g5⟩ := flS_keep md
    have hfile : fileB n = true := by
      unfold ap0 at h0
      split at h0
      · cases h0
      · split at h0
        · cases h0
        · rename_i _ h1
          simpa using h1
    unfold aMx
    cases hh : Maps.has s.D1 (kS n) with
    | true =>
      have hk : ¬ findM md.names n < 0 := by rw [h.nm.find_lt, hh]; decide
      rw [if_neg hk, if_pos rfl]
      obtain ⟨i, f, e1, e2, e3, _⟩ := h.nm.found hh
      rw [e1, Int.toNat_natCast]
      have hbk : blk s n = f.b := blk_of e3
      have hkp := upd_keep (F := s.F) (k := f.b) (g := fun f => { f with bs := f.bs ++ d.data.toList }) (fun _ => rfl)
      refine h.of (X := apO s n d) rfl rfl rfl rfl rfl rfl (by show (flS md).cap = _; exact g5) ?_ ?_ ?_ ?_
      · show addM (flS md).files i d = (updF s.F (blk s n) _).map entF
        rw [hbk, g1, h.fl, upd_map hn e2]
        unfold addM
        rw [at_map e2]
        show (s.F.map entF).set i ((entF f).1 ++ d, (entF f).2) = _
        congr 1
      · show NR (updF s.F (blk s n) _) s.D1 (flS md).names
        rw [hbk, g2]
        exact h.nm.mono hkp
      · show NR (updF s.F (blk s n) _) s.D2 (flS md).dur
        rw [hbk, g3]
        exact h.dm.mono hkp
      · show PR (updF s.F (blk s n) _) s.D2 s.ops (flS md).pend
        rw [hbk, g4]
        exact h.pd.mono hkp
    | false =>
      have hk : findM md.names n < 0 := by rw [h.nm.find_lt]; exact hh
      rw [if_pos hk, if_neg (by decide)]
      have hlen : (flS md).files.length = s.F.length := by rw [g1, h.fl, List.length_map]
      have hat : (s.F ++ [(⟨b, d.data.toList, 0⟩ : Fl)])[s.F.length]? = some ⟨b, d.data.toList, 0⟩ := by rw [List.getElem?_append_right (Nat.le_refl _), Nat.sub_self]; rfl
      have hor : OR (s.F ++ [(⟨b, d.data.toList, 0⟩ : Fl)]) s.D1 (.cre n b) (⟨#[]⟩, n, s.F.length) := ⟨rfl, rfl, hfile, _, hat, rfl⟩
      refine h.of (X := apN s n d b) rfl rfl rfl rfl rfl rfl (by show (flS md).cap = _; exact g5) ?_ ?_ ?_ ?_
      · show addM ((flS md).files ++ [zF]) (flS md).files.length d = (s.F ++ [_]).map entF
        rw [hlen, g1, h.fl, List.map_append]
        unfold addM
        rw [List.getElem?_append_right (by simp), List.length_map, Nat.sub_self]
        show (s.F.map entF ++ [zF]).set s.F.length (zF.1 ++ d, zF.2) = _
        rw [List.set_append_right _ _ (by simp), List.length_map, Nat.sub_self]
        show s.F.map entF ++ [(zF.1 ++ d, zF.2)] = s.F.map entF ++ [entF ⟨b, d.data.toList, 0⟩]
        congr 2
      · show NR (s.F ++ [_]) (s.D1.put (kS n) (pD b)) (changedM (flS md).names (⟨#[]⟩, n, (flS md).files.length))
        rw [hlen, g2]
        exact hor.step (h.nm.mono app_keep)
      · show NR (s.F ++ [_]) s.D2 (flS md).dur
        rw [g3]
        exact h.dm.mono app_keep
      · show PR (s.F ++ [_]) s.D2 (s.ops ++ [.cre n b]) ((flS md).pend ++ [(⟨#[]⟩, n, (flS md).files.length)])
        rw [hlen, g4]
        exact (h.pd.mono app_keep).snoc (by rw [hl.run]; exact hor)
  · rw [if_neg h0, if_neg h0, if_neg h0, if_neg h0]
    exact ⟨rfl, h⟩
end
end Go.Proofs.Ytbmogecnepgnaaa
