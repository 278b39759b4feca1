/- Sync, Rename, Remove. -/
import Derived.Test.YtbmogecnepgnaaaDj
namespace Go.Proofs.Ytbmogecnepgnaaa
open Go.RowKit Go.Maps
theorem DM.dur {w : World} {B p : Nat} {m : Mem} {s : St} (h : DM w B p m s) {f : Fl} (hf : f ∈ s.F) (n : Nat) :
    (w.cell? ⟨f.b, 0, none⟩ = some (m.dv f.b) ∧ w.cell? ⟨f.b, 1, none⟩ = some (.int .i64 (f.dur : Nat)) ∧ w.frozen? ⟨f.b, 1, none⟩ = false) ∧ DM (w.setCell ⟨f.b, 1, none⟩ (.int .i64 (n : Nat))) B p m { s with F := updF s.F f.b fun f => { f with dur := n } } ∧ Below B w (w.setCell ⟨f.b, 1, none⟩ (.int .i64 (n : Nat))) := by
  have hfb := (h.con.fl f hf).1
  have hfB := (h.con.fl f hf).2.2
  have C := Cells.of_row hfb
  have g2 := grown_cells f.b [.int .i64 (n : Nat)] 1 w
  have e2 : w.setCells f.b 1 [.int .i64 (n : Nat)] = w.setCell ⟨f.b, 1, none⟩ (.int .i64 (n : Nat)) := rfl
  rw [e2] at g2
  have keep2 : ∀ {a : Nat} {o : Obj}, w.heap[a]? = some o → a ≠ f.b → (w.setCell ⟨f.b, 1, none⟩ (.int .i64 (n : Nat))).heap[a]? = some o := fun {a o} ho hab => heap_stay ho g2 (fun e => by injection e with e; exact hab e.symm)
  have nefile : ∀ {a : Nat} {o : Obj}, w.heap[a]? = some o → (∀ us fz, o ≠ .cells us 81 fz) → a ≠ f.b := fun {a o} ho hne e => by
    rw [e, hfb] at ho
    exact hne _ _ (Option.some.inj ho).symm
  have hmap : ∀ {b n' : Nat} {D : Mp}, w.ownsMap Try.prog 9 ptrE b n' D → (w.setCell ⟨f.b, 1, none⟩ (.int .i64 (n : Nat))).ownsMap Try.prog 9 ptrE b n' D := fun {b n D} hb => by
    obtain ⟨es, c, h1, h2⟩ := hb
    exact ⟨es, c, keep2 h1 (nefile h1 (fun _ _ e => by cases e)), h2⟩
  have hdat : ∀ g ∈ s.F, DataAt (w.setCell ⟨f.b, 1, none⟩ (.int .i64 (n : Nat))) B (m.dv g.b) g.bs := fun g hg => (h.con.fl g hg).2.1.stay g2 (fun k hk e => by
    injection e with e
    obtain ⟨us, fz, h3⟩ := (h.con.fl g hg).2.1.obj hk
    rw [← e, hfb] at h3; injection h3 with h3; injection h3 with _ h3; exact absurd h3 (by decide))
  refine ⟨⟨C.at_ 0, C.at_ 1, C.fz 1⟩, ⟨keep2 h.obj (nefile h.obj (fun _ _ e => by injection e with _ e; exact absurd e (by decide))), h.low, ?_, h.fr.grown g2 (fun j e => by injection e with e; subst e; exact ⟨_, hfb, rfl⟩)⟩, (Below.refl B w).setCell (p := ⟨f.b, 1, none⟩) hfB _⟩
  exact {
    nm := hmap h.con.nm
    dm := hmap h.con.dm
    pd := own_grown h.con.pd g2 (fun e => by
      obtain ⟨cur, h2⟩ := own_obj h.con.pd e
      rw [hfb] at h2; injection h2 with h2; injection h2 with _ h2; exact absurd h2 (by decide))
    fl := fun g hgm => by
      rcases updF_mem hgm with ⟨h1, hne⟩ | ⟨f0, h1, h2, rfl⟩
      · exact ⟨keep2 (h.con.fl g h1).1 hne, hdat g h1, (h.con.fl g h1).2.2⟩
      · have e0 : f0 = f := nod_eq h.con.nod h1 hf h2
        subst e0
        exact ⟨heap_setF w f0.b 1 _ _ _ _ hfb, hdat f0 hf, hfB⟩
    nod := updF_nod (fun _ => rfl) h.con.nod
    sep := fun g1 hg1 g2 hg2 hne k hk => by
      have own : ∀ g ∈ updF s.F f.b (fun f => { f with dur := n }), ∃ g0 ∈ s.F, g0.b = g.b := fun g hg => by
        rcases updF_mem hg with ⟨h1, _⟩ | ⟨f0, h1, _, rfl⟩
        · exact ⟨g, h1, rfl⟩
        · exact ⟨f0, h1, rfl⟩
      obtain ⟨a, ha, hab⟩ := own g1 hg1
      obtain ⟨b, hb, hbb⟩ := own g2 hg2
      rw [← hab] at hk hne
      rw [← hbb] at hne ⊢
      exact h.con.sep a ha b hb hne k hk
    mne := h.con.mne, bn := h.con.bn, bd := h.con.bd }
theorem fnd_cases (s : St) (n : ByteArray) : fndE s n = 18 ∨ fndE s n = 0 ∨ fndE s n = 10 := by
  unfold fndE
  split
  · exact .inl rfl
  · split
    · exact .inr (.inl rfl)
    · exact .inr (.inr rfl)
theorem cnt_cases (s : St) : cntE s = 0 ∨ cntE s = 32 := by
  unfold cntE
  split
  · split
    · exact .inr rfl
    · exact .inl rfl
  · exact .inl rfl
theorem cntS_F (s : St) : (cntS s).F = s.F ∧ (cntS s).D1 = s.D1 ∧ (cntS s).D2 = s.D2 ∧ (cntS s).ops = s.ops ∧ (cntS s).cap = s.cap := by
  unfold cntS
  split
  · split <;> exact ⟨rfl, rfl, rfl, rfl, rfl⟩
  · exact ⟨rfl, rfl, rfl, rfl, rfl⟩
theorem blk_of {s : St} {n : ByteArray} {f : Fl} (h : s.D1.atKey (kS n) zD = pD f.b) : blk s n = f.b := by unfold blk; rw [h]; rfl
def syE (s : St) (n : ByteArray) : Int := if fndE s n = 0 then cntE s else fndE s n
def syS (s : St) (n : ByteArray) : St :=
  if fndE s n = 0 then (if cntE s = 0 then { cntS s with F := updF s.F (blk s n) fun f => { f with dur := f.bs.length } } else cntS s) else s
set_option maxRecDepth 100000 in
set_option maxHeartbeats 8000000 in
theorem sync_any {w : World} {B p c : Nat} {s : St} (hD : Disk w B p s c) (n : ByteArray) (hns : n.size ≤ maxLen) :
    Calls Try.prog 21 #[ptrV p, .string n] w fun e w' => e = .returned (.int .i64 (syE s n)) ∧ Disk w' B p (syS s n) c ∧ Below B w w' := by
  obtain ⟨m, h, hl, hn⟩ := hD
  have HM := Lib.hid h
  have HL := Lib.hid hl
  have Hn := Lib.hid hn
  have HF := Lib.hid (find_any h hl.r1 n hns)
  have HC := Lib.hid (count_any h hl.ll)
  clear h hl hn
  unfold syE syS
  rcases fnd_cases s n with hf | hf | hf
  · rw [hf] at HF ⊢
    rw [if_neg (by decide), if_neg (by decide)]
    go_enter Try.func21, Try.ntmps21
    go_wp2_with fail
    refine HF.out.mono ?_
    rintro e w2 ⟨v, rfl, rfl, _⟩
    go_wp2_with fail
    go_ret
    exact ⟨rfl, ⟨m, HM.out, HL.out, Hn.out⟩, Below.refl _ _⟩
  · have Hf := Lib.hid hf
    rw [hf] at HF ⊢
    rw [if_pos rfl, if_pos rfl]
    rcases cnt_cases s with hc | hc
    · rw [hc] at HC ⊢
      rw [if_pos rfl]
      clear hf
      go_enter Try.func21, Try.ntmps21
      go_wp2_with fail
      refine HF.out.mono ?_
      rintro e w2 ⟨v, rfl, rfl, hv⟩
      obtain ⟨f, hfm, rfl, hfe⟩ := hv (by first | rfl | trivial)
      go_wp2_with fail
      refine HC.out.mono ?_
      rintro e w3 ⟨rfl, hD, hb⟩
      have hfm' : f ∈ (cntS s).F := by rw [(cntS_F s).1]; exact hfm
      have DD := hD.dur hfm' f.bs.length
      obtain ⟨A4, c4, hs4, _⟩ := (hD.con.fl f hfm').2.1.slice
      have z0 := DD.1.1
      rw [hs4] at z0
      have z1 := DD.1.2.1
      have y1 := DD.1.2.2
      have hbk := blk_of hfe
      have hst : (updF (cntS s).F f.b fun x => { x with dur := f.bs.length }) = updF s.F (blk s n) fun f => { f with dur := f.bs.length } := by
        rw [hbk, (cntS_F s).1]
        unfold updF
        refine List.map_congr_left fun x hx => ?_
        by_cases e : x.b = f.b
        · rw [if_pos e, if_pos e, nod_eq HM.out.con.nod hx hfm e]
        · rw [if_neg e, if_neg e]
      have hDD := DD.2.1
      rw [hst] at hDD
      have hLL : DL { cntS s with F := updF s.F (blk s n) fun f => { f with dur := f.bs.length } } := by
        have := HL.out.cnt.file (k := blk s n) (g := fun f => { f with dur := f.bs.length }) (fun _ => rfl) (fun x hx _ => ⟨(HL.out.cnt.fl x hx).1, Nat.le_refl _⟩)
        rwa [(cntS_F s).1] at this
      have hF := Lib.hid (show Disk (w3.setCell ⟨f.b, 1, none⟩ (.int .i64 (f.bs.length : Nat))) B p { cntS s with F := updF s.F (blk s n) fun f => { f with dur := f.bs.length } } c from ⟨m, hDD, hLL, Hn.out.1, Hn.out.2.1, by show _ + (cntS s).ops.length ≤ c; rw [(cntS_F s).2.2.2.1]; exact Hn.out.2.2⟩)
      have hB := Lib.hid (hb.trans DD.2.2)
      obtain ⟨L4, hL4⟩ : ∃ n, f.bs.length = n := ⟨_, rfl⟩
      rw [hL4] at z0 hF hB
      clear DD hD hb hs4 hst hDD hLL hfe hbk hL4
      go_wp2_with fail
      go_ret
      exact ⟨rfl, hF.out, hB.out⟩
    · rw [hc] at HC ⊢
      rw [if_neg (by decide)]
      clear hf
      go_enter Try.func21, Try.ntmps21
      go_wp2_with fail
      refine HF.out.mono ?_
      rintro e w2 ⟨v, rfl, rfl, hv⟩
      go_wp2_with fail
      refine HC.out.mono ?_
      rintro e w3 ⟨rfl, hD, hb⟩
      have hF := Lib.hid (show Disk w3 B p (cntS s) c from ⟨m, hD, HL.out.cnt, Hn.out.1, Hn.out.2.1, by rw [(cntS_F s).2.2.2.1]; exact Hn.out.2.2⟩)
      have hB := Lib.hid hb
      clear hD hb
      go_wp2_with fail
      go_ret
      exact ⟨rfl, hF.out, hB.out⟩
  · rw [hf] at HF ⊢
    rw [if_neg (by decide), if_neg (by decide)]
    go_enter Try.func21, Try.ntmps21
    go_wp2_with fail
    refine HF.out.mono ?_
    rintro e w2 ⟨v, rfl, rfl, _⟩
    go_wp2_with fail
    go_ret
    exact ⟨rfl, ⟨m, HM.out, HL.out, Hn.out⟩, Below.refl _ _⟩
def opS (s : St) (o : Opn) : St := cntS { s with D1 := appO o s.D1, ops := s.ops ++ [o] }
def rmE (s : St) (n : ByteArray) : Int := if fndE s n = 0 then cntE s else fndE s n
def rmS (s : St) (n : ByteArray) : St := if fndE s n = 0 then opS s (.rem n) else s
theorem fnd_has {s : St} {n : ByteArray} (h : fndE s n = 0) : Maps.has s.D1 (kS n) = true ∧ s.down = false := by
  unfold fndE at h
  split at h
  · cases h
  · rename_i h1
    split at h
    · exact ⟨by assumption, by simpa using h1⟩
    · cases h
set_option maxRecDepth 100000 in
set_option maxHeartbeats 8000000 in
theorem remove_any {w : World} {B p c : Nat} {s : St} (hD : Disk w B p s c) (hc : c < 1000000) (n : ByteArray) (hns : n.size ≤ maxLen) :
    Calls Try.prog 23 #[ptrV p, .string n] w fun e w' => e = .returned (.int .i64 (rmE s n)) ∧ Disk w' B p (rmS s n) (c + 1) ∧ Below B w w' := by
  have hD' := hD.mono (Nat.le_succ c)
  obtain ⟨m, h, hl, hn1, hn2, hno⟩ := hD
  have HD := Lib.hid hD'
  have HL := Lib.hid hl
  have HF := Lib.hid (find_any h hl.r1 n hns)
  have hP := perform_rem h n hns (by omega) (by omega) hl.ll
  unfold opV at hP
  have HP := Lib.hid hP
  clear h hl hP hD'
  unfold rmE rmS
  by_cases hf : fndE s n = 0
  · have Hf := Lib.hid hf
    rw [hf] at HF
    rw [if_pos hf, if_pos hf]
    have hmf : ∀ (fn : Fn) (first cap : Array Value) (w : World), (Instr.makeFunc fn first cap).run Try.prog w = .ok (.func fn first cap) w := fun _ _ _ _ => rfl
    clear hf
    go_enter Try.func23, Try.ntmps23
    go_wp2_with fail
    refine HF.out.mono ?_
    rintro e w2 ⟨v, rfl, rfl, hv⟩
    go_wp2_with fail
    refine HP.out.mono ?_
    rintro e w9 ⟨m', rfl, hD, hm1, hm2, _, hb⟩
    have hF := Lib.hid (show Disk w9 B p (opS s (.rem n)) (c + 1) from ⟨m', hD, (HL.out.op (o := .rem n) trivial hns (fun a b hab => by cases hab)).cnt, by omega, by omega, by
      show _ + (cntS _).ops.length ≤ c + 1
      rw [(cntS_F _).2.2.2.1]
      show _ + (s.ops ++ [_]).length ≤ c + 1
      rw [List.length_append]
      simp; omega⟩)
    have hB := Lib.hid hb
    clear hD hb hm1 hm2
    go_wp2_with fail
    go_ret
    exact ⟨rfl, hF.out, hB.out⟩
  · rw [if_neg hf, if_neg hf]
    have e1 : (fndE s n == 0) = false := by rw [beq_eq_false_iff_ne]; exact hf
    have e2 : decide (fndE s n = 0) = false := decide_eq_false hf
    obtain ⟨q, hq⟩ : ∃ q, fndE s n = q := ⟨_, rfl⟩
    rw [hq] at HF e1 e2 hf ⊢
    clear hq
    go_enter Try.func23, Try.ntmps23
    go_wp2_with fail
    refine HF.out.mono ?_
    rintro e w2 ⟨v, rfl, rfl, _⟩
    go_wp2_with fail
    go_ret
    exact ⟨rfl, HD.out, Below.refl _ _⟩
def rnE (s : St) (a b : ByteArray) : Int := if fndE s a = 0 then (if fileB b then cntE s else 11) else fndE s a
def rnS (s : St) (a b : ByteArray) : St := if fndE s a = 0 then (if fileB b then opS s (.ren a b) else s) else s
set_option maxRecDepth 100000 in
set_option maxHeartbeats 8000000 in
theorem rename_any {w : World} {B p c : Nat} {s : St} (hD : Disk w B p s c) (hc : c < 1000000) (a b : ByteArray) (hna : a.size ≤ maxLen) (hnb1 : b.size ≤ 1000000) :
    Calls Try.prog 19 #[ptrV p, .string a, .string b] w fun e w' => e = .returned (.int .i64 (rnE s a b)) ∧ Disk w' B p (rnS s a b) (c + 1) ∧ Below B w w' := by
  have hnb : b.size ≤ maxLen := by unfold maxLen; omega
  have hD' := hD.mono (Nat.le_succ c)
  obtain ⟨m, h, hl, hn1, hn2, hno⟩ := hD
  have HD := Lib.hid hD'
  have HL := Lib.hid hl
  have HF := Lib.hid (find_any h hl.r1 a hna)
  have HI := Lib.hid (fun w => isFile_any b w (by omega))
  have hP := perform_ren h a b hna hnb (by omega) (by omega) hl.ll
  unfold opV at hP
  have HP := Lib.hid hP
  clear h hl hP hD'
  unfold rnE rnS
  by_cases hf : fndE s a = 0
  · have Hf := Lib.hid hf
    rw [hf] at HF
    rw [if_pos hf, if_pos hf]
    have hmf : ∀ (fn : Fn) (first cap : Array Value) (w : World), (Instr.makeFunc fn first cap).run Try.prog w = .ok (.func fn first cap) w := fun _ _ _ _ => rfl
    clear hf
    obtain ⟨q, hq⟩ : ∃ q, fileB b = q := ⟨_, rfl⟩
    rw [hq] at HI ⊢
    clear hq
    cases q
    · rw [if_neg (by decide), if_neg (by decide)]
      go_enter Try.func19, Try.ntmps19
      go_wp2_with fail
      refine HF.out.mono ?_
      rintro e w2 ⟨v, rfl, rfl, hv⟩
      go_wp2_with fail
      refine (HI.out _).mono ?_
      rintro e w3 ⟨rfl, rfl⟩
      go_wp2_with fail
      go_ret
      exact ⟨rfl, HD.out, Below.refl _ _⟩
    · rw [if_pos rfl, if_pos rfl]
      go_enter Try.func19, Try.ntmps19
      go_wp2_with fail
      refine HF.out.mono ?_
      rintro e w2 ⟨v, rfl, rfl, hv⟩
      go_wp2_with fail
      refine (HI.out _).mono ?_
      rintro e w3 ⟨rfl, rfl⟩
      go_wp2_with fail
      refine HP.out.mono ?_
      rintro e w9 ⟨m', rfl, hD, hm1, hm2, _, hb⟩
      have hF := Lib.hid (show Disk w9 B p (opS s (.ren a b)) (c + 1) from ⟨m', hD, (HL.out.op (o := .ren a b) (fnd_has Hf.out).1 ⟨hna, hnb⟩ (fun a b hab => by cases hab)).cnt, by omega, by omega, by
        show _ + (cntS _).ops.length ≤ c + 1
        rw [(cntS_F _).2.2.2.1]
        show _ + (s.ops ++ [_]).length ≤ c + 1
        rw [List.length_append]
        simp; omega⟩)
      have hB := Lib.hid hb
      clear hD hb hm1 hm2
      go_wp2_with fail
      go_ret
      exact ⟨rfl, hF.out, hB.out⟩
  · rw [if_neg hf, if_neg hf]
    have e1 : (fndE s a == 0) = false := by rw [beq_eq_false_iff_ne]; exact hf
    have e2 : decide (fndE s a = 0) = false := decide_eq_false hf
    obtain ⟨q, hq⟩ : ∃ q, fndE s a = q := ⟨_, rfl⟩
    rw [hq] at HF e1 e2 hf ⊢
    clear hq
    go_enter Try.func19, Try.ntmps19
    go_wp2_with fail
    refine HF.out.mono ?_
    rintro e w2 ⟨v, rfl, rfl, _⟩
    go_wp2_with fail
    go_ret
    exact ⟨rfl, HD.out, Below.refl _ _⟩
end Go.Proofs.Ytbmogecnepgnaaa
