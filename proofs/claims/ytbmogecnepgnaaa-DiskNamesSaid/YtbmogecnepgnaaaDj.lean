/- Append. -/
import Derived.Test.YtbmogecnepgnaaaDi
namespace Go.Proofs.Ytbmogecnepgnaaa
open Go.RowKit Go.Maps
/-- A disk, with a bound on what it has seen. -/
def Disk (w : World) (B p : Nat) (s : St) (c : Nat) : Prop := ∃ m, DM w B p m s ∧ DL s ∧ m.n1 ≤ c ∧ m.n2 ≤ c ∧ m.n2 + s.ops.length ≤ c
theorem Disk.keep {w w' : World} {B p c : Nat} {s : St} (h : Disk w B p s c) (hb : Below w.heap.size w w') : Disk w' B p s c :=
  let ⟨m, h1, h2⟩ := h
  ⟨m, h1.keep hb, h2⟩
theorem Disk.mono {w : World} {B p c c' : Nat} {s : St} (h : Disk w B p s c) (hc : c ≤ c') : Disk w B p s c' :=
  let ⟨m, h1, h2, h3, h4, h5⟩ := h
  ⟨m, h1, h2, Nat.le_trans h3 hc, Nat.le_trans h4 hc, Nat.le_trans h5 hc⟩
def blkOf (d : Mp) : Nat := match d with
  | .lit (.int _ z) => z.toNat
  | _ => 0
theorem blkOf_p (b : Nat) : blkOf (pD b) = b := rfl
def blk (s : St) (name : ByteArray) : Nat := blkOf (s.D1.atKey (kS name) zD)
/-- The errors of Append ahead of the power's. -/
def ap0 (s : St) (name data : ByteArray) : Int :=
  if s.down then 18 else if fileB name = false then 11 else if Maps.has s.D1 (kS name) = false ∧ 64 ≤ Maps.size s.D1 then 6 else if s.cap < usedD s.F s.D1 + data.size then 33 else 0
def apE (s : St) (name data : ByteArray) : Int := if ap0 s name data = 0 then cntE s else ap0 s name data
def apN (s : St) (name data : ByteArray) (b : Nat) : St := { s with D1 := s.D1.put (kS name) (pD b), ops := s.ops ++ [.cre name b], F := s.F ++ [⟨b, data.data.toList, 0⟩] }
def apO (s : St) (name data : ByteArray) : St := { s with F := updF s.F (blk s name) fun f => { f with bs := f.bs ++ data.data.toList } }
def apS (s : St) (name data : ByteArray) (b : Nat) : St :=
  if ap0 s name data = 0 then cntS (if Maps.has s.D1 (kS name) then apO s name data else apN s name data b) else s
theorem file_small {s : ByteArray} (h : fileB s = true) : s.size ≤ 40 := by
  unfold fileB at h
  rw [Bool.and_eq_true, Bool.and_eq_true] at h
  exact of_decide_eq_true h.1.2
theorem flen_le {F : List Fl} {D : Mp} (hI : IsMap D) {k : Lit} (hk : Maps.has D k = true) {d : Mp} (hd : D.atKey k zD = d) : flen F d ≤ usedD F D := by
  obtain ⟨es, rfl⟩ := hI
  unfold DataW.atKey at hd
  cases hx : es.find? (fun p => p.1.sameKey k) with
  | none =>
    rw [List.find?_eq_none] at hx
    obtain ⟨p, h1, h2⟩ := List.any_eq_true.1 hk
    exact absurd h2 (hx p h1)
  | some p =>
    simp only [hx] at hd
    rw [← hd]
    obtain ⟨a, b, rfl⟩ := List.append_of_mem (List.mem_of_find?_eq_some hx)
    unfold usedD
    simp only [List.map_append, List.map_cons, List.sum_append, List.sum_cons]
    omega
theorem usedD_le {F : List Fl} (hF : ∀ f ∈ F, f.bs.length ≤ 16777216) (D : Mp) : usedD F D ≤ Maps.size D * 16777216 := by
  rw [← used_end (D := D) F (left := fun _ => false) (fun _ => rfl)]
  exact usedL_le hF D _
theorem wpList_data_append {ops : Array Oper} {rest : List Oper} {o : Oper} {a : Act} {Q : Exit → Act → World → Prop} (w : World) (hgd : o.guard = none) (sl x : Operand)
    (ho : o.op = .call { callee := .builtin .append, args := #[sl, x], argTypes := #[55, 9] }) {B : Nat} {v : Value} {bs : List UInt8} (hsl : a.eval sl = v) (h : DataAt w B v bs) (s : ByteArray) (hx : a.eval x = .string s)
    (hl : bs.length ≤ 20000000) (hs : s.size ≤ 20000000) (hB : B ≤ w.heap.size)
    (hK : ∀ v' w', DataAt w' B v' (bs ++ s.data.toList) → w.grownBy w' v.ownBlock → (∀ k, v'.ownBlock = some k → v.ownBlock = some k ∨ w.heap.size ≤ k) → wpList Try.prog ops Q rest (a.put o.dst v') w') : wpList Try.prog ops Q (o :: rest) a w := by
  refine wpList_plain hgd fun K hK' => ?_
  obtain ⟨v', w', hr, h2, h3, h4⟩ := data_append h s hl hs hB o.type
  unfold Oper.wp execOp
  simp only [ho, resolve, invoke, builtin, Sem.run_bind, Sem.run_pure, Result.andThen_ok, List.map_toArray, List.map_cons, List.map_nil, hsl, hx, hr]
  exact hK' _ _ (hK v' w' h2 h3 h4)
set_option maxRecDepth 100000 in
set_option maxHeartbeats 8000000 in
theorem append_any {w : World} {B p c : Nat} {s : St} (hD : Disk w B p s c) (hc : c < 1000000) (name data : ByteArray) (hns1 : name.size ≤ 1000000) (hds : data.size ≤ 16777216) :
    Calls Try.prog 17 #[ptrV p, .string name, .string data] w fun e w' => ∃ b, e = .returned (.int .i64 (apE s name data)) ∧ Disk w' B p (apS s name data b) (c + 1) ∧ (ap0 s name data = 0 → ∀ f ∈ s.F, f.b ≠ b) ∧ Below B w w' := by
  have hns : name.size ≤ maxLen := by unfold maxLen; omega
  obtain ⟨m, h, hl, hn1, hn2, hno⟩ := hD
  have HM := Lib.hid h
  have HL := Lib.hid hl
  have Hn := Lib.hid (⟨by omega, by omega, by omega⟩ : m.n1 ≤ c + 1 ∧ m.n2 ≤ c + 1 ∧ m.n2 + s.ops.length ≤ c + 1)
  have HK := Lib.hid (check_any h)
  have HI := Lib.hid (fun w => isFile_any name w (by omega))
  obtain ⟨v, ps, hrun, hv⟩ := h.con.nm.look_ok lawS Try.underlying68 (zeroP _) (zd := zD) (zp := []) rfl (keyS name hns)
  have hlen := fun ty => h.con.nm.len Try.underlying68 ty
  obtain ⟨_, c1, _, _, _, _, _⟩ := h.at4
  have hsz := h.con.nm.size_le
  have hu := usedD_le (fun f hf => (hl.fl f hf).1) s.D1
  have hub : Maps.size s.D1 * 16777216 ≤ 16777216000000 := by
    have : Maps.size s.D1 * 16777216 ≤ 1000000 * 16777216 := Nat.mul_le_mul_right _ (by omega)
    omega
  have hcl := hl.cl
  have hll := hl.ll
  have hml := h.con.nm.lt
  clear hl
  by_cases hd : s.down = true
  · have e1 : chk s = 18 := by unfold chk; rw [if_pos hd]
    have e0 : ap0 s name data = 18 := by unfold ap0; rw [if_pos hd]
    have HR := Lib.hid (show apE s name data = 18 ∧ (∀ b, apS s name data b = s) from ⟨by unfold apE; rw [e0]; rfl, fun b => by unfold apS; rw [e0]; rfl⟩)
    have HZ := Lib.hid (show ¬ ap0 s name data = 0 by rw [e0]; decide)
    rw [e1] at HK
    clear e0 e1 hrun hlen h
    go_enter Try.func17, Try.ntmps17
    go_wp2_with fail
    refine HK.out.mono ?_
    rintro e w2 ⟨rfl, rfl⟩
    go_wp2_with fail
    go_ret
    refine ⟨0, by rw [HR.out.1]; rfl, by rw [HR.out.2]; exact ⟨m, HM.out, HL.out, Hn.out⟩, fun h => absurd h HZ.out, Below.refl _ _⟩
  · have e1 : chk s = 0 := by unfold chk; rw [if_neg hd]
    rw [e1] at HK
    clear e1
    by_cases hf : fileB name = false
    · have e0 : ap0 s name data = 11 := by unfold ap0; rw [if_neg hd, if_pos hf]
      have HR := Lib.hid (show apE s name data = 11 ∧ (∀ b, apS s name data b = s) from ⟨by unfold apE; rw [e0]; rfl, fun b => by unfold apS; rw [e0]; rfl⟩)
      have HZ := Lib.hid (show ¬ ap0 s name data = 0 by rw [e0]; decide)
      rw [hf] at HI
      clear e0 hrun hlen h hf
      go_enter Try.func17, Try.ntmps17
      go_wp2_with fail
      refine HK.out.mono ?_
      rintro e w2 ⟨rfl, rfl⟩
      go_wp2_with fail
      refine (HI.out _).mono ?_
      rintro e w3 ⟨rfl, rfl⟩
      go_wp2_with fail
      go_ret
      refine ⟨0, by rw [HR.out.1]; rfl, by rw [HR.out.2]; exact ⟨m, HM.out, HL.out, Hn.out⟩, fun h => absurd h HZ.out, Below.refl _ _⟩
    · have hf : fileB name = true := by simpa using hf
      rw [hf] at HI
      by_cases hlim : Maps.has s.D1 (kS name) = false ∧ 64 ≤ Maps.size s.D1
      · have e0 : ap0 s name data = 6 := by unfold ap0; rw [if_neg hd, if_neg (by rw [hf]; decide), if_pos hlim]
        have HR := Lib.hid (show apE s name data = 6 ∧ (∀ b, apS s name data b = s) from ⟨by unfold apE; rw [e0]; rfl, fun b => by unfold apS; rw [e0]; rfl⟩)
        have HZ := Lib.hid (show ¬ ap0 s name data = 0 by rw [e0]; decide)
        rw [hlim.1] at hrun
        obtain ⟨sz, hszz⟩ : ∃ n, Maps.size s.D1 = n := ⟨_, rfl⟩
        have h64 := hlim.2
        rw [hszz] at hlen h64
        have t64 : decide ((64 : Int) ≤ (sz : Int)) = true := decide_eq_true (by omega)
        clear e0 h hf hlim hu hub hsz hszz
        go_enter Try.func17, Try.ntmps17
        go_wp2_with fail
        refine HK.out.mono ?_
        rintro e w2 ⟨rfl, rfl⟩
        go_wp2_with fail
        refine (HI.out _).mono ?_
        rintro e w3 ⟨rfl, rfl⟩
        go_wp2_with fail
        go_ret
        refine ⟨0, by rw [HR.out.1]; rfl, by rw [HR.out.2]; exact ⟨m, HM.out, HL.out, Hn.out⟩, fun h => absurd h HZ.out, Below.refl _ _⟩
      · obtain ⟨U, hU⟩ : ∃ n, usedD s.F s.D1 = n := ⟨_, rfl⟩
        obtain ⟨q, hq⟩ : ∃ q, Maps.has s.D1 (kS name) = q := ⟨_, rfl⟩
        have e0 : ap0 s name data = if s.cap < U + data.size then 33 else 0 := by unfold ap0; rw [if_neg hd, if_neg (by rw [hf]; decide), if_neg hlim, hU]
        obtain ⟨sz, hszz⟩ : ∃ n, Maps.size s.D1 = n := ⟨_, rfl⟩
        rw [hq] at hrun hlim
        rw [hszz] at hlen hlim hu hub hsz
        rw [hU] at hu
        have e64 : q = false → decide ((64 : Int) ≤ (sz : Int)) = false := fun hq0 => decide_eq_false (fun h => hlim ⟨hq0, by omega⟩)
        have n64 : q = false → ¬ ((64 : Int) ≤ (sz : Int)) := fun hq0 h => hlim ⟨hq0, by omega⟩
        have Hf := Lib.hid hf
        have Hq := Lib.hid hq
        have e2 : IntKind.i64.wrap ((U : Int) + (data.size : Int)) = ((U + data.size : Nat) : Int) := by rw [show (U : Int) + (data.size : Int) = ((U + data.size : Nat) : Int) by omega]; exact IntWalk.i64_in _ (by omega)
        clear hlim hf hq hszz
        by_cases hful : s.cap < U + data.size
        · rw [if_pos hful] at e0
          have HR := Lib.hid (show apE s name data = 33 ∧ (∀ b, apS s name data b = s) from ⟨by unfold apE; rw [e0]; rfl, fun b => by unfold apS; rw [e0]; rfl⟩)
          have HZ := Lib.hid (show ¬ ap0 s name data = 0 by rw [e0]; decide)
          have t9 : decide ((s.cap : Int) < ((U + data.size : Nat) : Int)) = true := decide_eq_true (by omega)
          clear e0
          cases q
          all_goals
            first | (have e64' := e64 rfl; have n64' := n64 rfl) | skip
            clear e64 n64
            go_enter Try.func17, Try.ntmps17
            go_wp2_with fail
            refine HK.out.mono ?_
            rintro e w2 ⟨rfl, rfl⟩
            go_wp2_with fail
            refine (HI.out _).mono ?_
            rintro e w3 ⟨rfl, rfl⟩
            go_upto_region 9 with fail
            have HS := Lib.hid (fun w' (hb : Below w3.heap.size w3 w') => (show w'.cell? ⟨p, 0, none⟩ = some (.int .i64 (s.cap : Nat)) from (HM.out.keep hb).at4.1))
            refine Till.begin 9 (fun w' => w'.cell? ⟨p, 0, none⟩ = some (.int .i64 (s.cap : Nat))) (by kernel_rfl) (HS.out _ (Below.refl _ _).drew) (fun hH => ?_)
            clear hH
            have HB0 := Lib.hid (Below.refl w3.heap.size w3).drew
            generalize w3.drew = V0 at HB0 ⊢
            try simp only [List.setIfInBounds_toArray, List.set_cons_zero, List.set_cons_succ]
            refine Till.tL 0 [1, 4, 9] 37 (ptrV p) (HS.out _ HB0.out) ?_
            try simp only [Act.put, List.setIfInBounds_toArray, List.set_cons_zero, List.set_cons_succ]
            refine Till.tL 2 [3, 4, 9] 39 (.string data) (HS.out _ HB0.out) ?_
            try simp only [Act.put, List.setIfInBounds_toArray, List.set_cons_zero, List.set_cons_succ]
            refine Till.tL 3 [4, 9] 40 (.int .i64 (data.size : Nat)) (HS.out _ HB0.out) ?_
            try simp only [Act.put, List.setIfInBounds_toArray, List.set_cons_zero, List.set_cons_succ]
            refine Till.tL 5 [6, 7, 8, 9] 42 (ptrV p) (HS.out _ HB0.out) ?_
            try simp only [Act.put, List.setIfInBounds_toArray, List.set_cons_zero, List.set_cons_succ]
            refine Till.tL 6 [7, 8, 9] 43 (ptrV p) (HS.out _ HB0.out) ?_
            try simp only [Act.put, List.setIfInBounds_toArray, List.set_cons_zero, List.set_cons_succ]
            refine Till.tL 7 [8, 9] 44 (.pointer (some ⟨p, 0, none⟩)) (HS.out _ HB0.out) ?_
            try simp only [Act.put, List.setIfInBounds_toArray, List.set_cons_zero, List.set_cons_succ]
            refine Till.tL 8 [9] 45 (.int .i64 (s.cap : Nat)) (HS.out _ HB0.out) ?_
            try simp only [Act.put, List.setIfInBounds_toArray, List.set_cons_zero, List.set_cons_succ]
            refine Till.one (i := 1) (by kernel_rfl) rfl (fun K hK => ?_)
            go_simp
            refine (used_any (HM.out.keep HB0.out) HL.out.r1 (fun f hf => (HL.out.fl f hf).1) (by omega)).mono ?_
            rintro e V1 ⟨rfl, hb⟩
            have HB1 := Lib.hid (below_on HB0.out hb)
            have Hu9 := Lib.hid hu
            rw [hU]
            refine hK.out _ _ (fun _ => HS.out _ HB1.out) ?_
            clear hK K hb
            try simp only [List.setIfInBounds_toArray, List.set_cons_zero, List.set_cons_succ]
            refine Till.one (i := 4) (by kernel_rfl) rfl (fun K hK => ?_)
            go_simp
            refine hK.out _ _ (fun _ => HS.out _ HB1.out) ?_
            clear hK K
            try simp only [List.setIfInBounds_toArray, List.set_cons_zero, List.set_cons_succ]
            refine Till.one (i := 9) (by kernel_rfl) rfl (fun K hK => ?_)
            go_simp
            refine hK.out _ _ (fun h => absurd h (by simp)) ?_
            clear hK K
            try simp only [List.setIfInBounds_toArray, List.set_cons_zero, List.set_cons_succ]
            refine Till.done (by kernel_rfl) ?_ _
            have h := HM.out.keep HB1.out
            have HKw := Lib.hid (show Below B w3 V1 from HB1.out.mono (by have := h.low; have := row_lt HM.out.obj; have := HM.out.low; omega))
            clear h
            go_wp2_with fail
            go_ret
            refine ⟨0, by rw [HR.out.1]; rfl, by rw [HR.out.2]; exact ⟨m, HM.out.keep HB1.out, HL.out, Hn.out⟩, fun h => absurd h HZ.out, HKw.out⟩
        · rw [if_neg hful] at e0
          have HE := Lib.hid (show apE s name data = cntE s from by unfold apE; rw [if_pos e0])
          have HZ := Lib.hid e0
          have t9 : decide ((s.cap : Int) < ((U + data.size : Nat) : Int)) = false := decide_eq_false (by omega)
          have t9' : ¬ ((s.cap : Int) < ((U + data.size : Nat) : Int)) := by omega
          cases q
          · have e64' := e64 rfl
            have n64' := n64 rfl
            have HS' := Lib.hid (fun b => show apS s name data b = cntS (apN s name data b) from by unfold apS; rw [if_pos e0, Hq.out]; rfl)
            clear e64 n64 e0
            go_enter Try.func17, Try.ntmps17
            go_wp2_with fail
            refine HK.out.mono ?_
            rintro e w2 ⟨rfl, rfl⟩
            go_wp2_with fail
            refine (HI.out _).mono ?_
            rintro e w3 ⟨rfl, rfl⟩
            go_upto_region 9 with fail
            have HS := Lib.hid (fun w' (hb : Below w3.heap.size w3 w') => (show w'.cell? ⟨p, 0, none⟩ = some (.int .i64 (s.cap : Nat)) from (HM.out.keep hb).at4.1))
            refine Till.begin 9 (fun w' => w'.cell? ⟨p, 0, none⟩ = some (.int .i64 (s.cap : Nat))) (by kernel_rfl) (HS.out _ (Below.refl _ _).drew) (fun hH => ?_)
            clear hH
            have HB0 := Lib.hid (Below.refl w3.heap.size w3).drew
            generalize w3.drew = V0 at HB0 ⊢
            try simp only [List.setIfInBounds_toArray, List.set_cons_zero, List.set_cons_succ]
            refine Till.tL 0 [1, 4, 9] 37 (ptrV p) (HS.out _ HB0.out) ?_
            try simp only [Act.put, List.setIfInBounds_toArray, List.set_cons_zero, List.set_cons_succ]
            refine Till.tL 2 [3, 4, 9] 39 (.string data) (HS.out _ HB0.out) ?_
            try simp only [Act.put, List.setIfInBounds_toArray, List.set_cons_zero, List.set_cons_succ]
            refine Till.tL 3 [4, 9] 40 (.int .i64 (data.size : Nat)) (HS.out _ HB0.out) ?_
            try simp only [Act.put, List.setIfInBounds_toArray, List.set_cons_zero, List.set_cons_succ]
            refine Till.tL 5 [6, 7, 8, 9] 42 (ptrV p) (HS.out _ HB0.out) ?_
            try simp only [Act.put, List.setIfInBounds_toArray, List.set_cons_zero, List.set_cons_succ]
            refine Till.tL 6 [7, 8, 9] 43 (ptrV p) (HS.out _ HB0.out) ?_
            try simp only [Act.put, List.setIfInBounds_toArray, List.set_cons_zero, List.set_cons_succ]
            refine Till.tL 7 [8, 9] 44 (.pointer (some ⟨p, 0, none⟩)) (HS.out _ HB0.out) ?_
            try simp only [Act.put, List.setIfInBounds_toArray, List.set_cons_zero, List.set_cons_succ]
            refine Till.tL 8 [9] 45 (.int .i64 (s.cap : Nat)) (HS.out _ HB0.out) ?_
            try simp only [Act.put, List.setIfInBounds_toArray, List.set_cons_zero, List.set_cons_succ]
            refine Till.one (i := 1) (by kernel_rfl) rfl (fun K hK => ?_)
            go_simp
            refine (used_any (HM.out.keep HB0.out) HL.out.r1 (fun f hf => (HL.out.fl f hf).1) (by omega)).mono ?_
            rintro e V1 ⟨rfl, hb⟩
            have HB1 := Lib.hid (below_on HB0.out hb)
            have Hu9 := Lib.hid hu
            rw [hU]
            refine hK.out _ _ (fun _ => HS.out _ HB1.out) ?_
            clear hK K hb
            try simp only [List.setIfInBounds_toArray, List.set_cons_zero, List.set_cons_succ]
            refine Till.one (i := 4) (by kernel_rfl) rfl (fun K hK => ?_)
            go_simp
            refine hK.out _ _ (fun _ => HS.out _ HB1.out) ?_
            clear hK K
            try simp only [List.setIfInBounds_toArray, List.set_cons_zero, List.set_cons_succ]
            refine Till.one (i := 9) (by kernel_rfl) rfl (fun K hK => ?_)
            go_simp
            refine hK.out _ _ (fun h => absurd h (by simp)) ?_
            clear hK K
            try simp only [List.setIfInBounds_toArray, List.set_cons_zero, List.set_cons_succ]
            refine Till.done (by kernel_rfl) ?_ _
            have h := HM.out.keep HB1.out
            have HKw := Lib.hid (show Below B w3 V1 from HB1.out.mono (by have := h.low; have := row_lt HM.out.obj; have := HM.out.low; omega))
            have hmf : ∀ (fn : Fn) (first cap : Array Value) (w : World), (Instr.makeFunc fn first cap).run Try.prog w = .ok (.func fn first cap) w := fun _ _ _ _ => rfl
            obtain ⟨hconv, hdat, hbB, hsB⟩ := data_of_text V1 V1.heap.size (Nat.le_refl _) data (by omega)
            obtain ⟨V2, hV2⟩ : ∃ u, Go.Lib.bytesWorld V1 5 data = u := ⟨_, rfl⟩
            rw [hV2] at hconv hdat hbB hsB
            obtain ⟨cp, hcp⟩ : ∃ n, grownCap V1 data.size 0 5 = n := ⟨_, rfl⟩
            rw [hcp] at hconv hdat
            have kx := (Below.refl V2.heap.size V2).alloc (Nat.le_refl _) (.cells #[.slice (some ⟨V1.heap.size, 0, none⟩) data.size cp, .int .i64 0] 81)
            have hfl := heap_new V2 (.cells #[.slice (some ⟨V1.heap.size, 0, none⟩) data.size cp, .int .i64 0] 81)
            have N1 := h.newF (hbB.trans (kx.mono hbB.size)) hfl (hdat.keep kx) hbB.size
            have LN := (HL.out.newF (f := ⟨V2.heap.size, data.data.toList, 0⟩) ⟨by show data.size ≤ _; omega, Nat.zero_le _⟩)
            have HP := perform_cre N1.2 name V2.heap.size hns (by show m.n1 < 1000000; omega) (by show s.ops.length ≤ 1000000; omega) hll
            unfold opV at HP
            have LP := LN.op (o := .cre name V2.heap.size) trivial hns (fun a b hab => ⟨_, List.mem_append_right _ (List.mem_singleton.2 rfl), by injection hab⟩)
            have HP := Lib.hid HP
            have LP := Lib.hid LP.cnt
            have HN1 := Lib.hid N1.1
            have HKz := Lib.hid (HKw.out.trans ((hbB.trans (kx.mono hbB.size)).mono (by have := HM.out.low; have := row_lt h.obj; omega)))
            clear N1 LN kx hdat hbB hfl h hsB
            go_wp2_with fail
            refine HP.out.mono ?_
            rintro e w9 ⟨m', rfl, hD, hm1, hm2, _, hb⟩
            have hD : DM w9 B p m' (cntS (apN s name data V2.heap.size)) := hD
            have LP : DL (cntS (apN s name data V2.heap.size)) := LP.out
            have HF := Lib.hid (show Disk w9 B p (cntS (apN s name data V2.heap.size)) (c + 1) from ⟨m', hD, LP, by have : m'.n1 ≤ m.n1 + 1 := hm1; omega, by have : m'.n2 = m.n2 := hm2; omega, by
              have : (cntS (apN s name data V2.heap.size)).ops.length = s.ops.length + 1 := by
                unfold cntS
                split
                · split <;> (show (s.ops ++ [_]).length = _; rw [List.length_append]; rfl)
                · show (s.ops ++ [_]).length = _; rw [List.length_append]; rfl
              have : m'.n2 = m.n2 := hm2
              omega⟩)
            have HKy := Lib.hid (HKz.out.trans hb)
            clear hD hm1 hm2 hb
            go_wp2_with fail
            go_ret
            refine ⟨V2.heap.size, by rw [HE.out]; rfl, by rw [HS'.out]; exact HF.out, fun _ => HN1.out, HKy.out⟩
          · have HS' := Lib.hid (fun b => show apS s name data b = cntS (apO s name data) from by unfold apS; rw [if_pos e0, Hq.out]; rfl)
            obtain ⟨f, hfm, hfe⟩ := HL.out.r1 _ Hq.out
            rw [hfe] at hv
            have hve := ptrE_inv hv
            subst hve
            clear e64 n64 e0 hv
            go_enter Try.func17, Try.ntmps17
            go_wp2_with fail
            refine HK.out.mono ?_
            rintro e w2 ⟨rfl, rfl⟩
            go_wp2_with fail
            refine (HI.out _).mono ?_
            rintro e w3 ⟨rfl, rfl⟩
            go_upto_region 9 with fail
            have HS := Lib.hid (fun w' (hb : Below w3.heap.size w3 w') => (show w'.cell? ⟨p, 0, none⟩ = some (.int .i64 (s.cap : Nat)) from (HM.out.keep hb).at4.1))
            refine Till.begin 9 (fun w' => w'.cell? ⟨p, 0, none⟩ = some (.int .i64 (s.cap : Nat))) (by kernel_rfl) (HS.out _ (Below.refl _ _).drew) (fun hH => ?_)
            clear hH
            have HB0 := Lib.hid (Below.refl w3.heap.size w3).drew
            generalize w3.drew = V0 at HB0 ⊢
            try simp only [List.setIfInBounds_toArray, List.set_cons_zero, List.set_cons_succ]
            refine Till.tL 0 [1, 4, 9] 37 (ptrV p) (HS.out _ HB0.out) ?_
            try simp only [Act.put, List.setIfInBounds_toArray, List.set_cons_zero, List.set_cons_succ]
            refine Till.tL 2 [3, 4, 9] 39 (.string data) (HS.out _ HB0.out) ?_
            try simp only [Act.put, List.setIfInBounds_toArray, List.set_cons_zero, List.set_cons_succ]
            refine Till.tL 3 [4, 9] 40 (.int .i64 (data.size : Nat)) (HS.out _ HB0.out) ?_
            try simp only [Act.put, List.setIfInBounds_toArray, List.set_cons_zero, List.set_cons_succ]
            refine Till.tL 5 [6, 7, 8, 9] 42 (ptrV p) (HS.out _ HB0.out) ?_
            try simp only [Act.put, List.setIfInBounds_toArray, List.set_cons_zero, List.set_cons_succ]
            refine Till.tL 6 [7, 8, 9] 43 (ptrV p) (HS.out _ HB0.out) ?_
            try simp only [Act.put, List.setIfInBounds_toArray, List.set_cons_zero, List.set_cons_succ]
            refine Till.tL 7 [8, 9] 44 (.pointer (some ⟨p, 0, none⟩)) (HS.out _ HB0.out) ?_
            try simp only [Act.put, List.setIfInBounds_toArray, List.set_cons_zero, List.set_cons_succ]
            refine Till.tL 8 [9] 45 (.int .i64 (s.cap : Nat)) (HS.out _ HB0.out) ?_
            try simp only [Act.put, List.setIfInBounds_toArray, List.set_cons_zero, List.set_cons_succ]
            refine Till.one (i := 1) (by kernel_rfl) rfl (fun K hK => ?_)
            go_simp
            refine (used_any (HM.out.keep HB0.out) HL.out.r1 (fun f hf => (HL.out.fl f hf).1) (by omega)).mono ?_
            rintro e V1 ⟨rfl, hb⟩
            have HB1 := Lib.hid (below_on HB0.out hb)
            have Hu9 := Lib.hid hu
            rw [hU]
            refine hK.out _ _ (fun _ => HS.out _ HB1.out) ?_
            clear hK K hb
            try simp only [List.setIfInBounds_toArray, List.set_cons_zero, List.set_cons_succ]
            refine Till.one (i := 4) (by kernel_rfl) rfl (fun K hK => ?_)
            go_simp
            refine hK.out _ _ (fun _ => HS.out _ HB1.out) ?_
            clear hK K
            try simp only [List.setIfInBounds_toArray, List.set_cons_zero, List.set_cons_succ]
            refine Till.one (i := 9) (by kernel_rfl) rfl (fun K hK => ?_)
            go_simp
            refine hK.out _ _ (fun h => absurd h (by simp)) ?_
            clear hK K
            try simp only [List.setIfInBounds_toArray, List.set_cons_zero, List.set_cons_succ]
            refine Till.done (by kernel_rfl) ?_ _
            have h := HM.out.keep HB1.out
            have HKw := Lib.hid (show Below B w3 V1 from HB1.out.mono (by have := h.low; have := row_lt HM.out.obj; have := HM.out.low; omega))
            have hff := h.con.fl f hfm
            have cf0 := (Cells.of_row hff.1).at_ 0
            simp only [List.getElem?_cons_zero] at cf0
            have hfl1 := (HL.out.fl f hfm).1
            go_wp2_with (at_builtin; refine wpList_data_append _ rfl _ _ rfl rfl hff.2.1 data rfl (by omega) (by omega) (by have := HM.out.low; have := row_lt h.obj; omega) ?_)
            intro v4 V4 hdA hgA hwA
            have DD := h.data hfm hgA hdA hwA
            obtain ⟨A4, c4, hs4, _⟩ := hdA.slice
            obtain ⟨L4, hL4⟩ : ∃ n, (f.bs ++ data.data.toList).length = n := ⟨_, rfl⟩
            rw [hL4] at hs4
            clear hL4
            subst hs4
            have z0 := DD.1.1
            have y0 := DD.1.2
            have HC := Lib.hid (count_any DD.2.1 hll)
            have hble : f.bs.length + data.size ≤ 16777216 := by
              have h1 := flen_le (F := s.F) HL.out.t1.isMap Hq.out hfe
              rw [flen_at HM.out.con.nod hfm] at h1
              omega
            have hbk : blk s name = f.b := by unfold blk; rw [hfe]; rfl
            have hst : ({ s with F := updF s.F f.b fun x => { x with bs := f.bs ++ data.data.toList } } : St) = apO s name data := by
              unfold apO
              rw [hbk]
              congr 1
              unfold updF
              refine List.map_congr_left fun x hx => ?_
              by_cases e : x.b = f.b
              · rw [if_pos e, if_pos e, nod_eq HM.out.con.nod hx hfm e]
              · rw [if_neg e, if_neg e]
            rw [hst] at HC
            have LO := Lib.hid (show DL (apO s name data) from HL.out.file (k := blk s name) (g := fun x => { x with bs := x.bs ++ data.data.toList }) (fun _ => rfl) (fun x hx hxb => by
              rw [hbk] at hxb
              rw [nod_eq HM.out.con.nod hx hfm hxb]
              have h1 := (HL.out.fl f hfm).2
              have h2 : (f.bs ++ data.data.toList).length = f.bs.length + data.size := by rw [List.length_append]; rfl
              exact ⟨by show (f.bs ++ data.data.toList).length ≤ _; omega, by show f.dur ≤ (f.bs ++ data.data.toList).length; omega⟩))
            have HKz := Lib.hid (HKw.out.trans DD.2.2)
            clear DD hff hdA hgA hwA h hst
            go_wp2_with fail
            refine HC.out.mono ?_
            rintro e w9 ⟨rfl, hD, hb⟩
            have HF := Lib.hid (show Disk w9 B p (cntS (apO s name data)) (c + 1) from ⟨_, hD, LO.out.cnt, by show m.n1 ≤ c + 1; omega, by show m.n2 ≤ c + 1; omega, by
              have : (cntS (apO s name data)).ops.length = s.ops.length := by
                unfold cntS
                split
                · split <;> rfl
                · rfl
              show m.n2 + _ ≤ c + 1
              omega⟩)
            have HKy := Lib.hid (HKz.out.trans hb)
            clear hD hb
            go_wp2_with fail
            go_ret
            refine ⟨V1.heap.size, by rw [HE.out]; rfl, by rw [HS'.out]; exact HF.out, fun _ g hg e => ?_, HKy.out⟩
            have := row_lt (HM.out.con.fl g hg).1
            have := HB1.out.size
            omega
end Go.Proofs.Ytbmogecnepgnaaa
