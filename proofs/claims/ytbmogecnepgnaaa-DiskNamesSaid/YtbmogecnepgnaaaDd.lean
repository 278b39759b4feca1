/- A disk in memory. -/
import Derived.Test.YtbmogecnepgnaaaDc
namespace Go.Proofs.Ytbmogecnepgnaaa
open Go.RowKit Go.Maps
abbrev Mp := DataW Unit
/-- How a pointer to a file reads: as the number of its block. -/
def zD : Mp := .lit (.int .i64 (-1))
def pD (b : Nat) : Mp := .lit (.int .i64 (b : Nat))
def kS (s : ByteArray) : Lit := .string s.data.toList
abbrev ptrV (b : Nat) : Value := .pointer (some ⟨b, 0, none⟩)
def ptrE (v : Value) : Option (DataW Unit × List MemPlace) :=
  match v with
  | .pointer none => some (zD, [])
  | .pointer (some ⟨b, 0, none⟩) => some (pD b, [])
  | _ => none
theorem ptrE_inv {v : Value} {b : Nat} {ps : List MemPlace} (h : ptrE v = some (pD b, ps)) : v = ptrV b := by
  unfold ptrE at h
  split at h
  · injection h with h; injection h with h; unfold zD pD at h; injection h with h; injection h with _ h; omega
  · injection h with h; injection h with h; unfold pD at h; injection h with h; injection h with _ h
    have : b = _ := (Int.ofNat.inj h).symm
    rw [this]
  · cases h
theorem ptrE_shape (v : Value) (y : DataW Unit × List MemPlace) (h : ptrE v = some y) : ∃ o : Option Nat, v = .pointer (o.map fun b => ⟨b, 0, none⟩) := by
  unfold ptrE at h
  split at h
  · exact ⟨none, rfl⟩
  · rename_i b; exact ⟨some b, rfl⟩
  · cases h
theorem lawS : Keyed Try.prog 9 := string_keyed Try.underlying9
theorem zeroP (w : World) : (zeroValue 76).run Try.prog w = .ok (.pointer none) w := by kernel_rfl
theorem keyS (s : ByteArray) (h : s.size ≤ maxLen) : keyOf Try.prog 9 (.string s) = some (kS s) := Go.WideMaps.keyOf_string_mk Try.underlying9 h
/-- A pending operation. -/
inductive Opn where
  | cre (s : ByteArray) (b : Nat)
  | ren (a b : ByteArray)
  | rem (a : ByteArray)
def opV : Opn → Value
  | .cre s b => .func (.func 43) #[.agg #[.string s, ptrV b]] #[]
  | .ren a b => .func (.func 51) #[.agg #[.string a, .string b]] #[]
  | .rem a => .func (.func 52) #[.agg #[.string a]] #[]
def appO (o : Opn) (D : Mp) : Mp :=
  match o with
  | .cre s b => D.put (kS s) (pD b)
  | .ren a b => (D.del (kS a)).put (kS b) (D.atKey (kS a) zD)
  | .rem a => D.del (kS a)
/-- A file: its block, its bytes, the number of those that are durable. -/
structure Fl where
  b : Nat
  bs : List UInt8
  dur : Nat
structure Mem where
  mn : Nat
  md : Nat
  n1 : Nat
  n2 : Nat
  pv : Value
  dv : Nat → Value
/-- What a disk leads to. -/
structure DC (w : World) (B : Nat) (m : Mem) (D1 D2 : Mp) (ops : List Opn) (F : List Fl) : Prop where
  nm : w.ownsMap Try.prog 9 ptrE m.mn m.n1 D1
  dm : w.ownsMap Try.prog 9 ptrE m.md m.n2 D2
  pd : w.ownsRow B 102 1 m.pv ops.length (ops.map opV)
  fl : ∀ f ∈ F, w.heap[f.b]? = some (.cells #[m.dv f.b, .int .i64 (f.dur : Nat)] 81 (0, 0)) ∧ DataAt w B (m.dv f.b) f.bs ∧ B ≤ f.b
  nod : F.Pairwise fun f g => f.b ≠ g.b
  sep : ∀ f ∈ F, ∀ g ∈ F, f.b ≠ g.b → ∀ k, (m.dv f.b).ownBlock = some k → (m.dv g.b).ownBlock ≠ some k
  mne : m.mn ≠ m.md
  bn : B ≤ m.mn
  bd : B ≤ m.md
theorem map_obj {w : World} {b n : Nat} {D : Mp} (h : w.ownsMap Try.prog 9 ptrE b n D) : ∃ es c, w.heap[b]? = some (.map es c) := let ⟨es, c, h, _⟩ := h; ⟨es, c, h⟩
section
variable {w w' : World} {B : Nat} {m : Mem} {D1 D2 : Mp} {ops : List Opn} {F : List Fl}
theorem DC.keep (h : DC w B m D1 D2 ops F) (hb : Below w.heap.size w w') : DC w' B m D1 D2 ops F :=
  { h with
    nm := h.nm.kept (grown_of hb) (by simp)
    dm := h.dm.kept (grown_of hb) (by simp)
    pd := own_keep h.pd hb
    fl := fun f hf => ⟨row_keep (h.fl f hf).1 hb, (h.fl f hf).2.1.keep hb, (h.fl f hf).2.2⟩ }
/-- Nothing of the disk lies in the block that turns. -/
theorem DC.stay (h : DC w B m D1 D2 ops F) {k : Nat} (hg : w.grownBy w' (some k)) (h1 : m.mn ≠ k) (h2 : m.md ≠ k) (h3 : m.pv.ownBlock ≠ some k) (h4 : ∀ f ∈ F, f.b ≠ k ∧ (m.dv f.b).ownBlock ≠ some k) : DC w' B m D1 D2 ops F :=
  { h with
    nm := h.nm.kept hg (by simpa using h1)
    dm := h.dm.kept hg (by simpa using h2)
    pd := own_grown h.pd hg h3
    fl := fun f hf => ⟨heap_stay (h.fl f hf).1 hg (fun e => (h4 f hf).1 (by injection e with e; exact e.symm)), (h.fl f hf).2.1.stay hg (fun j hj e => (h4 f hf).2 (by rw [hj, ← e])), (h.fl f hf).2.2⟩ }
theorem DC.other (h : DC w B m D1 D2 ops F) {k : Nat} {o : Obj} (ho : w.heap[k]? = some o) (hg : w.grownBy w' (some k)) (hm : ∀ es c, o ≠ .map es c) (hp : ∀ us fz, o ≠ .cells us 102 fz) (hf : ∀ us fz, o ≠ .cells us 81 fz) (hd : ∀ us fz, o ≠ .cells us 5 fz) : DC w' B m D1 D2 ops F := by
  refine h.stay hg (fun e => ?_) (fun e => ?_) (fun e => ?_) (fun f hff => ⟨fun e => ?_, fun e => ?_⟩)
  · obtain ⟨es, c, h1⟩ := map_obj h.nm
    rw [e, ho] at h1
    exact hm es c (Option.some.inj h1)
  · obtain ⟨es, c, h1⟩ := map_obj h.dm
    rw [e, ho] at h1
    exact hm es c (Option.some.inj h1)
  · obtain ⟨cur, h1⟩ := own_obj h.pd e
    rw [ho] at h1
    exact hp _ _ (Option.some.inj h1)
  · have h1 := (h.fl f hff).1
    rw [e, ho] at h1
    exact hf _ _ (Option.some.inj h1)
  · obtain ⟨us, fz, h1⟩ := (h.fl f hff).2.1.obj e
    rw [ho] at h1
    exact hd _ _ (Option.some.inj h1)
theorem DC.fne (h : DC w B m D1 D2 ops F) {f : Fl} (hf : f ∈ F) {k : Nat} (hk : m.pv.ownBlock = some k) : f.b ≠ k ∧ (m.dv f.b).ownBlock ≠ some k := by
  obtain ⟨cur, h1⟩ := own_obj h.pd hk
  refine ⟨fun e => ?_, fun e => ?_⟩
  · have h2 := (h.fl f hf).1
    rw [e, h1] at h2
    injection h2 with h2; injection h2 with _ h2; exact absurd h2 (by decide)
  · obtain ⟨us, fz, h2⟩ := (h.fl f hf).2.1.obj e
    rw [h1] at h2
    injection h2 with h2; injection h2 with _ h2; exact absurd h2 (by decide)
/-- An iterator turns. -/
theorem DC.stayI (h : DC w B m D1 D2 ops F) {b r n cnt : Nat} {D : Mp} {left : Lit → Bool} (hg : w.grownBy w' (some r)) (hr : w.ranges Try.prog 9 ptrE b r n D left cnt) : DC w' B m D1 D2 ops F := by
  obtain ⟨es, clock, since, seen, c0, _, _, _, _, hi, _⟩ := hr
  have hmap : ∀ {b n : Nat} {D : Mp}, w.ownsMap Try.prog 9 ptrE b n D → b ≠ r := fun hb e => by
    obtain ⟨es, c, h1⟩ := map_obj hb
    rw [e, hi] at h1; cases h1
  refine h.stay hg (hmap h.nm) (hmap h.dm) (fun e => ?_) (fun f hff => ⟨fun e => ?_, fun e => ?_⟩)
  · obtain ⟨cur, h1⟩ := own_obj h.pd e
    rw [hi] at h1; cases h1
  · have h1 := (h.fl f hff).1
    rw [e, hi] at h1; cases h1
  · obtain ⟨us, fz, h1⟩ := (h.fl f hff).2.1.obj e
    rw [hi] at h1; cases h1
/-- The names turn. -/
theorem DC.names (h : DC w B m D1 D2 ops F) {n' : Nat} {D' : Mp} (hg : w.grownBy w' (some m.mn)) (ho : w'.ownsMap Try.prog 9 ptrE m.mn n' D') : DC w' B { m with n1 := n' } D' D2 ops F := by
  obtain ⟨es, c, h1⟩ := map_obj h.nm
  exact { h with
    nm := ho
    dm := h.dm.kept hg (by have := h.mne; simpa using fun e => this e.symm)
    pd := own_grown h.pd hg (fun e => by obtain ⟨cur, h2⟩ := own_obj h.pd e; rw [h1] at h2; cases h2)
    fl := fun f hf => ⟨heap_stay (h.fl f hf).1 hg (fun e => by injection e with e; have h2 := (h.fl f hf).1; rw [← e, h1] at h2; cases h2), (h.fl f hf).2.1.stay hg (fun j hj e => by
      injection e with e
      obtain ⟨us, fz, h2⟩ := (h.fl f hf).2.1.obj hj
      rw [← e, h1] at h2; cases h2), (h.fl f hf).2.2⟩ }
/-- The durable names turn. -/
theorem DC.durs (h : DC w B m D1 D2 ops F) {n' : Nat} {D' : Mp} (hg : w.grownBy w' (some m.md)) (ho : w'.ownsMap Try.prog 9 ptrE m.md n' D') : DC w' B { m with n2 := n' } D1 D' ops F := by
  obtain ⟨es, c, h1⟩ := map_obj h.dm
  exact { h with
    dm := ho
    nm := h.nm.kept hg (by have := h.mne; simpa using this)
    pd := own_grown h.pd hg (fun e => by obtain ⟨cur, h2⟩ := own_obj h.pd e; rw [h1] at h2; cases h2)
    fl := fun f hf => ⟨heap_stay (h.fl f hf).1 hg (fun e => by injection e with e; have h2 := (h.fl f hf).1; rw [← e, h1] at h2; cases h2), (h.fl f hf).2.1.stay hg (fun j hj e => by
      injection e with e
      obtain ⟨us, fz, h2⟩ := (h.fl f hf).2.1.obj hj
      rw [← e, h1] at h2; cases h2), (h.fl f hf).2.2⟩ }
/-- The row of pending operations turns. -/
theorem DC.pend (h : DC w B m D1 D2 ops F) {v' : Value} {ops' : List Opn} (hg : w.grownBy w' m.pv.ownBlock) (ho : w'.ownsRow B 102 1 v' ops'.length (ops'.map opV)) : DC w' B { m with pv := v' } D1 D2 ops' F := by
  have hmap : ∀ {b n : Nat} {D : Mp}, w.ownsMap Try.prog 9 ptrE b n D → some b ≠ m.pv.ownBlock := fun hb e => by
    obtain ⟨cur, h2⟩ := own_obj h.pd e.symm
    obtain ⟨es, c, h1⟩ := map_obj hb
    rw [h1] at h2; cases h2
  exact { h with
    nm := h.nm.kept hg (hmap h.nm)
    dm := h.dm.kept hg (hmap h.dm)
    pd := ho
    fl := fun f hf => ⟨heap_stay (h.fl f hf).1 hg (fun e => (h.fne hf e).1 rfl), (h.fl f hf).2.1.stay hg (fun j hj e => (h.fne hf e).2 hj), (h.fl f hf).2.2⟩ }
end
/-- A disk: its cells, and what it leads to. -/
structure St where
  cap : Nat
  D1 : Mp
  D2 : Mp
  ops : List Opn
  down : Bool
  lim : Bool
  left : Nat
  F : List Fl
  rd : Nat → Option Obj
abbrev objV (s : St) (m : Mem) : Array Value := #[.int .i64 (s.cap : Nat), .map (some m.mn), .map (some m.md), m.pv, .bool s.down, .bool s.lim, .int .i64 (s.left : Nat)]
/-- The types of what a disk writes. -/
def dsk (T : TypeId) : Bool := T == 71 || T == 81 || T == 5 || T == 102 || T == 3
def dO : Obj → Bool
  | .cells _ T _ => dsk T
  | _ => true
def noR : Nat → Option Obj := fun _ => none
/-- What rides along: blocks of types that no disk writes. -/
def Fr (rd : Nat → Option Obj) (w : World) : Prop := ∀ j us T fz, rd j = some (.cells us T fz) → dsk T = false → w.heap[j]? = some (.cells us T fz)
theorem Fr.none (w : World) : Fr noR w := fun _ _ _ _ h => by cases h
theorem Fr.keep {rd : Nat → Option Obj} {w w' : World} (h : Fr rd w) (hb : Below w.heap.size w w') : Fr rd w' := fun j us T fz h1 h2 => row_keep (h j us T fz h1 h2) hb
theorem Fr.grown {rd : Nat → Option Obj} {w w' : World} (h : Fr rd w) {k : Option Nat} (hg : w.grownBy w' k) (hk : ∀ j, k = some j → ∃ o, w.heap[j]? = some o ∧ dO o = true) : Fr rd w' := fun j us T fz h1 h2 => by
  have h3 := h j us T fz h1 h2
  rw [hg.block j (row_lt h3) (fun e => by
    obtain ⟨o, ho, hd⟩ := hk j e.symm
    rw [h3] at ho
    injection ho with ho
    rw [← ho] at hd
    have hd : dsk T = true := hd
    rw [h2] at hd
    cases hd)]
  exact h3
structure DM (w : World) (B p : Nat) (m : Mem) (s : St) : Prop where
  obj : w.heap[p]? = some (.cells (objV s m) 71 (0, 0))
  low : B ≤ p
  con : DC w B m s.D1 s.D2 s.ops s.F
  fr : Fr s.rd w
theorem DM.keep {w w' : World} {B p : Nat} {m : Mem} {s : St} (h : DM w B p m s) (hb : Below w.heap.size w w') : DM w' B p m s := ⟨row_keep h.obj hb, h.low, h.con.keep hb, h.fr.keep hb⟩
theorem DM.cells {w : World} {B p : Nat} {m : Mem} {s : St} (h : DM w B p m s) : Cells w p (objV s m).toList := Cells.of_row h.obj
/-- A cell of the disk itself is set. -/
theorem DM.set {w : World} {B p : Nat} {m m' : Mem} {s s' : St} (h : DM w B p m s) (i : Nat) (v : Value) (hc : DC w B m' s'.D1 s'.D2 s'.ops s'.F) (hv : (objV s m).setIfInBounds i v = objV s' m') (hr : s'.rd = s.rd := by rfl) : DM (w.setCell ⟨p, i, none⟩ v) B p m' s' := by
  have hg := grown_cells p [v] i w
  have e : w.setCells p i [v] = w.setCell ⟨p, i, none⟩ v := rfl
  rw [e] at hg
  refine ⟨?_, h.low, hc.other h.obj hg (fun _ _ e => by cases e) (fun _ _ e => by injection e with _ e; exact absurd e (by decide)) (fun _ _ e => by injection e with _ e; exact absurd e (by decide)) (fun _ _ e => by injection e with _ e; exact absurd e (by decide)), hr ▸ h.fr.grown hg (fun j e => by injection e with e; subst e; exact ⟨_, h.obj, rfl⟩)⟩
  rw [← hv]
  exact heap_setF w p i _ _ _ v h.obj
end Go.Proofs.Ytbmogecnepgnaaa
