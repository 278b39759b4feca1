/- readDigits: its walk. -/
import Derived.Test.YtbpbfjnndkoioaaGreatDoorInt5
import Derived.Test.YtbpbfjnndkoioaaGreatDoorMulAdd
import Derived.Test.YtbpbfjnndkoioaaGreatDoorFrom
namespace Go.Proofs.YtbpbfjnndkoioaaGreatDoor
open Go.RowKit

def isDig (c : UInt8) : Bool := decide (48 ≤ c.toNat) && decide (c.toNat ≤ 57)
def allDig (l : List UInt8) : Bool := l.all isDig
theorem str_len (s : ByteArray) : s.data.toList.length = s.size := Array.length_toList
theorem str_at {s : ByteArray} {k : Nat} (h : k < s.size) : s.data.toList[k]? = some s[k] := by
  have h' : k < s.data.toList.length := by rw [str_len]; exact h
  rw [List.getElem?_eq_getElem h']
  rfl
theorem allDig_not {l : List UInt8} {k : Nat} {c : UInt8} (h : l[k]? = some c) (hc : isDig c = false) : allDig l = false := by
  unfold allDig
  rw [Bool.eq_false_iff]
  intro h1
  rw [List.all_eq_true] at h1
  have := h1 c (List.mem_of_getElem? h)
  rw [hc] at this
  cases this
theorem allDig_take {l : List UInt8} {k : Nat} {c : UInt8} (h : l[k]? = some c) (hc : isDig c = true) (hd : allDig (l.take k) = true) : allDig (l.take (k + 1)) = true := by
  unfold allDig at *
  rw [List.take_add_one, h, List.all_append, hd]
  simp [hc]

set_option maxHeartbeats 1000000 in
theorem isDigits_any (s : ByteArray) (w : World) (hs : s.size ≤ 9223372036854775807) :
    Calls Tryz.prog 110 #[.string s] w fun e w' => e = .returned (.bool (allDig s.data.toList && decide (0 < s.size))) ∧ w = w' := by
  go_enter Tryz.func110, Tryz.ntmps110
  go_wp2_with fail
  go_loop [6] (fun i => ∃ k : Nat, k ≤ s.size ∧ i = .int .i64 k ∧ allDig (s.data.toList.take k) = true) (fun i => s.size - (intOf i).toNat)
  case atStart => exact ⟨0, Nat.zero_le _, rfl, rfl⟩
  case round =>
    obtain ⟨k, hk, rfl, hd⟩ := hrel
    have Hd := Lib.hid hd
    clear hd
    by_cases hlt : k < s.size
    · have Hat := Lib.hid (str_at hlt)
      obtain ⟨x, hx⟩ : ∃ x, (s[k]).toNat = x := ⟨_, rfl⟩
      have Hx := Lib.hid hx
      by_cases h1 : x < 48
      · have hf : allDig s.data.toList = false := allDig_not Hat.out (by unfold isDig; rw [Hx.out]; simp; omega)
        go_wp2
        all_goals go_ret
        all_goals simp
      · by_cases h2 : 57 < x
        · have hf : allDig s.data.toList = false := allDig_not Hat.out (by unfold isDig; rw [Hx.out]; simp; omega)
          go_wp2
          all_goals go_ret
          all_goals simp
        · have hf := Lib.hid (allDig_take Hat.out (by unfold isDig; rw [Hx.out]; simp; omega) Hd.out)
          go_wp2
          go_round
          case rel => exact ⟨k + 1, by omega, by go_num, hf.out⟩
          case measure => simp [intOf]; omega
    · have e : k = s.size := by omega
      have hall : allDig s.data.toList = true := by
        have := Hd.out
        rw [e, ← str_len, List.take_length] at this
        exact this
      go_wp2
      go_ret
      simp
/-- The value of decimal digits, the highest one first. -/
def dig (c : UInt8) : Nat := c.toNat - 48
def decF (a : Nat) (c : UInt8) : Nat := 10 * a + dig c
def decV (l : List UInt8) : Nat := l.foldl decF 0
theorem decV_snoc (l : List UInt8) (c : UInt8) : decV (l ++ [c]) = 10 * decV l + dig c := by simp [decV, decF, List.foldl_append]
theorem decV_fold (b : List UInt8) : ∀ n, b.foldl decF n = n * 10 ^ b.length + decV b := by
  induction b with
  | nil => intro n; simp [decV]
  | cons c b ih =>
    intro n
    simp only [List.foldl_cons, List.length_cons, decV]
    rw [ih, ih (decF 0 c), Nat.pow_succ, Nat.mul_comm (10 ^ _) 10, ← Nat.mul_assoc]
    unfold decF
    rw [Nat.add_mul, Nat.add_mul, Nat.mul_zero, Nat.zero_mul, Nat.zero_add, Nat.mul_comm 10 n]
    omega
theorem decV_append (a b : List UInt8) : decV (a ++ b) = decV a * 10 ^ b.length + decV b := by
  have := decV_fold b (decV a)
  rw [← this]
  simp [decV, List.foldl_append]
theorem dig_lt {c : UInt8} (h : isDig c = true) : dig c < 10 := by
  unfold isDig at h
  simp at h
  unfold dig
  omega
theorem decV_lt (l : List UInt8) (h : allDig l = true) : decV l < 10 ^ l.length := by
  have key : ∀ (b : List UInt8) (n k : Nat), allDig b = true → n < 10 ^ k → b.foldl decF n < 10 ^ (k + b.length) := by
    intro b
    induction b with
    | nil => intro n k _ hn; simpa using hn
    | cons c b ih =>
      intro n k hb hn
      unfold allDig at hb ih
      simp only [List.all_cons, Bool.and_eq_true] at hb
      have hc := dig_lt hb.1
      rw [List.foldl_cons, List.length_cons, show k + (b.length + 1) = (k + 1) + b.length by omega]
      refine ih _ _ hb.2 ?_
      unfold decF
      rw [Nat.pow_succ]
      omega
  have := key l 0 0 h (by decide)
  rw [Nat.zero_add] at this
  exact this

theorem mulAdd_empty (A : Option Addr) (c m p : Nat) (w : World) :
    Calls Tryz.prog 114 #[.slice A 0 c, .int .u64 (m : Nat), .int .u64 (p : Nat)] w fun e w' => e = .returned (.int .u64 (p : Nat)) ∧ w = w' := by
  go_enter Tryz.func114, Tryz.ntmps114
  go_wp2_with fail
  refine wp_loop_rounds 1 ?_
  rw [rounds_succ]
  go_wp2
  go_ret
  exact ⟨rfl, rfl⟩
theorem own_after {w w' : World} {base g n c : Nat} {xs : List Value} {ys : List Nat} (h : w.ownsRow base 82 1 (.slice (some ⟨g, 0, none⟩) n c) n xs) (ho : Only g w w') (hb : Blk w' g ys) (hl : ys.length = n) :
    w'.ownsRow base 82 1 (.slice (some ⟨g, 0, none⟩) n c) n (u64s ys) := by
  refine ⟨by simp [u64s, hl], ?_⟩
  rcases h.2 with ⟨h1, _⟩ | ⟨g', cap, cur, h1, hg, hh, hnc, hcm, hcs, hx⟩
  · cases h1
  · injection h1 with h1 _ h3
    injection h1 with h1
    injection h1 with h1
    subst h1 h3
    obtain ⟨cur', hc, ht⟩ := hb
    have hlt : g < w.heap.size := by
      rcases Nat.lt_or_ge g w.heap.size with h | h
      · exact h
      · rw [Array.getElem?_eq_none h] at hh; cases hh
    have hr := ho.room hlt
    unfold roomAt at hr
    rw [hc, hh] at hr
    exact .inr ⟨g, c, cur', rfl, hg, hc, hnc, hcm, by rw [← hcs]; exact hr, by rw [← hl, Nat.mul_one]; exact ht⟩

def Tight (xs : List Nat) : Prop := xs.length = 0 ∨ base (xs.length - 1) ≤ natVal xs
def ReadInv (w0 : World) (s : ByteArray) (vs va : Value) (wr : World) : Prop :=
  ∃ (t : ByteArray) (pre : List UInt8) (xs : List Nat), vs = .string t ∧ s.data.toList = pre ++ t.data.toList ∧ natVal xs = decV pre ∧ Words xs ∧ (decV pre = 0 ∨ t.size % 19 = 0) ∧ Tight xs ∧ xs.length ≤ pre.length ∧
    wr.ownsRow w0.heap.size 82 1 va xs.length (u64s xs) ∧ Below w0.heap.size w0 wr
def strLen : Value → Nat
  | .string t => t.size
  | _ => 0
theorem info_word : (Tryz.prog.info? 82).map (fun i => (i.zero, i.size, i.bytes)) = some (some (.int .u64 0), 1, 8) := by kernel_rfl
theorem read_start {w w1 : World} {c : Nat} (s : ByteArray) (hown : w1.ownsRow w.heap.size 82 1 (.slice (some ⟨w.heap.size, 0, none⟩) 0 c) 0 []) (hgr : w.grownBy w1 none) :
    ReadInv w s (.string s) (.slice (some ⟨w.heap.size, 0, none⟩) 0 c) w1 :=
  ⟨s, [], [], rfl, rfl, rfl, fun d hd => by simp at hd, .inl rfl, .inl rfl, Nat.le_refl _, hown, (Below.refl w.heap.size w).grown hgr (Nat.le_refl _) (by simp)⟩

theorem base_one : base 1 = 18446744073709551616 := by decide
theorem read_num {pre l : List UInt8} {T m P q : Nat} {xs ys zs : List Nat} (hval : natVal xs = decV pre) (hmod : decV pre = 0 ∨ T % 19 = 0) (hT : 0 < T) (hm : (T - 1) % 19 + 1 = m) (hP : decV (l.take m) = P) (hlm : (l.take m).length = m) (hn : ys.length = xs.length)
    (h : natVal ys + base xs.length * q = natVal xs * 10000000000000000000 + P) (hz : zs = if q = 0 then ys else ys ++ [q]) : natVal zs = decV (pre ++ l.take m) := by
  have e : natVal zs = natVal ys + base xs.length * q := by
    rw [hz]
    split
    · rename_i hq; subst hq; simp
    · rw [natVal_snoc, hn]
  rw [e, h, decV_append, hlm, hP, hval]
  rcases hmod with h0 | h0
  · rw [h0, Nat.zero_mul, Nat.zero_mul]
  · have : m = 19 := by omega
    subst this
    rfl
theorem read_tight {P q : Nat} {xs ys zs : List Nat} (ht : Tight xs) (hn : ys.length = xs.length) (h : natVal ys + base xs.length * q = natVal xs * 10000000000000000000 + P) (hz : zs = if q = 0 then ys else ys ++ [q]) : Tight zs := by
  unfold Tight at *
  by_cases hq : q = 0
  · subst hq
    rw [if_pos rfl] at hz
    subst hz
    rw [hn]
    rcases ht with h0 | h0
    · exact .inl h0
    · right
      rw [Nat.mul_zero] at h
      omega
  · rw [if_neg hq] at hz
    subst hz
    right
    rw [natVal_snoc, List.length_append, List.length_singleton, Nat.add_sub_cancel]
    have : base ys.length * 1 ≤ base ys.length * q := Nat.mul_le_mul_left _ (by omega)
    omega
theorem extract_data (t : ByteArray) (m : Nat) : (t.extract m t.size).data.toList = t.data.toList.drop m := by
  have h : t.data.toList.length = t.size := str_len t
  simp [ByteArray.data_extract, List.take_of_length_le, h]
theorem extract_size' (t : ByteArray) (m : Nat) : (t.extract m t.size).size = t.size - m := by simp
theorem read_next {w wn : World} {s t : ByteArray} {pre : List UInt8} {m P q : Nat} {xs ys zs : List Nat} {va : Value} (hcat : s.data.toList = pre ++ t.data.toList) (hval : natVal xs = decV pre) (hmod : decV pre = 0 ∨ t.size % 19 = 0) (hT : 0 < t.size) (hm : (t.size - 1) % 19 + 1 = m) (hm2 : m ≤ t.size)
    (hP : decV (t.data.toList.take m) = P) (hlen : xs.length ≤ pre.length) (ht : Tight xs) (hn : ys.length = xs.length) (hy : Words ys) (hq : q < 18446744073709551616) (h : natVal ys + base xs.length * q = natVal xs * 10000000000000000000 + P) (hz : zs = if q = 0 then ys else ys ++ [q])
    (hown : wn.ownsRow w.heap.size 82 1 va zs.length (u64s zs)) (hbel : Below w.heap.size w wn) : ReadInv w s (.string (t.extract m t.size)) va wn := by
  have hlm : (t.data.toList.take m).length = m := by rw [List.length_take, str_len]; omega
  refine ⟨t.extract m t.size, pre ++ t.data.toList.take m, zs, rfl, ?_, read_num hval hmod hT hm hP hlm hn h hz, ?_, .inr ?_, read_tight ht hn h hz, ?_, hown, hbel⟩
  · rw [extract_data, List.append_assoc, List.take_append_drop]; exact hcat
  · rw [hz]
    split
    · exact hy
    · intro d hd
      rw [List.mem_append, List.mem_singleton] at hd
      rcases hd with hd | hd
      · exact hy d hd
      · rw [hd]; exact hq
  · rw [extract_size']; omega
  · have : zs.length ≤ ys.length + 1 := by rw [hz]; split <;> simp
    rw [List.length_append, hlm]; omega
theorem piece_lt {s t : ByteArray} {pre : List UInt8} {k : Nat} (hd : allDig s.data.toList = true) (hcat : s.data.toList = pre ++ t.data.toList) : decV (t.data.toList.take k) < 10 ^ k := by
  have h1 : allDig (t.data.toList.take k) = true := by
    unfold allDig at *
    rw [hcat, List.all_append, Bool.and_eq_true] at hd
    rw [List.all_eq_true] at *
    exact fun x hx => List.all_eq_true.mp hd.2 x (List.mem_of_mem_take hx)
  refine Nat.lt_of_lt_of_le (decV_lt _ h1) (Nat.pow_le_pow_right (by decide) ?_)
  rw [List.length_take]
  omega
theorem digit_at {s t : ByteArray} {pre : List UInt8} {k y : Nat} (hd : allDig s.data.toList = true) (hcat : s.data.toList = pre ++ t.data.toList) (hk : k < t.size) (hy : (t[k]).toNat = y) : (48 ≤ y ∧ y ≤ 57) ∧ decV (t.data.toList.take (k + 1)) = 10 * decV (t.data.toList.take k) + (y - 48) := by
  have hat := str_at hk
  constructor
  · unfold allDig at hd
    rw [hcat, List.all_append, Bool.and_eq_true] at hd
    have := List.all_eq_true.mp hd.2 _ (List.mem_of_getElem? hat)
    unfold isDig at this
    rw [hy] at this
    simpa using this
  · rw [List.take_add_one, hat]
    simp only [Option.toList_some]
    rw [decV_snoc]
    unfold dig
    rw [hy]
theorem piece_wrap {P y k : Nat} (hk : k < 19) (hP : P < 10 ^ k) (hy : 48 ≤ y ∧ y ≤ 57) : IntKind.u64.wrap ((P : Int) * 10) = (P : Int) * 10 ∧ IntKind.u64.wrap ((P : Int) * 10 + ((y : Int) - 48)) = (P : Int) * 10 + ((y : Int) - 48) := by
  have h1 : (10 : Nat) ^ k ≤ 10 ^ 18 := Nat.pow_le_pow_right (by decide) (by omega)
  have h2 : (10 : Nat) ^ 18 = 1000000000000000000 := by decide
  rw [h2] at h1
  constructor <;> rw [wrap_u64] <;> omega

theorem read_more {w w2 w3 : World} {n q : Nat} {ys : List Nat} {va v' : Value} (hn : ys.length = n) (hown : w2.ownsRow w.heap.size 82 1 va n (u64s ys)) (hbel : Below w.heap.size w w2)
    (hown' : w3.ownsRow w.heap.size 82 1 v' (n + 1) (u64s ys ++ [.int .u64 (q : Nat)])) (hgrow : (w2.alloc (.cells #[.int .u64 (q : Nat)] 82)).grownBy w3 va.ownBlock) :
    w3.ownsRow w.heap.size 82 1 v' (ys ++ [q]).length (u64s (ys ++ [q])) ∧ Below w.heap.size w w3 := by
  refine ⟨by simpa [u64s, hn] using hown', ?_⟩
  exact (hbel.alloc hbel.size _).grown hgrow (by simp; have := hbel.size; omega) (fun k hk => own_ge hown hk)
theorem read_empty (P : Nat) : natVal [] + base ([] : List Nat).length * P = natVal [] * 10000000000000000000 + P := by simp [natVal, base]
theorem p_word' {P k : Nat} (hk : k ≤ 19) (h : P < 10 ^ k) : P < 18446744073709551616 := by
  have h1 : (10 : Nat) ^ k ≤ 10 ^ 19 := Nat.pow_le_pow_right (by decide) hk
  have h2 : (10 : Nat) ^ 19 = 10000000000000000000 := by decide
  rw [h2] at h1
  omega

set_option maxRecDepth 100000 in
set_option maxHeartbeats 8000000 in
theorem readDigits_any (s : ByteArray) (w : World) (hs : s.size ≤ 1300) (hd : allDig s.data.toList = true) :
    Calls Tryz.prog 111 #[.string s] w fun e w' => ∃ (va : Value) (xs : List Nat), e = .returned va ∧ natVal xs = decV s.data.toList ∧ Words xs ∧ Tight xs ∧ w'.ownsRow w.heap.size 82 1 va xs.length (u64s xs) ∧ Below w.heap.size w w' := by
  obtain ⟨i0, hi, hz0, hz1, hz2⟩ := info_parts info_word
  have Hd := Lib.hid hd
  clear hd
  obtain ⟨q, hq⟩ : ∃ q : Nat, s.size / 19 = q := ⟨_, rfl⟩
  have hq1 : (s.size : Int) / 19 = (q : Int) := by omega
  have hq2 : q ≤ 1300 := by omega
  clear hq
  go_enter Tryz.func111, Tryz.ntmps111
  go_wp2_with (at_make; refine wpList_make_own _ rfl _ _ 60 rfl w.heap.size 82 i0 (.int .u64 0) 1 Tryz.underlying60 hi hz0 hz1 _ _ _ (q + 1) rfl rfl (by omega) (by rw [hz2]; omega) (by unfold maxLen; omega) (Nat.le_refl _) ?_)
  intro w1 hown1 hgr1
  have Hst := Lib.hid (read_start s hown1 hgr1)
  clear hown1 hgr1
  go_wp2_with fail
  go_loopw [0, 3] (fun vs va wr => ReadInv w s vs va wr) (fun vs _ _ => strLen vs)
  case atStart => exact Hst.out
  case round =>
    obtain ⟨t, pre, xs, rfl, hcat, hval, hw, hmod, htight, hlen, hown, hbel⟩ := hrel
    have hsz : pre.length + t.size = s.size := by have := congrArg List.length hcat; rw [List.length_append, str_len, str_len] at this; omega
    have Hcat := Lib.hid hcat
    have Hval := Lib.hid hval
    have Hw := Lib.hid hw
    have Hmod := Lib.hid hmod
    have Htight := Lib.hid htight
    have Hown := Lib.hid hown
    have Hbel := Lib.hid hbel
    have hsize := hbel.size
    by_cases h0 : t.size = 0
    · have hnil : t.data.toList = [] := List.eq_nil_of_length_eq_zero (by rw [str_len]; exact h0)
      have hfin : natVal xs = decV s.data.toList := by rw [hcat, hnil, List.append_nil]; exact hval
      have Hfin := Lib.hid hfin
      clear hcat hval hw hmod htight hown hbel hfin hnil
      go_wp2
      go_ret
      exact ⟨_, xs, rfl, Hfin.out, Hw.out, Htight.out, Hown.out, Hbel.out⟩
    · clear hcat hval hw hmod htight hown hbel
      have hpos : 0 < t.size := by omega
      obtain ⟨m, hm⟩ : ∃ m : Nat, (t.size - 1) % 19 + 1 = m := ⟨_, rfl⟩
      have hm0 : 1 ≤ m := by omega
      have hm1 : m ≤ 19 := by omega
      have hm2 : m ≤ t.size := by omega
      have hm3 : ((t.size : Int) - 1) % 19 + 1 = (m : Int) := by omega
      have Hm := Lib.hid hm
      clear hm
      go_wp2_with fail
      go_loop [5, 22] (fun vp vi => ∃ k : Nat, k ≤ m ∧ vi = .int .i64 k ∧ vp = .int .u64 (decV (t.data.toList.take k) : Nat)) (fun _ vi => m - (intOf vi).toNat)
      case atStart => exact ⟨0, Nat.zero_le _, rfl, rfl⟩
      case round =>
        obtain ⟨k, hk, rfl, rfl⟩ := hrel
        obtain ⟨P, hP⟩ : ∃ P, decV (t.data.toList.take k) = P := ⟨_, rfl⟩
        rw [hP]
        have HP := Lib.hid hP
        have hPlt := piece_lt (k := k) Hd.out Hcat.out
        rw [hP] at hPlt
        have HPlt := Lib.hid hPlt
        clear hP hPlt
        by_cases hkm : k < m
        · have hkt : k < t.size := by omega
          obtain ⟨y, hy⟩ : ∃ y, (t[k]).toNat = y := ⟨_, rfl⟩
          obtain ⟨⟨hy1, hy2⟩, hnext⟩ := digit_at Hd.out Hcat.out hkt hy
          obtain ⟨e1, e2⟩ := piece_wrap (by omega) HPlt.out ⟨hy1, hy2⟩
          rw [HP.out] at hnext
          have Hnext := Lib.hid hnext
          clear hnext
          go_wp2
          go_round
          case rel => exact ⟨k + 1, by omega, by go_num, by rw [Hnext.out]; congr 1; omega⟩
          case measure => simp [intOf]; omega
        · obtain rfl : k = m := by omega
          have hPw := p_word' hm1 HPlt.out
          have HPw := Lib.hid hPw
          clear hPw
          rcases Nat.eq_zero_or_pos xs.length with hx0 | hx0
          · have hxn : xs = [] := List.eq_nil_of_length_eq_zero hx0
            subst hxn
            obtain ⟨A, c, rfl, _, _⟩ := own_isL Hown.out
            go_wp2_with fail
            refine (mulAdd_empty A c 10000000000000000000 P _).mono ?_
            rintro e w2 ⟨rfl, rfl⟩
            have Hown2 := Hown
            have Hbel2 := Hbel
            have Hyw := Hw
            have Hq := HPw
            have Hyv := Lib.hid (read_empty P)
            by_cases hq0 : P = 0
            · have Hq0 := Lib.hid hq0
              have hfin := read_next Hcat.out Hval.out Hmod.out hpos Hm.out hm2 HP.out hlen Htight.out rfl Hyw.out Hq.out Hyv.out (by rw [if_pos hq0]) Hown2.out Hbel2.out
              have Hfin := Lib.hid hfin
              clear hfin
              have t1 : ((P : Int) == 0) = true := by rw [beq_iff_eq]; omega
              go_wp2
              go_roundw
              case rel => exact Hfin.out
              case measure => simp [strLen]; omega
            · have t1 : ((P : Int) == 0) = false := by rw [beq_eq_false_iff_ne]; omega
              go_wp2_with (at_builtin; refine wpList_append_own _ rfl _ _ 60 rfl w.heap.size 82 i0 (.int .u64 0) 1 8 Tryz.underlying60 hi hz0 hz1 hz2 rfl (by decide) _ _ _ rfl (Hown2.out.alloc _) ⟨wr.heap.size, 0, none⟩ 1 1 [.int .u64 (P : Nat)] rfl rfl (fun k u hu => by match k, hu with | 0, hu => simp at hu; subst hu; simp [Addr.add]) (fun u hu => by simp at hu; subst hu; rfl) (by unfold maxLen; omega) (by omega) (by simp; omega) ?_)
              intro v' w3 hown3 hgrow _
              obtain ⟨hown4, hbel4⟩ := read_more rfl Hown2.out Hbel2.out hown3 hgrow
              have hfin := read_next Hcat.out Hval.out Hmod.out hpos Hm.out hm2 HP.out hlen Htight.out rfl Hyw.out Hq.out Hyv.out (by rw [if_neg hq0]) hown4 hbel4
              have Hfin := Lib.hid hfin
              clear hfin hown3 hgrow hown4 hbel4
              go_wp2
              go_roundw
              case rel => exact Hfin.out
              case measure => simp [strLen]; omega
          · obtain ⟨n, hn⟩ : ∃ n, xs.length = n := ⟨_, rfl⟩
            have hown' := Hown.out
            rw [hn] at hown' hx0 hlen
            obtain ⟨g, c, rfl, hnc, hcm, hgb, hblk⟩ := Blk.of_own hown' hx0
            have Hblk := Lib.hid hblk
            have Hown' := Lib.hid hown'
            have Hn := Lib.hid hn
            clear hblk hown' hn
            go_wp2_with fail
            refine (mulAdd_any g 0 n c xs 10000000000000000000 P _ Hblk.out (by rw [Hn.out]; omega) Hw.out (by decide) HPw.out (by omega) (by decide)).mono ?_
            rintro e w2 ⟨ys, qq, rfl, hyl, hq, hyw, hyv, hb2, ho2⟩
            have e : put xs 0 ys = ys := by
              have := Hn.out
              simp [put, hyl, this]
            rw [e] at hb2
            rw [List.drop_zero, ← Hn.out, List.take_length] at hyv
            have hsize2 := ho2.size
            have Hown2 := Lib.hid (own_after Hown'.out ho2 hb2 hyl)
            have Hbel2 := Lib.hid (Below.only Hbel.out ho2 hgb hsize)
            have Hyn := Lib.hid hyl
            have Hyw := Lib.hid hyw
            have Hq := Lib.hid hq
            have Hyv := Lib.hid hyv
            have hlenx : xs.length ≤ pre.length := by rw [Hn.out]; exact hlen
            have Hlenx := Lib.hid hlenx
            clear hyl hyw hq hyv hb2 ho2 e hlenx
            by_cases hq0 : qq = 0
            · have Hq0 := Lib.hid hq0
              have hfin := read_next Hcat.out Hval.out Hmod.out hpos Hm.out hm2 HP.out Hlenx.out Htight.out (Hyn.out.trans Hn.out.symm) Hyw.out Hq.out Hyv.out (by rw [if_pos hq0]) (by rw [Hyn.out]; exact Hown2.out) Hbel2.out
              have Hfin := Lib.hid hfin
              clear hfin
              have t1 : ((qq : Int) == 0) = true := by rw [beq_iff_eq]; omega
              go_wp2
              go_roundw
              case rel => exact Hfin.out
              case measure => simp [strLen]; omega
            · have t1 : ((qq : Int) == 0) = false := by rw [beq_eq_false_iff_ne]; omega
              go_wp2_with (at_builtin; refine wpList_append_own _ rfl _ _ 60 rfl w.heap.size 82 i0 (.int .u64 0) 1 8 Tryz.underlying60 hi hz0 hz1 hz2 rfl (by decide) _ _ _ rfl (Hown2.out.alloc _) ⟨w2.heap.size, 0, none⟩ 1 1 [.int .u64 (qq : Nat)] rfl rfl (fun k u hu => by match k, hu with | 0, hu => simp at hu; subst hu; simp [Addr.add]) (fun u hu => by simp at hu; subst hu; rfl) (by unfold maxLen; omega) (by omega) (by simp; omega) ?_)
              intro v' w3 hown3 hgrow _
              obtain ⟨hown4, hbel4⟩ := read_more Hyn.out Hown2.out Hbel2.out hown3 hgrow
              have hfin := read_next Hcat.out Hval.out Hmod.out hpos Hm.out hm2 HP.out Hlenx.out Htight.out (Hyn.out.trans Hn.out.symm) Hyw.out Hq.out Hyv.out (by rw [if_neg hq0]) hown4 hbel4
              have Hfin := Lib.hid hfin
              clear hfin hown3 hgrow hown4 hbel4
              go_wp2
              go_roundw
              case rel => exact Hfin.out
              case measure => simp [strLen]; omega
end Go.Proofs.YtbpbfjnndkoioaaGreatDoor
