/- Drawn regions by sheets: a fact for each slot, one proof an operation. -/
import Derived.Test.YthhobhjcnmmipaaGreatDoorC31
import Derived.Deep.MidRow
namespace Go.Proofs.YthhobhjcnmmipaaGreatDoor
open Go.Value renaming pointer→Jp
open _root_.Option renaming none→Jn,some→Jo
open Go renaming World→JW
open _root_.Array renaming getD_eq_getD_getElem?→T3,getElem?_eq_none→Tu
open Go.Region renaming wanted→T4,ready→T9
open _root_.Bool renaming and_eq_true→T5
open _root_.List renaming range→T6,getElem?_eq_getElem→T7,replicate→T8,all_eq_true→Tt,mem_range→Tw,getElem?_eq_none→Ty
open _root_.Nat renaming zero_add→Tr,eq_zero_or_pos→Tz
open Go.RowKit.Below renaming refl→Ts
open Go.Act renaming put→Tv
open Go.RowKit
def plainW : Value -> Bool
  | .int k _ => !(k == .u64)
  | Jp _ => true
  | .string _ => true
  | .bool _ => true
  | _ => false
structure Wr (p : Nat) (w w' : JW) : Prop where
  os : w'.os =w.os
  tape : w'.tape =w.tape
  output : w'.output =w.output
  size : w'.heap.size =w.heap.size
  block : ∀k, k ≠ p -> w'.heap[k]? =w.heap[k]?
  was : ∃l l', Jh w p l /\ Jh w' p l' /\ l.length =l'.length /\ l.all plainW =true /\ l'.all plainW =true
theorem Wr.below{p : Nat}{w0 w w' : JW}(h : Wr p w w')(hp : w0.heap.size <= p)(hb : Below w0.heap.size w0 w) : Below w0.heap.size w0 w' :=
  ⟨h.os.trans hb.os, h.tape.trans hb.tape, h.output.trans hb.output, by rw[h.size];exact hb.size, fun k hk => (h.block k (by omega)).trans (hb.block k hk)⟩
theorem Nc{w0 w w' : JW}(h : Below w0.heap.size w0 w)(h' : Below w.heap.size w w') : Below w0.heap.size w0 w' :=h.trans (h'.mono h.size)
structure Fct where
  P : JW -> Value -> Prop
  own : Bool
  keep : ∀ {w w' : JW} {t : Value}, P w t -> Below w.heap.size w w' -> P w' t
  wrote : ∀ {w w' : JW} {t : Value} {p : Nat}, P w t -> Wr p w w' -> (own =true -> t ≠ Jp (Jo ⟨p, 0, Jn⟩)) -> P w' t
def Fct.val(u : Value) : Fct :=⟨fun _ t => t =u, false, fun h _ => h, fun h _ _ => h⟩
def Fct.ptr (n : Nat) : Fct := ⟨fun w t => ∃ p l, t = Jp (Jo ⟨p, 0, Jn⟩) /\ Jh w p l /\ l.length = n /\ l.all plainW = true, false,
  fun⟨p, l, e, hc, h1, h2⟩ hb => ⟨p, l, e, hc.keep hb, h1, h2⟩,
  fun {w w' t q} ⟨p, l, e, hc, h1, h2⟩ hw _ => by
    by_cases hq : p =q
    · subst hq
      obtain⟨m, m', c, c', hl, k, k'⟩ :=hw.was;have hm : m =l :=by
        apply List.ext_getElem?;intro i;rw[←c.at_ i, ←hc.at_ i]
      subst hm;exact⟨p, m', e, c', by omega, k'⟩
    · exact ⟨p, l, e, ⟨fun i => (World.cell?_of_block (hw.block p hq)).trans (hc.at_ i), fun i => (World.frozen?_of_block (hw.block p hq)).trans (hc.fz i), by rw [hw.size]; exact hc.lt⟩, h1, h2⟩⟩
theorem Jh.wr{w w' : JW}{p q : Nat}{l : List Value}(hc : Jh w p l)(hw : Wr q w w')(hq : p ≠ q) : Jh w' p l :=
  ⟨fun i => (World.cell?_of_block (hw.block p hq)).trans (hc.at_ i), fun i => (World.frozen?_of_block (hw.block p hq)).trans (hc.fz i), by rw[hw.size];exact hc.lt⟩
def Act.at_(a : Act)(s : Tmp) : Value :=a.tmps.getD s undef
section
variable {P : Program} {ops : Array Oper} {Q : Exit -> Act -> JW -> Prop}
abbrev Lay :=List (Tmp × Bool × Nat)
def Lay.slot(L : Lay)(i : Nat) : Tmp :=(L.getD i (0, false, 0)).1
def Lay.own(L : Lay)(i : Nat) : Bool :=(L.getD i (0, false, 0)).2.1
def Lay.al(L : Lay)(i : Nat) : Nat :=(L.getD i (0, false, 0)).2.2
def Fz(ops : Array Oper)(i : Nat) : Option Tmp :=(ops[i]?).bind (·.dst)
def FS(ops : Array Oper)(n : Nat)(L : Lay)(als : List Nat) : Bool :=
  (T6 L.length).all fun i =>
    (match Fz ops i with|none => L.own i|some s => s ==L.slot i && decide (s < n)) &&
    ((T6 L.length).all fun j => (j ==i) || !(Fz ops j ==Jo (L.slot i)) || Qp .any ops i j) &&
    (!L.own i || (als.contains (L.al i) && L.slot i == L.slot (L.al i) && decide (L.al i < L.length) && Qp .any ops i (L.al i) && (Fz ops i).isNone &&
      (T6 L.length).all fun j => (j == i) || !L.own j || !(L.al j == L.al i))) &&
    (!als.contains i ||(!L.own i && (Fz ops i).isSome))
structure Inv (ops : Array Oper) (w0 : JW) (a0 : Act) (L : Lay) (als : List Nat) (Fs : List Fct) (d : Nat -> Bool) (a : Act) (w : JW) : Prop where
  below : Below w0.heap.size w0 w
  size : a.tmps.size =a0.tmps.size
  dfr : a.defers =a0.defers
  same : ∀s : Tmp, (∀i, i < L.length -> Fz ops i ≠ Jo s) -> a.tmps[s]? =a0.tmps[s]?
  fact : ∀i F, Fs[i]? =Jo F -> d i =true -> F.P w (Act.at_ a (L.slot i))
  down : ∀i, i < L.length -> d i =true -> ∀j, Qp .any ops i j =true -> d j =true
  ptr : ∀i, als.contains i =true -> i < L.length -> d i =true -> ∃p, Act.at_ a (L.slot i) =Jp (Jo ⟨p, 0, Jn⟩) /\ w0.heap.size <= p /\ p < w.heap.size
  apart : ∀i j, als.contains i =true -> als.contains j =true -> i < L.length -> j < L.length -> i ≠ j -> d i =true -> d j =true -> Act.at_ a (L.slot i) ≠ Act.at_ a (L.slot j)
def Out(L : Lay)(als : List Nat)(F : Fct)(i : Nat)(o : Oper)(a : Act)(w : JW)(b : Act)(v : JW) : Prop :=
  ∃u, b =a.put o.dst u /\
    ((L.own i = false /\ Below w.heap.size w v /\ F.P v u /\ (als.contains i = true -> u = Jp (Jo ⟨w.heap.size, 0, Jn⟩) /\ w.heap.size < v.heap.size)) \/
     (L.own i = true /\ ∃ p, Act.at_ a (L.slot i) = Jp (Jo ⟨p, 0, Jn⟩) /\ Wr p w v /\ F.P v (Jp (Jo ⟨p, 0, Jn⟩))))
def Env(ops : Array Oper)(a0 : Act)(L : Lay)(a : Act) : Prop := ∀s : Tmp, ((T6 L.length).all fun i => !(Fz ops i ==Jo s)) =true -> Act.at_ a s =Act.at_ a0 s
def Deps(ops : Array Oper)(L : Lay)(Fs : List Fct)(i : Nat)(a : Act)(w : JW) : Prop := ∀j F, Qp .any ops i j =true -> Fs[j]? =Jo F -> F.P w (Act.at_ a (L.slot j))
def Ob(P : Program)(ops : Array Oper)(Q : Exit -> Act -> JW -> Prop)(w0 : JW)(a0 : Act)(L : Lay)(als : List Nat)(Fs : List Fct)(i : Nat)(o : Oper)(F : Fct) : Prop :=
  ∀(a : Act) (w : JW), Below w0.heap.size w0 w -> Env ops a0 L a -> Deps ops L Fs i a w -> ∀K : Act -> JW -> Prop, Shut (∀b v, Out L als F i o a w b v -> K b v) ->
    if T4 o (yielded ops a.tmps) =true then Oper.wp P o a w K Q else K (a.put o.dst undef) w
def Obs(P : Program)(ops : Array Oper)(Q : Exit -> Act -> JW -> Prop)(w0 : JW)(a0 : Act)(L : Lay)(als : List Nat)(Fs : List Fct) : List Fct -> Nat -> Prop
  | [], _ => True
  | F :: r, i => (∃o, ops[i]? =Jo o /\ Ob P ops Q w0 a0 L als Fs i o F) /\ Obs P ops Q w0 a0 L als Fs r (i + 1)
theorem Obs.at_{w0 : JW}{a0 : Act}{L : Lay}{als : List Nat}{Fs : List Fct} : ∀ {r : List Fct} {k : Nat}, Obs P ops Q w0 a0 L als Fs r k -> ∀i F, r[i]? =Jo F -> ∃o, ops[k + i]? =Jo o /\ Ob P ops Q w0 a0 L als Fs (k + i) o F
  | [], _, _, _, _, h => by simp at h
  | _ :: _, _, h, 0, F, hF => by
    simp at hF;subst hF;exact h.1
  | _ :: r, k, h, i + 1, F, hF => by
    have :=Obs.at_ h.2 i F (by simpa using hF)
    rwa [show k + 1 + i =k + (i + 1)by omega]at this
theorem Lx(a : Act)(s t : Tmp)(u : Value) : Act.at_ (a.put (Jo s) u) t =if t =s /\ s < a.tmps.size then u else Act.at_ a t :=by
  unfold Act.at_ Tv;simp only[T3, Array.getElem?_setIfInBounds];by_cases h : s =t
  · subst h
    by_cases h2 : s < a.tmps.size
    · simp[h2]
    · simp[h2]
  · simp[h, Ne.symm h]
theorem Lc{a : Act}{d : Option Tmp}{t : Tmp}(u : Value)(h : d ≠ Jo t) : Act.at_ (a.put d u) t =Act.at_ a t :=by
  cases d with
  | none => rfl
  | some s => rw[Lx, if_neg (fun e => h (by rw[e.1]))]
theorem Dd{n : Nat}{L : Lay}{als : List Nat}(h : FS ops n L als =true){i : Nat}(hi : i < L.length) :
    (∀s, Fz ops i =Jo s -> s =L.slot i /\ s < n) /\ (Fz ops i =Jn -> L.own i =true) /\ (∀j, j < L.length -> j ≠ i -> Fz ops j =Jo (L.slot i) -> Qp .any ops i j =true) /\
    (L.own i =true -> als.contains (L.al i) =true /\ L.slot i =L.slot (L.al i) /\ L.al i < L.length /\ Qp .any ops i (L.al i) =true /\ Fz ops i =Jn /\ ∀j, j < L.length -> j ≠ i -> L.own j =true -> L.al j ≠ L.al i) /\
    (als.contains i =true -> L.own i =false /\ ∃s, Fz ops i =Jo s) :=by
  unfold FS at h;have h1 :=List.all_eq_true.1 h i (List.mem_range.2 hi);simp only[T5]at h1;obtain⟨⟨⟨h1, h2⟩, h3⟩, h4⟩ :=h1;refine⟨fun s hs => ?_, fun hn => ?_, fun j hj hji hd => ?_, fun ho => ?_, fun ha => ?_⟩
  · rw[hs]at h1
    simpa using h1
  · rw[hn]at h1
    exact h1
  · have :=List.all_eq_true.1 h2 j (List.mem_range.2 hj)
    simpa[hji, hd]using this
  · rw[ho]at h3
    simp only[Bool.not_true, Bool.false_or, T5, beq_iff_eq, decide_eq_true_eq, Tt, Tw]at h3;obtain⟨⟨⟨⟨⟨a1, a2⟩, a3⟩, a4⟩, a5⟩, a6⟩ :=h3;refine⟨a1, a2, a3, a4, by simpa using a5, fun j hj hji hoj e => ?_⟩;have :=a6 j hj;simp[hji, hoj, e]at this
  · simp only[ha, Bool.not_true, Bool.false_or, T5, Bool.not_eq_true', Option.isSome_iff_exists]at h4
    exact h4
theorem Inv.step{w0 : JW}{a0 : Act}{L : Lay}{als : List Nat}{Fs : List Fct}(hok : FS ops a0.tmps.size L als =true)(hown : Fs.map (·.own) =L.map (·.2.1)){d : Nat -> Bool}{a b : Act}{w v : JW}(h : Inv ops w0 a0 L als Fs d a w){i : Nat}{o : Oper}{F : Fct}(ho : ops[i]? =Jo o)(hF : Fs[i]? =Jo F)(hi : d i =false)(hw : ∀j, Qp .any ops i j =true -> d j =true)(hO : Out L als F i o a w b v) : Inv ops w0 a0 L als Fs (also d i) b v :=by
  have hlen : Fs.length =L.length :=by simpa using congrArg List.length hown
  have hiF : i < Fs.length :=(List.getElem?_eq_some_iff.1 hF).1;have hiL : i < L.length :=by omega
  have ownF : ∀j G, Fs[j]? =Jo G -> G.own =L.own j :=fun j G hG => by
    have :=congrArg (fun l => l[j]?) hown;simp only[List.getElem?_map, hG, Option.map_some]at this;unfold Lay.own;cases hL : L[j]? with
    | none => rw[hL]at this;cases this
    | some x => rw[hL]at this;simp at this;simp[hL, this]
  obtain⟨s1, s2, s3, s4, s5⟩ :=Dd hok hiL;have hdo : Fz ops i =o.dst :=by unfold Fz;rw[ho];rfl
  obtain⟨u, rfl, hO⟩ :=hO;have alsoT : ∀j, also d i j =true -> j =i \/ d j =true :=fun j hj => by
    unfold also at hj
    split at hj
    · exact .inl ‹_›
    · exact .inr hj
  -- a slot that is known stays
  have slotStay : ∀j, j < L.length -> j ≠ i -> d j =true -> Act.at_ (a.put o.dst u) (L.slot j) =Act.at_ a (L.slot j) :=fun j hj hji hdj => by
    refine Lc u (fun e => ?_);obtain⟨_, _, t3, _, _⟩ :=Dd hok hj;have :=h.down j hj hdj i (t3 i hiL (Ne.symm hji) (by rw[hdo];exact e));rw[hi]at this;cases this
  have hsize : (a.put o.dst u).tmps.size =a0.tmps.size :=by
    rw[←h.size];cases o.dst <;> simp[Tv]
  have hdfr : (a.put o.dst u).defers =a0.defers :=by
    rw[←h.dfr];cases o.dst <;> rfl
  have hsame : ∀s : Tmp, (∀j, j < L.length -> Fz ops j ≠ Jo s) -> (a.put o.dst u).tmps[s]? =a0.tmps[s]? :=fun s hs => by
    rw[←h.same s hs];have h1 :=hs i hiL;rw[hdo]at h1;cases hd : o.dst with
    | none => rfl
    | some t =>
      rw[hd]at h1;have : t ≠ s :=fun e => h1 (by rw[e]);simp[Tv, this]
  have hdown : ∀j, j < L.length -> also d i j =true -> ∀k, Qp .any ops j k =true -> also d i k =true :=fun j hj hdj k hk => by
    unfold also
    split
    · rfl
    · rcases alsoT j hdj with e|e
      · subst e;exact hw k hk
      · exact h.down j hj e k hk
  rcases hO with⟨ow, hb, hP, ha⟩|⟨ow, p, hp, hW, hP⟩
  · -- an operation that yields a value
    have hu : Act.at_ (a.put o.dst u) (L.slot i) =u :=by
      cases hd : o.dst with
      | none => rw[s2 (by rw[hdo, hd])]at ow;cases ow
      | some t =>
        obtain⟨e, ht⟩ :=s1 t (by rw[hdo, hd]);rw[Lx, if_pos ⟨e.symm, by rw[h.size];exact ht⟩]
    refine⟨Nc h.below hb, hsize, hdfr, hsame, fun j G hG hdj => ?_, hdown, fun j hj hjL hdj => ?_, fun j k hj hk hjL hkL hjk hdj hdk => ?_⟩
    · rcases Nat.decEq j i with hne|rfl
      · have hdj :=(alsoT j hdj).resolve_left hne
        rw[slotStay j (by have :=(List.getElem?_eq_some_iff.1 hG).1;omega) hne hdj];exact G.keep (h.fact j G hG hdj) hb
      · rw[hF]at hG
        injection hG with hG
        rw[hu, ←hG];exact hP
    · rcases Nat.decEq j i with hne|rfl
      · have hdj :=(alsoT j hdj).resolve_left hne
        rw[slotStay j hjL hne hdj];obtain⟨p, e, h1, h2⟩ :=h.ptr j hj hjL hdj;exact⟨p, e, h1, Nat.lt_of_lt_of_le h2 hb.size⟩
      · obtain⟨e, hlt⟩ :=ha hj
        exact⟨w.heap.size, by rw[hu, e], h.below.size, hlt⟩
    · have new : ∀k, als.contains k =true -> k < L.length -> k ≠ i -> d k =true -> als.contains i =true -> Act.at_ a (L.slot k) ≠ u :=fun k hk hkL _ hdk hai e => by
        obtain⟨p, e1, _, h2⟩ :=h.ptr k hk hkL hdk;rw[e1, (ha hai).1]at e
        injection e with e
        injection e with e
        injection e with e
        omega
      rcases Nat.decEq j i with hji|rfl
      · rcases Nat.decEq k i with hki|rfl
        · rw[slotStay j hjL hji ((alsoT j hdj).resolve_left hji), slotStay k hkL hki ((alsoT k hdk).resolve_left hki)]
          exact h.apart j k hj hk hjL hkL hjk ((alsoT j hdj).resolve_left hji) ((alsoT k hdk).resolve_left hki)
        · rw[slotStay j hjL hji ((alsoT j hdj).resolve_left hji), hu]
          exact new j hj hjL hji ((alsoT j hdj).resolve_left hji) hk
      · have hki : k ≠ j :=Ne.symm hjk
        rw[slotStay k hkL hki ((alsoT k hdk).resolve_left hki), hu];exact fun e => new k hk hkL hki ((alsoT k hdk).resolve_left hki) hj e.symm
  · -- a store
    obtain⟨a1, a2, a3, a4, a5, a6⟩ :=s4 ow;have hd : o.dst =Jn :=by rw[←hdo];exact a5
    have hput : a.put o.dst u =a :=by rw[hd];rfl
    have hdal :=hw _ a4;obtain⟨p', e', hp1, hp2⟩ :=h.ptr _ a1 a3 hdal;have hpp : p =p' :=by
      rw[a2, e']at hp
      injection hp with hp
      injection hp with hp
      injection hp with hp
      exact hp.symm
    subst hpp;rw[hput]at slotStay hsize hdfr hsame ⊢;refine⟨hW.below hp1 h.below, hsize, hdfr, hsame, fun j G hG hdj => ?_, hdown, fun j hj hjL hdj => ?_, fun j k hj hk hjL hkL hjk hdj hdk => ?_⟩
    · rcases Nat.decEq j i with hne|rfl
      · have hdj :=(alsoT j hdj).resolve_left hne
        have hjL : j < L.length :=by have :=(List.getElem?_eq_some_iff.1 hG).1;omega
        refine G.wrote (h.fact j G hG hdj) hW (fun hG1 => ?_);rw[ownF j G hG]at hG1;obtain⟨b1, b2, b3, b4, b5, b6⟩ :=(Dd hok hjL).2.2.2.1 hG1;rw[b2, ←e'];exact h.apart _ _ b1 a1 b3 a3 (a6 j hjL hne hG1) (h.down j hjL hdj _ b4) hdal
      · rw[hF]at hG
        injection hG with hG
        rw[hp, ←hG];exact hP
    · have hne : j ≠ i :=fun e => by
        subst e;have :=(s5 hj).1;rw[ow]at this;cases this
      obtain⟨q, e, h1, h2⟩ :=h.ptr j hj hjL ((alsoT j hdj).resolve_left hne);exact⟨q, e, h1, by rw[hW.size];exact h2⟩
    · have ne : ∀j, als.contains j =true -> j ≠ i :=fun j hj e => by
        subst e;have :=(s5 hj).1;rw[ow]at this;cases this
      exact h.apart j k hj hk hjL hkL hjk ((alsoT j hdj).resolve_left (ne j hj)) ((alsoT k hdk).resolve_left (ne k hk))
def fill(a : Act)(val : Tmp -> Value) : List (Option Tmp) -> Act
  | [] => a
  | d :: r => fill (a.put d (match d with|some s => val s|none => undef)) val r
theorem DU(val : Tmp -> Value) : ∀(ds : List (Option Tmp)) (a : Act) (s : Tmp), (fill a val ds).tmps.size =a.tmps.size /\ (fill a val ds).defers =a.defers /\ ((fill a val ds).tmps[s]? =if ds.contains (Jo s) =true /\ s < a.tmps.size then Jo (val s) else a.tmps[s]?)
  | [], a, s => ⟨rfl, rfl, by simp[fill]⟩
  | d :: r, a, s => by
    obtain⟨h1, h2, h3⟩ :=DU val r (a.put d (match d with|some s => val s|none => undef)) s;cases d with
    | none => exact⟨h1, h2, by rw[fill, h3];simp[Tv]⟩
    | some t =>
      refine⟨by rw[fill, h1];simp[Tv], by rw[fill, h2];rfl, ?_⟩;rw[fill, h3];simp only[Tv, Array.size_setIfInBounds, Array.getElem?_setIfInBounds, List.contains_cons];by_cases hts : t =s
      · subst hts
        by_cases hl : t < a.tmps.size
        · simp[hl]
        · simp[hl]
      · have : ¬(s =t) :=fun e => hts e.symm
        simp[hts, this]
theorem Lp{a0 a : Act}{ds : List (Option Tmp)}(hz : a.tmps.size =a0.tmps.size)(hd : a.defers =a0.defers)(h : ∀s : Tmp, ds.contains (Jo s) =false -> a.tmps[s]? =a0.tmps[s]?) : a =fill a0 (Act.at_ a) ds :=by
  have h1 :=fun s => DU (Act.at_ a) ds a0 s;have ht : a.tmps =(fill a0 (Act.at_ a) ds).tmps :=by
    apply Array.ext_getElem?;intro s;rw[(h1 s).2.2];by_cases hc : ds.contains (Jo s) =true
    · by_cases hl : s < a0.tmps.size
      · rw[if_pos ⟨hc, hl⟩]
        unfold Act.at_;rw[T3, Array.getElem?_eq_getElem (by omega)];rfl
      · rw[if_neg (fun e => hl e.2), Tu (by omega), Tu (by omega)]
    · rw[if_neg (fun e => hc e.1)]
      exact h s (by simpa using hc)
  have hdd : a.defers =(fill a0 (Act.at_ a) ds).defers :=by rw[(h1 0).2.1, hd]
  cases a;cases hf : fill a0 (Act.at_ _) ds;rw[hf]at ht hdd;simp only at ht hdd;rw[ht, hdd]
def Last(P : Program)(ops : Array Oper)(Q : Exit -> Act -> JW -> Prop)(n : Nat)(a : Act)(w : JW) : Prop :=if ops.size =n then Q .normal a w else wpOp P ops Q n (Q .normal) a w
theorem Last.nil{n : Nat}{a : Act}{w : JW}(hn : (ops.size ==n) =true)(h : Q .normal a w) : Last P ops Q n a w :=by
  unfold Last;rw[if_pos (by simpa using hn)];exact h
def Lm(ops : Array Oper)(L : Lay)(l1 : Array Bool)(m : Nat) : Bool :=
  (l1 ==(T8 L.length true ++ T8 m false).toArray) && (m ==0 ||(m ==1 && T9 .any ops l1 == [L.length])) && (ops.size ==L.length + m)
theorem inv0{a0 : Act}{w0 w : JW}{L : Lay}{als : List Nat}{Fs : List Fct}(hb : Below w0.heap.size w0 w) : Inv ops w0 a0 L als Fs (fun _ => false) a0 w :=
  ⟨hb, rfl, rfl, fun _ _ => rfl, fun _ _ _ h => (by cases h), fun _ _ h => (by cases h), fun _ _ _ h => (by cases h), fun _ _ _ _ _ _ _ h => (by cases h)⟩
theorem Inv.end_{a0 a : Act}{w0 w : JW}{L : Lay}{als : List Nat}{Fs : List Fct}{d : Nat -> Bool}(h : Inv ops w0 a0 L als Fs d a w)(hlen : Fs.length =L.length)(hE : ∀i, i < L.length -> d i =true){K : Act -> JW -> Prop}{b : (Tmp -> Value) -> Act}(hb : ∀val, fill a0 val ((T6 L.length).map (Fz ops)) =b val)
    (fin : ∀(val : Tmp -> Value) (w : JW), RowKit.Hid (Below w0.heap.size w0 w) -> (∀(i : Nat) (F : Fct), Fs[i]? =Jo F -> F.P w (val (L.slot i))) -> Pent (K (b val) w)) : K a w :=by
  have e := Lp (ds := (T6 L.length).map (Fz ops)) h.size h.dfr (fun s hs => h.same s (fun j hj e => by
    have : (List.map (Fz ops) (T6 L.length)).contains (Jo s) =true :=by
      rw[List.contains_iff_mem];exact List.mem_map.2 ⟨j, List.mem_range.2 hj, e⟩
    rw[this]at hs;cases hs))
  have :=(fin (Act.at_ a) w h.below (fun j F hF => h.fact j F hF (hE j (by have :=(List.getElem?_eq_some_iff.1 hF).1;omega)))).out;rw[←hb, ←e]at this;exact this
theorem Dw{a0 : Act}{w0 : JW}{L : Lay}{als : List Nat}{Fs : List Fct}(hok : FS ops a0.tmps.size L als =true)(hown : Fs.map (·.own) =L.map (·.2.1))(obs : Obs P ops Q w0 a0 L als Fs Fs 0){i : Nat}(hi : i < L.length) : ∃o, ops[i]? =Jo o /\ Step P .any ops Q (Inv ops w0 a0 L als Fs) i o :=by
  have hlen : Fs.length =L.length :=by simpa using congrArg List.length hown
  obtain⟨o, ho, hob⟩ :=obs.at_ i Fs[i] (T7 (by omega));rw[Tr]at ho hob;refine⟨o, ho, fun d a w h hdi hw K hK => ?_⟩;refine hob a w h.below (fun s hs => ?_) (fun j F hj hF => h.fact j F hF (hw j hj)) K (fun b v hO => hK b v (h.step hok hown ho (T7 (by omega)) hdi hw hO));unfold Act.at_;rw[T3, T3, h.same s (fun j hj e => ?_)];have :=List.all_eq_true.1 hs j (List.mem_range.2 hj);rw[e]at this;simp at this
theorem DR{l : Array Bool}(hl : ∀j, j < ops.size -> l.getD j false =true) : T9 .any ops l = [] :=by
  apply List.eq_nil_iff_forall_not_mem.2;intro i hi;obtain⟨h1, o, ho, _⟩ :=mem_ready.1 hi;have his : i < ops.size :=(Array.getElem?_eq_some_iff.1 ho).1;have h2 :=hl i his;rw[T3]at h1 h2;cases h : l[i]? with
  | none => rw[h]at h2;cases h2
  | some x => rw[h]at h1 h2;simp at h1 h2;rw[h1]at h2;cases h2
theorem Fy{id : Nat}{a0 : Act}{w0 : JW}(N : Nat)(L : Lay)(als : List Nat)(Fs : List Fct)(l1 : Array Bool)(m : Nat)(hN : a0.tmps.size =N)(hok : (FS ops N L als && Y6 .any ops (Array.replicate ops.size false) l1 (T6 L.length) && Lm ops L l1 m) =true)(hown : Fs.map (·.own) =L.map (·.2.1))(hm : P.follows .mixedOrders =true)
    (obs : Obs P ops Q w0 a0 L als Fs Fs 0) (b : (Tmp -> Value) -> Act) (hb : ∀val, fill a0 val ((T6 L.length).map (Fz ops)) =b val)
    (fin : ∀(val : Tmp -> Value) (w : JW), RowKit.Hid (Below w0.heap.size w0 w) -> (∀(i : Nat) (F : Fct), Fs[i]? =Jo F -> F.P w (val (L.slot i))) -> Pent (Last P ops Q L.length (b val) w)) : (Code.region id ops true).wp P Q a0 w0 :=by
  subst hN;simp only[Lm, T5, beq_iff_eq]at hok;obtain⟨⟨hok, hph⟩, ⟨hl1, hm1⟩, hsz⟩ :=hok;rw[Bool.or_eq_true, T5, beq_iff_eq, beq_iff_eq, beq_iff_eq]at hm1;have hlen : Fs.length =L.length :=by simpa using congrArg List.length hown
  have rep : (fun j => (Array.replicate ops.size false).getD j false) =fun _ => false :=funext fun j => by
    rw[T3, Array.getElem?_replicate]
    split <;> rfl
  refine Till.begin 0 (fun _ => True) hm trivial (fun _ => ?_);refine Till.phase2 (T6 L.length) l1 m (fun _ => Inv ops w0 a0 L als Fs) (by rw[List.length_range];exact hsz) hph (fun _ _ _ _ => trivial) (by rw[rep];exact inv0 (Ts _ _).drew) ?_ (fun d a w h hE => ?_)
  · have : ∀(E : List Nat), (∀i∈E, i < L.length) -> UT P .any ops Q (Inv ops w0 a0 L als Fs) E :=fun E => by
      induction E with
      | nil => intro _;trivial
      | cons i r ih => exact fun hE => ⟨Dw hok hown obs (hE i (List.mem_cons_self ..)), ih fun j hj => hE j (List.mem_cons_of_mem _ hj)⟩
    exact this _ fun i hi => List.mem_range.1 hi
  · have hlast : Last P ops Q L.length a w :=h.end_ hlen (fun i hi => hE i (List.mem_range.2 hi)) hb fin
    have hall : ∀k, k =L.length + m -> ∀j, j < k -> ((T8 k true).toArray : Array Bool).getD j false =true :=fun k _ j hj => by
      rw[T3];simp[hj]
    rcases Tz m with hm0|hm0
    · subst hm0
      rw[Nat.add_zero]at hsz;unfold Last at hlast;rw[if_pos hsz]at hlast;exact⟨DR (fun j hj => by rw[hl1];simp only[List.replicate_zero, List.append_nil];exact hall _ (by omega) j (by omega)), hlast⟩
    · have hmone : m =1 :=by
        rcases hm1 with e|e
        · omega
        · exact e.1
      subst hmone;have hr1 : T9 .any ops l1 = [L.length] :=by
        rcases hm1 with e|e
        · omega
        · exact e.2
      unfold Last at hlast;rw[if_neg (by omega)]at hlast;refine⟨fun h0 => absurd (hr1.symm.trans h0) (by simp), fun i hi => ?_⟩;rw[hr1]at hi;obtain rfl :=List.mem_singleton.1 hi;refine wpOp_mono (fun b v hv => ⟨fun _ => trivial, DR (fun j hj => ?_), hv⟩) hlast;rw[hl1];have : ((T8 L.length true ++ T8 1 false).toArray.setIfInBounds L.length true) =(T8 (L.length + 1) true).toArray :=by
        apply Array.ext_getElem?;intro k;rw[Array.getElem?_setIfInBounds];simp only[List.size_toArray, List.length_append, List.length_replicate, List.getElem?_toArray, List.getElem?_append, List.getElem?_replicate];by_cases h1 : L.length =k
        · subst h1;simp
        · rw[if_neg h1]
          by_cases h2 : k < L.length
          · rw[if_pos h2, if_pos h2, if_pos (by omega)]
          · rw[if_neg h2, if_neg (by omega), if_neg (by omega)]
      rw[this];exact hall _ rfl j (by omega)
theorem E8{id : Nat}{a0 : Act}{w0 : JW}(N : Nat)(L : Lay)(als : List Nat)(Fs : List Fct)(m : Nat)(hN : a0.tmps.size =N)(hok : (FS ops N L als && Y6 .any ops (Array.replicate ops.size false) (T8 L.length true ++ T8 m false).toArray (T6 L.length) && (ops.size ==L.length + m) && decide (m <= 1)) =true)(hown : Fs.map (·.own) =L.map (·.2.1))
    (obs : Obs P ops Q w0 a0 L als Fs Fs 0) (b : (Tmp -> Value) -> Act) (hb : ∀val, fill a0 val ((T6 L.length).map (Fz ops)) =b val)
    (fin : ∀(val : Tmp -> Value) (w : JW), RowKit.Hid (Below w0.heap.size w0 w) -> (∀(i : Nat) (F : Fct), Fs[i]? =Jo F -> F.P w (val (L.slot i))) -> Pent (Last P ops Q L.length (b val) w)) : (Code.region id ops false).wp P Q a0 w0 :=by
  subst hN;simp only[T5, beq_iff_eq, decide_eq_true_eq]at hok;obtain⟨⟨⟨hok, hph⟩, hsz⟩, hm1⟩ :=hok;have hlen : Fs.length =L.length :=by simpa using congrArg List.length hown
  have early : ∀i, i < L.length -> ∀j, Qp .any ops i j =true -> j < i :=fun i hi j hw => by
    unfold Y6 at hph;simp only[T5, Tt, Tw]at hph;have h1 :=(hph.2 i (by omega)).2;have hc : (T6 L.length).contains i =true :=List.contains_iff_mem.2 (List.mem_range.2 hi);rw[if_pos hc]at h1;simp only[T5, Tt, Tw, Bool.or_eq_true, Bool.not_eq_true', decide_eq_true_eq]at h1;have hj : j < ops.size :=by
      have hwi :=h1.2;unfold VR at hwi;unfold Qp at hw;cases ho : ops[i]? with
      | none => rw[ho]at hw;cases hw
      | some o =>
        rw[ho]at hw hwi;obtain⟨e, he, h2⟩ :=Array.any_eq_true'.1 hw;simp only[T5, beq_iff_eq]at h2;have :=Array.all_eq_true_iff_forall_mem.1 hwi e he;rw[h2.2]at this;simpa using this
    rcases h1.1 j hj with(h2|h2)|h2
    · rw[hw]at h2;cases h2
    · rw[T3, Array.getElem?_replicate]at h2
      split at h2 <;> cases h2
    · exact h2.2
  have go : ∀(k i : Nat), i + k =L.length -> ∀a w, Inv ops w0 a0 L als Fs (fun j => decide (j < i)) a w -> wpOps P ops Q (List.range' i (k + m)) a w :=by
    intro k
    induction k with
    | zero =>
      intro i hi a w h;obtain rfl : i =L.length :=by omega
      have hlast : Last P ops Q L.length a w :=h.end_ hlen (fun i hi => by simpa using hi) hb fin;unfold Last at hlast;rcases Tz m with hm0|hm0
      · subst hm0
        rw[if_pos (by omega)]at hlast;exact hlast
      · obtain rfl : m =1 :=by omega
        rw[if_neg (by omega)]at hlast;show wpOps P ops Q [L.length] a w;rw[wpOps_cons];exact hlast
    | succ k ih =>
      intro i hi a w h;rw[show k + 1 + m =(k + m) + 1 by omega, List.range'_succ, wpOps_cons];obtain⟨o, ho, hst⟩ :=Dw hok hown obs (i :=i) (by omega);refine wpOp_step ho fun K hK => hst _ a w h (by simp) (fun j hj => by simpa using early i (by omega) j hj) K fun b v hv => hK b v (ih (i + 1) (by omega) b v ?_);have : also (fun j => decide (j < i)) i =fun j => decide (j < i + 1) :=funext fun j => by
        unfold also
        split
        · rename_i e;subst e;simp
        · rename_i e;simp;omega
      rwa [this]at hv
  refine wp_region ?_;rw[List.range_eq_range', hsz];exact go L.length 0 (by omega) a0 w0 (by simpa using inv0 (Ts _ _))
def LB(ops : Array Oper)(n : Nat) : Bool :=(T6 n).all fun i => match ops[i]? with|some o => o.after.all fun e => !(Region.binds .any e) || decide (e.on < i)|none => true
theorem LK{id : Nat}{a0 : Act}{w0 : JW}(N : Nat)(L : Lay)(als : List Nat)(Fs : List Fct)(m : Nat)(hN : a0.tmps.size =N)(hok : (FS ops N L als && LB ops L.length && (ops.size ==L.length + m)) =true)(hown : Fs.map (·.own) =L.map (·.2.1))
    (obs : Obs P ops Q w0 a0 L als Fs Fs 0) (b : (Tmp -> Value) -> Act) (hb : ∀val, fill a0 val ((T6 L.length).map (Fz ops)) =b val)
    (fin : ∀(val : Tmp -> Value) (w : JW), RowKit.Hid (Below w0.heap.size w0 w) -> (∀(i : Nat) (F : Fct), Fs[i]? =Jo F -> F.P w (val (L.slot i))) -> Pent (wpOps P ops Q (List.range' L.length m) (b val) w)) : (Code.region id ops false).wp P Q a0 w0 :=by
  subst hN;simp only[T5, beq_iff_eq]at hok;obtain⟨⟨hok, hph⟩, hsz⟩ :=hok;have hlen : Fs.length =L.length :=by simpa using congrArg List.length hown
  have early : ∀i, i < L.length -> ∀j, Qp .any ops i j =true -> j < i :=fun i hi j hw => by
    have h1 :=List.all_eq_true.1 hph i (List.mem_range.2 hi);unfold Qp at hw;cases ho : ops[i]? with
    | none => rw[ho]at hw;cases hw
    | some o =>
      rw[ho]at hw h1;obtain⟨e, he, h2⟩ :=Array.any_eq_true'.1 hw;simp only[T5, beq_iff_eq]at h2;have :=Array.all_eq_true_iff_forall_mem.1 h1 e he;rw[h2.1, h2.2]at this;simpa using this
  have go : ∀(k i : Nat), i + k =L.length -> ∀a w, Inv ops w0 a0 L als Fs (fun j => decide (j < i)) a w -> wpOps P ops Q (List.range' i (k + m)) a w :=by
    intro k
    induction k with
    | zero =>
      intro i hi a w h;obtain rfl : i =L.length :=by omega
      rw[Tr];exact h.end_ (K :=fun a w => wpOps P ops Q (List.range' L.length m) a w) hlen (fun i hi => by simpa using hi) hb fin
    | succ k ih =>
      intro i hi a w h;rw[show k + 1 + m =(k + m) + 1 by omega, List.range'_succ, wpOps_cons];obtain⟨o, ho, hst⟩ :=Dw hok hown obs (i :=i) (by omega);refine wpOp_step ho fun K hK => hst _ a w h (by simp) (fun j hj => by simpa using early i (by omega) j hj) K fun b v hv => hK b v (ih (i + 1) (by omega) b v ?_);have : also (fun j => decide (j < i)) i =fun j => decide (j < i + 1) :=funext fun j => by
        unfold also
        split
        · rename_i e;subst e;simp
        · rename_i e;simp;omega
      rwa [this]at hv
  refine wp_region ?_;rw[List.range_eq_range', hsz];exact go L.length 0 (by omega) a0 w0 (by simpa using inv0 (Ts _ _))
theorem DE{i : Nat}{u : Value}{o : Oper}{rest : List Nat}{a : Act}{w : JW}(ho : ops[i]? =Jo o)(hg : o.guard =Jn)(hy : (execOp a.eval o).run P w = .ok (.value u) w)(h : wpOps P ops Q rest (a.put o.dst u) w) : wpOps P ops Q (i :: rest) a w :=by
  rw[wpOps_cons];refine wpOp_step ho fun K hK => ?_;have hw : T4 o (yielded ops a.tmps) =true :=by unfold T4;rw[hg]
  rw[if_pos hw];unfold Oper.wp;rw[hy];exact hK _ _ h
theorem DW{a : Act}{w : JW}(h : Q .normal a w) : wpOps P ops Q [] a w :=h
theorem Dt{i : Nat}{o : Oper}{rest : List Nat}{a : Act}{w w' : JW}(ho : ops[i]? =Jo o)(hg : o.guard =Jn)(hd : o.dst =Jn)(hy : (execOp a.eval o).run P w = .ok .skip w')(h : wpOps P ops Q rest a w') : wpOps P ops Q (i :: rest) a w :=by
  rw[wpOps_cons];refine wpOp_step ho fun K hK => ?_;have hw : T4 o (yielded ops a.tmps) =true :=by unfold T4;rw[hg]
  rw[if_pos hw];unfold Oper.wp;rw[hy, Oper.upon_skip, hd];exact hK _ _ h
theorem FL{a : Act}{w : JW}{T : TypeId}{s s2 : Tmp}{o : Oper}{i : Nat}(p f n : Nat)(cs : List Value)(ho : ops[i]? =Jo o)(hn : (ops.size ==i) =false)(hop : o.op = .store T (.tmp s) (.tmp s2))(hg : o.guard =Jn)(hd : o.dst =Jn)
    (hs : Act.at_ a s =Jp (Jo ⟨p, f, Jn⟩)) (hv : Act.at_ a s2 = .agg cs.toArray) (hl : cs.length =n) (ht : w.there p f n) (hT : (P.info? T).map (·.size) =Jo n) (hpc : ∀v∈cs, v.oneCell' =true)
    (h : Q .normal a (w.setCells p f cs)) : Last P ops Q i a w :=by
  unfold Last;rw[if_neg (by simpa using hn)];refine wpOp_step ho fun K hK => ?_;have hw : T4 o (yielded ops a.tmps) =true :=by unfold T4;rw[hg]
  rw[if_pos hw];have hrun :=run_storeAt_mid (P :=P) w p f T cs.toArray (by simpa[hl]using ht) (by simpa[hl]using hT) (all_oneCell_toArray hpc);rw[←hs, ←hv]at hrun;unfold Oper.wp;have : (execOp a.eval o).run P w = .ok .skip (w.setCells p f cs) :=by
    unfold execOp;rw[hop];show(do Instr.storeAt T (Act.at_ a s) (Act.at_ a s2);pure Next.skip).run P w =_;rw[Sem.run_bind, hrun];rfl
  rw[this];show K (a.put o.dst undef) _;rw[hd];exact hK _ _ h
end
theorem Ff(p : Nat) : ∀(vs : List Value) (o : Nat) (w : JW), (w.setCells p o vs).os =w.os /\ (w.setCells p o vs).tape =w.tape /\ (w.setCells p o vs).output =w.output /\ (w.setCells p o vs).heap.size =w.heap.size /\ ∀k, k ≠ p -> (w.setCells p o vs).heap[k]? =w.heap[k]?
  | [], _, _ => ⟨rfl, rfl, rfl, rfl, fun _ _ => rfl⟩
  | v :: r, o, w => by
    obtain⟨h1, h2, h3, h4, h5⟩ :=Ff p r (o + 1) (w.setCell ⟨p, o, Jn⟩ v);exact⟨h1, h2, h3, by rw[World.setCells, h4];simp[World.setCell], fun k hk => by rw[World.setCells, h5 k hk];exact Below.heap_setCell w ⟨p, o, Jn⟩ v k hk⟩
theorem Jh.there{w : JW}{p : Nat}{l : List Value}(h : Jh w p l)(n : Nat)(hn : n <= l.length) : w.there p 0 n :=fun j hj =>
  ⟨by rw[Tr, h.at_ j, T7 (by omega)];rfl, by rw[Tr];exact h.fz j⟩
theorem Jh.stored{w : JW}{p : Nat}{l vs : List Value}(h : Jh w p l)(hl : vs.length =l.length) : Jh (w.setCells p 0 vs) p vs :=by
  refine⟨fun i => ?_, fun i => by rw[World.frozen?_setCells];exact h.fz i, by rw[(Ff p vs 0 w).2.2.2.1];exact h.lt⟩;by_cases hi : i < vs.length
  · have :=World.rangeAt_setCells_same w p 0 vs (h.there _ (by omega)) i vs[i] (T7 hi)
    rw[Tr]at this;rw[this, T7 hi]
  · rw[World.cell?_setCells_out p vs 0 w ⟨p, i, Jn⟩ (fun _ _ => .inr (by simp;omega)), h.at_ i, Ty (by omega), Ty (by omega)]
theorem Jh.wrote_{w : JW}{p : Nat}{l vs : List Value}(h : Jh w p l)(hl : vs.length =l.length)(h1 : l.all plainW =true)(h2 : vs.all plainW =true) : Wr p w (w.setCells p 0 vs) :=by
  obtain⟨a1, a2, a3, a4, a5⟩ :=Ff p vs 0 w;exact⟨a1, a2, a3, a4, a5, l, vs, h, h.stored hl, hl.symm, h1, h2⟩
theorem Fo{v : Value}(h : plainW v =true) : v.oneCell' =true :=by
  cases v <;> first|rfl|(simp[plainW]at h)
theorem Jh.range{w : JW}{p : Nat}{l : List Value}(h : Jh w p l)(o n : Nat) : w.rangeAt p o ((l.drop o).take n) :=fun j v hj => by
  rw[h.at_ (o + j)];rw[List.getElem?_take]at hj
  split at hj
  · rw[List.getElem?_drop]at hj;exact hj
  · cases hj
def Ret(w : JW)(F : Fct)(e : Ending)(v : JW) : Prop := ∃u, e = .returned u /\ Below w.heap.size w v /\ F.P v u
section
variable {P : Program} {ops : Array Oper} {Q : Exit -> Act -> JW -> Prop} {w0 : JW} {a0 : Act} {L : Lay} {als : List Nat} {Fs : List Fct}
def Has(P : Program)(ops : Array Oper)(Q : Exit -> Act -> JW -> Prop)(w0 : JW)(a0 : Act)(L : Lay)(als : List Nat)(Fs : List Fct)(F : Fct)(i : Nat) : Prop := ∃o, ops[i]? =Jo o /\ Ob P ops Q w0 a0 L als Fs i o F
theorem D0{a : Act}{o : Oper}{g : Nat}{b c : Bool}(hg : o.guard =Jo (g, b)){s : Tmp}(hs : Fz ops g =Jo s)(hv : Act.at_ a s = .bool c) : T4 o (yielded ops a.tmps) =(c ==b) :=by
  unfold T4;rw[hg];have e : a.tmps[s]? =Jo (.bool c) :=by
    unfold Act.at_ at hv;rw[T3]at hv;cases h : a.tmps[s]? with
    | none => rw[h]at hv;cases hv
    | some x => rw[h]at hv;simpa using hv
  have : yielded ops a.tmps g =Jo c :=by
    unfold yielded;unfold Fz at hs;rw[hs];simp[e]
  show(yielded ops a.tmps g ==Jo b) =(c ==b);rw[this];rfl
def Fg(ops : Array Oper)(Fs : List Fct)(L : Lay)(o : Oper)(i : Nat)(b : Bool) : Prop :=
  match o.guard with
  | none => b =true
  | some (g, x) => ∃c, Fs[g]? =Jo (Fct.val (.bool c)) /\ Fz ops g =Jo (L.slot g) /\ Qp .any ops i g =true /\ b =(c ==x)
theorem Fg.at_{o : Oper}{i : Nat}{b : Bool}(h : Fg ops Fs L o i b){a : Act}{w : JW}(hD : Deps ops L Fs i a w) : T4 o (yielded ops a.tmps) =b :=by
  unfold Fg at h;cases hg : o.guard with
  | none => rw[hg]at h;subst h;unfold T4;rw[hg]
  | some y =>
    obtain⟨g, x⟩ :=y;rw[hg]at h;obtain⟨c, h1, h2, h3, rfl⟩ :=h;exact D0 hg h2 (hD g _ h3 h1)
theorem FC{i : Nat}{o : Oper}(ho : ops[i]? =Jo o)(hg : Fg ops Fs L o i false)(h0 : (L.own i || als.contains i) =false) : Has P ops Q w0 a0 L als Fs (Fct.val undef) i :=by
  rw[Bool.or_eq_false_iff]at h0;refine⟨o, ho, fun a w hB hE hD K hK => ?_⟩;rw[hg.at_ hD, if_neg (by decide)];exact hK _ _ ⟨undef, rfl, .inl ⟨h0.1, Ts _ _, rfl, fun h => by rw[h0.2]at h;cases h⟩⟩
theorem Fp{i : Nat}{o : Oper}{F : Fct}(ho : ops[i]? =Jo o)(hg : Fg ops Fs L o i true)(h0 : (L.own i || als.contains i) =false)
    (h : ∀(a : Act) (w : JW), Below w0.heap.size w0 w -> Env ops a0 L a -> Deps ops L Fs i a w -> ∃u, (execOp a.eval o).run P w = .ok (.value u) w /\ F.P w u) : Has P ops Q w0 a0 L als Fs F i :=by
  rw[Bool.or_eq_false_iff]at h0;refine⟨o, ho, fun a w hB hE hD K hK => ?_⟩;rw[hg.at_ hD, if_pos rfl];obtain⟨u, hr, hP⟩ :=h a w hB hE hD;unfold Oper.wp;rw[hr];exact hK _ _ ⟨u, rfl, .inl ⟨h0.1, Ts _ _, hP, fun h => by rw[h0.2]at h;cases h⟩⟩
theorem DI{i : Nat}{o : Oper}{F : Fct}{T : TypeId}{s : Tmp}(n : Nat)(ho : ops[i]? =Jo o)(hop : o.op = .load T (.tmp s))(hg : Fg ops Fs L o i true)(h0 : (L.own i || als.contains i) =false)
    (hT : ((P.underlying T).map TypeDesc.isRow, (P.info? T).map (·.size)) =(Jo true, Jo n))
    (h : ∀(a : Act) (w : JW), Below w0.heap.size w0 w -> Env ops a0 L a -> Deps ops L Fs i a w -> ∃p o cs, Act.at_ a s =Jp (Jo ⟨p, o, Jn⟩) /\ cs.length =n /\ w.rangeAt p o cs /\ F.P w (.agg cs.toArray)) : Has P ops Q w0 a0 L als Fs F i :=by
  refine Fp ho hg h0 fun a w hB hE hD => ?_;obtain⟨p, f, cs, hs, hn, hr, hP⟩ :=h a w hB hE hD
  injection hT with hT1 hT2
  cases hu : P.underlying T with
  | none => rw[hu]at hT1;cases hT1
  | some d =>
    rw[hu]at hT1;refine⟨.agg cs.toArray, ?_, hP⟩;have :=run_loadAt_mid w p f T cs d hr hu (by simpa using hT1) (by rw[hn];exact hT2);rw[←hs]at this;unfold execOp;rw[hop];show(do pure (Next.value (←Instr.loadAt T (Act.at_ a s)))).run P w =_;rw[Sem.run_bind, this];rfl
theorem EZ{i : Nat}{o : Oper}{F : Fct}{c : Call}{f : FuncId}{l : List Operand}(hcf : ∀args w, (callFunc f args).run P w = .ok (.enter f args) w)(ho : ops[i]? =Jo o)(hop : o.op = .call c)(hf : c.callee = .value (.func f))(hl : c.args =l.toArray)(hg : Fg ops Fs L o i true)(h0 : (L.own i || als.contains i) =false)
    (h : ∀(a : Act) (w : JW), Below w0.heap.size w0 w -> Env ops a0 L a -> Deps ops L Fs i a w -> Calls P f (l.map a.eval).toArray w (Ret w F)) : Has P ops Q w0 a0 L als Fs F i :=by
  rw[Bool.or_eq_false_iff]at h0;refine⟨o, ho, fun a w hB hE hD K hK => ?_⟩;rw[hg.at_ hD, if_pos rfl];have hr : (execOp a.eval o).run P w = .ok (.enter f (l.map a.eval).toArray) w :=by
    unfold execOp;rw[hop];simp[go_sem, resolve, hf, hl, Act.eval, hcf]
  unfold Oper.wp;rw[hr, Oper.upon_enter];refine(h a w hB hE hD).mono ?_;rintro e v⟨u, rfl, hb, hP⟩;exact hK _ _ ⟨u, rfl, .inl ⟨h0.1, hb, hP, fun h => by rw[h0.2]at h;cases h⟩⟩
theorem Fb{i : Nat}{o : Oper}{n : Nat}(zs : List Value)(T : TypeId)(hn : zs.length =n)(ho : ops[i]? =Jo o)(hg : Fg ops Fs L o i true)(h0 : L.own i =false)(hz : zs.all plainW =true)
    (h : ∀(a : Act) (w : JW), (execOp a.eval o).run P w = .ok (.value (Jp (Jo ⟨w.heap.size, 0, Jn⟩))) (w.alloc (.cells zs.toArray T))) : Has P ops Q w0 a0 L als Fs (Fct.ptr n) i :=by
  subst hn;refine⟨o, ho, fun a w hB hE hD K hK => ?_⟩;rw[hg.at_ hD, if_pos rfl];unfold Oper.wp;rw[h a w];refine hK _ _ ⟨_, rfl, .inl ⟨h0, (Ts _ _).alloc (Nat.le_refl _) _, ⟨w.heap.size, zs, rfl, ?_, rfl, hz⟩, fun _ => ⟨rfl, by simp⟩⟩⟩;have :=Jh.new w zs.toArray T;simpa using this
theorem DS{i : Nat}{o : Oper}{F : Fct}{T : TypeId}{s s2 : Tmp}(n : Nat)(ho : ops[i]? =Jo o)(hop : o.op = .store T (.tmp s) (.tmp s2))(hg : Fg ops Fs L o i true)(h0 : L.own i =true)(hs : L.slot i =s)(hT : (P.info? T).map (·.size) =Jo n)
    (h : ∀(a : Act) (w : JW), Below w0.heap.size w0 w -> Env ops a0 L a -> Deps ops L Fs i a w -> ∃p l cs, Act.at_ a s =Jp (Jo ⟨p, 0, Jn⟩) /\ Jh w p l /\ l.length =n /\ l.all plainW =true /\ Act.at_ a s2 = .agg cs.toArray /\ cs.length =n /\ cs.all plainW =true /\ ∀v, Wr p w v -> Jh v p cs -> F.P v (Jp (Jo ⟨p, 0, Jn⟩))) : Has P ops Q w0 a0 L als Fs F i :=by
  refine⟨o, ho, fun a w hB hE hD K hK => ?_⟩;rw[hg.at_ hD, if_pos rfl];obtain⟨p, l, cs, hp, hc, hl, hpl, hv, hcs, hpc, hF⟩ :=h a w hB hE hD;have hr :=run_storeAt_mid (P :=P) w p 0 T cs.toArray (by simpa using hc.there cs.length (by omega)) (by simpa[hcs]using hT) (all_oneCell_toArray fun v hv => Fo (List.all_eq_true.1 hpc v hv));have hW :=hc.wrote_ (vs :=cs) (by omega) hpl hpc;rw[←hp, ←hv]at hr;unfold Oper.wp;have : (execOp a.eval o).run P w = .ok .skip (w.setCells p 0 cs) :=by
    unfold execOp;rw[hop];show(do Instr.storeAt T (Act.at_ a s) (Act.at_ a s2);pure Next.skip).run P w =_;rw[Sem.run_bind, hr];rfl
  rw[this];exact hK _ _ ⟨undef, rfl, .inr ⟨h0, p, by rw[hs];exact hp, hW, hF _ hW (hc.stored (by omega))⟩⟩
end
section
variable {P : Program} {ops : Array Oper} {Q : Exit -> Act -> JW -> Prop}
theorem EY{S : JW -> Prop}{k : Nat}(i : Nat)(d : Tmp)(u : Value){oi : Oper}{n : Nat}{l : Array Bool}{a : Act}{w : JW}(hS : S w)(hQ : ∀c a w, Q (.panic c) (a.put (Jo d) u) w -> Q (.panic c) a w)(hi : ops[i]? =Jo oi)(hd : oi.dst =Jo d)(hg : oi.guard =Jn)(hy : ∀w, S w -> (execOp a.eval oi).run P w = .ok (.value u) w)
    (hk : (Region.noSelect ops && Region.free .any ops l i && (T9 .any ops l).contains i && Qp .any ops k i && !(i ==k) && !(l.getD k true)) =true) (h : Till P .any ops Q S k n (l.setIfInBounds i true) (a.put (Jo d) u) w) : Till P .any ops Q S k (n + 1) l a w :=by
  simp only[T5, Bool.not_eq_true']at hk;obtain⟨⟨⟨⟨⟨h1, h2⟩, h3⟩, h4⟩, h5⟩, h6⟩ :=hk;exact Till.take (m :=k) hi hd h1 h2 h3 h4 (by simp) (by rw[h5];rfl) (by rw[h6];rfl) hQ (by unfold T4;rw[hg]) hy hS h
theorem FB{S : JW -> Prop}{k : Nat}(i : Nat){d : Tmp}{u : Value}{o : Oper}{n : Nat}{l : Array Bool}{a : Act}{w : JW}(hS : S w)(hr : T9 .any ops l = [i])(ho : ops[i]? =Jo o)(hg : o.guard =Jn)(hd : o.dst =Jo d)(hy : (execOp a.eval o).run P w = .ok (.value u) w)(h : Till P .any ops Q S k n (l.setIfInBounds i true) (a.put (Jo d) u) w) : Till P .any ops Q S k (n + 1) l a w :=by
  refine Till.one hr ho fun K hK => ?_;have hw : T4 o (yielded ops a.tmps) =true :=by unfold T4;rw[hg]
  rw[if_pos hw];unfold Oper.wp;rw[hy, Oper.upon_value, hd];exact hK _ _ (fun _ => hS) h
theorem FP{S : JW -> Prop}{k : Nat}(i : Nat){o : Oper}{T : TypeId}{s s2 : Tmp}{n m : Nat}{l : Array Bool}{a : Act}{w : JW}(p f : Nat)(cs : List Value)(hr : T9 .any ops l = [i])(ho : ops[i]? =Jo o)(hop : o.op = .store T (.tmp s) (.tmp s2))(hg : o.guard =Jn)(hd : o.dst =Jn)
    (hs : Act.at_ a s =Jp (Jo ⟨p, f, Jn⟩)) (hv : Act.at_ a s2 = .agg cs.toArray) (hl : cs.length =m) (ht : w.there p f m) (hT : (P.info? T).map (·.size) =Jo m) (hpc : cs.all plainW =true)
    (hS : (l.setIfInBounds i true).getD k true =false -> S (w.setCells p f cs)) (h : Till P .any ops Q S k n (l.setIfInBounds i true) a (w.setCells p f cs)) : Till P .any ops Q S k (n + 1) l a w :=by
  refine Till.one hr ho fun K hK => ?_;have hw : T4 o (yielded ops a.tmps) =true :=by unfold T4;rw[hg]
  rw[if_pos hw];have hrun :=run_storeAt_mid (P :=P) w p f T cs.toArray (by simpa[hl]using ht) (by simpa[hl]using hT) (all_oneCell_toArray fun v hv => Fo (List.all_eq_true.1 hpc v hv));rw[←hs, ←hv]at hrun;unfold Oper.wp;have : (execOp a.eval o).run P w = .ok .skip (w.setCells p f cs) :=by
    unfold execOp;rw[hop];show(do Instr.storeAt T (Act.at_ a s) (Act.at_ a s2);pure Next.skip).run P w =_;rw[Sem.run_bind, hrun];rfl
  rw[this];show K (a.put o.dst undef) _;rw[hd];exact hK _ _ hS h
theorem Dv{S : JW -> Prop}{k n : Nat}{l : Array Bool}{a : Act}{w : JW}(hr : T9 .any ops l = [])(h : Q .normal a w) : Till P .any ops Q S k n l a w :=Till.done hr h n
end
