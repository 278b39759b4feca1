/- What the laws of rows need besides. -/
import Derived.Test.YthhobhjcnmmipaaGreatDoorKTwj
namespace Go.Proofs.YthhobhjcnmmipaaGreatDoor
open Go.RowKit
section
variable {P : Program} {ops : Array Oper} {Q : Exit -> Act -> World -> Prop}
theorem sheetT{id : Nat}{a0 : Act}{w0 : World}(N : Nat)(L : Lay)(als : List Nat)(Fs : List Fct)(l1 : Array Bool)(m : Nat)(hN : a0.tmps.size =N)(hok : (FS ops N L als && Y6 .any ops (Array.replicate ops.size false) l1 (List.range L.length) && (ops.size ==L.length + m)) =true)(hown : Fs.map (·.own) =L.map (·.2.1))(hm : P.follows .mixedOrders =true)
    (obs : Obs P ops Q w0 a0 L als Fs Fs 0) (b : (Tmp -> Value) -> Act) (hb : ∀val, fill a0 val ((List.range L.length).map (Fz ops)) =b val)
    (fin : ∀(val : Tmp -> Value) (w : World), RowKit.Hid (Below w0.heap.size w0 w) -> (∀(i : Nat) (F : Fct), Fs[i]? =some F -> F.P w (val (L.slot i))) -> Pent (Till P .any ops Q (fun _ => True) 0 m l1 (b val) w)) : (Code.region id ops true).wp P Q a0 w0 :=by
  subst hN;simp only[Bool.and_eq_true, beq_iff_eq]at hok;obtain⟨⟨hok, hph⟩, hsz⟩ :=hok;have hlen : Fs.length =L.length :=by simpa using congrArg List.length hown
  have rep : (fun j => (Array.replicate ops.size false).getD j false) =fun _ => false :=funext fun j => by
    rw[Array.getD_eq_getD_getElem?, Array.getElem?_replicate]
    split <;> rfl
  refine Till.begin 0 (fun _ => True) hm trivial (fun _ => ?_);refine Till.phase2 (List.range L.length) l1 m (fun _ => Inv ops w0 a0 L als Fs) (by rw[List.length_range];exact hsz) hph (fun _ _ _ _ => trivial) (by rw[rep];exact inv0 (Below.refl _ _).drew) ?_ (fun d a w h hE => h.end_ hlen (fun i hi => hE i (List.mem_range.2 hi)) hb fin);have : ∀(E : List Nat), (∀i∈E, i < L.length) -> UT P .any ops Q (Inv ops w0 a0 L als Fs) E :=fun E => by
    induction E with
    | nil => intro _;trivial
    | cons i r ih => exact fun hE => ⟨Dw hok hown obs (hE i (List.mem_cons_self ..)), ih fun j hj => hE j (List.mem_cons_of_mem _ hj)⟩
  exact this _ fun i hi => List.mem_range.1 hi
end
theorem c_join{x y : Value}{a0 a1 a2 b0 b1 b2 : Rat}{k m n : Nat}{w : World}(h : (Fct.num [] k [a0, a1, a2]).P w x)(h' : (Fct.num [] m [b0, b1, b2]).P w y)(hn : (decide (k <= n) && decide (m <= n)) =true) : Calls Tryz.prog 72 #[x, y] w (Ret w (Fct.num [] n [a0, a1, a2, b0, b1, b2])) :=by
  simp only[Bool.and_eq_true, decide_eq_true_eq]at hn;obtain⟨rs, rfl, hr, f⟩ :=h;obtain⟨rs', rfl, hr', f'⟩ :=h';obtain⟨x0, x1, x2, rfl⟩ :=VJ hr.len;obtain⟨y0, y1, y2, rfl⟩ :=VJ hr'.len;refine(Ln x0 x1 x2 y0 y1 y2 w).mono ?_;rintro e v⟨rfl, hb⟩;refine⟨_, rfl, hb, [x0, x1, x2] ++ [y0, y1, y2], rfl, (hr.app hr').keep hb, fun q hq => ?_⟩;rcases List.mem_append.1 (show q ∈ [a0, a1, a2] ++ [b0, b1, b2]from hq)with h|h
  · exact(f q h).up hn.1
  · exact(f' q h).up hn.2
