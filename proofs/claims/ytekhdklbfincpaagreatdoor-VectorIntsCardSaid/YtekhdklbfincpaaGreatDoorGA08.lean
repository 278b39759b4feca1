/- GA08: Num Cmp -/
import Derived.Test.YtekhdklbfincpaaGreatDoorGA04
import Derived.Test.YtekhdklbfincpaaGreatDoorGA01
import Derived.Test.YtekhdklbfincpaaGreatDoorGA02
import Derived.Deep.RegionHeld3
import Derived.Test.YtekhdklbfincpaaGreatDoorGA07
set_option maxRecDepth 100000
set_option maxHeartbeats 16000000
namespace Go.Proofs.YtekhdklbfincpaaGreatDoor
open Go.RowKit
structure IsNat (B:Nat) (w:World) (A:Option Addr) (n c:Nat) (xs:List Nat) (m:Nat):Prop where
 isl:IsL w A n c (u64s xs)
 cap:c≤9223372036854775807
 len:n<1000
 words:Words xs
 tight:Tight xs
 val:natVal xs=m
 low:∀ a:Addr,A=some a→B≤a.block
theorem IsNat.keep {B:Nat} {w w':World} {A:Option Addr} {n c m:Nat} {xs:List Nat} (h:IsNat B w A n c xs m) (hb:Below w.heap.size w w'):IsNat B w' A n c xs m:=
 ⟨h.isl.keep hb,h.cap,h.len,h.words,h.tight,h.val,h.low⟩
theorem IsNat.mono {B B':Nat} {w:World} {A:Option Addr} {n c m:Nat} {xs:List Nat} (h:IsNat B w A n c xs m) (hb:B'≤B):IsNat B' w A n c xs m:=
 ⟨h.isl,h.cap,h.len,h.words,h.tight,h.val,fun a e=>Nat.le_trans hb (h.low a e)⟩
theorem u64s_length (xs:List Nat):(u64s xs).length=xs.length:=by simp [u64s]
theorem IsNat.size {B:Nat} {w:World} {A:Option Addr} {n c m:Nat} {xs:List Nat} (h:IsNat B w A n c xs m):xs.length=n:=by
 have:=h.isl.1; rwa [u64s_length] at this
theorem IsNat.zero (B:Nat) (w:World):IsNat B w none 0 0 [] 0:=
 ⟨⟨rfl,Nat.le_refl _,fun h=>absurd h (by decide)⟩,by decide,by decide,fun d hd=>absurd hd (by simp),.inl rfl,rfl,fun a e=>absurd e (by simp)⟩
theorem IsNat.at {B:Nat} {w:World} {A:Option Addr} {n c m:Nat} {xs:List Nat} (h:IsNat B w A n c xs m) (h0:0<n):∃ b o,A=some ⟨b,o,none⟩∧b<w.heap.size∧B≤b∧∀ k:Nat,k<n→w.cell? ⟨b,o+k,none⟩=some (.int .u64 ((xs.getD k 0:Nat):Int)):=by
 obtain ⟨b,o,e,hb,hc⟩:=h.isl.2.2 h0
 exact ⟨b,o,e,hb,h.low _ e,fun k hk=>hc k _ (by have:=h.size; simp [u64s,show k<xs.length by omega])⟩
theorem IsL.grow_cell {w:World} {p:Nat} {o:Obj} (hp:p<w.heap.size) (i:Nat):(w.alloc o).cell? ⟨p,i,none⟩=w.cell? ⟨p,i,none⟩:=
 ((Below.refl w.heap.size w).alloc (Nat.le_refl _) o).cell (p:=⟨p,i,none⟩) hp
def NatPost (z:Int) (B:Nat) (w:World) (e:Ending) (w':World):Prop:=
 ∃ (A:Option Addr) (n c:Nat) (xs:List Nat),e= .returned (.tuple #[.slice A n c,.bool (decide (z<0))])∧IsNat B w' A n c xs z.natAbs∧Below w.heap.size w w'
theorem parts_nat_small {n:Int} {w':World} {b B:Nat} (hn:I64 n) (h0:n≠0) (hb:B≤b) (hc:w'.cell? ⟨b,0,none⟩=some (.int .u64 n.natAbs)):IsNat B w' (some ⟨b,0,none⟩) 1 1 [n.natAbs] n.natAbs:=by
 refine ⟨⟨rfl,Nat.le_refl _,fun _=>⟨b,0,rfl,size_of_cell hc,fun j u hu=>?_⟩⟩,by decide,by decide,fun d hd=>?_,.inr ?_,by simp [natVal],fun a e=>?_⟩
 ·match j,hu with
  | 0,hu=>simp [u64s] at hu; subst hu; exact hc
 ·rw [List.mem_singleton.1 hd]; exact abs_lt hn
 ·simp [natVal,base_zero]; omega
 ·injection e with e; subst e; exact hb
theorem parts_any (v:Value) (z:Int) (w:World) {B:Nat} (h:IsInt B w v z) (hB:B≤w.heap.size) :
  Calls Tryz.prog 103 #[v] w (NatPost z B w):=by
 rcases h with ⟨hz,rfl⟩ | ⟨hz,p,A,n,c,xs,rfl,hp,_,hA,c0,c1,hl,hc,hn,hw,htt,hval⟩
 ·by_cases h0:z=0
  ·subst h0
   clear hz
   go_enter Tryz.func103,Tryz.ntmps103
   go_wp2
   exact bodyPost_ret (v:= .tuple #[.slice none 0 0,.bool false]) (by simp [results,Tryz.results103,go_sem]) rfl ⟨none,0,0,[],rfl,IsNat.zero _ _,(Below.refl w.heap.size w).alloc (Nat.le_refl _) _⟩
  ·refine (parts_small z w hz h0).mono ?_
   rintro e w' ⟨b,rfl,hb,hcell,hbel⟩
   exact ⟨_,_,_,_,rfl,parts_nat_small hz h0 (Nat.le_trans hB hb) hcell,hbel⟩
 ·have Hfin:=Lh (show IsNat B (w.alloc (.cells #[.int .i64 0,.pointer (some ⟨p,0,none⟩)] 28)) A n c xs z.natAbs from ⟨hl.grow _,hc,hn,hw,htt,hval,hA⟩)
  have e0:=(IsL.grow_cell (o:= .cells #[.int .i64 0,.pointer (some ⟨p,0,none⟩)] 28) hp 0).trans c0
  have e1:=(IsL.grow_cell (o:= .cells #[.int .i64 0,.pointer (some ⟨p,0,none⟩)] 28) hp 1).trans c1
  clear hl hw htt hval hA hz hc hn
  go_enter Tryz.func103,Tryz.ntmps103
  go_wp2
  go_quiet (fail)
  go_wp2
  go_ret2
  exact ⟨A,n,c,xs,rfl,(Hfin.out).keep (below_drewN (Below.refl _ _) _),below_drewN ((Below.refl w.heap.size w).alloc (Nat.le_refl _) _) _⟩
def cmpN (a b:Nat):Int:=if a<b then -1 else if b<a then 1 else 0
theorem natVal_split (xs:List Nat) (k:Nat):natVal xs=natVal (xs.take k)+base (xs.take k).length*natVal (xs.drop k):=by
 rw [← natVal_append,List.take_append_drop]
theorem words_take {xs:List Nat} (h:Words xs) (k:Nat):Words (xs.take k):=fun d hd=>h d (List.mem_of_mem_take hd)
theorem base_le {a b:Nat} (h:a≤b):base a≤base b:=Nat.pow_le_pow_right (by decide) h
theorem cmp_len {xs ys:List Nat} (hx:Words xs) (hy:Tight ys) (h:xs.length<ys.length):natVal xs<natVal ys:=by
 rcases hy with h0 | h0
 ·omega
 ·exact Nat.lt_of_lt_of_le (natVal_lt hx) (Nat.le_trans (base_le (by omega)) h0)
theorem cmp_step {xs ys:List Nat} {k x y:Nat} (hx:Words xs) (hk:k<xs.length) (hk2:k<ys.length) (hd:xs.drop (k+1)=ys.drop (k+1)) (ex:xs.getD k 0=x) (ey:ys.getD k 0=y) (h:x<y):natVal xs<natVal ys:=by
 have e1:xs[k]=x:=by rw [← ex]; simp [List.getD,hk]
 have e2:ys[k]=y:=by rw [← ey]; simp [List.getD,hk2]
 rw [natVal_split xs k,natVal_split ys k,List.drop_eq_getElem_cons hk,List.drop_eq_getElem_cons hk2,hd,e1,e2]
 have h1:=natVal_lt (words_take hx k)
 have l1:(xs.take k).length=k:=by simp; omega
 have l2:(ys.take k).length=k:=by simp; omega
 rw [l1] at h1 ⊢
 rw [l2,natVal,natVal]
 have h2:base k*(x+18446744073709551616*natVal (ys.drop (k+1))+1)≤base k*(y+18446744073709551616*natVal (ys.drop (k+1))):=Nat.mul_le_mul_left _ (by omega)
 rw [Nat.mul_add _ _ 1] at h2
 omega
theorem drop_same {xs ys:List Nat} {k x:Nat} (hk:k<xs.length) (hk2:k<ys.length) (hd:xs.drop (k+1)=ys.drop (k+1)) (ex:xs.getD k 0=x) (ey:ys.getD k 0=x):xs.drop k=ys.drop k:=by
 have e1:xs[k]=x:=by rw [← ex]; simp [List.getD,hk]
 have e2:ys[k]=x:=by rw [← ey]; simp [List.getD,hk2]
 rw [List.drop_eq_getElem_cons hk,List.drop_eq_getElem_cons hk2,hd,e1,e2]
theorem cmpN_lt {a b:Nat} (h:a<b):cmpN a b=-1:=by unfold cmpN; rw [if_pos h]
theorem cmpN_gt {a b:Nat} (h:b<a):cmpN a b=1:=by unfold cmpN; rw [if_neg (by omega),if_pos h]
theorem cmpN_eq {a b:Nat} (h:a=b):cmpN a b=0:=by unfold cmpN; rw [if_neg (by omega),if_neg (by omega)]
theorem compareNat_any {B B':Nat} {A A':Option Addr} {n c n' c' m m':Nat} {xs ys:List Nat} (w:World) (hx:IsNat B w A n c xs m) (hy:IsNat B' w A' n' c' ys m') :
  Calls Tryz.prog 125 #[.slice A n c,.slice A' n' c'] w fun e w'=>e= .returned (.int .i64 (cmpN m m'))∧Below w.heap.size w w':=by
 have hn:=hx.len
 have hn':=hy.len
 have hs:=hx.size
 have hs':=hy.size
 have hv:=hx.val
 have hv':=hy.val
 have hle:=hx.isl.2.1
 have hle':=hy.isl.2.1
 by_cases h1:n<n'
 ·have he:=cmpN_lt (cmp_len hx.words hy.tight (by omega))
  rw [hv,hv'] at he
  rw [he]
  have t0:((n:Int) == (n':Int))=false:=by rw [beq_eq_false_iff_ne]; omega
  clear hx hy hs hs' hv hv' he
  go_enter Tryz.func125,Tryz.ntmps125
  go_wp2
  go_ret
  exact ⟨rfl,Below.refl _ _⟩
 ·by_cases h2:n'<n
  ·have he:=cmpN_gt (cmp_len hy.words hx.tight (by omega))
   rw [hv,hv'] at he
   rw [he]
   have t0:((n:Int) == (n':Int))=false:=by rw [beq_eq_false_iff_ne]; omega
   clear hx hy hs hs' hv hv' he
   go_enter Tryz.func125,Tryz.ntmps125
   go_wp2
   go_ret
   exact ⟨rfl,Below.refl _ _⟩
  ·obtain rfl:n=n':=by omega
   clear h1 h2
   rcases Nat.eq_zero_or_pos n with h0 | h0
   ·subst h0
    have e1:xs=[]:=List.eq_nil_of_length_eq_zero hs
    have e2:ys=[]:=List.eq_nil_of_length_eq_zero hs'
    subst e1 e2
    have he:cmpN m m'=0:=cmpN_eq (by rw [← hv,← hv'])
    rw [he]
    clear hx hy hv hv' he hs hs'
    go_enter Tryz.func125,Tryz.ntmps125
    go_wp2_with fail
    refine wp_loop_rounds 1 ?_
    rw [rounds_succ]
    go_wp2
    go_ret
    exact ⟨rfl,Below.refl _ _⟩
   ·obtain ⟨b,o,rfl,hb,_,hcx⟩:=hx.at h0
    obtain ⟨b',o',rfl,hb',_,hcy⟩:=hy.at h0
    have Hcx:=Lh hcx
    have Hcy:=Lh hcy
    have Hwx:=Lh hx.words
    have Hwy:=Lh hy.words
    have Hs:=Lh hs
    have Hs':=Lh hs'
    have Hv:=Lh hv
    have Hv':=Lh hv'
    clear hx hy hcx hcy hs hs' hv hv'
    go_enter Tryz.func125,Tryz.ntmps125
    go_wp2_with fail
    go_loopw [5] (fun i wr=>∃ k:Nat,k≤n∧i= .int .i64 ((k:Int) - 1)∧xs.drop k=ys.drop k∧Below w.heap.size w wr) (fun i _=>(intOf i+1).toNat)
    case atStart=>exact ⟨n,Nat.le_refl _,rfl,by rw [List.drop_eq_nil_of_le (by rw [Hs.out]; exact Nat.le_refl _),List.drop_eq_nil_of_le (by rw [Hs'.out]; exact Nat.le_refl _)],Below.refl _ _⟩
    case round=>
     obtain ⟨k,hk,rfl,hd,hbel⟩:=hrel
     have Hbel:=Lh hbel
     have Hd:=Lh hd
     clear hd
     cases k with
     | zero=>
      have he:cmpN m m'=0:=cmpN_eq (by rw [← Hv.out,← Hv'.out]; have:=Hd.out; simp at this; rw [this])
      have He:=Lh he
      clear he
      clear hbel
      go_wp2
      go_ret
      exact ⟨by rw [He.out]; rfl,Hbel.out⟩
     | succ k=>
      have cx:=(hbel.cell (p:=⟨b,o+k,none⟩) hb).trans (Hcx.out k (by omega))
      have cy:=(hbel.cell (p:=⟨b',o'+k,none⟩) hb').trans (Hcy.out k (by omega))
      clear hbel
      obtain ⟨x,hx⟩:∃ x,xs.getD k 0=x:=⟨_,rfl⟩
      obtain ⟨y,hy⟩:∃ y,ys.getD k 0=y:=⟨_,rfl⟩
      rw [hx] at cx
      rw [hy] at cy
      have Hx:=Lh hx
      have Hy:=Lh hy
      clear hx hy
      by_cases h1:x<y
      ·have he:=cmpN_lt (cmp_step Hwx.out (by have:=Hs.out; omega) (by have:=Hs'.out; omega) Hd.out Hx.out Hy.out h1)
       rw [Hv.out,Hv'.out] at he
       have He:=Lh he
       clear he
       go_wp2
       go_quiet (fail)
       go_wp2
       go_ret
       exact ⟨by rw [He.out]; rfl,by repeat (first | exact Hbel.out | refine below_drewN ?_ _)⟩
      ·by_cases h2:y<x
       ·have he:=cmpN_gt (cmp_step Hwy.out (by have:=Hs'.out; omega) (by have:=Hs.out; omega) Hd.out.symm Hy.out Hx.out h2)
        rw [Hv.out,Hv'.out] at he
        have He:=Lh he
        clear he
        go_wp2
        go_quiet (fail)
        go_wp2
        go_quiet (fail)
        go_wp2
        go_ret
        exact ⟨by rw [He.out]; rfl,by repeat (first | exact Hbel.out | refine below_drewN ?_ _)⟩
       ·obtain rfl:x=y:=by omega
        have Hnew:=Lh (drop_same (by have:=Hs.out; omega) (by have:=Hs'.out; omega) Hd.out Hx.out Hy.out)
        go_wp2
        go_quiet (fail)
        go_wp2
        go_quiet (fail)
        go_wp2
        exact ⟨⟨k,by omega,by go_num,Hnew.out,by repeat (first | exact Hbel.out | refine below_drewN ?_ _)⟩,by simp [intOf] <;> omega⟩
end Go.Proofs.YtekhdklbfincpaaGreatDoor
namespace Go.Proofs.YtekhdklbfincpaaGreatDoor
open Go.RowKit
theorem compare_small (a b:Int) (w:World) :
  Calls Tryz.prog 96 #[small a,small b] w fun e w'=>e= .returned (.int .i64 (if a<b then -1 else if b<a then 1 else 0))∧Below w.heap.size w w':=by
 rcases Int.lt_trichotomy a b with h | h | h
 ·rw [if_pos h]
  go_enter Tryz.func96,Tryz.ntmps96
  go_wp2
  go_ret
  exact ⟨rfl,by repeat (first | exact Below.refl _ _ | refine Below.alloc ?_ (by first | exact Nat.le_refl _ | (simp <;> omega)) _)⟩
 ·subst h
  rw [if_neg (by omega),if_neg (by omega)]
  go_enter Tryz.func96,Tryz.ntmps96
  go_wp2
  go_ret
  exact ⟨rfl,by repeat (first | exact Below.refl _ _ | refine Below.alloc ?_ (by first | exact Nat.le_refl _ | (simp <;> omega)) _)⟩
 ·rw [if_neg (by omega),if_pos h]
  go_enter Tryz.func96,Tryz.ntmps96
  go_wp2
  go_ret
  exact ⟨rfl,by repeat (first | exact Below.refl _ _ | refine Below.alloc ?_ (by first | exact Nat.le_refl _ | (simp <;> omega)) _)⟩
def cmpZ (a b:Int):Int:=if a<b then -1 else if b<a then 1 else 0
theorem cmpZ_pos {z k:Int} (hz:0≤z) (hk:0≤k):cmpN z.natAbs k.natAbs=cmpZ z k:=by
 unfold cmpN cmpZ
 by_cases h1:z<k
 ·rw [if_pos h1,if_pos (by omega)]
 ·by_cases h2:k<z
  ·rw [if_neg h1,if_pos h2,if_neg (by omega),if_pos (by omega)]
  ·rw [if_neg h1,if_neg h2,if_neg (by omega),if_neg (by omega)]
theorem cmpZ_neg {z k:Int} (hz:z<0) (hk:k<0):cmpN k.natAbs z.natAbs=cmpZ z k:=by
 unfold cmpN cmpZ
 by_cases h1:z<k
 ·rw [if_pos h1,if_pos (by omega)]
 ·by_cases h2:k<z
  ·rw [if_neg h1,if_pos h2,if_neg (by omega),if_pos (by omega)]
  ·rw [if_neg h1,if_neg h2,if_neg (by omega),if_neg (by omega)]
theorem IsInt.any {B:Nat} {w:World} {v:Value} {z:Int} (h:IsInt B w v z):IsInt 0 w v z:=h.mono (Nat.zero_le _)
theorem IsInt.ways {B:Nat} {w:World} {v:Value} {z:Int} (h:IsInt B w v z):(I64 z∧v=small z)∨(¬ I64 z∧∃ p,v= .agg #[.int .i64 0,.pointer (some ⟨p,0,none⟩)]∧p<w.heap.size∧w.cell? ⟨p,0,none⟩=some (.bool (decide (z<0)))):=by
 rcases h with h | ⟨hz,p,A,n,c,xs,rfl,hp,_,_,c0,_⟩
 ·exact .inl h
 ·exact .inr ⟨hz,p,rfl,hp,c0⟩
theorem parts_at (v:Value) (z:Int) (w:World) (b:Bool) (hb:decide (z<0)=b) (h:IsInt 0 w v z) :
  Calls Tryz.prog 103 #[v] w fun e w'=>∃ (A:Option Addr) (n c:Nat) (xs:List Nat),e= .returned (.tuple #[.slice A n c,.bool b])∧IsNat 0 w' A n c xs z.natAbs∧Below w.heap.size w w':=by
 subst hb
 exact parts_any v z w h (Nat.zero_le _)
theorem compare_large (a b:Int) (P Q:Option Addr) (z k:Int) (w:World) (h:IsInt 0 w (.agg #[.int .i64 a,.pointer P]) z) (h':IsInt 0 w (.agg #[.int .i64 b,.pointer Q]) k) (p:Nat) (hp:P=some ⟨p,0,none⟩) :
  Calls Tryz.prog 96 #[.agg #[.int .i64 a,.pointer P],.agg #[.int .i64 b,.pointer Q]] w fun e w'=>e= .returned (.int .i64 (cmpZ z k))∧Below w.heap.size w w':=by
 subst hp
 obtain ⟨bz,hbz⟩:∃ bz,decide (z<0)=bz:=⟨_,rfl⟩
 obtain ⟨bk,hbk⟩:∃ bk,decide (k<0)=bk:=⟨_,rfl⟩
 have kk:=((Below.refl w.heap.size w).alloc (Nat.le_refl _) (.cells #[.int .i64 a,.pointer (some ⟨p,0,none⟩)] 28)).alloc (by simp) (.cells #[.int .i64 b,.pointer Q] 28)
 have Hx:=Lh (parts_at _ z _ bz hbz (h.keep kk))
 have Hy:=Lh (fun w' (hb:Below w.heap.size w w')=>parts_at _ k w' bk hbk (h'.keep hb))
 have Kk:=Lh kk
 have Hbz:=Lh hbz
 have Hbk:=Lh hbk
 clear h h' kk hbz hbk
 go_enter Tryz.func96,Tryz.ntmps96
 go_wp2_with fail
 refine Hx.out.mono ?_
 rintro e w1 ⟨A,n,c,xs,rfl,hx,h1⟩
 have e1:w1.cell? ⟨w.heap.size+1,0,none⟩=some (.int .i64 b):=(h1.cell (p:=⟨w.heap.size+1,0,none⟩) (by simp)).trans (by simp [go_sem])
 have e2:w1.cell? ⟨w.heap.size+1,1,none⟩=some (.pointer Q):=(h1.cell (p:=⟨w.heap.size+1,1,none⟩) (by simp)).trans (by simp [go_sem])
 have K1:=Lh (Kk.out.trans (h1.mono (by simp; omega)))
 have Hnx:=Lh hx
 clear h1 hx
 go_wp2_with fail
 refine (Hy.out _ K1.out).mono ?_
 rintro e w2 ⟨A',n',c',ys,rfl,hy,h2⟩
 have Hnx2:=Lh (Hnx.out.keep h2)
 have Hny:=Lh hy
 have K2:=Lh (K1.out.trans (h2.mono K1.out.size))
 clear h2 hy e1 e2
 cases bz <;> cases bk
 ·have hz:=of_decide_eq_false Hbz.out
  have hk:=of_decide_eq_false Hbk.out
  have He:=Lh (cmpZ_pos (z:=z) (k:=k) (by omega) (by omega))
  clear hz hk
  go_wp2_with fail
  refine (compareNat_any _ Hnx2.out Hny.out).mono ?_
  rintro e w3 ⟨rfl,h3⟩
  have K3:=Lh (K2.out.trans (h3.mono K2.out.size))
  clear h3
  go_wp2
  go_ret
  exact ⟨by rw [← He.out]; rfl,K3.out⟩
 ·have hz:=of_decide_eq_false Hbz.out
  have hk:=of_decide_eq_true Hbk.out
  have He:=Lh (show cmpZ z k=1 by unfold cmpZ; rw [if_neg (by omega),if_pos (by omega)])
  clear hz hk
  go_wp2
  go_ret
  exact ⟨by rw [He.out]; rfl,K2.out⟩
 ·have hz:=of_decide_eq_true Hbz.out
  have hk:=of_decide_eq_false Hbk.out
  have He:=Lh (show cmpZ z k=-1 by unfold cmpZ; rw [if_pos (by omega)])
  clear hz hk
  go_wp2
  go_ret
  exact ⟨by rw [He.out]; rfl,K2.out⟩
 ·have hz:=of_decide_eq_true Hbz.out
  have hk:=of_decide_eq_true Hbk.out
  have He:=Lh (cmpZ_neg (z:=z) (k:=k) (by omega) (by omega))
  clear hz hk
  go_wp2_with fail
  refine (compareNat_any _ Hny.out Hnx2.out).mono ?_
  rintro e w3 ⟨rfl,h3⟩
  have K3:=Lh (K2.out.trans (h3.mono K2.out.size))
  clear h3
  go_wp2
  go_ret
  exact ⟨by rw [← He.out]; rfl,K3.out⟩
theorem compare_mixed (a b:Int) (Q:Option Addr) (z k:Int) (w:World) (h:IsInt 0 w (.agg #[.int .i64 a,.pointer none]) z) (h':IsInt 0 w (.agg #[.int .i64 b,.pointer Q]) k) (p:Nat) (hp:Q=some ⟨p,0,none⟩) :
  Calls Tryz.prog 96 #[.agg #[.int .i64 a,.pointer none],.agg #[.int .i64 b,.pointer Q]] w fun e w'=>e= .returned (.int .i64 (cmpZ z k))∧Below w.heap.size w w':=by
 subst hp
 obtain ⟨bz,hbz⟩:∃ bz,decide (z<0)=bz:=⟨_,rfl⟩
 obtain ⟨bk,hbk⟩:∃ bk,decide (k<0)=bk:=⟨_,rfl⟩
 have kk:=((Below.refl w.heap.size w).alloc (Nat.le_refl _) (.cells #[.int .i64 a,.pointer none] 28)).alloc (by simp) (.cells #[.int .i64 b,.pointer (some ⟨p,0,none⟩)] 28)
 have Hx:=Lh (parts_at _ z _ bz hbz (h.keep kk))
 have Hy:=Lh (fun w' (hb:Below w.heap.size w w')=>parts_at _ k w' bk hbk (h'.keep hb))
 have Kk:=Lh kk
 have Hbz:=Lh hbz
 have Hbk:=Lh hbk
 clear h h' kk hbz hbk
 go_enter Tryz.func96,Tryz.ntmps96
 go_wp2_with fail
 refine Hx.out.mono ?_
 rintro e w1 ⟨A,n,c,xs,rfl,hx,h1⟩
 have e1:w1.cell? ⟨w.heap.size+1,0,none⟩=some (.int .i64 b):=(h1.cell (p:=⟨w.heap.size+1,0,none⟩) (by simp)).trans (by simp [go_sem])
 have e2:w1.cell? ⟨w.heap.size+1,1,none⟩=some (.pointer (some ⟨p,0,none⟩)):=(h1.cell (p:=⟨w.heap.size+1,1,none⟩) (by simp)).trans (by simp [go_sem])
 have K1:=Lh (Kk.out.trans (h1.mono (by simp; omega)))
 have Hnx:=Lh hx
 clear h1 hx
 go_wp2_with fail
 refine (Hy.out _ K1.out).mono ?_
 rintro e w2 ⟨A',n',c',ys,rfl,hy,h2⟩
 have Hnx2:=Lh (Hnx.out.keep h2)
 have Hny:=Lh hy
 have K2:=Lh (K1.out.trans (h2.mono K1.out.size))
 clear h2 hy e1 e2
 cases bz <;> cases bk
 ·have hz:=of_decide_eq_false Hbz.out
  have hk:=of_decide_eq_false Hbk.out
  have He:=Lh (cmpZ_pos (z:=z) (k:=k) (by omega) (by omega))
  clear hz hk
  go_wp2_with fail
  refine (compareNat_any _ Hnx2.out Hny.out).mono ?_
  rintro e w3 ⟨rfl,h3⟩
  have K3:=Lh (K2.out.trans (h3.mono K2.out.size))
  clear h3
  go_wp2
  go_ret
  exact ⟨by rw [← He.out]; rfl,K3.out⟩
 ·have hz:=of_decide_eq_false Hbz.out
  have hk:=of_decide_eq_true Hbk.out
  have He:=Lh (show cmpZ z k=1 by unfold cmpZ; rw [if_neg (by omega),if_pos (by omega)])
  clear hz hk
  go_wp2
  go_ret
  exact ⟨by rw [He.out]; rfl,K2.out⟩
 ·have hz:=of_decide_eq_true Hbz.out
  have hk:=of_decide_eq_false Hbk.out
  have He:=Lh (show cmpZ z k=-1 by unfold cmpZ; rw [if_pos (by omega)])
  clear hz hk
  go_wp2
  go_ret
  exact ⟨by rw [He.out]; rfl,K2.out⟩
 ·have hz:=of_decide_eq_true Hbz.out
  have hk:=of_decide_eq_true Hbk.out
  have He:=Lh (cmpZ_neg (z:=z) (k:=k) (by omega) (by omega))
  clear hz hk
  go_wp2_with fail
  refine (compareNat_any _ Hny.out Hnx2.out).mono ?_
  rintro e w3 ⟨rfl,h3⟩
  have K3:=Lh (K2.out.trans (h3.mono K2.out.size))
  clear h3
  go_wp2
  go_ret
  exact ⟨by rw [← He.out]; rfl,K3.out⟩
theorem compare_any (v u:Value) (z k:Int) (w:World) (h:IsInt 0 w v z) (h':IsInt 0 w u k) :
  Calls Tryz.prog 96 #[v,u] w fun e w'=>e= .returned (.int .i64 (cmpZ z k))∧Below w.heap.size w w':=by
 rcases h.ways with ⟨hz,rfl⟩ | ⟨hz,p,rfl,hp,c0⟩
 ·rcases h'.ways with ⟨hk,rfl⟩ | ⟨hk,q,rfl,hq,d0⟩
  ·exact compare_small z k w
  ·exact compare_mixed _ _ _ z k w h h' q rfl
 ·obtain ⟨b,Q,rfl⟩:=h'.form
  exact compare_large _ _ _ _ z k w h h' p rfl
theorem signZ_any (v:Value) (z:Int) (w:World) (h:IsInt 0 w v z) :
  Calls Tryz.prog 66 #[v] w fun e w'=>e= .returned (.int .i64 (sgn z))∧Below w.heap.size w w':=by
 rcases h.ways with ⟨hz,rfl⟩ | ⟨hz,p,rfl,hp,c0⟩
 ·exact sign_any z w
 ·unfold I64 at hz
  have e0:=(IsL.grow_cell (o:= .cells #[.int .i64 0,.pointer (some ⟨p,0,none⟩)] 28) hp 0).trans c0
  by_cases hneg:z<0
  ·have He:=Lh (show sgn z=-1 by unfold sgn; rw [if_pos hneg])
   rw [decide_eq_true hneg] at e0
   clear h hz c0 hneg
   go_enter Tryz.func66,Tryz.ntmps66
   go_wp2
   go_ret
   exact ⟨by rw [He.out]; rfl,(Below.refl _ _).alloc (Nat.le_refl _) _⟩
  ·have He:=Lh (show sgn z=1 by unfold sgn; rw [if_neg hneg,if_pos (by omega)])
   rw [decide_eq_false hneg] at e0
   clear h hz c0 hneg
   go_enter Tryz.func66,Tryz.ntmps66
   go_wp2
   go_ret
   exact ⟨by rw [He.out]; rfl,(Below.refl _ _).alloc (Nat.le_refl _) _⟩
end Go.Proofs.YtekhdklbfincpaaGreatDoor
