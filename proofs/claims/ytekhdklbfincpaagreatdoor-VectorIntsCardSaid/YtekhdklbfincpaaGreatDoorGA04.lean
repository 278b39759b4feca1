/- GA04: Signed DM -/
import Derived.Test.YtekhdklbfincpaaGreatDoorGA03
set_option maxRecDepth 100000
set_option maxHeartbeats 16000000
namespace Go.Proofs.YtekhdklbfincpaaGreatDoor
open Go.RowKit
def IsInt (B:Nat) (w:World) (v:Value) (z:Int):Prop:=
 (I64 z∧v=small z)∨(¬ I64 z∧∃ (p:Nat) (A:Option Addr) (n c:Nat) (xs:List Nat),v= .agg #[.int .i64 0,.pointer (some ⟨p,0,none⟩)]∧p<w.heap.size∧B≤p∧(∀ a:Addr,A=some a→B≤a.block)∧w.cell? ⟨p,0,none⟩=some (.bool (decide (z<0)))∧w.cell? ⟨p,1,none⟩=some (.slice A n c) ∧
  IsL w A n c (u64s xs)∧c≤9223372036854775807∧n<1000∧Words xs∧Tight xs∧natVal xs=z.natAbs)
def signZ (neg:Bool) (v:Nat):Int:=if neg then -(v:Int) else (v:Int)
theorem signZ_abs (neg:Bool) (v:Nat):(signZ neg v).natAbs=v:=by unfold signZ; split <;> omega
theorem signZ_neg {neg:Bool} {v:Nat} (h:0<v):decide (signZ neg v<0)=neg:=by
 unfold signZ
 cases neg <;> simp <;> omega
theorem IsL.grow {w:World} {A:Option Addr} {n c:Nat} {xs:List Value} (h:IsL w A n c xs) (o:Obj):IsL (w.alloc o) A n c xs:=by
 refine ⟨h.1,h.2.1,fun hn=>?_⟩
 obtain ⟨g,i,rfl,hg,hc⟩:=h.2.2 hn
 refine ⟨g,i,rfl,by simp; omega,fun j u hu=>?_⟩
 rw [← hc j u hu]
 exact World.cell?_of_block (((Below.refl w.heap.size w).alloc (Nat.le_refl _) o).block g hg)
theorem alloc2_at (w:World) (o1 o2:Obj):((w.alloc o1).alloc o2).heap[w.heap.size+1]?=some o2:=by
 show ((w.heap.push o1).push o2)[w.heap.size+1]?=some o2
 rw [Array.getElem?_push,if_pos (by simp)]
theorem signed_large {B:Nat} {w w':World} {A:Option Addr} {n c:Nat} {xs:List Nat} {neg:Bool} (hl:IsL w A n c (u64s xs)) (hw:Words xs) (ht:Tight xs) (hn:n<1000) (hc:c≤9223372036854775807) (hpos:0<natVal xs) (hz:¬ I64 (signZ neg (natVal xs)))
  (hB:B≤w.heap.size) (hA:∀ a:Addr,A=some a→B≤a.block) (o1:Obj) (he:w'=(w.alloc o1).alloc (.cells #[.bool neg,.slice A n c] 131)) :
  IsInt B w' (.agg #[.int .i64 0,.pointer (some ⟨w.heap.size+1,0,none⟩)]) (signZ neg (natVal xs)):=by
 subst he
 refine .inr ⟨hz,w.heap.size+1,A,n,c,xs,rfl,by simp,by omega,hA,?_,?_,(hl.grow _).grow _,hc,hn,hw,ht,by rw [signZ_abs]⟩
 ·rw [signZ_neg hpos,cell_of_row _ _ _ #[.bool neg,.slice A n c] 131 (0,0) (alloc2_at _ _ _)]
  rfl
 ·rw [cell_of_row _ _ _ #[.bool neg,.slice A n c] 131 (0,0) (alloc2_at _ _ _)]
  rfl
theorem signed_any (B:Nat) (A:Option Addr) (n c:Nat) (xs:List Nat) (neg:Bool) (w:World) (hl:IsL w A n c (u64s xs)) (hw:Words xs) (ht:Tight xs) (hn:n<1000) (hc:c≤9223372036854775807) (hB:B≤w.heap.size) (hA:∀ a:Addr,A=some a→B≤a.block) :
  Calls Tryz.prog 104 #[.slice A n c,.bool neg] w fun e w'=>∃ v,e= .returned v∧IsInt B w' v (signZ neg (natVal xs))∧Below w.heap.size w w':=by
 have hlen:xs.length=n:=by have:=hl.1; simpa [u64s] using this
 have hb2:=((Below.refl w.heap.size w).alloc (Nat.le_refl _) (.cells #[.int .i64 0,.pointer (some ⟨w.heap.size+1,0,none⟩)] 28)).alloc (by simp) (.cells #[.bool neg,.slice A n c] 131)
 by_cases h2:2≤n
 ·have hbig:base 1≤natVal xs:=by
   rcases ht with h | h
   ·omega
   ·exact Nat.le_trans (Nat.pow_le_pow_right (by decide) (by omega)) h
  have hz:¬ I64 (signZ neg (natVal xs)):=by
   rw [base_one] at hbig
   unfold signZ I64
   split <;> omega
  have hfin:=fun o1 w'=>signed_large (w':=w') hl hw ht hn hc (by rw [base_one] at hbig; omega) hz hB hA o1
  have Hfin:=Lh hfin
  have Hb:=Lh hb2
  clear hl hw ht hlen hb2 hfin hz hbig hA
  go_enter Tryz.func104,Tryz.ntmps104
  go_wp2
  exact bodyPost_ret (v:= .agg #[.int .i64 0,.pointer (some ⟨w.heap.size+1,0,none⟩)]) (by simp [results,Tryz.results104,go_sem]) rfl ⟨_,rfl,Hfin.out _ _ rfl,Hb.out⟩
 ·rcases Nat.eq_zero_or_pos n with h0 | h0
  ·subst h0
   have hx:xs=[]:=List.eq_nil_of_length_eq_zero hlen
   subst hx
   have hz:signZ neg (natVal [])=0:=by cases neg <;> rfl
   rw [hz]
   clear hl hw ht hlen hb2 hz hA
   go_enter Tryz.func104,Tryz.ntmps104
   go_wp2
   exact bodyPost_ret (v:=small 0) (by simp [results,Tryz.results104,go_sem]) rfl ⟨_,rfl,.inl ⟨by unfold I64; omega,rfl⟩,(Below.refl _ _).alloc (Nat.le_refl _) _⟩
  ·obtain rfl:n=1:=by omega
   obtain ⟨x,rfl⟩:∃ x,xs=[x]:=List.length_eq_one_iff.mp hlen
   obtain ⟨b,o,rfl,hb,hcell⟩:=hl.2.2 (by omega)
   have c0:w.cell? ⟨b,o,none⟩=some (.int .u64 (x:Int)):=hcell 0 _ rfl
   have hx:natVal [x]=x:=by simp [natVal]
   have hx1:x<18446744073709551616:=hw x (by simp)
   have hx0:0<x:=by
    rcases ht with h | h
    ·simp at h
    ·rw [hx] at h
     exact Nat.lt_of_lt_of_le (base_pos _) h
   by_cases hbig:I64 (signZ neg x)
   ·rw [hx]
    have Hbig:=Lh hbig
    unfold I64 signZ at hbig
    clear hcell hl hw ht hlen hb2 hx hA
    cases neg
    ·simp at hbig
     go_enter Tryz.func104,Tryz.ntmps104
     go_wp2
     exact bodyPost_ret (v:=small x) (by simp [results,Tryz.results104,go_sem]) rfl ⟨_,rfl,.inl ⟨Hbig.out,rfl⟩,(Below.refl _ _).alloc (Nat.le_refl _) _⟩
    ·simp at hbig
     have e1:IntKind.u64.wrap (-(x:Int))=18446744073709551616 - (x:Int):=by rw [wrap_u64]; omega
     have e2:wrap64 (18446744073709551616 - (x:Int))=-(x:Int):=by unfold wrap64; omega
     go_enter Tryz.func104,Tryz.ntmps104
     go_wp2
     exact bodyPost_ret (v:=small (-(x:Int))) (by simp [results,Tryz.results104,go_sem]) rfl ⟨_,rfl,.inl ⟨Hbig.out,rfl⟩,(Below.refl _ _).alloc (Nat.le_refl _) _⟩
   ·have hfin:=fun o1 w'=>signed_large (w':=w') hl hw ht hn hc (by rw [hx]; exact hx0) (by rw [hx]; exact hbig) hB hA o1
    have Hfin:=Lh hfin
    have Hb:=Lh hb2
    unfold I64 signZ at hbig
    clear hcell hl hw ht hlen hb2 hfin hx hA
    cases neg
    ·simp at hbig
     go_enter Tryz.func104,Tryz.ntmps104
     go_wp2
     exact bodyPost_ret (v:= .agg #[.int .i64 0,.pointer (some ⟨w.heap.size+1,0,none⟩)]) (by simp [results,Tryz.results104,go_sem]) rfl ⟨_,rfl,Hfin.out _ _ rfl,Hb.out⟩
    ·simp at hbig
     go_enter Tryz.func104,Tryz.ntmps104
     go_wp2
     exact bodyPost_ret (v:= .agg #[.int .i64 0,.pointer (some ⟨w.heap.size+1,0,none⟩)]) (by simp [results,Tryz.results104,go_sem]) rfl ⟨_,rfl,Hfin.out _ _ rfl,Hb.out⟩
theorem IsInt.set_ {B:Nat} {w:World} {v:Value} {z:Int} {i:Nat} {u:Value} (h:IsInt (B+1) w v z):IsInt (B+1) (w.setCell ⟨B,i,none⟩ u) v z:=by
 rcases h with h | ⟨hz,p,A,n,c,xs,rfl,hp,hBp,hBA,c0,c1,hl,rest⟩
 ·exact .inl h
 ·have hh:∀ k,k≠B→(w.setCell ⟨B,i,none⟩ u).heap[k]?=w.heap[k]?:=fun k hk=>Below.heap_setCell w ⟨B,i,none⟩ u k hk
  refine .inr ⟨hz,p,A,n,c,xs,rfl,by simpa [World.setCell] using hp,hBp,hBA,(World.cell?_of_block (hh p (by omega))).trans c0,(World.cell?_of_block (hh p (by omega))).trans c1,⟨hl.1,hl.2.1,fun hn=>?_⟩,rest⟩
  obtain ⟨b,o,e,hb,hc⟩:=hl.2.2 hn
  exact ⟨b,o,e,by simpa [World.setCell] using hb,fun j u' hu=>(World.cell?_of_block (hh b (by have:=hBA _ e; simp at this; omega))).trans (hc j u' hu)⟩
theorem IsInt.mono {B B':Nat} {w:World} {v:Value} {z:Int} (h:IsInt B w v z) (hB:B'≤B):IsInt B' w v z:=by
 rcases h with h | ⟨hz,p,A,n,c,xs,rfl,hp,hBp,hBA,rest⟩
 ·exact .inl h
 ·exact .inr ⟨hz,p,A,n,c,xs,rfl,hp,by omega,fun a e=>Nat.le_trans hB (hBA a e),rest⟩
theorem IsInt.keep {B:Nat} {w w':World} {v:Value} {z:Int} (h:IsInt B w v z) (hb:Below w.heap.size w w'):IsInt B w' v z:=by
 rcases h with h | ⟨hz,p,A,n,c,xs,rfl,hp,hBp,hBA,c0,c1,hl,rest⟩
 ·exact .inl h
 ·exact .inr ⟨hz,p,A,n,c,xs,rfl,Nat.lt_of_lt_of_le hp hb.size,hBp,hBA,(hb.cell (p:=⟨p,0,none⟩) hp).trans c0,(hb.cell (p:=⟨p,1,none⟩) hp).trans c1,hl.keep hb,rest⟩
end Go.Proofs.YtekhdklbfincpaaGreatDoor
namespace Go.Proofs.YtekhdklbfincpaaGreatDoor
open Go.RowKit
def DM (z k q r:Int):Prop:=z=q*k+r∧((0≤r∧r<k)∨(k<r∧r≤0))
theorem dm_negneg {m m' u:Nat} (h:m=u*m'+0) (hr:0<m') (_e:(0:Nat)=0):DM (-(m:Int)) (-(m':Int)) (signZ false u) 0:=by
 rw [Nat.add_zero] at h
 unfold DM signZ
 simp only [Bool.false_eq_true,if_false,Int.mul_neg]
 rw [h]; push_cast
 refine ⟨by omega,?_⟩
 simp only [true_and,and_true]
 omega
theorem dm_negneg' {m m' u r:Nat} (h:m=u*m'+r) (hr:r<m'):DM (-(m:Int)) (-(m':Int)) (signZ false u) (signZ true r):=by
 unfold DM signZ
 simp only [Bool.false_eq_true,if_false,if_true,Int.mul_neg]
 rw [h]; push_cast
 omega
theorem dm_negpos {m m' u:Nat} (h:m=u*m'+0) (hr:0<m') (_e:(0:Nat)=0):DM (-(m:Int)) (m':Int) (signZ true u) 0:=by
 rw [Nat.add_zero] at h
 unfold DM signZ
 simp only [if_true,Int.neg_mul]
 rw [h]; push_cast
 refine ⟨by omega,?_⟩
 simp only [true_and,and_true]
 omega
theorem dm_negpos' {m m' u r:Nat} (h:m=u*m'+r) (hr:r<m') (h0:0<r):DM (-(m:Int)) (m':Int) (signZ true u - 1) (signZ true r+(m':Int)):=by
 unfold DM signZ
 simp only [if_true,Int.neg_mul,Int.sub_mul,Int.one_mul]
 rw [h]; push_cast
 omega
theorem dm_posneg {m m' u:Nat} (h:m=u*m'+0) (hr:0<m') (_e:(0:Nat)=0):DM (m:Int) (-(m':Int)) (signZ true u) 0:=by
 rw [Nat.add_zero] at h
 unfold DM signZ
 simp only [if_true,Int.neg_mul,Int.mul_neg,Int.neg_neg]
 rw [h]; push_cast
 refine ⟨by omega,?_⟩
 simp only [true_and,and_true]
 omega
theorem dm_posneg' {m m' u r:Nat} (h:m=u*m'+r) (hr:r<m') (h0:0<r):DM (m:Int) (-(m':Int)) (signZ true u - 1) (signZ false r+(-(m':Int))):=by
 unfold DM signZ
 simp only [Bool.false_eq_true,if_false,if_true,Int.neg_mul,Int.mul_neg,Int.sub_mul,Int.one_mul]
 rw [h]; push_cast
 omega
theorem dm_pospos {m m' u:Nat} (h:m=u*m'+0) (hr:0<m') (_e:(0:Nat)=0):DM (m:Int) (m':Int) (signZ false u) 0:=by
 rw [Nat.add_zero] at h
 unfold DM signZ
 simp only [Bool.false_eq_true,if_false]
 rw [h]; push_cast
 refine ⟨by omega,?_⟩
 simp only [true_and,and_true]
 omega
theorem dm_pospos' {m m' u r:Nat} (h:m=u*m'+r) (hr:r<m'):DM (m:Int) (m':Int) (signZ false u) (signZ false r):=by
 unfold DM signZ
 simp only [Bool.false_eq_true,if_false]
 rw [h]; push_cast
 omega
theorem dm_zeroneg {m' u:Nat} (h:0=u*m'+0) (hr:0<m') (_e:(0:Nat)=0):DM 0 (-(m':Int)) (signZ false u) 0:=by
 have h1:u*1≤u*m':=Nat.mul_le_mul_left _ hr
 obtain rfl:u=0:=by omega
 unfold DM signZ
 simp
 omega
theorem dm_zeropos {m' u:Nat} (h:0=u*m'+0) (hr:0<m') (_e:(0:Nat)=0):DM 0 (m':Int) (signZ false u) 0:=by
 have h1:u*1≤u*m':=Nat.mul_le_mul_left _ hr
 obtain rfl:u=0:=by omega
 unfold DM signZ
 simp
 omega
theorem dm_unique {z k q r q' r':Int} (h:DM z k q r) (h':DM z k q' r'):q=q'∧r=r':=by
 unfold DM at h h'
 have e:(q - q')*k=r' - r:=by rw [Int.sub_mul]; omega
 have hq:q - q'=0:=by
  rcases Int.lt_trichotomy (q - q') 0 with h1 | h1 | h1
  ·exfalso
   rcases Int.lt_or_le 0 k with hk | hk
   ·have:=Int.mul_le_mul_of_nonneg_right (show q - q'≤-1 by omega) (Int.le_of_lt hk)
    omega
   ·have:=Int.mul_le_mul_of_nonpos_right (show q - q'≤-1 by omega) hk
    omega
  ·exact h1
  ·exfalso
   rcases Int.lt_or_le 0 k with hk | hk
   ·have:=Int.mul_le_mul_of_nonneg_right (show 1≤q - q' by omega) (Int.le_of_lt hk)
    omega
   ·have:=Int.mul_le_mul_of_nonpos_right (show 1≤q - q' by omega) hk
    omega
 rw [hq,Int.zero_mul] at e
 omega
theorem dm_keep {z k:Int} {m m':Nat} (hm:z.natAbs=m) (hm':k.natAbs=m') (hk:k≠0) (h:m % m'=0∨(decide (z<0) != decide (k<0))=false):DM z k (signZ (decide (z<0) != decide (k<0)) (m / m')) (signZ (decide (z<0)) (m % m')):=by
 have hp:0<m':=by omega
 have hd:=Nat.div_add_mod m m'
 have hl:=Nat.mod_lt m hp
 generalize m / m'=u at *
 generalize m % m'=r at *
 rw [Nat.mul_comm] at hd
 by_cases hz:z<0 <;> by_cases hk2:k<0
 ·obtain rfl:z=-(m:Int):=by omega
  obtain rfl:k=-(m':Int):=by omega
  rw [decide_eq_true hz,decide_eq_true hk2]
  exact dm_negneg' hd.symm hl
 ·obtain rfl:z=-(m:Int):=by omega
  obtain rfl:k=(m':Int):=by omega
  rw [decide_eq_true hz,decide_eq_false hk2] at h ⊢
  obtain rfl:r=0:=by
   rcases h with h | h
   ·exact h
   ·cases h
  exact dm_negpos hd.symm hl rfl
 ·obtain rfl:z=(m:Int):=by omega
  obtain rfl:k=-(m':Int):=by omega
  rw [decide_eq_false hz,decide_eq_true hk2] at h ⊢
  obtain rfl:r=0:=by
   rcases h with h | h
   ·exact h
   ·cases h
  exact dm_posneg hd.symm hl rfl
 ·obtain rfl:z=(m:Int):=by omega
  obtain rfl:k=(m':Int):=by omega
  rw [decide_eq_false hz,decide_eq_false hk2]
  exact dm_pospos' hd.symm hl
theorem dm_turn {z k:Int} {m m':Nat} (hm:z.natAbs=m) (hm':k.natAbs=m') (hk:k≠0) (h0:m % m'≠0) (h:(decide (z<0) != decide (k<0))=true):DM z k (signZ (decide (z<0) != decide (k<0)) (m / m') - 1) (signZ (decide (z<0)) (m % m')+k):=by
 have hp:0<m':=by omega
 have hd:=Nat.div_add_mod m m'
 have hl:=Nat.mod_lt m hp
 rw [h]
 generalize m / m'=u at *
 generalize m % m'=r at *
 rw [Nat.mul_comm] at hd
 by_cases hz:z<0 <;> by_cases hk2:k<0
 ·simp [hz,hk2] at h
 ·obtain rfl:z=-(m:Int):=by omega
  obtain rfl:k=(m':Int):=by omega
  rw [decide_eq_true hz]
  exact dm_negpos' hd.symm hl (by omega)
 ·obtain rfl:z=(m:Int):=by omega
  obtain rfl:k=-(m':Int):=by omega
  rw [decide_eq_false hz]
  exact dm_posneg' hd.symm hl (by omega)
 ·simp [hz,hk2] at h
end Go.Proofs.YtekhdklbfincpaaGreatDoor
