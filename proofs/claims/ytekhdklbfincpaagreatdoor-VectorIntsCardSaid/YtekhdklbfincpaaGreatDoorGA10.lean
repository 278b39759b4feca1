/- GA10: Sub -/
import Derived.Test.YtekhdklbfincpaaGreatDoorGA09
set_option maxRecDepth 100000
set_option maxHeartbeats 16000000
namespace Go.Proofs.YtekhdklbfincpaaGreatDoor
open Go.RowKit
def SubInv (w0:World) (g o n:Nat) (xs ys:List Nat) (k:Nat) (vc:Value) (wr:World):Prop:=
 ∃ (rs:List Nat) (c:Nat),rs.length=k∧k≤n∧vc= .int .u64 (c:Nat)∧c≤1∧Words rs∧natVal rs+natVal (ys.take k)=natVal ((xs.drop o).take k)+base k*c∧Blk wr g (put xs o rs)∧Only g w0 wr
theorem sub_step {w0 wr:World} {g o n k x y c s f m:Nat} {xs ys rs:List Nat} (hk:rs.length=k) (hkn:k<n) (ho:o+n≤xs.length) (hx:xs.getD (o+k) 0=x) (hy:ys.getD k 0=y) (hx1:x<18446744073709551616) (hy1:y<18446744073709551616) (hc:c≤1)
  (hs:(x+18446744073709551616 - y - c) % 18446744073709551616=s) (hf:(if x<y+c then 1 else 0)=f) (hw:Words rs) (hv:natVal rs+natVal (ys.take k)=natVal ((xs.drop o).take k)+base k*c) (hb:Blk wr g (put xs o rs)) (ho2:Only g w0 wr) :
  SubInv w0 g o n xs ys (k+1) (.int .u64 (f:Int)) ((wr.drewN m).setCell ⟨g,o+k,none⟩ (.int .u64 (s:Int))):=by
 have e1:s+y+c=x+18446744073709551616*f:=by
  by_cases h1:x<y+c
  ·rw [if_pos h1] at hf; omega
  ·rw [if_neg h1] at hf; omega
 have e0:f≤1:=by rw [← hf]; split <;> omega
 refine ⟨rs ++ [s],f,by simp; omega,by omega,rfl,e0,words_snoc hw (by omega),?_,?_,(ho2.drewN m).set_ _ _⟩
 ·rw [natVal_snoc,hk,take_next (by omega) hx,natVal_snoc,take_len (by omega),take_up0 hy,base_succ]
  have e2:base k*x+18446744073709551616*base k*f=base k*(s+y+c):=by rw [e1]; simp only [Nat.mul_add,Nat.mul_assoc,Nat.mul_left_comm]
  rw [Nat.mul_add,Nat.mul_add] at e2
  omega
 ·subst hk
  rw [← put_set (by omega)]
  exact (hb.drewN m).set_ _ (by rw [put_length (by omega)]; omega)
theorem sub_room {k n c:Nat} {xs ys rs:List Nat} {o:Nat} (hw:Words rs) (hk:rs.length=k) (hkn:k≤n) (hyk:ys.length≤k) (hc:c≠0) (hv:natVal rs+natVal (ys.take k)=natVal ((xs.drop o).take k)+base k*c) (hroom:natVal ys≤natVal ((xs.drop o).take n)):k<n:=by
 rcases Nat.lt_or_ge k n with h | h
 ·exact h
 ·exfalso
  obtain rfl:k=n:=by omega
  rw [List.take_of_length_le hyk] at hv
  have h1:base k*1≤base k*c:=Nat.mul_le_mul_left _ (by omega)
  have h2:=natVal_lt hw
  rw [hk] at h2
  omega
theorem sub_fin {wr:World} {g o n k:Nat} {xs ys rs:List Nat} (hx:Words xs) (hk:rs.length=k) (hkn:k≤n) (ho:o+n≤xs.length) (hyk:ys.length≤k) (hw:Words rs) (hv:natVal rs+natVal (ys.take k)=natVal ((xs.drop o).take k)+base k*0) (hb:Blk wr g (put xs o rs)) :
  ∃ zs:List Nat,zs.length=n∧Words zs∧natVal zs+natVal ys=natVal ((xs.drop o).take n)∧Blk wr g (put xs o zs):=by
 refine ⟨rs ++ ((xs.drop o).take n).drop rs.length,by simp; omega,words_append hw (words_drop (words_take (words_drop hx o) n) _),?_,by rw [← put_rest (by omega) ho]; exact hb⟩
 rw [List.take_of_length_le hyk] at hv
 rw [natVal_append,hk,natVal_split ((xs.drop o).take n) k,List.take_take,Nat.min_eq_left hkn,take_len (by omega)]
 omega
theorem subInto_any (g o n c n' c':Nat) (A':Option Addr) (xs ys:List Nat) (w:World) (hb:Blk w g xs) (hl:IsL w A' n' c' (u64s ys)) (hA:0<n'→∀ a:Addr,A'=some a→a.block≠g) (ho:o+n≤xs.length) (hn':n'≤n) (hx:Words xs) (hy:Words ys) (hn:n<1000000) (_hoo:o<1000000)
  (hroom:natVal ys≤natVal ((xs.drop o).take n)) :
  Calls Tryz.prog 172 #[.slice (some ⟨g,o,none⟩) n c,.slice A' n' c'] w fun e w'=>
   e= .returned (.tuple #[])∧(∃ zs:List Nat,zs.length=n∧Words zs∧natVal zs+natVal ys=natVal ((xs.drop o).take n)∧Blk w' g (put xs o zs))∧Only g w w':=by
 have hlen:ys.length=n':=by have:=hl.1; rwa [u64s_length] at this
 have Hb:=Lh hb
 have Hx:=Lh hx
 have Hy:=Lh hy
 have Hl:=Lh hl
 have HA:=Lh hA
 have Hlen:=Lh hlen
 have Hroom:=Lh hroom
 clear hb hx hy hl hA hlen hroom
 go_enter Tryz.func172,Tryz.ntmps172
 go_wp2_with fail
 go_loopw [9,4] (fun vi vc wr=>∃ k:Nat,k≤n'∧vi= .int .i64 (k:Nat)∧SubInv w g o n xs ys k vc wr) (fun vi _ _=>n' - (intOf vi).toNat)
 case atStart=>exact ⟨0,Nat.zero_le _,rfl,[],0,rfl,Nat.zero_le _,rfl,Nat.zero_le _,fun d hd=>absurd hd (by simp),by simp [natVal,base_zero],by rw [put_nil]; exact Hb.out,Only.refl _ _⟩
 case round=>
  obtain ⟨k,hk,rfl,rs,cc,hrk,hkn,rfl,hc1,hw,hv,hblk,honly⟩:=hrel
  have Hrk:=Lh hrk
  have Hw:=Lh hw
  have Hv:=Lh hv
  have Hblk:=Lh hblk
  have Honly:=Lh honly
  by_cases hlt:k<n'
  ·obtain ⟨b',o',rfl,hb',hc'⟩:=Hl.out.2.2 (by omega)
   have hne:b'≠g:=HA.out (by omega) _ rfl
   have hcell:=hblk.cell (i:=o+k) (by rw [put_length (by omega)]; omega)
   rw [put_get (by omega) (by omega)] at hcell
   have hfz:=hblk.frozen (o+k)
   have hcy:=(honly.cell (o:=o'+k) hb' hne).trans (hc' k (.int .u64 ((ys.getD k 0:Nat):Int)) (by have:=Hlen.out; simp [u64s,show k<ys.length by omega]))
   have hx1:=word_at Hx.out (o+k)
   have hy1:=word_at Hy.out k
   obtain ⟨x,hx⟩:∃ x,xs.getD (o+k) 0=x:=⟨_,rfl⟩
   obtain ⟨y,hy⟩:∃ y,ys.getD k 0=y:=⟨_,rfl⟩
   rw [hx] at hcell hx1
   rw [hy] at hcy
   rw [hy] at hy1
   have HX:=Lh hx
   have HY:=Lh hy
   clear hc' hblk honly hw hv hrk hx hy
   obtain ⟨s,hs⟩:∃ s,(x+18446744073709551616 - y - cc) % 18446744073709551616=s:=⟨_,rfl⟩
   obtain ⟨f,hf⟩:∃ f,(if x<y+cc then 1 else 0)=f:=⟨_,rfl⟩
   have hsub:∀ W:World,(callFunc 167 #[.int .u64 (x:Int),.int .u64 (y:Int),.int .u64 (cc:Int)]).run Tryz.prog W= .ok (.value (.tuple #[.int .u64 (s:Int),.int .u64 (f:Int)])) W:=sub64_at x y cc s f hc1 hs hf
   have Hs:=Lh hs
   have Hf:=Lh hf
   clear hs hf
   go_wp2_with fail
   go_region
   all_goals
    have Hfin:=Lh (sub_step (m:=1) Hrk.out (show k<n by omega) ho HX.out HY.out hx1 hy1 hc1 Hs.out Hf.out Hw.out Hv.out Hblk.out Honly.out)
    go_wp2_with fail
    exact ⟨⟨k+1,hlt,by go_num,Hfin.out⟩,by simp [intOf] <;> omega⟩
  ·obtain rfl:k=n':=by omega
   have Hinv:=Lh (show SubInv w g o n xs ys k (.int .u64 (cc:Nat)) wr from ⟨rs,cc,Hrk.out,hkn,rfl,hc1,Hw.out,Hv.out,Hblk.out,Honly.out⟩)
   clear hblk honly hw hv hrk
   go_wp2_with fail
   go_loopw [6,4] (fun vi vc wr=>∃ j:Nat,k≤j∧vi= .int .i64 (j:Nat)∧SubInv w g o n xs ys j vc wr) (fun vi _ _=>n - (intOf vi).toNat)
   case atStart=>exact ⟨k,Nat.le_refl _,rfl,Hinv.out⟩
   case round=>
    obtain ⟨j,hj,rfl,rs,cc,hrk,hkn,rfl,hc1,hw,hv,hblk,honly⟩:=hrel
    have Hrk:=Lh hrk
    have Hw:=Lh hw
    have Hv:=Lh hv
    have Hblk:=Lh hblk
    have Honly:=Lh honly
    have hyj:ys.length≤j:=by rw [Hlen.out]; exact hj
    by_cases h0:cc=0
    ·subst h0
     have Hfin:=Lh (sub_fin Hx.out hrk hkn ho hyj hw hv hblk)
     clear hblk honly hw hv hrk hyj
     go_wp2
     go_end0
     exact ⟨rfl,Hfin.out,Honly.out⟩
    ·have hlt:=sub_room hw hrk hkn hyj h0 hv Hroom.out
     have hcell:=hblk.cell (i:=o+j) (by rw [put_length (by omega)]; omega)
     rw [put_get (by omega) (by omega)] at hcell
     have hfz:=hblk.frozen (o+j)
     have hx1:=word_at Hx.out (o+j)
     obtain ⟨x,hx⟩:∃ x,xs.getD (o+j) 0=x:=⟨_,rfl⟩
     have hy:ys.getD j 0=0:=by simp [List.getD,List.getElem?_eq_none hyj]
     rw [hx] at hcell hx1
     have HX:=Lh hx
     have HY:=Lh hy
     have t0:((cc:Int) == 0)=false:=by rw [beq_eq_false_iff_ne]; omega
     clear hblk honly hw hv hrk hx hy hyj
     obtain ⟨s,hs⟩:∃ s,(x+18446744073709551616 - 0 - cc) % 18446744073709551616=s:=⟨_,rfl⟩
     obtain ⟨f,hf⟩:∃ f,(if x<0+cc then 1 else 0)=f:=⟨_,rfl⟩
     have hsub:∀ W:World,(callFunc 167 #[.int .u64 (x:Int),.int .u64 0,.int .u64 (cc:Int)]).run Tryz.prog W= .ok (.value (.tuple #[.int .u64 (s:Int),.int .u64 (f:Int)])) W:=sub64_at x 0 cc s f hc1 hs hf
     have Hs:=Lh hs
     have Hf:=Lh hf
     clear hs hf
     have Hfin:=Lh (sub_step (m:=0) Hrk.out hlt ho HX.out HY.out hx1 (by decide) hc1 Hs.out Hf.out Hw.out Hv.out Hblk.out Honly.out)
     go_wp2_with fail
     exact ⟨⟨j+1,by omega,by go_num,Hfin.out⟩,by simp [intOf] <;> omega⟩
end Go.Proofs.YtekhdklbfincpaaGreatDoor
