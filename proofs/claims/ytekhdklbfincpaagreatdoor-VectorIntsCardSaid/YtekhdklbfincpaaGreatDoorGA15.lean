/- GA15: RatA -/
import Derived.Test.YtekhdklbfincpaaGreatDoorGA04
import Derived.Test.YtekhdklbfincpaaGreatDoorGA14
set_option maxRecDepth 100000
set_option maxHeartbeats 16000000
namespace Go.Proofs.YtekhdklbfincpaaGreatDoor
open Go.RowKit
theorem rat_low {n:Int} {d:Nat} (hd:0<d) (hc:Nat.gcd n.natAbs d=1) {N D:Int} (hD:D≠0) (h:n*D=N*d):(Rat.divInt N D).num=n∧(Rat.divInt N D).den=d:=by
 have e:Rat.divInt N D=⟨n,d,by omega,hc⟩:=by
  rw [Rat.mk_eq_divInt,Rat.divInt_eq_divInt_iff hD (by omega)]
  exact h.symm
 rw [e]
 exact ⟨rfl,rfl⟩
theorem nat_dvd_int {g:Nat} {n:Int} (h:g∣n.natAbs):∃ c:Int,n=g*c:=Int.ofNat_dvd_left.2 h
theorem rat_make {n:Int} {k:Nat} (hk:0<k):(Rat.divInt n k).num=n / (Nat.gcd n.natAbs k:Nat)∧(Rat.divInt n k).den=k / Nat.gcd n.natAbs k:=by
 have hg:0<Nat.gcd n.natAbs k:=Nat.gcd_pos_of_pos_right _ hk
 obtain ⟨c,hc⟩:=nat_dvd_int (Nat.gcd_dvd_left n.natAbs k)
 obtain ⟨d,hd⟩:=Nat.gcd_dvd_right n.natAbs k
 obtain ⟨g,hge⟩:∃ g,Nat.gcd n.natAbs k=g:=⟨_,rfl⟩
 have hgi:(g:Int)≠0:=by omega
 have hcop:Nat.gcd c.natAbs d=1:=by
  have h1:=hge
  rw [hge] at hc hd
  rw [hc,hd,Int.natAbs_mul,Int.natAbs_natCast,Nat.gcd_mul_left] at h1
  have h2:g*Nat.gcd c.natAbs d=g*1:=by omega
  exact Nat.eq_of_mul_eq_mul_left (by omega) h2
 rw [hge] at hc hd hg ⊢
 have hd0:0<d:=by
  rcases Nat.eq_zero_or_pos d with h | h
  ·rw [h] at hd; omega
  ·exact h
 have h:=rat_low (N:=n) (D:=k) hd0 hcop (by omega) (by rw [hc,hd]; push_cast; simp only [Int.mul_comm,Int.mul_left_comm])
 rw [h.1,h.2]
 refine ⟨?_,?_⟩
 ·rw [hc,Int.mul_ediv_cancel_left _ hgi]
 ·rw [hd,Nat.mul_div_cancel_left _ hg]
theorem rat_neg (n k:Int):Rat.divInt (-n) (-k)=Rat.divInt n k:=Rat.neg_divInt_neg n k
theorem rat_self (q:Rat):Rat.divInt q.num q.den=q:=Rat.num_divInt_den q
def denZ (d:Nat):Int:=if d=1 then 0 else (d:Int)
theorem denZ_one:denZ 1=0:=rfl
theorem denZ_ne {d:Nat} (h:d≠1):denZ d=(d:Int):=by unfold denZ; rw [if_neg h]
theorem rat_add (a b:Rat) {g c:Nat} {n:Int} {x y:Nat} (hg:Nat.gcd a.den b.den=g) (hx:a.den / g=x) (hy:b.den / g=y) (hn:a.num*y+b.num*x=n) (hc:Nat.gcd n.natAbs g=c) :
  (a+b).num=n / c∧((a+b).den:Int)=x*(b.den / c:Nat):=by
 have ha:=a.den_pos
 have hb:=b.den_pos
 have hgp:0<g:=by rw [← hg]; exact Nat.gcd_pos_of_pos_left _ ha
 have aux:=Rat.add.aux a b hg.symm hx.symm hy.symm
 simp only at aux
 rw [hn,hc] at aux
 have hax:a.den=x*g:=by rw [← hx,Nat.div_mul_cancel (hg ▸ Nat.gcd_dvd_left _ _)]
 have hby:b.den=y*g:=by rw [← hy,Nat.div_mul_cancel (hg ▸ Nat.gcd_dvd_right _ _)]
 have hxp:0<x:=by
  rcases Nat.eq_zero_or_pos x with h | h
  ·rw [h] at hax; omega
  ·exact h
 have hD:0<x*b.den:=Nat.mul_pos hxp hb
 have e:a+b=Rat.divInt n ((x*b.den:Nat):Int):=by
  have e0:=Rat.divInt_add_divInt a.num b.num (d₁:=a.den) (d₂:=b.den) (by omega) (by omega)
  rw [rat_self,rat_self] at e0
  rw [e0,Rat.divInt_eq_divInt_iff (by rw [← Int.natCast_mul]; exact Int.ofNat_ne_zero.2 (Nat.ne_of_gt (Nat.mul_pos ha hb))) (Int.ofNat_ne_zero.2 (Nat.ne_of_gt hD)),← hn]
  have e1:(a.den:Int)=x*g:=by rw [hax]; push_cast; rfl
  have e2:(b.den:Int)=y*g:=by rw [hby]; push_cast; rfl
  push_cast
  rw [e1,e2]
  simp only [Int.mul_add,Int.mul_assoc,Int.mul_comm,Int.mul_left_comm]
 rw [e]
 obtain ⟨h1,h2⟩:=rat_make (n:=n) hD
 rw [← aux] at h1 h2
 refine ⟨h1,?_⟩
 have hcd:c∣b.den:=Nat.dvd_trans (hc ▸ Nat.gcd_dvd_right _ _) (hg ▸ Nat.gcd_dvd_right _ _)
 rw [h2,Nat.mul_div_assoc _ hcd,Int.natCast_mul]
structure Cells (w:World) (p:Nat) (vs:List Value):Prop where
 at_:∀ i,w.cell? ⟨p,i,none⟩=vs[i]?
 fz:∀ i,w.frozen? ⟨p,i,none⟩=false
 lt:p<w.heap.size
theorem Cells.keep {w w':World} {p:Nat} {vs:List Value} (h:Cells w p vs) (hb:Below w.heap.size w w'):Cells w' p vs:=
 ⟨fun i=>(hb.cell (p:=⟨p,i,none⟩) h.lt).trans (h.at_ i),fun i=>(hb.frozen (p:=⟨p,i,none⟩) h.lt).trans (h.fz i),Nat.lt_of_lt_of_le h.lt hb.size⟩
theorem Cells.of_row {w:World} {p:Nat} {vs:Array Value} {T:TypeId} (h:w.heap[p]?=some (.cells vs T (0,0))):Cells w p vs.toList:=by
 refine ⟨fun i=>by rw [cell_of_row _ _ _ _ _ _ h]; simp,fun i=>by simp [World.frozen?,h],?_⟩
 rcases Nat.lt_or_ge p w.heap.size with h1 | h1
 ·exact h1
 ·rw [Array.getElem?_eq_none h1] at h; cases h
theorem Cells.new (w:World) (vs:Array Value) (T:TypeId):Cells (w.alloc (.cells vs T)) w.heap.size vs.toList:=Cells.of_row (heap_new w _)
theorem Cells.set {w:World} {p:Nat} {vs:List Value} (h:Cells w p vs) (i:Nat) (u:Value) (hi:i<vs.length):Cells (w.setCell ⟨p,i,none⟩ u) p (vs.set i u):=by
 refine ⟨fun k=>?_,fun k=>by rw [World.frozen?_setCell]; exact h.fz k,by simpa [World.setCell] using h.lt⟩
 by_cases hk:k=i
 ·subst hk
  rw [World.cell?_setCell_same _ _ _ ((h.at_ k).trans (List.getElem?_eq_getElem hi))]
  simp [hi]
 ·rw [World.cell?_setCell_other _ _ _ _ (by simp <;> omega),h.at_ k,List.getElem?_set_ne (by omega)]
theorem Cells.other {w:World} {p q:Nat} {vs:List Value} (h:Cells w p vs) (hq:p≠q) (i:Nat) (u:Value):Cells (w.setCell ⟨q,i,none⟩ u) p vs:=by
 have hb:=Below.heap_setCell w ⟨q,i,none⟩ u p hq
 exact ⟨fun k=>(World.cell?_of_block hb).trans (h.at_ k),fun k=>by rw [World.frozen?_setCell]; exact h.fz k,by simpa [World.setCell] using h.lt⟩
def plainV:Value→Bool
 | .int .i64 _=>true
 | .pointer _=>true
 | _=>false
theorem Cells.plain {w:World} {p:Nat} {vs:List Value} (h:Cells w p vs) (hp:vs.all plainV=true) (i:Nat) {x:Value} (hx:w.cell? ⟨p,i,none⟩=some x):plainV x=true:=by
 rw [h.at_ i] at hx
 exact List.all_eq_true.1 hp x (List.mem_of_getElem? hx)
theorem IsInt.wrote {w w':World} {v:Value} {z:Int} {p:Nat} {vs:List Value} (h:IsInt 0 w v z) (hc:Cells w p vs) (hp:vs.all plainV=true) (hs:w'.heap.size=w.heap.size) (hk:∀ k,k≠p→w'.heap[k]?=w.heap[k]?):IsInt 0 w' v z:=by
 rcases h with h | ⟨hz,q,A,n,c,xs,rfl,hq,hB,hA,c0,c1,hl,hcc,hn,hw,ht,hv⟩
 ·exact .inl h
 ·have hqp:q≠p:=by
   intro e
   subst e
   have:=hc.plain hp 0 c0
   cases this
  refine .inr ⟨hz,q,A,n,c,xs,rfl,by omega,hB,hA,(World.cell?_of_block (hk q hqp)).trans c0,(World.cell?_of_block (hk q hqp)).trans c1,⟨hl.1,hl.2.1,fun h0=>?_⟩,hcc,hn,hw,ht,hv⟩
  obtain ⟨b,o,e,hb,hcell⟩:=hl.2.2 h0
  have hlen:=hl.1
  rw [u64s_length] at hlen
  have hbp:b≠p:=by
   intro e2
   subst e2
   have h1:=hcell 0 (.int .u64 ((xs.getD 0 0:Nat):Int)) (by simp [u64s,show 0<xs.length by omega])
   have:=hc.plain hp _ h1
   cases this
  exact ⟨b,o,e,by omega,fun j u hu=>(World.cell?_of_block (hk b hbp)).trans (hcell j u hu)⟩
structure RatV (w:World) (a:Int) (P:Option Addr) (b:Int) (Q:Option Addr) (q:Rat):Prop where
 num:IsInt 0 w (.agg #[.int .i64 a,.pointer P]) q.num
 den:IsInt 0 w (.agg #[.int .i64 b,.pointer Q]) (denZ q.den)
theorem RatV.keep {w w':World} {a b:Int} {P Q:Option Addr} {q:Rat} (h:RatV w a P b Q q) (hb:Below w.heap.size w w'):RatV w' a P b Q q:=⟨h.num.keep hb,h.den.keep hb⟩
theorem RatV.wrote {w w':World} {a b:Int} {P Q:Option Addr} {q:Rat} {p:Nat} {vs:List Value} (h:RatV w a P b Q q) (hc:Cells w p vs) (hp:vs.all plainV=true) (hs:w'.heap.size=w.heap.size) (hk:∀ k,k≠p→w'.heap[k]?=w.heap[k]?):RatV w' a P b Q q:=
 ⟨h.num.wrote hc hp hs hk,h.den.wrote hc hp hs hk⟩
def put2 (w:World) (p:Nat) (x y:Value):World:=(w.setCell ⟨p,0,none⟩ x).setCell ⟨p,1,none⟩ y
def put4 (w:World) (p:Nat) (x y z u:Value):World:=(((w.setCell ⟨p,0,none⟩ x).setCell ⟨p,1,none⟩ y).setCell ⟨p,2,none⟩ z).setCell ⟨p,3,none⟩ u
theorem put2_heap (w:World) (p:Nat) (x y:Value):(put2 w p x y).heap.size=w.heap.size∧∀ k,k≠p→(put2 w p x y).heap[k]?=w.heap[k]?:=
 ⟨by simp [put2,World.setCell],fun k hk=>(Below.heap_setCell _ ⟨p,1,none⟩ y k hk).trans (Below.heap_setCell w ⟨p,0,none⟩ x k hk)⟩
theorem put4_heap (w:World) (p:Nat) (x y z u:Value):(put4 w p x y z u).heap.size=w.heap.size∧∀ k,k≠p→(put4 w p x y z u).heap[k]?=w.heap[k]?:=
 ⟨by simp [put4,World.setCell],fun k hk=>(Below.heap_setCell _ ⟨p,3,none⟩ u k hk).trans ((Below.heap_setCell _ ⟨p,2,none⟩ z k hk).trans ((Below.heap_setCell _ ⟨p,1,none⟩ y k hk).trans (Below.heap_setCell w ⟨p,0,none⟩ x k hk)))⟩
theorem below_put2 {w0 w:World} {p:Nat} (h:Below w0.heap.size w0 w) (hp:w0.heap.size≤p) (x y:Value):Below w0.heap.size w0 (put2 w p x y):=
 (h.setCell (p:=⟨p,0,none⟩) hp x).setCell (p:=⟨p,1,none⟩) hp y
theorem below_put4 {w0 w:World} {p:Nat} (h:Below w0.heap.size w0 w) (hp:w0.heap.size≤p) (x y z u:Value):Below w0.heap.size w0 (put4 w p x y z u):=
 (((h.setCell (p:=⟨p,0,none⟩) hp x).setCell (p:=⟨p,1,none⟩) hp y).setCell (p:=⟨p,2,none⟩) hp z).setCell (p:=⟨p,3,none⟩) hp u
theorem Cells.put2 {w:World} {p:Nat} {v0 v1:Value} (h:Cells w p [v0,v1]) (x y:Value):Cells (put2 w p x y) p [x,y]:=(h.set 0 x (by simp)).set 1 y (by simp)
theorem Cells.put4 {w:World} {p:Nat} {v0 v1 v2 v3:Value} (h:Cells w p [v0,v1,v2,v3]) (x y z u:Value):Cells (put4 w p x y z u) p [x,y,z,u]:=
 (((h.set 0 x (by simp)).set 1 y (by simp)).set 2 z (by simp)).set 3 u (by simp)
theorem Cells.put2_other {w:World} {p q:Nat} {vs:List Value} (h:Cells w p vs) (hq:p≠q) (x y:Value):Cells (Go.Proofs.YtekhdklbfincpaaGreatDoor.put2 w q x y) p vs:=(h.other hq 0 x).other hq 1 y
theorem Cells.c0 {w:World} {p:Nat} {v0:Value} {vs:List Value} (h:Cells w p (v0 :: vs)):w.cell? ⟨p,0,none⟩=some v0:=h.at_ 0
theorem Cells.c1 {w:World} {p:Nat} {v0 v1:Value} {vs:List Value} (h:Cells w p (v0 :: v1 :: vs)):w.cell? ⟨p,1,none⟩=some v1:=h.at_ 1
theorem Cells.c2 {w:World} {p:Nat} {v0 v1 v2:Value} {vs:List Value} (h:Cells w p (v0 :: v1 :: v2 :: vs)):w.cell? ⟨p,2,none⟩=some v2:=h.at_ 2
theorem Cells.c3 {w:World} {p:Nat} {v0 v1 v2 v3:Value} {vs:List Value} (h:Cells w p (v0 :: v1 :: v2 :: v3 :: vs)):w.cell? ⟨p,3,none⟩=some v3:=h.at_ 3
def NewRat (q:Rat) (w:World) (e:Ending) (w':World):Prop:=
 ∃ (a:Int) (P:Option Addr) (b:Int) (Q:Option Addr),e= .returned (.agg #[.int .i64 a,.pointer P,.int .i64 b,.pointer Q])∧RatV w' a P b Q q∧Below w.heap.size w w'
theorem small_int {w:World} {n:Int} (h:I64 n):IsInt 0 w (.agg #[.int .i64 n,.pointer none]) n:= .inl ⟨h,rfl⟩
theorem isOne_any (a:Int) (P:Option Addr) (z:Int) (w:World) (h:IsInt 0 w (.agg #[.int .i64 a,.pointer P]) z) :
  Calls Tryz.prog 105 #[.agg #[.int .i64 a,.pointer P]] w fun e w'=>e= .returned (.bool (decide (z=1)))∧Below w.heap.size w w':=by
 have kk:=(Below.refl w.heap.size w).alloc (Nat.le_refl _) (.cells #[.int .i64 a,.pointer P] 28)
 have Hi:=Lh (intZ_any a P z _ (h.keep kk))
 have Kk:=Lh kk
 clear h kk
 by_cases hz:z=1
 ·subst hz
  go_enter Tryz.func105,Tryz.ntmps105
  go_wp2_with fail
  refine Hi.out.mono ?_
  rintro e w1 ⟨⟨n,b,rfl,h1,_⟩,h2⟩
  obtain ⟨rfl,rfl⟩:=h1 ⟨by decide,by decide⟩
  have K1:=Lh (below_on Kk.out h2)
  clear h1 h2
  go_wp2
  go_ret
  exact ⟨rfl,K1.out⟩
 ·have t1:decide (z=1)=false:=decide_eq_false hz
  rw [t1]
  clear t1
  go_enter Tryz.func105,Tryz.ntmps105
  go_wp2_with fail
  refine Hi.out.mono ?_
  rintro e w1 ⟨⟨n,b,rfl,h1,h3⟩,h2⟩
  have K1:=Lh (below_on Kk.out h2)
  by_cases h64:I64 z
  ·obtain ⟨rfl,rfl⟩:=h1 h64
   have t0:(n == 1)=false:=by rw [beq_eq_false_iff_ne]; exact hz
   clear h1 h2 h3 hz h64
   go_wp2
   go_ret
   exact ⟨rfl,K1.out⟩
  ·obtain ⟨rfl,rfl⟩:=h3 h64
   clear h1 h2 h3 hz h64
   go_wp2
   go_ret
   exact ⟨rfl,K1.out⟩
theorem of_any (a:Int) (P:Option Addr) (b:Int) (Q:Option Addr) (q:Rat) (w:World) (h:IsInt 0 w (.agg #[.int .i64 a,.pointer P]) q.num) (h':IsInt 0 w (.agg #[.int .i64 b,.pointer Q]) (q.den:Int)) :
  Calls Tryz.prog 68 #[.agg #[.int .i64 a,.pointer P],.agg #[.int .i64 b,.pointer Q]] w (NewRat q w):=by
 have kk:=(((Below.refl w.heap.size w).alloc (Nat.le_refl _) (.cells #[.int .i64 a,.pointer P] 28)).alloc (by simp) (.cells #[.int .i64 b,.pointer Q] 28)).alloc (by simp; omega) (.cells #[.int .i64 0,.pointer none,.int .i64 0,.pointer none] 30)
 have V0:=Lh (((Cells.new w #[.int .i64 a,.pointer P] 28).keep ((Below.refl _ _).alloc (Nat.le_refl _) (.cells #[.int .i64 b,.pointer Q] 28))).keep ((Below.refl _ _).alloc (Nat.le_refl _) (.cells #[.int .i64 0,.pointer none,.int .i64 0,.pointer none] 30)))
 have V1:=Lh ((Cells.new (w.alloc (.cells #[.int .i64 a,.pointer P] 28)) #[.int .i64 b,.pointer Q] 28).keep ((Below.refl _ _).alloc (Nat.le_refl _) (.cells #[.int .i64 0,.pointer none,.int .i64 0,.pointer none] 30)))
 have R:=Lh (Cells.new ((w.alloc (.cells #[.int .i64 a,.pointer P] 28)).alloc (.cells #[.int .i64 b,.pointer Q] 28)) #[.int .i64 0,.pointer none,.int .i64 0,.pointer none] 30)
 simp only [World.size_alloc] at V1 R
 have Hn:=Lh (h.keep kk)
 have Hd:=Lh (h'.keep kk)
 have Hone:=Lh (isOne_any b Q (q.den:Int) _ (h'.keep kk))
 have Kk:=Lh kk
 clear h h' kk
 have c10:=V1.out.c0
 have c11:=V1.out.c1
 by_cases hd:q.den=1
 ·rw [show decide ((q.den:Int)=1)=true by rw [hd]; rfl] at Hone
  have Hd1:=Lh hd
  clear hd
  go_enter Tryz.func68,Tryz.ntmps68
  go_wp2_with fail
  refine Hone.out.mono ?_
  rintro e w1 ⟨rfl,h1⟩
  have V0:=Lh (V0.out.keep h1)
  have R:=Lh (R.out.keep h1)
  have Hn:=Lh (Hn.out.keep h1)
  have K1:=Lh (below_on Kk.out h1)
  clear h1 c10 c11
  have c0:=V0.out.c0
  have c1:=V0.out.c1
  have k0:=R.out.c0
  have k1:=R.out.c1
  have k2:=R.out.c2
  have k3:=R.out.c3
  have f0:=R.out.fz 0
  have f1:=R.out.fz 1
  have f2:=R.out.fz 2
  have f3:=R.out.fz 3
  have HN:=Lh (Hn.out.wrote R.out (by rfl) (put4_heap w1 (w.heap.size+1+1) (.int .i64 a) (.pointer P) (.int .i64 0) (.pointer none)).1 (put4_heap _ _ _ _ _ _).2)
  have K2:=Lh (below_put4 K1.out (show w.heap.size≤w.heap.size+1+1 by omega) (.int .i64 a) (.pointer P) (.int .i64 0) (.pointer none))
  go_wp2
  exact bodyPost_ret (v:= .agg #[.int .i64 a,.pointer P,.int .i64 0,.pointer none]) (by simp [results,Tryz.results68,go_sem,k0,k1,k2,k3]) rfl ⟨a,P,0,none,rfl,⟨HN.out,by rw [Hd1.out,denZ_one]; exact small_int ⟨by decide,by decide⟩⟩,K2.out⟩
 ·rw [show decide ((q.den:Int)=1)=false from decide_eq_false (by omega)] at Hone
  have Hd1:=Lh hd
  clear hd
  go_enter Tryz.func68,Tryz.ntmps68
  go_wp2_with fail
  refine Hone.out.mono ?_
  rintro e w1 ⟨rfl,h1⟩
  have V0:=Lh (V0.out.keep h1)
  have V1:=Lh (V1.out.keep h1)
  have R:=Lh (R.out.keep h1)
  have Hn:=Lh (Hn.out.keep h1)
  have Hd:=Lh (Hd.out.keep h1)
  have K1:=Lh (below_on Kk.out h1)
  clear h1 c10 c11
  have c0:=V0.out.c0
  have c1:=V0.out.c1
  have c10:=V1.out.c0
  have c11:=V1.out.c1
  have k0:=R.out.c0
  have k1:=R.out.c1
  have k2:=R.out.c2
  have k3:=R.out.c3
  have f0:=R.out.fz 0
  have f1:=R.out.fz 1
  have f2:=R.out.fz 2
  have f3:=R.out.fz 3
  have HN:=Lh (Hn.out.wrote R.out (by rfl) (put4_heap w1 (w.heap.size+1+1) (.int .i64 a) (.pointer P) (.int .i64 b) (.pointer Q)).1 (put4_heap _ _ _ _ _ _).2)
  have HD:=Lh (Hd.out.wrote R.out (by rfl) (put4_heap w1 (w.heap.size+1+1) (.int .i64 a) (.pointer P) (.int .i64 b) (.pointer Q)).1 (put4_heap _ _ _ _ _ _).2)
  have K2:=Lh (below_put4 K1.out (show w.heap.size≤w.heap.size+1+1 by omega) (.int .i64 a) (.pointer P) (.int .i64 b) (.pointer Q))
  go_wp2
  exact bodyPost_ret (v:= .agg #[.int .i64 a,.pointer P,.int .i64 b,.pointer Q]) (by simp [results,Tryz.results68,go_sem,k0,k1,k2,k3]) rfl ⟨a,P,b,Q,rfl,⟨HN.out,by rw [denZ_ne Hd1.out]; exact HD.out⟩,K2.out⟩
end Go.Proofs.YtekhdklbfincpaaGreatDoor
