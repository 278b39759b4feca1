/- GA39: Vprf -/
import Derived.Test.YtekhdklbfincpaaGreatDoorGA38
set_option maxRecDepth 100000
set_option maxHeartbeats 16000000
namespace Go.Proofs.YtekhdklbfincpaaGreatDoor
open Go.RowKit
theorem gcd_lt {a b T:Nat} (ha:a<T) (hb:b<T):Nat.gcd a b<T:=by
 rcases Nat.eq_zero_or_pos b with h | h
 ·rw [h,Nat.gcd_zero_right]; exact ha
 ·exact Nat.lt_of_le_of_lt (Nat.gcd_le_right _ h) hb
def qK (q0 q1 q2:Rat):Nat→Rat
 | 0=>q0
 | 1=>q1
 | _=>q2
def ovK (f:Nat→Rat):Nat→Nat
 | 0=>0
 | k+1=>Nat.gcd (ovK f k) (f k).num.natAbs
def unK (f:Nat→Rat):Nat→Nat
 | 0=>1
 | k+1=>unK f k*((f k).den / Nat.gcd (unK f k) (f k).den)
theorem ovK_lt {f:Nat→Rat} {m:Nat} (hf:∀ k,Few (f k) m):∀ k,ovK f k<ten m
 | 0=>Nat.lt_of_le_of_lt (Nat.zero_le _) (hf 0).d
 | k+1=>gcd_lt (ovK_lt hf k) (hf k).n
theorem unK_lt {f:Nat→Rat} {m:Nat} (hf:∀ k,Few (f k) m):∀ k,unK f k<ten (k*m+1)
 | 0=>by unfold unK; rw [Nat.zero_mul]; decide
 | k+1=>by
  unfold unK
  have e:(k+1)*m+1=(k*m+1)+m:=by rw [Nat.add_mul]; omega
  rw [e,ten_add]
  exact Nat.mul_lt_mul'' (unK_lt hf k) (Nat.lt_of_le_of_lt (Nat.div_le_self _ _) (hf k).d)
theorem rnum_any (a:Int) (P:Option Addr) (b:Int) (Q:Option Addr) (q:Rat) (w:World) (h:RatV w a P b Q q) :
  Calls Tryz.prog 84 #[.agg #[.int .i64 a,.pointer P,.int .i64 b,.pointer Q]] w (NewInt q.num w):=by
 have kk:=((Below.refl w.heap.size w).alloc (Nat.le_refl _) (.cells #[.int .i64 a,.pointer P,.int .i64 b,.pointer Q] 30)).alloc (by simp) (.cells #[.int .i64 a,.pointer P] 28)
 have Hn:=Lh (h.num.keep kk)
 have K:=Lh kk
 clear h kk
 go_enter Tryz.func84,Tryz.ntmps84
 go_wp2
 exact bodyPost_ret (v:= .agg #[.int .i64 a,.pointer P]) (by simp [results,Tryz.results84,go_sem]) rfl ⟨a,P,rfl,Hn.out,K.out⟩
structure VI2 (w:World) (p:Nat) (a:Int) (P:Option Addr) (z:Int):Prop where
 hold:Hold w p a P
 int:IsInt 0 w (.agg #[.int .i64 a,.pointer P]) z
theorem VI2.c0 {w:World} {p:Nat} {a z:Int} {P:Option Addr} (h:VI2 w p a P z):w.cell? ⟨p,0,none⟩=some (.int .i64 a):=h.hold.c0
theorem VI2.c1 {w:World} {p:Nat} {a z:Int} {P:Option Addr} (h:VI2 w p a P z):w.cell? ⟨p,1,none⟩=some (.pointer P):=h.hold.c1
theorem VI2.keep {w w':World} {p:Nat} {a z:Int} {P:Option Addr} (h:VI2 w p a P z) (hb:Below w.heap.size w w'):VI2 w' p a P z:=⟨h.hold.keep hb,h.int.keep hb⟩
theorem VI2.fresh {n:Int} (w:World) (hn:I64 n):VI2 (w.alloc (.cells #[.int .i64 n,.pointer none] 28)) w.heap.size n none n:=⟨Hold.new w n none,small_int hn⟩
theorem VI2.make {w:World} {p:Nat} {a b z:Int} {P Q:Option Addr} (h:Hold w p a P) (hi:IsInt 0 w (.agg #[.int .i64 b,.pointer Q]) z):VI2 ((w.setCell ⟨p,0,none⟩ (.int .i64 b)).setCell ⟨p,1,none⟩ (.pointer Q)) p b Q z:=⟨h.store b Q,hi.held h _ _⟩
theorem VI2.put {w:World} {p:Nat} {a b z z':Int} {P Q:Option Addr} (h:VI2 w p a P z) (hi:IsInt 0 w (.agg #[.int .i64 b,.pointer Q]) z'):VI2 ((w.setCell ⟨p,0,none⟩ (.int .i64 b)).setCell ⟨p,1,none⟩ (.pointer Q)) p b Q z':=VI2.make h.hold hi
theorem VI2.held {w:World} {q p:Nat} {b a z:Int} {Q P:Option Addr} (h:VI2 w q b Q z) (hr:Hold w p a P) (hq:q≠p) (x y:Value):VI2 ((w.setCell ⟨p,0,none⟩ x).setCell ⟨p,1,none⟩ y) q b Q z:=⟨h.hold.other hq x y,h.int.held hr x y⟩
theorem ratV_held {w:World} {p:Nat} {a c d:Int} {P C D:Option Addr} {q:Rat} (h:RatV w c C d D q) (hr:Hold w p a P) (x y:Value):RatV ((w.setCell ⟨p,0,none⟩ x).setCell ⟨p,1,none⟩ y) c C d D q:=⟨h.num.held hr x y,h.den.held hr x y⟩
def DmAt (w:World) (t:Value) (z k:Int):Prop:=∃ (x:Int) (X:Option Addr) (y:Int) (Y:Option Addr),t= .tuple #[.agg #[.int .i64 x,.pointer X],.agg #[.int .i64 y,.pointer Y],.int .i64 0]∧IsInt 0 w (.agg #[.int .i64 x,.pointer X]) z∧IsInt 0 w (.agg #[.int .i64 y,.pointer Y]) k
theorem DmAt.keep {w w':World} {t:Value} {z k:Int} (h:DmAt w t z k) (hb:Below w.heap.size w w'):DmAt w' t z k:=by
 obtain ⟨x,X,y,Y,e,hx,hy⟩:=h
 exact ⟨x,X,y,Y,e,hx.keep hb,hy.keep hb⟩
theorem DmAt.heldI {w:World} {t:Value} {z k:Int} {p:Nat} {a:Int} {P:Option Addr} (h:DmAt w t z k) (hr:Hold w p a P) {u v:Value}:DmAt ((w.setCell ⟨p,0,none⟩ u).setCell ⟨p,1,none⟩ v) t z k:=by
 obtain ⟨x,X,y,Y,e,hx,hy⟩:=h
 exact ⟨x,X,y,Y,e,hx.held hr _ _,hy.held hr _ _⟩
theorem IntAt.heldI {w:World} {t:Value} {z:Int} {p:Nat} {a:Int} {P:Option Addr} (h:IntAt w t z) (hr:Hold w p a P) {u v:Value}:IntAt ((w.setCell ⟨p,0,none⟩ u).setCell ⟨p,1,none⟩ v) t z:=by
 obtain ⟨x,X,e,hx⟩:=h
 exact ⟨x,X,e,hx.held hr _ _⟩
theorem PtrI.heldI {b:Nat} {w:World} {t:Value} {p:Nat} {a:Int} {P:Option Addr} (h:PtrI b w t) (_hr:Hold w p a P) (hne:t≠ .pointer (some ⟨p,0,none⟩)) {u v:Value}:PtrI b ((w.setCell ⟨p,0,none⟩ u).setCell ⟨p,1,none⟩ v) t:=by
 obtain ⟨q,rfl,hq,hh⟩:=h
 exact ⟨q,rfl,hq,hh.other (fun e=>hne (by rw [e])) _ _⟩
def VI2At (b:Nat) (w:World) (t:Value) (z:Int):Prop:=∃ (p:Nat) (x:Int) (X:Option Addr),t= .pointer (some ⟨p,0,none⟩)∧b≤p∧VI2 w p x X z
theorem VI2At.keep {b:Nat} {w w':World} {t:Value} {z:Int} (h:VI2At b w t z) (hb:Below w.heap.size w w'):VI2At b w' t z:=by
 obtain ⟨p,x,X,e,hp,hv⟩:=h
 exact ⟨p,x,X,e,hp,hv.keep hb⟩
theorem VI2At.heldI {b:Nat} {w:World} {t:Value} {z:Int} {p:Nat} {a:Int} {P:Option Addr} (h:VI2At b w t z) (hr:Hold w p a P) (hne:t≠ .pointer (some ⟨p,0,none⟩)) {u v:Value}:VI2At b ((w.setCell ⟨p,0,none⟩ u).setCell ⟨p,1,none⟩ v) t z:=by
 obtain ⟨q,x,X,rfl,hq,hh⟩:=h
 exact ⟨q,x,X,rfl,hq,hh.held hr (fun e=>hne (by rw [e])) _ _⟩
theorem ptrs_ne {b:Nat} {w:World} {t:Value} {z:Int} {c:Bool} (h1:c=false→PtrI b w t) (h2:c=true→VI2At b w t z):t≠ .pointer (some ⟨w.heap.size,0,none⟩):=by
 cases c with
 | false=>exact (h1 rfl).ne
 | true=>
  obtain ⟨p,x,X,rfl,_,hv⟩:=h2 rfl
  intro e
  have hl:=hv.hold.lt
  injection e with e
  injection e with e
  injection e with e
  exact absurd e (Nat.ne_of_lt hl)
theorem divN_any (a b:Int) (P Q:Option Addr) (n g:Nat) (w:World) (h:IsInt 0 w (.agg #[.int .i64 a,.pointer P]) ((n:Nat):Int)) (h':IsInt 0 w (.agg #[.int .i64 b,.pointer Q]) ((g:Nat):Int)) (hg:0<g) (hn:n<base 390) (hl:g<base 390) :
  Calls Tryz.prog 85 #[.agg #[.int .i64 a,.pointer P],.agg #[.int .i64 b,.pointer Q]] w fun e w'=>∃ (x:Int) (X:Option Addr) (y:Int) (Y:Option Addr),e= .returned (.tuple #[.agg #[.int .i64 x,.pointer X],.agg #[.int .i64 y,.pointer Y],.int .i64 0])∧IsInt 0 w' (.agg #[.int .i64 x,.pointer X]) ((n / g:Nat):Int)∧IsInt 0 w' (.agg #[.int .i64 y,.pointer Y]) ((n % g:Nat):Int)∧Below w.heap.size w w':=by
 refine (divmod_any a b P Q ((n:Nat):Int) ((g:Nat):Int) w h h' (by omega) (by rw [Int.natAbs_natCast]; exact hn) (by rw [Int.natAbs_natCast]; exact hl)).mono ?_
 rintro e w' ⟨x,X,y,Y,q,r,rfl,hq,hr,hd,hb⟩
 have h2:DM ((n:Nat):Int) ((g:Nat):Int) ((n / g:Nat):Int) ((n % g:Nat):Int):=by
  have h1:=Nat.div_add_mod n g
  have h3:=Nat.mod_lt n hg
  refine ⟨?_,.inl ⟨by omega,by omega⟩⟩
  rw [← Int.natCast_mul,← Int.natCast_add,Nat.mul_comm,h1]
 obtain ⟨rfl,rfl⟩:=dm_unique hd h2
 exact ⟨x,X,y,Y,rfl,hq,hr,hb⟩
theorem vprimF_any (x0 x1 x2:R4) (q0 q1 q2:Rat) (d:Nat) (w:World) (h:VecV w x0 x1 x2 q0 q1 q2) (f:Few3 d q0 q1 q2) (hd:3*d+1≤300) (hz:cmpV q0 q1 q2 0 0 0≠0) (hi:¬ (IsI q0∧IsI q1∧IsI q2)) (ho:ovK (qK q0 q1 q2) 3≠0) (hg:Good w) :
  Calls Tryz.prog 47 #[vecVal x0 x1 x2] w (PrimPost (Rat.divInt (unK (qK q0 q1 q2) 3) (ovK (qK q0 q1 q2) 3)*q0) (Rat.divInt (unK (qK q0 q1 q2) 3) (ovK (qK q0 q1 q2) 3)*q1) (Rat.divInt (unK (qK q0 q1 q2) 3) (ovK (qK q0 q1 q2) 3)*q2) w):=by
 have m:=f.mid (show d≤900 by omega)
 have kb:=((Below.refl w.heap.size w).alloc (Nat.le_refl _) (.cells #[.int .i64 x0.1,.pointer x0.2.1,.int .i64 x0.2.2.1,.pointer x0.2.2.2,.int .i64 x1.1,.pointer x1.2.1,.int .i64 x1.2.2.1,.pointer x1.2.2.2,.int .i64 x2.1,.pointer x2.2.1,.int .i64 x2.2.2.1,.pointer x2.2.2.2] 32)).alloc (by simp) (.cells #[.int .i64 0,.pointer none,.int .i64 0,.pointer none,.int .i64 0,.pointer none,.int .i64 0,.pointer none,.int .i64 0,.pointer none,.int .i64 0,.pointer none] 32)
 have C0:=(box_vec w x0 x1 x2).keep ((Below.refl _ _).alloc (Nat.le_refl _) (.cells #[.int .i64 0,.pointer none,.int .i64 0,.pointer none,.int .i64 0,.pointer none,.int .i64 0,.pointer none,.int .i64 0,.pointer none,.int .i64 0,.pointer none] 32))
 have C1:=box_vec (w.alloc (.cells #[.int .i64 x0.1,.pointer x0.2.1,.int .i64 x0.2.2.1,.pointer x0.2.2.2,.int .i64 x1.1,.pointer x1.2.1,.int .i64 x1.2.2.1,.pointer x1.2.2.2,.int .i64 x2.1,.pointer x2.2.1,.int .i64 x2.2.2.1,.pointer x2.2.2.2] 32)) zero4 zero4 zero4
 simp only [World.size_alloc] at C1
 have HZ:=vzero_any x0 x1 x2 q0 q1 q2 _ (h.keep kb) m
 rw [show (cmpV q0 q1 q2 0 0 0 == 0)=false by rw [beq_eq_false_iff_ne]; exact hz] at HZ
 obtain ⟨W,hW⟩:∃ u,(w.alloc (.cells #[.int .i64 x0.1,.pointer x0.2.1,.int .i64 x0.2.2.1,.pointer x0.2.2.2,.int .i64 x1.1,.pointer x1.2.1,.int .i64 x1.2.2.1,.pointer x1.2.2.2,.int .i64 x2.1,.pointer x2.2.1,.int .i64 x2.2.2.1,.pointer x2.2.2.2] 32)).alloc (.cells #[.int .i64 0,.pointer none,.int .i64 0,.pointer none,.int .i64 0,.pointer none,.int .i64 0,.pointer none,.int .i64 0,.pointer none,.int .i64 0,.pointer none] 32)=u:=⟨_,rfl⟩
 simp only [zero4] at C1
 rw [hW] at kb C0 C1 HZ
 have Kb:=Lh kb
 have C:=Lh C0
 have R:=Lh (show Cells W (w.heap.size+1) (flat [zero4,zero4,zero4]) from C1)
 have HZ:=Lh HZ
 have HI:=Lh (fun w' (hb:Below w.heap.size w w')=>vints_any x0 x1 x2 q0 q1 q2 w' (h.keep hb))
 have Hi:=Lh hi
 have H:=Lh h
 have Hd:=Lh hd
 have HM:=Lh m
 have Hw:=Lh (fun w' (hb:Below w.heap.size w w')=>hg.below hb)
 have hf:∀ k,Few (qK q0 q1 q2 k) d:=by
  intro k
  match k with
  | 0=>exact f.x
  | 1=>exact f.y
  | k+2=>exact f.z
 have HF:=Lh hf
 have HO:=Lh (ovK_lt hf)
 have HU:=Lh (unK_lt hf)
 have HN:=Lh ho
 have hq0:qK q0 q1 q2 0=q0:=rfl
 have hq1:qK q0 q1 q2 1=q1:=rfl
 have hq2:qK q0 q1 q2 2=q2:=rfl
 have Hq:=Lh (And.intro hq0 (And.intro hq1 hq2))
 obtain ⟨F,hF⟩:∃ F,F=qK q0 q1 q2:=⟨_,rfl⟩
 rw [← hF] at HF HO HU HN Hq ⊢
 obtain ⟨z0,hz0⟩:∃ z,Rat.divInt (unK F 3) (ovK F 3)*q0=z:=⟨_,rfl⟩
 obtain ⟨z1,hz1⟩:∃ z,Rat.divInt (unK F 3) (ovK F 3)*q1=z:=⟨_,rfl⟩
 obtain ⟨z2,hz2⟩:∃ z,Rat.divInt (unK F 3) (ovK F 3)*q2=z:=⟨_,rfl⟩
 rw [hz0,hz1,hz2]
 have Hz:=Lh (And.intro hz0 (And.intro hz1 hz2))
 clear hi hd hg f hf ho hq0 hq1 hq2 hF hz0 hz1 hz2
 clear h m hz kb C0 C1
 obtain ⟨m0,m1,m2,m3,m4,m5,m6,m7,m8,m9,m10,m11⟩:=Cells.r12 (p:=w.heap.size) C.out
 unfold vecVal at *
 go_enter Tryz.func47,Tryz.ntmps47
 go_wp2_with fail
 try simp only [hW]
 refine HZ.out.mono ?_
 rintro e w1 ⟨rfl,h1⟩
 have C:=Lh (C.out.keep h1)
 have R:=Lh (R.out.keep h1)
 have K1:=Lh (below_on Kb.out h1)
 clear hW h1 m0 m1 m2 m3 m4 m5 m6 m7 m8 m9 m10 m11 HZ
 obtain ⟨m0,m1,m2,m3,m4,m5,m6,m7,m8,m9,m10,m11⟩:=Cells.r12 (p:=w.heap.size) C.out
 go_wp2_with fail
 refine (HI.out _ K1.out).mono ?_
 rintro e w2 ⟨n0,n1,n2,E,rfl,_,hn,h2⟩
 have hE:=(hn Hi.out).2.2.2
 clear hn
 subst hE
 have kv:=(Below.refl w2.heap.size w2).alloc (Nat.le_refl _) (.cells #[.int .i64 n0,.int .i64 n1,.int .i64 n2] 40)
 have C:=Lh ((C.out.keep h2).keep kv)
 have R:=Lh ((R.out.keep h2).keep kv)
 have K2:=Lh (below_on (below_on K1.out h2) kv)
 clear h2 kv m0 m1 m2 m3 m4 m5 m6 m7 m8 m9 m10 m11
 go_wp2_with fail
 refine (from_any 1 _).mono ?_
 rintro e w3 ⟨rfl,h3⟩
 have C:=Lh (C.out.keep h3)
 have R:=Lh (R.out.keep h3)
 have K3:=Lh (below_on K2.out h3)
 have l0:=Lh (show VI2 _ w3.heap.size 0 none ((ovK F 0:Nat):Int) from VI2.fresh w3 ⟨by decide,by decide⟩)
 have kq:=(Below.refl _ _).alloc (Nat.le_refl (w3.alloc (.cells #[.int .i64 0,.pointer none] 28)).heap.size) (.cells #[.int .i64 1,.pointer none] 28)
 have O:=Lh (l0.out.keep kq)
 have U:=VI2.fresh (n:=1) (w3.alloc (.cells #[.int .i64 0,.pointer none] 28)) ⟨by decide,by decide⟩
 simp only [World.size_alloc] at U
 have U:=Lh (show VI2 _ (w3.heap.size+1) 1 none ((unK F 0:Nat):Int) from U)
 have Hb:=Lh (((Below.refl w3.heap.size w3).alloc (Nat.le_refl _) (.cells #[.int .i64 0,.pointer none] 28)).alloc (by simp) (.cells #[.int .i64 1,.pointer none] 28))
 obtain ⟨m0,m1,m2,m3,m4,m5,m6,m7,m8,m9,m10,m11⟩:=Cells.r12 (p:=w.heap.size) (C.out.keep ((((Below.refl w3.heap.size w3).alloc (Nat.le_refl _) (.cells #[.int .i64 0,.pointer none] 28)).alloc (by simp) (.cells #[.int .i64 1,.pointer none] 28))))
 clear h3 kq l0
 go_wp2_with fail
 go_loopw [46] (fun v wr=>∃ (k:Nat) (z oa:Int) (oP:Option Addr) (ua:Int) (uP:Option Addr),k≤3∧z=(k:Int)∧v= .int .i64 z∧VI2 wr w3.heap.size oa oP ((ovK F k:Nat):Int)∧VI2 wr (w3.heap.size+1) ua uP ((unK F k:Nat):Int)∧Below w3.heap.size w3 wr) (fun v _=>3 - (intOf v).toNat)
 case atStart=>exact ⟨0,0,_,_,_,_,by decide,rfl,rfl,O.out,U.out,Hb.out⟩
 case round=>
  clear m0 m1 m2 m3 m4 m5 m6 m7 m8 m9 m10 m11
  obtain ⟨k,z,oa,oP,ua,uP,hk,hzk,rfl,ho,hu,hb⟩:=hrel
  have O:=Lh ho
  have U:=Lh hu
  have Bk:=Lh hb
  clear ho hu hb
  by_cases hk3:k<3
  ·obtain ⟨xv,hxv,hxi⟩:∃ xv:R4,VAt w xv (F k)∧∀ W:World,(Instr.index 32 (.agg #[.int .i64 x0.1,.pointer x0.2.1,.int .i64 x0.2.2.1,.pointer x0.2.2.2,.int .i64 x1.1,.pointer x1.2.1,.int .i64 x1.2.2.1,.pointer x1.2.2.2,.int .i64 x2.1,.pointer x2.2.1,.int .i64 x2.2.2.1,.pointer x2.2.2.2]) (.int .i64 z)).run Tryz.prog W= .ok (.agg #[.int .i64 xv.1,.pointer xv.2.1,.int .i64 xv.2.2.1,.pointer xv.2.2.2]) W:=by
    obtain rfl | rfl | rfl:k=0∨k=1∨k=2:=by omega
    ·subst hzk; exact ⟨x0,Hq.out.1 ▸ H.out.x,fun W=>rfl⟩
    ·subst hzk; exact ⟨x1,Hq.out.2.1 ▸ H.out.y,fun W=>rfl⟩
    ·subst hzk; exact ⟨x2,Hq.out.2.2 ▸ H.out.z,fun W=>rfl⟩
   have hz3:z<3:=by omega
   have hz0:0≤z:=by omega
   have HF:=Lh (HF.out k)
   have HO:=Lh (HO.out k)
   have HU:=Lh (HU.out k)
   have Hzk:=Lh hzk
   have Hk3:=Lh hk3
   have hT:=Lh (show k*d+1≤900 by have:k*d≤3*d:=Nat.mul_le_mul_right d hk; have:=Hd.out; omega)
   have hT2:=Lh (show d≤900 by have:=Hd.out; omega)
   have kv:=(Below.refl wr.heap.size wr).alloc (Nat.le_refl _) (.cells #[.int .i64 xv.1,.pointer xv.2.1,.int .i64 xv.2.2.1,.pointer xv.2.2.2] 30)
   have X:=Cells.new wr #[.int .i64 xv.1,.pointer xv.2.1,.int .i64 xv.2.2.1,.pointer xv.2.2.2] 30
   have XR:=(hxv.keep (below_on K3.out Bk.out)).keep kv
   have hO:=O.out.keep kv
   have hU:=U.out.keep kv
   have hB:=below_on Bk.out kv
   have hlt:=U.out.hold.lt
   obtain ⟨pb,hpb⟩:∃ p,wr.heap.size=p:=⟨_,rfl⟩
   obtain ⟨wa,hwa⟩:∃ u,wr.alloc (.cells #[.int .i64 xv.1,.pointer xv.2.1,.int .i64 xv.2.2.1,.pointer xv.2.2.2] 30)=u:=⟨_,rfl⟩
   rw [hwa] at X XR hO hU hB
   rw [hpb] at X hlt
   have O:=Lh hO
   have U:=Lh hU
   have Bk:=Lh hB
   have X:=Lh (show Cells wa pb [.int .i64 xv.1,.pointer xv.2.1,.int .i64 xv.2.2.1,.pointer xv.2.2.2] from X)
   have XR:=Lh XR
   have Hpb:=Lh (show w3.heap.size+2≤pb from hlt)
   clear kv hO hU hB hlt hxv hk hzk hk3
   have HS:=Lh (fun w' (hb:Below wa.heap.size wa w')=>(⟨(O.out.keep hb).c0,(O.out.keep hb).c1,(X.out.keep hb).c0,(X.out.keep hb).c1,(X.out.keep hb).c2,(X.out.keep hb).c3⟩:w'.cell? ⟨w3.heap.size,0,none⟩=some (.int .i64 oa)∧w'.cell? ⟨w3.heap.size,1,none⟩=some (.pointer oP)∧w'.cell? ⟨pb,0,none⟩=some (.int .i64 xv.1)∧w'.cell? ⟨pb,1,none⟩=some (.pointer xv.2.1)∧w'.cell? ⟨pb,2,none⟩=some (.int .i64 xv.2.2.1)∧w'.cell? ⟨pb,3,none⟩=some (.pointer xv.2.2.2)))
   have HN1:=Lh (fun v (hb:Below wa.heap.size wa v)=>rnum_any _ _ _ _ (F k) v (XR.out.keep hb))
   have HG1:=Lh (fun x X v (hb:Below wa.heap.size wa v) (hi:IsInt 0 v (.agg #[.int .i64 x,.pointer X]) (F k).num)=>(show Calls Tryz.prog 83 #[.agg #[.int .i64 oa,.pointer oP],.agg #[.int .i64 x,.pointer X]] v (NewInt ((ovK F (k+1):Nat):Int) v) from by
    have hw:=Hw.out v (below_on K3.out (below_on Bk.out hb))
    have h:=gcd_any oa x oP X ((ovK F k:Nat):Int) (F k).num v (O.out.keep hb).int hi (by rw [Int.natAbs_natCast]; exact base_up (Nat.lt_of_lt_of_le HO.out (Nat.le_trans (ten_le hT2.out) ten900)) (by decide)) (base_up (HF.out.n47 hT2.out) (by decide)) hw.2 (Nat.lt_of_le_of_lt (Nat.zero_le _) hw.size)
    rw [Int.natAbs_natCast] at h
    exact h))
   go_upto_region 10 with fail
   try simp only [hpb,hwa]
   refine Till.begin 4 (fun w'=>w'.cell? ⟨w3.heap.size,0,none⟩=some (.int .i64 oa)∧w'.cell? ⟨w3.heap.size,1,none⟩=some (.pointer oP)∧w'.cell? ⟨pb,0,none⟩=some (.int .i64 xv.1)∧w'.cell? ⟨pb,1,none⟩=some (.pointer xv.2.1)∧w'.cell? ⟨pb,2,none⟩=some (.int .i64 xv.2.2.1)∧w'.cell? ⟨pb,3,none⟩=some (.pointer xv.2.2.2)) (by kernel_rfl) (HS.out _ (Below.refl _ _).drew) (fun hH=>?_)
   refine Till.tk 0 3 49 (.agg #[.int .i64 oa,.pointer oP]) hH ?_
   try simp only [Act.put,Pls]
   refine Till.tk 1 2 50 (.agg #[.int .i64 xv.1,.pointer xv.2.1,.int .i64 xv.2.2.1,.pointer xv.2.2.2]) hH ?_
   try simp only [Act.put,Pls]
   clear hH
   have B0:=Lh (Below.refl wa.heap.size wa).drew
   generalize wa.drew=v0 at B0 ⊢
   refine Till.phaseP [2,3] #[true,true,true,true,false] 1 (fun a0 dn an v=>∃ t2 t3:Value,an=puts a0 [(51,t2),(52,t3)]∧Below wa.heap.size wa v∧(dn 2=true→IntAt v t2 ((F k).num))∧(dn 3=true→IntAt v t3 (((ovK F (k+1):Nat):Int)))) rfl (by kernel_rfl) (by rintro dn an v ⟨_,_,rfl,hB,_⟩; exact HS.out _ hB) ⟨_,_,rfl,B0.out,(fun h=>absurd h (by decide)),(fun h=>absurd h (by decide))⟩ ⟨⟨_,rfl,?_⟩,⟨_,rfl,?_⟩,trivial⟩ ?_
   ·rintro dn an v ⟨t2,t3,rfl,hB,F2,F3⟩ hi ha K hK
    replace hB:=Lh hB
    replace F2:=Lh F2
    replace F3:=Lh F3
    clear ha
    refine Pent.mk ?_
    try simp only [puts,Act.put,Pls]
    go_simp
    refine (HN1.out _ hB.out).mono ?_
    rintro e v1 ⟨x2,X2,rfl,hx,g⟩
    replace hx:=Lh hx
    replace g:=Lh g
    go_wp2_with fail
    exact hK.out _ _ ⟨.agg #[.int .i64 x2,.pointer X2],t3,(by kernel_rfl),below_on hB.out g.out,fun _=>⟨x2,X2,rfl,hx.out⟩,fun h=>(F3.out h).keep g.out⟩
   ·rintro dn an v ⟨t2,t3,rfl,hB,F2,F3⟩ hi ha K hK
    obtain ⟨x2,X2,rfl,I2⟩:=F2 (ha 2 (by kernel_rfl))
    replace hB:=Lh hB
    replace F2:=Lh F2
    replace F3:=Lh F3
    replace I2:=Lh I2
    clear ha
    refine Pent.mk ?_
    try simp only [puts,Act.put,Pls]
    go_simp
    refine (HG1.out _ _ _ hB.out I2.out).mono ?_
    rintro e v1 ⟨x3,X3,rfl,hx,g⟩
    replace hx:=Lh hx
    replace g:=Lh g
    go_wp2_with fail
    exact hK.out _ _ ⟨.agg #[.int .i64 x2,.pointer X2],.agg #[.int .i64 x3,.pointer X3],(by kernel_rfl),below_on hB.out g.out,fun h=>(F2.out h).keep g.out,fun _=>⟨x3,X3,rfl,hx.out⟩⟩
   ·rintro dn an v ⟨t2,t3,rfl,hB,F2,F3⟩ hE
    obtain ⟨x2,X2,rfl,I2⟩:=F2 (hE 2 (by decide))
    obtain ⟨x3,X3,rfl,I3⟩:=F3 (hE 3 (by decide))
    clear hE F2 F3
    replace hB:=Lh hB
    replace I2:=Lh I2
    replace I3:=Lh I3
    refine Pent.mk ?_
    try simp only [puts,Act.put,Pls]
    replace O:=Lh (O.out.keep hB.out)
    replace U:=Lh (U.out.keep hB.out)
    replace X:=Lh (X.out.keep hB.out)
    replace XR:=Lh (XR.out.keep hB.out)
    replace Bk:=Lh (below_on Bk.out hB.out)
    have f0:=O.out.hold.f0
    have f1:=O.out.hold.f1
    have c0:=O.out.hold.c0
    have c1:=O.out.hold.c1
    refine Till.one (i:=4) (by kernel_rfl) rfl (fun K hK=>?_)
    go_simp
    refine hK.out _ _ (fun h=>absurd h (by simp)) ?_
    clear hK K
    try simp only [Pls]
    refine Till.done (by kernel_rfl) ?_ _
    have hpb2:=Hpb.out
    have hO:=O.out.put I3.out
    have hU:=U.out.held O.out.hold (show w3.heap.size+1≠w3.heap.size by omega) (.int .i64 x3) (.pointer X3)
    have hX:=(X.out.other (show pb≠w3.heap.size by omega) 0 (.int .i64 x3)).other (show pb≠w3.heap.size by omega) 1 (.pointer X3)
    have hR:=ratV_held XR.out O.out.hold (.int .i64 x3) (.pointer X3)
    have hB2:=below_stored Bk.out (Nat.le_refl _) (.int .i64 x3) (.pointer X3)
    obtain ⟨wb,hwb⟩:∃ u,(v.setCell ⟨w3.heap.size,0,none⟩ (.int .i64 x3)).setCell ⟨w3.heap.size,1,none⟩ (.pointer X3)=u:=⟨_,rfl⟩
    rw [hwb] at hO hU hX hR hB2
    clear f0 f1 c0 c1 hpb2 HS HN1 HG1 B0
    replace O:=Lh hO
    replace U:=Lh hU
    replace X:=Lh hX
    replace XR:=Lh hR
    replace Bk:=Lh hB2
    replace HO:=Lh (gcd_lt HO.out HF.out.n)
    clear hO hU hX hR hB2 hB I2 I3
    have HS:=Lh (fun w' (hb:Below wb.heap.size wb w')=>(⟨(U.out.keep hb).c0,(U.out.keep hb).c1,(X.out.keep hb).c0,(X.out.keep hb).c1,(X.out.keep hb).c2,(X.out.keep hb).c3⟩:w'.cell? ⟨w3.heap.size+1,0,none⟩=some (.int .i64 ua)∧w'.cell? ⟨w3.heap.size+1,1,none⟩=some (.pointer uP)∧w'.cell? ⟨pb,0,none⟩=some (.int .i64 xv.1)∧w'.cell? ⟨pb,1,none⟩=some (.pointer xv.2.1)∧w'.cell? ⟨pb,2,none⟩=some (.int .i64 xv.2.2.1)∧w'.cell? ⟨pb,3,none⟩=some (.pointer xv.2.2.2)))
    have HN1:=Lh (fun v (hb:Below wb.heap.size wb v)=>den_any _ _ _ _ (F k) v (XR.out.keep hb))
    have HG1:=Lh (fun x X v (hb:Below wb.heap.size wb v) (hi:IsInt 0 v (.agg #[.int .i64 x,.pointer X]) (((F k).den:Nat):Int))=>(show Calls Tryz.prog 83 #[.agg #[.int .i64 ua,.pointer uP],.agg #[.int .i64 x,.pointer X]] v (NewInt ((Nat.gcd (unK F k) (F k).den:Nat):Int) v) from by
     have hw:=Hw.out v (below_on K3.out (below_on Bk.out hb))
     have h:=gcd_any ua x uP X ((unK F k:Nat):Int) (((F k).den:Nat):Int) v (U.out.keep hb).int hi (by rw [Int.natAbs_natCast]; exact base_up (Nat.lt_of_lt_of_le HU.out (Nat.le_trans (ten_le hT.out) ten900)) (by decide)) (by rw [Int.natAbs_natCast]; exact base_up (HF.out.d47 hT2.out) (by decide)) hw.2 (Nat.lt_of_le_of_lt (Nat.zero_le _) hw.size)
     rw [Int.natAbs_natCast,Int.natAbs_natCast] at h
     exact h))
    go_upto_region 11 with fail
    try simp only [hwb]
    refine Till.begin 5 (fun w'=>w'.cell? ⟨w3.heap.size+1,0,none⟩=some (.int .i64 ua)∧w'.cell? ⟨w3.heap.size+1,1,none⟩=some (.pointer uP)∧w'.cell? ⟨pb,0,none⟩=some (.int .i64 xv.1)∧w'.cell? ⟨pb,1,none⟩=some (.pointer xv.2.1)∧w'.cell? ⟨pb,2,none⟩=some (.int .i64 xv.2.2.1)∧w'.cell? ⟨pb,3,none⟩=some (.pointer xv.2.2.2)) (by kernel_rfl) (HS.out _ (Below.refl _ _).drew) (fun hH=>?_)
    refine Till.tk 0 3 53 (.agg #[.int .i64 ua,.pointer uP]) hH ?_
    try simp only [Act.put,Pls]
    refine Till.tk 1 2 54 (.agg #[.int .i64 xv.1,.pointer xv.2.1,.int .i64 xv.2.2.1,.pointer xv.2.2.2]) hH ?_
    try simp only [Act.put,Pls]
    clear hH
    have B0:=Lh (Below.refl wb.heap.size wb).drew
    generalize wb.drew=v0 at B0 ⊢
    refine Till.phaseP [2,3,4] #[true,true,true,true,true,false] 1 (fun a0 dn an v=>∃ t2 t3 t4:Value,an=puts a0 [(55,t2),(56,t3),(10,t4)]∧Below wb.heap.size wb v∧(dn 2=true→IntAt v t2 ((((F k).den:Nat):Int)))∧(dn 3=true→IntAt v t3 (((Nat.gcd (unK F k) (F k).den:Nat):Int)))∧(dn 4=true→PtrI wb.heap.size v t4)) rfl (by kernel_rfl) (by rintro dn an v ⟨_,_,_,rfl,hB,_⟩; exact HS.out _ hB) ⟨_,_,_,rfl,B0.out,(fun h=>absurd h (by decide)),(fun h=>absurd h (by decide)),(fun h=>absurd h (by decide))⟩ ⟨⟨_,rfl,?_⟩,⟨_,rfl,?_⟩,⟨_,rfl,?_⟩,trivial⟩ ?_
    ·rintro dn an v ⟨t2,t3,t4,rfl,hB,F2,F3,F4⟩ hi ha K hK
     replace hB:=Lh hB
     replace F2:=Lh F2
     replace F3:=Lh F3
     replace F4:=Lh F4
     clear ha
     refine Pent.mk ?_
     try simp only [puts,Act.put,Pls]
     go_simp
     refine (HN1.out _ hB.out).mono ?_
     rintro e v1 ⟨x2,X2,rfl,hx,g⟩
     replace hx:=Lh hx
     replace g:=Lh g
     go_wp2_with fail
     exact hK.out _ _ ⟨.agg #[.int .i64 x2,.pointer X2],t3,t4,(by kernel_rfl),below_on hB.out g.out,fun _=>⟨x2,X2,rfl,hx.out⟩,fun h=>(F3.out h).keep g.out,fun h=>(F4.out h).keep g.out⟩
    ·rintro dn an v ⟨t2,t3,t4,rfl,hB,F2,F3,F4⟩ hi ha K hK
     obtain ⟨x2,X2,rfl,I2⟩:=F2 (ha 2 (by kernel_rfl))
     replace hB:=Lh hB
     replace F2:=Lh F2
     replace F3:=Lh F3
     replace F4:=Lh F4
     replace I2:=Lh I2
     clear ha
     refine Pent.mk ?_
     try simp only [puts,Act.put,Pls]
     go_simp
     refine (HG1.out _ _ _ hB.out I2.out).mono ?_
     rintro e v1 ⟨x3,X3,rfl,hx,g⟩
     replace hx:=Lh hx
     replace g:=Lh g
     go_wp2_with fail
     exact hK.out _ _ ⟨.agg #[.int .i64 x2,.pointer X2],.agg #[.int .i64 x3,.pointer X3],t4,(by kernel_rfl),below_on hB.out g.out,fun h=>(F2.out h).keep g.out,fun _=>⟨x3,X3,rfl,hx.out⟩,fun h=>(F4.out h).keep g.out⟩
    ·rintro dn an v ⟨t2,t3,t4,rfl,hB,F2,F3,F4⟩ hi ha K hK
     replace hB:=Lh hB
     replace F2:=Lh F2
     replace F3:=Lh F3
     replace F4:=Lh F4
     clear ha
     refine Pent.mk ?_
     try simp only [puts,Act.put,Pls]
     have g:=Lh ((Below.refl v.heap.size v).alloc (Nat.le_refl _) (.cells #[.int .i64 0,.pointer none] 28))
     go_simp
     exact hK.out _ _ ⟨t2,t3,.pointer (some ⟨v.heap.size,0,none⟩),(by kernel_rfl),below_on hB.out g.out,fun h=>(F2.out h).keep g.out,fun h=>(F3.out h).keep g.out,fun _=>⟨v.heap.size,rfl,hB.out.size,Hold.new v 0 none⟩⟩
    ·rintro dn an v ⟨t2,t3,t4,rfl,hB,F2,F3,F4⟩ hE
     obtain ⟨x2,X2,rfl,I2⟩:=F2 (hE 2 (by decide))
     obtain ⟨x3,X3,rfl,I3⟩:=F3 (hE 3 (by decide))
     obtain ⟨p4,rfl,le4,N4⟩:=F4 (hE 4 (by decide))
     clear hE F2 F3 F4
     replace hB:=Lh hB
     replace I2:=Lh I2
     replace I3:=Lh I3
     replace N4:=Lh N4
     refine Pent.mk ?_
     try simp only [puts,Act.put,Pls]
     have hlO:=O.out.hold.lt
     have hlU:=U.out.hold.lt
     have hlX:=X.out.lt
     replace O:=Lh (O.out.keep hB.out)
     replace U:=Lh (U.out.keep hB.out)
     replace X:=Lh (X.out.keep hB.out)
     replace XR:=Lh (XR.out.keep hB.out)
     replace Bk:=Lh (below_on Bk.out hB.out)
     have f0:=N4.out.f0
     have f1:=N4.out.f1
     have c0:=N4.out.c0
     have c1:=N4.out.c1
     refine Till.one (i:=5) (by kernel_rfl) rfl (fun K hK=>?_)
     go_simp
     refine hK.out _ _ (fun h=>absurd h (by simp)) ?_
     clear hK K
     try simp only [Pls]
     refine Till.done (by kernel_rfl) ?_ _
     have hle:=le4
     have hO:=O.out.held N4.out (show w3.heap.size≠p4 by omega) (.int .i64 x3) (.pointer X3)
     have hU:=U.out.held N4.out (show w3.heap.size+1≠p4 by omega) (.int .i64 x3) (.pointer X3)
     have hX:=(X.out.other (show pb≠p4 by omega) 0 (.int .i64 x3)).other (show pb≠p4 by omega) 1 (.pointer X3)
     have hR:=ratV_held XR.out N4.out (.int .i64 x3) (.pointer X3)
     have hG:VI2 _ p4 x3 X3 ((Nat.gcd (unK F k) (F k).den:Nat):Int):=VI2.make N4.out I3.out
     have hB2:=below_stored Bk.out (show w3.heap.size≤p4 by omega) (.int .i64 x3) (.pointer X3)
     obtain ⟨wc,hwc⟩:∃ u,(v.setCell ⟨p4,0,none⟩ (.int .i64 x3)).setCell ⟨p4,1,none⟩ (.pointer X3)=u:=⟨_,rfl⟩
     rw [hwc] at hO hU hX hR hB2 hG
     clear f0 f1 c0 c1 hlO hlU hlX HS HN1 HG1 B0 hle
     replace O:=Lh hO
     replace U:=Lh hU
     replace X:=Lh hX
     replace XR:=Lh hR
     replace Bk:=Lh hB2
     have G:=Lh hG
     have gp:=Lh (show 0<Nat.gcd (unK F k) (F k).den from Nat.gcd_pos_of_pos_right _ (F k).den_pos)
     obtain ⟨gg,hgg⟩:∃ g,Nat.gcd (unK F k) (F k).den=g:=⟨_,rfl⟩
     have gl:=Lh (show gg<base 390 by rw [← hgg]; exact Nat.lt_of_le_of_lt (Nat.gcd_le_right _ (F k).den_pos) (base_up (HF.out.d47 hT2.out) (by decide)))
     have gv:=Lh (show (F k).den / gg*unK F k=unK F (k+1) by rw [← hgg,Nat.mul_comm]; rfl)
     rw [hgg] at G gp
     clear hO hU hX hR hB2 hG hgg hB I2 I3 N4
     have HS:=Lh (fun w' (hb:Below wc.heap.size wc w')=>(⟨(X.out.keep hb).c0,(X.out.keep hb).c1,(X.out.keep hb).c2,(X.out.keep hb).c3,(G.out.keep hb).c0,(G.out.keep hb).c1⟩:w'.cell? ⟨pb,0,none⟩=some (.int .i64 xv.1)∧w'.cell? ⟨pb,1,none⟩=some (.pointer xv.2.1)∧w'.cell? ⟨pb,2,none⟩=some (.int .i64 xv.2.2.1)∧w'.cell? ⟨pb,3,none⟩=some (.pointer xv.2.2.2)∧w'.cell? ⟨p4,0,none⟩=some (.int .i64 x3)∧w'.cell? ⟨p4,1,none⟩=some (.pointer X3)))
     have HN1:=Lh (fun v (hb:Below wc.heap.size wc v)=>den_any _ _ _ _ (F k) v (XR.out.keep hb))
     have HD1:=Lh (fun x X v (hb:Below wc.heap.size wc v) (hi:IsInt 0 v (.agg #[.int .i64 x,.pointer X]) (((F k).den:Nat):Int))=>divN_any x x3 X X3 (F k).den gg v hi (G.out.keep hb).int gp.out (base_up (HF.out.d47 hT2.out) (by decide)) gl.out)
     go_upto_region 12 with fail
     try simp only [hwc]
     refine Till.begin 12 (fun w'=>w'.cell? ⟨pb,0,none⟩=some (.int .i64 xv.1)∧w'.cell? ⟨pb,1,none⟩=some (.pointer xv.2.1)∧w'.cell? ⟨pb,2,none⟩=some (.int .i64 xv.2.2.1)∧w'.cell? ⟨pb,3,none⟩=some (.pointer xv.2.2.2)∧w'.cell? ⟨p4,0,none⟩=some (.int .i64 x3)∧w'.cell? ⟨p4,1,none⟩=some (.pointer X3)) (by kernel_rfl) (HS.out _ (Below.refl _ _).drew) (fun hH=>?_)
     refine Till.tk 0 1 58 (.agg #[.int .i64 xv.1,.pointer xv.2.1,.int .i64 xv.2.2.1,.pointer xv.2.2.2]) hH ?_
     try simp only [Act.put,Pls]
     refine Till.tk 2 3 60 (.agg #[.int .i64 x3,.pointer X3]) hH ?_
     try simp only [Act.put,Pls]
     clear hH
     have B0:=Lh (Below.refl wc.heap.size wc).drew
     generalize wc.drew=v0 at B0 ⊢
     refine Till.phaseP [1,3,4,5,6,7,8,9,10,11] #[true,true,true,true,true,true,true,true,true,true,true,true,false] 1 (fun a0 dn an v=>∃ t1 t3 t4 t5 t6 t7 t8 t9:Value,an=puts a0 [(59,t1),(61,t3),(57,t4),(62,t5),(63,t6),(64,t7),(11,t8),(12,t9)]∧Below wc.heap.size wc v∧(dn 1=true→IntAt v t1 ((((F k).den:Nat):Int)))∧(dn 3=true→DmAt v t3 ((((F k).den / gg:Nat):Int)) ((((F k).den % gg:Nat):Int)))∧(dn 4=true→DmAt v t4 ((((F k).den / gg:Nat):Int)) ((((F k).den % gg:Nat):Int)))∧(dn 5=true→IntAt v t5 ((((F k).den / gg:Nat):Int)))∧(dn 6=true→IntAt v t6 ((((F k).den % gg:Nat):Int)))∧(dn 7=true→t7= .int .i64 0)∧(dn 8=true→dn 10=false→PtrI wc.heap.size v t8)∧(dn 9=true→dn 11=false→PtrI wc.heap.size v t9)∧(dn 10=true→VI2At wc.heap.size v t8 ((((F k).den / gg:Nat):Int)))∧(dn 10=true→dn 8=true)∧(dn 11=true→VI2At wc.heap.size v t9 ((((F k).den % gg:Nat):Int)))∧(dn 11=true→dn 9=true)∧(dn 8=true→dn 9=true→t8≠t9)) rfl (by kernel_rfl) (by rintro dn an v ⟨_,_,_,_,_,_,_,_,rfl,hB,_⟩; exact HS.out _ hB) ⟨u59,u61,u57,u62,u63,u64,u11,u12,(by kernel_rfl),B0.out,(fun h=>absurd h (by decide)),(fun h=>absurd h (by decide)),(fun h=>absurd h (by decide)),(fun h=>absurd h (by decide)),(fun h=>absurd h (by decide)),(fun h=>absurd h (by decide)),(fun h=>absurd h (by decide)),(fun h=>absurd h (by decide)),(fun h=>absurd h (by decide)),(fun h=>absurd h (by decide)),(fun h=>absurd h (by decide)),(fun h=>absurd h (by decide)),(fun h=>absurd h (by decide))⟩ ⟨⟨_,rfl,?_⟩,⟨_,rfl,?_⟩,⟨_,rfl,?_⟩,⟨_,rfl,?_⟩,⟨_,rfl,?_⟩,⟨_,rfl,?_⟩,⟨_,rfl,?_⟩,⟨_,rfl,?_⟩,⟨_,rfl,?_⟩,⟨_,rfl,?_⟩,trivial⟩ ?_
     ·rintro dn an v ⟨t1,t3,t4,t5,t6,t7,t8,t9,rfl,hB,F1,F3,F4,F5,F6,F7,F8,F9,F10,G10,F11,G11,D8_9⟩ hi ha K hK
      replace hB:=Lh hB
      replace F1:=Lh F1
      replace F3:=Lh F3
      replace F4:=Lh F4
      replace F5:=Lh F5
      replace F6:=Lh F6
      replace F7:=Lh F7
      replace F8:=Lh F8
      replace F9:=Lh F9
      replace F10:=Lh F10
      replace G10:=Lh G10
      replace F11:=Lh F11
      replace G11:=Lh G11
      replace D8_9:=Lh D8_9
      clear ha
      refine Pent.mk ?_
      try simp only [puts,Act.put,Pls]
      go_simp
      refine (HN1.out _ hB.out).mono ?_
      rintro e v1 ⟨x1,X1,rfl,hx,g⟩
      replace hx:=Lh hx
      replace g:=Lh g
      go_wp2_with fail
      exact hK.out _ _ ⟨.agg #[.int .i64 x1,.pointer X1],t3,t4,t5,t6,t7,t8,t9,(by kernel_rfl),below_on hB.out g.out,fun _=>⟨x1,X1,rfl,hx.out⟩,fun h=>(F3.out h).keep g.out,fun h=>(F4.out h).keep g.out,fun h=>(F5.out h).keep g.out,fun h=>(F6.out h).keep g.out,fun h=>F7.out h,fun h h2=>(F8.out h h2).keep g.out,fun h h2=>(F9.out h h2).keep g.out,fun h=>(F10.out h).keep g.out,fun h=>G10.out h,fun h=>(F11.out h).keep g.out,fun h=>G11.out h,fun h h2=>D8_9.out h h2⟩
     ·rintro dn an v ⟨t1,t3,t4,t5,t6,t7,t8,t9,rfl,hB,F1,F3,F4,F5,F6,F7,F8,F9,F10,G10,F11,G11,D8_9⟩ hi ha K hK
      obtain ⟨x1,X1,rfl,I1⟩:=F1 (ha 1 (by kernel_rfl))
      replace hB:=Lh hB
      replace F1:=Lh F1
      replace F3:=Lh F3
      replace F4:=Lh F4
      replace F5:=Lh F5
      replace F6:=Lh F6
      replace F7:=Lh F7
      replace F8:=Lh F8
      replace F9:=Lh F9
      replace F10:=Lh F10
      replace G10:=Lh G10
      replace F11:=Lh F11
      replace G11:=Lh G11
      replace I1:=Lh I1
      replace D8_9:=Lh D8_9
      clear ha
      refine Pent.mk ?_
      try simp only [puts,Act.put,Pls]
      go_simp
      refine (HD1.out _ _ _ hB.out I1.out).mono ?_
      rintro e v1 ⟨x3,X3,y3,Y3,rfl,hx,hy,g⟩
      replace hx:=Lh hx
      replace hy:=Lh hy
      replace g:=Lh g
      go_wp2_with fail
      exact hK.out _ _ ⟨.agg #[.int .i64 x1,.pointer X1],.tuple #[.agg #[.int .i64 x3,.pointer X3],.agg #[.int .i64 y3,.pointer Y3],.int .i64 0],t4,t5,t6,t7,t8,t9,(by kernel_rfl),below_on hB.out g.out,fun h=>(F1.out h).keep g.out,fun _=>⟨x3,X3,y3,Y3,rfl,hx.out,hy.out⟩,fun h=>(F4.out h).keep g.out,fun h=>(F5.out h).keep g.out,fun h=>(F6.out h).keep g.out,fun h=>F7.out h,fun h h2=>(F8.out h h2).keep g.out,fun h h2=>(F9.out h h2).keep g.out,fun h=>(F10.out h).keep g.out,fun h=>G10.out h,fun h=>(F11.out h).keep g.out,fun h=>G11.out h,fun h h2=>D8_9.out h h2⟩
     ·rintro dn an v ⟨t1,t3,t4,t5,t6,t7,t8,t9,rfl,hB,F1,F3,F4,F5,F6,F7,F8,F9,F10,G10,F11,G11,D8_9⟩ hi ha K hK
      obtain ⟨x3,X3,y3,Y3,rfl,I3,J3⟩:=F3 (ha 3 (by kernel_rfl))
      replace hB:=Lh hB
      replace F1:=Lh F1
      replace F3:=Lh F3
      replace F4:=Lh F4
      replace F5:=Lh F5
      replace F6:=Lh F6
      replace F7:=Lh F7
      replace F8:=Lh F8
      replace F9:=Lh F9
      replace F10:=Lh F10
      replace G10:=Lh G10
      replace F11:=Lh F11
      replace G11:=Lh G11
      replace J3:=Lh J3
      replace I3:=Lh I3
      replace D8_9:=Lh D8_9
      clear ha
      refine Pent.mk ?_
      try simp only [puts,Act.put,Pls]
      have g:=Lh (Below.refl v.heap.size v)
      go_simp
      exact hK.out _ _ ⟨t1,.tuple #[.agg #[.int .i64 x3,.pointer X3],.agg #[.int .i64 y3,.pointer Y3],.int .i64 0],.tuple #[.agg #[.int .i64 x3,.pointer X3],.agg #[.int .i64 y3,.pointer Y3],.int .i64 0],t5,t6,t7,t8,t9,(by kernel_rfl),below_on hB.out g.out,fun h=>(F1.out h).keep g.out,fun h=>(F3.out h).keep g.out,fun _=>⟨x3,X3,y3,Y3,rfl,I3.out.keep g.out,J3.out.keep g.out⟩,fun h=>(F5.out h).keep g.out,fun h=>(F6.out h).keep g.out,fun h=>F7.out h,fun h h2=>(F8.out h h2).keep g.out,fun h h2=>(F9.out h h2).keep g.out,fun h=>(F10.out h).keep g.out,fun h=>G10.out h,fun h=>(F11.out h).keep g.out,fun h=>G11.out h,fun h h2=>D8_9.out h h2⟩
     ·rintro dn an v ⟨t1,t3,t4,t5,t6,t7,t8,t9,rfl,hB,F1,F3,F4,F5,F6,F7,F8,F9,F10,G10,F11,G11,D8_9⟩ hi ha K hK
      obtain ⟨x4,X4,y4,Y4,rfl,I4,J4⟩:=F4 (ha 4 (by kernel_rfl))
      replace hB:=Lh hB
      replace F1:=Lh F1
      replace F3:=Lh F3
      replace F4:=Lh F4
      replace F5:=Lh F5
      replace F6:=Lh F6
      replace F7:=Lh F7
      replace F8:=Lh F8
      replace F9:=Lh F9
      replace F10:=Lh F10
      replace G10:=Lh G10
      replace F11:=Lh F11
      replace G11:=Lh G11
      replace J4:=Lh J4
      replace I4:=Lh I4
      replace D8_9:=Lh D8_9
      clear ha
      refine Pent.mk ?_
      try simp only [puts,Act.put,Pls]
      have g:=Lh (Below.refl v.heap.size v)
      go_simp
      exact hK.out _ _ ⟨t1,t3,.tuple #[.agg #[.int .i64 x4,.pointer X4],.agg #[.int .i64 y4,.pointer Y4],.int .i64 0],.agg #[.int .i64 x4,.pointer X4],t6,t7,t8,t9,(by kernel_rfl),below_on hB.out g.out,fun h=>(F1.out h).keep g.out,fun h=>(F3.out h).keep g.out,fun h=>(F4.out h).keep g.out,fun _=>⟨x4,X4,rfl,I4.out.keep g.out⟩,fun h=>(F6.out h).keep g.out,fun h=>F7.out h,fun h h2=>(F8.out h h2).keep g.out,fun h h2=>(F9.out h h2).keep g.out,fun h=>(F10.out h).keep g.out,fun h=>G10.out h,fun h=>(F11.out h).keep g.out,fun h=>G11.out h,fun h h2=>D8_9.out h h2⟩
     ·rintro dn an v ⟨t1,t3,t4,t5,t6,t7,t8,t9,rfl,hB,F1,F3,F4,F5,F6,F7,F8,F9,F10,G10,F11,G11,D8_9⟩ hi ha K hK
      obtain ⟨x4,X4,y4,Y4,rfl,I4,J4⟩:=F4 (ha 4 (by kernel_rfl))
      replace hB:=Lh hB
      replace F1:=Lh F1
      replace F3:=Lh F3
      replace F4:=Lh F4
      replace F5:=Lh F5
      replace F6:=Lh F6
      replace F7:=Lh F7
      replace F8:=Lh F8
      replace F9:=Lh F9
      replace F10:=Lh F10
      replace G10:=Lh G10
      replace F11:=Lh F11
      replace G11:=Lh G11
      replace J4:=Lh J4
      replace I4:=Lh I4
      replace D8_9:=Lh D8_9
      clear ha
      refine Pent.mk ?_
      try simp only [puts,Act.put,Pls]
      have g:=Lh (Below.refl v.heap.size v)
      go_simp
      exact hK.out _ _ ⟨t1,t3,.tuple #[.agg #[.int .i64 x4,.pointer X4],.agg #[.int .i64 y4,.pointer Y4],.int .i64 0],t5,.agg #[.int .i64 y4,.pointer Y4],t7,t8,t9,(by kernel_rfl),below_on hB.out g.out,fun h=>(F1.out h).keep g.out,fun h=>(F3.out h).keep g.out,fun h=>(F4.out h).keep g.out,fun h=>(F5.out h).keep g.out,fun _=>⟨y4,Y4,rfl,J4.out.keep g.out⟩,fun h=>F7.out h,fun h h2=>(F8.out h h2).keep g.out,fun h h2=>(F9.out h h2).keep g.out,fun h=>(F10.out h).keep g.out,fun h=>G10.out h,fun h=>(F11.out h).keep g.out,fun h=>G11.out h,fun h h2=>D8_9.out h h2⟩
     ·rintro dn an v ⟨t1,t3,t4,t5,t6,t7,t8,t9,rfl,hB,F1,F3,F4,F5,F6,F7,F8,F9,F10,G10,F11,G11,D8_9⟩ hi ha K hK
      obtain ⟨x4,X4,y4,Y4,rfl,I4,J4⟩:=F4 (ha 4 (by kernel_rfl))
      replace hB:=Lh hB
      replace F1:=Lh F1
      replace F3:=Lh F3
      replace F4:=Lh F4
      replace F5:=Lh F5
      replace F6:=Lh F6
      replace F7:=Lh F7
      replace F8:=Lh F8
      replace F9:=Lh F9
      replace F10:=Lh F10
      replace G10:=Lh G10
      replace F11:=Lh F11
      replace G11:=Lh G11
      replace J4:=Lh J4
      replace I4:=Lh I4
      replace D8_9:=Lh D8_9
      clear ha
      refine Pent.mk ?_
      try simp only [puts,Act.put,Pls]
      have g:=Lh (Below.refl v.heap.size v)
      go_simp
      exact hK.out _ _ ⟨t1,t3,.tuple #[.agg #[.int .i64 x4,.pointer X4],.agg #[.int .i64 y4,.pointer Y4],.int .i64 0],t5,t6,.int .i64 0,t8,t9,(by kernel_rfl),below_on hB.out g.out,fun h=>(F1.out h).keep g.out,fun h=>(F3.out h).keep g.out,fun h=>(F4.out h).keep g.out,fun h=>(F5.out h).keep g.out,fun h=>(F6.out h).keep g.out,fun _=>rfl,fun h h2=>(F8.out h h2).keep g.out,fun h h2=>(F9.out h h2).keep g.out,fun h=>(F10.out h).keep g.out,fun h=>G10.out h,fun h=>(F11.out h).keep g.out,fun h=>G11.out h,fun h h2=>D8_9.out h h2⟩
     ·rintro dn an v ⟨t1,t3,t4,t5,t6,t7,t8,t9,rfl,hB,F1,F3,F4,F5,F6,F7,F8,F9,F10,G10,F11,G11,D8_9⟩ hi ha K hK
      replace hB:=Lh hB
      replace F1:=Lh F1
      replace F3:=Lh F3
      replace F4:=Lh F4
      replace F5:=Lh F5
      replace F6:=Lh F6
      replace F7:=Lh F7
      replace F8:=Lh F8
      replace F9:=Lh F9
      replace F10:=Lh F10
      replace G10:=Lh G10
      replace F11:=Lh F11
      replace G11:=Lh G11
      replace D8_9:=Lh D8_9
      have hi0:¬ dn 8=true:=by rw [hi]; decide
      clear ha
      refine Pent.mk ?_
      try simp only [puts,Act.put,Pls]
      have g:=Lh ((Below.refl v.heap.size v).alloc (Nat.le_refl _) (.cells #[.int .i64 0,.pointer none] 28))
      go_simp
      exact hK.out _ _ ⟨t1,t3,t4,t5,t6,t7,.pointer (some ⟨v.heap.size,0,none⟩),t9,(by kernel_rfl),below_on hB.out g.out,fun h=>(F1.out h).keep g.out,fun h=>(F3.out h).keep g.out,fun h=>(F4.out h).keep g.out,fun h=>(F5.out h).keep g.out,fun h=>(F6.out h).keep g.out,fun h=>F7.out h,fun _ _=>⟨v.heap.size,rfl,hB.out.size,Hold.new v 0 none⟩,fun h h2=>(F9.out h h2).keep g.out,fun h=>absurd (G10.out h) hi0,fun _=>rfl,fun h=>(F11.out h).keep g.out,fun h=>G11.out h,fun _ h=>((ptrs_ne (F9.out h) F11.out)).symm⟩
     ·rintro dn an v ⟨t1,t3,t4,t5,t6,t7,t8,t9,rfl,hB,F1,F3,F4,F5,F6,F7,F8,F9,F10,G10,F11,G11,D8_9⟩ hi ha K hK
      replace hB:=Lh hB
      replace F1:=Lh F1
      replace F3:=Lh F3
      replace F4:=Lh F4
      replace F5:=Lh F5
      replace F6:=Lh F6
      replace F7:=Lh F7
      replace F8:=Lh F8
      replace F9:=Lh F9
      replace F10:=Lh F10
      replace G10:=Lh G10
      replace F11:=Lh F11
      replace G11:=Lh G11
      replace D8_9:=Lh D8_9
      have hi0:¬ dn 9=true:=by rw [hi]; decide
      clear ha
      refine Pent.mk ?_
      try simp only [puts,Act.put,Pls]
      have g:=Lh ((Below.refl v.heap.size v).alloc (Nat.le_refl _) (.cells #[.int .i64 0,.pointer none] 28))
      go_simp
      exact hK.out _ _ ⟨t1,t3,t4,t5,t6,t7,t8,.pointer (some ⟨v.heap.size,0,none⟩),(by kernel_rfl),below_on hB.out g.out,fun h=>(F1.out h).keep g.out,fun h=>(F3.out h).keep g.out,fun h=>(F4.out h).keep g.out,fun h=>(F5.out h).keep g.out,fun h=>(F6.out h).keep g.out,fun h=>F7.out h,fun h h2=>(F8.out h h2).keep g.out,fun _ _=>⟨v.heap.size,rfl,hB.out.size,Hold.new v 0 none⟩,fun h=>(F10.out h).keep g.out,fun h=>G10.out h,fun h=>absurd (G11.out h) hi0,fun _=>rfl,fun h _=>(ptrs_ne (F8.out h) F10.out)⟩
     ·rintro dn an v ⟨t1,t3,t4,t5,t6,t7,t8,t9,rfl,hB,F1,F3,F4,F5,F6,F7,F8,F9,F10,G10,F11,G11,D8_9⟩ hi ha K hK
      obtain ⟨x5,X5,rfl,I5⟩:=F5 (ha 5 (by kernel_rfl))
      obtain ⟨p8,rfl,le8,N8⟩:=F8 (ha 8 (by kernel_rfl)) hi
      replace hB:=Lh hB
      replace F1:=Lh F1
      replace F3:=Lh F3
      replace F4:=Lh F4
      replace F5:=Lh F5
      replace F6:=Lh F6
      replace F7:=Lh F7
      replace F8:=Lh F8
      replace F9:=Lh F9
      replace F10:=Lh F10
      replace G10:=Lh G10
      replace F11:=Lh F11
      replace G11:=Lh G11
      replace I5:=Lh I5
      replace N8:=Lh N8
      replace D8_9:=Lh D8_9
      have ha0:=ha 8 (by kernel_rfl)
      clear ha
      refine Pent.mk ?_
      try simp only [puts,Act.put,Pls]
      have k0:=N8.out.c0
      have k1:=N8.out.c1
      have f0:=N8.out.f0
      have f1:=N8.out.f1
      go_simp
      exact hK.out _ _ ⟨t1,t3,t4,.agg #[.int .i64 x5,.pointer X5],t6,t7,.pointer (some ⟨p8,0,none⟩),t9,(by kernel_rfl),below_stored hB.out le8 (.int .i64 x5) (.pointer X5),fun h=>(F1.out h).heldI N8.out,fun h=>(F3.out h).heldI N8.out,fun h=>(F4.out h).heldI N8.out,fun h=>(F5.out h).heldI N8.out,fun h=>(F6.out h).heldI N8.out,fun h=>F7.out h,fun _ h=>absurd (show true=false from h) (by decide),fun h h2=>(F9.out h h2).heldI N8.out ((D8_9.out ha0 h).symm),fun _=>⟨p8,x5,X5,rfl,le8,VI2.make N8.out I5.out⟩,fun _=>ha0,fun h=>(F11.out h).heldI N8.out ((D8_9.out ha0 (G11.out h)).symm),fun h=>G11.out h,fun h h2=>D8_9.out h h2⟩
     ·rintro dn an v ⟨t1,t3,t4,t5,t6,t7,t8,t9,rfl,hB,F1,F3,F4,F5,F6,F7,F8,F9,F10,G10,F11,G11,D8_9⟩ hi ha K hK
      obtain ⟨x6,X6,rfl,I6⟩:=F6 (ha 6 (by kernel_rfl))
      obtain ⟨p9,rfl,le9,N9⟩:=F9 (ha 9 (by kernel_rfl)) hi
      replace hB:=Lh hB
      replace F1:=Lh F1
      replace F3:=Lh F3
      replace F4:=Lh F4
      replace F5:=Lh F5
      replace F6:=Lh F6
      replace F7:=Lh F7
      replace F8:=Lh F8
      replace F9:=Lh F9
      replace F10:=Lh F10
      replace G10:=Lh G10
      replace F11:=Lh F11
      replace G11:=Lh G11
      replace I6:=Lh I6
      replace N9:=Lh N9
      replace D8_9:=Lh D8_9
      have ha0:=ha 9 (by kernel_rfl)
      clear ha
      refine Pent.mk ?_
      try simp only [puts,Act.put,Pls]
      have k0:=N9.out.c0
      have k1:=N9.out.c1
      have f0:=N9.out.f0
      have f1:=N9.out.f1
      go_simp
      exact hK.out _ _ ⟨t1,t3,t4,t5,.agg #[.int .i64 x6,.pointer X6],t7,t8,.pointer (some ⟨p9,0,none⟩),(by kernel_rfl),below_stored hB.out le9 (.int .i64 x6) (.pointer X6),fun h=>(F1.out h).heldI N9.out,fun h=>(F3.out h).heldI N9.out,fun h=>(F4.out h).heldI N9.out,fun h=>(F5.out h).heldI N9.out,fun h=>(F6.out h).heldI N9.out,fun h=>F7.out h,fun h h2=>(F8.out h h2).heldI N9.out (D8_9.out h ha0),fun _ h=>absurd (show true=false from h) (by decide),fun h=>(F10.out h).heldI N9.out (D8_9.out (G10.out h) ha0),fun h=>G10.out h,fun _=>⟨p9,x6,X6,rfl,le9,VI2.make N9.out I6.out⟩,fun _=>ha0,fun h h2=>D8_9.out h h2⟩
     ·rintro dn an v ⟨t1,t3,t4,t5,t6,t7,t8,t9,rfl,hB,F1,F3,F4,F5,F6,F7,F8,F9,F10,G10,F11,G11,D8_9⟩ hE
      obtain ⟨x1,X1,rfl,I1⟩:=F1 (hE 1 (by decide))
      obtain ⟨x3,X3,y3,Y3,rfl,I3,J3⟩:=F3 (hE 3 (by decide))
      obtain ⟨x4,X4,y4,Y4,rfl,I4,J4⟩:=F4 (hE 4 (by decide))
      obtain ⟨x5,X5,rfl,I5⟩:=F5 (hE 5 (by decide))
      obtain ⟨x6,X6,rfl,I6⟩:=F6 (hE 6 (by decide))
      have e7:=F7 (hE 7 (by decide))
      subst e7
      obtain ⟨p8,x10,X10,rfl,le8,W10⟩:=F10 (hE 10 (by decide))
      obtain ⟨p9,x11,X11,rfl,le9,W11⟩:=F11 (hE 11 (by decide))
      have ne8_9:p8≠p9:=fun h=>D8_9 (hE 8 (by decide)) (hE 9 (by decide)) (by rw [h])
      have ne9_8:p9≠p8:=Ne.symm ne8_9
      clear hE F1 F3 F4 F5 F6 F7 F8 F9 F10 G10 F11 G11 D8_9
      replace hB:=Lh hB
      replace J3:=Lh J3
      replace J4:=Lh J4
      replace I1:=Lh I1
      replace I3:=Lh I3
      replace I4:=Lh I4
      replace I5:=Lh I5
      replace I6:=Lh I6
      replace W10:=Lh W10
      replace W11:=Lh W11
      refine Pent.mk ?_
      try simp only [puts,Act.put,Pls]
      have hlO:=O.out.hold.lt
      have hlU:=U.out.hold.lt
      replace O:=Lh (O.out.keep hB.out)
      replace U:=Lh (U.out.keep hB.out)
      replace Bk:=Lh (below_on Bk.out hB.out)
      refine Till.one (i:=12) (by kernel_rfl) rfl (fun K hK=>?_)
      go_simp
      refine hK.out _ _ (fun h=>absurd h (by simp)) ?_
      clear hK K
      try simp only [Pls]
      refine Till.done (by kernel_rfl) ?_ _
      have hT0:=W10.out
      clear hlO hlU HS HN1 HD1 B0
      have T:=Lh hT0
      clear hT0
      generalize v=wd at *
      have HM1:=Lh (show Calls Tryz.prog 86 #[.agg #[.int .i64 ua,.pointer uP],.agg #[.int .i64 x10,.pointer X10]] wd (NewInt ((unK F (k+1):Nat):Int) wd) from by
       have h:=mul_any ua x10 uP X10 ((unK F k:Nat):Int) (((F k).den / gg:Nat):Int) wd U.out.int T.out.int (by rw [Int.natAbs_natCast]; exact base_up (Nat.lt_of_lt_of_le HU.out (Nat.le_trans (ten_le hT.out) ten900)) (by decide)) (by rw [Int.natAbs_natCast]; exact Nat.lt_of_le_of_lt (Nat.div_le_self _ _) (base_up (HF.out.d47 hT2.out) (by decide))) (.inl (by rw [Int.natAbs_natCast]; exact Nat.lt_of_lt_of_le HU.out (Nat.le_trans (ten_le hT.out) ten900)))
       rw [← Int.natCast_mul,Nat.mul_comm,gv.out] at h
       exact h)
      have c0:=U.out.hold.c0
      have c1:=U.out.hold.c1
      have d0:=T.out.hold.c0
      have d1:=T.out.hold.c1
      clear hB I1 I3 I4 I5 I6 J3 J4 W10 W11
      go_wp2_with fail
      refine HM1.out.mono ?_
      rintro e w5 ⟨ma,mP,rfl,hi,hb⟩
      have O:=Lh (O.out.keep hb)
      have U:=Lh (U.out.keep hb)
      have Bk:=Lh (below_on Bk.out hb)
      clear c0 c1 d0 d1
      have f0:=U.out.hold.f0
      have f1:=U.out.hold.f1
      have c0:=U.out.hold.c0
      have c1:=U.out.hold.c1
      have Hf1:=Lh (O.out.held U.out.hold (show w3.heap.size≠w3.heap.size+1 by omega) (.int .i64 ma) (.pointer mP))
      have Hf2:=Lh (U.out.put hi)
      have Hf3:=Lh (below_stored Bk.out (show w3.heap.size≤w3.heap.size+1 by omega) (.int .i64 ma) (.pointer mP))
      clear hi hb
      go_wp2_with fail
      go_roundw
      case rel=>exact ⟨k+1,z+1,_,_,_,_,Hk3.out,by have:=Hzk.out; omega,by go_num,Hf1.out,Hf2.out,Hf3.out⟩
      case measure=>simp [intOf] <;> omega
  ·obtain rfl:k=3:=by omega
   obtain rfl:z=3:=hzk
   have K:=Lh (below_on K3.out Bk.out)
   have C:=Lh (C.out.keep Bk.out)
   have R:=Lh (R.out.keep Bk.out)
   have hU3:unK F 3<base 47:=Nat.lt_of_lt_of_le (HU.out 3) (Nat.le_trans (ten_le (show 3*d+1≤900 by have:=Hd.out; omega)) ten900)
   have hO3:ovK F 3<base 47:=Nat.lt_of_lt_of_le (HO.out 3) (Nat.le_trans (ten_le (show d≤900 by have:=Hd.out; omega)) ten900)
   have ho3:((ovK F 3:Nat):Int)≠0:=by have:=HN.out; omega
   have hmr:Mid (Rat.divInt ((unK F 3:Nat):Int) ((ovK F 3:Nat):Int)):=by
    have:=rat_bounds_any (z:=((unK F 3:Nat):Int)) (k:=((ovK F 3:Nat):Int)) (by rw [Int.natAbs_natCast]; exact hU3) (by rw [Int.natAbs_natCast]; exact hO3) ho3
    exact ⟨this.1,this.2⟩
   have HK:=Lh (make_any ua uP oa oP ((unK F 3:Nat):Int) ((ovK F 3:Nat):Int) wr U.out.int O.out.int ho3 (by rw [Int.natAbs_natCast]; exact base_up hU3 (by decide)) (by rw [Int.natAbs_natCast]; exact base_up hO3 (by decide)) (Hw.out wr K.out))
   have HS:=Lh (fun x w' (hb:Below w.heap.size w w') hk=>vscale_any x0 x1 x2 x q0 q1 q2 (Rat.divInt ((unK F 3:Nat):Int) ((ovK F 3:Nat):Int)) w' (H.out.keep hb) hk HM.out hmr (Hw.out w' hb))
   rw [Hz.out.1,Hz.out.2.1,Hz.out.2.2] at HS
   generalize Rat.divInt ((unK F 3:Nat):Int) ((ovK F 3:Nat):Int)=rr at HK HS
   have c0:=U.out.hold.c0
   have c1:=U.out.hold.c1
   have d0:=O.out.hold.c0
   have d1:=O.out.hold.c1
   clear hU3 hO3 ho3 hmr
   go_wp2_with fail
   refine HK.out.mono ?_
   rintro e w4 ⟨ra,rP,rb,rQ,rfl,hv,hb⟩
   have kv:=(Below.refl w4.heap.size w4).alloc (Nat.le_refl _) (.cells #[.int .i64 ra,.pointer rP,.int .i64 rb,.pointer rQ] 30)
   have C:=Lh ((C.out.keep hb).keep kv)
   have R:=Lh ((R.out.keep hb).keep kv)
   have K:=Lh (below_on (below_on K.out hb) kv)
   have X:=box_rat w4 ra rP rb rQ
   have HV:=hv.keep kv
   obtain ⟨p4,hp4⟩:∃ p,w4.heap.size=p:=⟨_,rfl⟩
   obtain ⟨wa,hwa⟩:∃ u,w4.alloc (.cells #[.int .i64 ra,.pointer rP,.int .i64 rb,.pointer rQ] 30)=u:=⟨_,rfl⟩
   rw [hwa] at C R K X HV
   rw [hp4] at X
   have a0:=X.c0
   have a1:=X.c1
   have a2:=X.c2
   have a3:=X.c3
   have HS:=Lh (HS.out (ra,rP,rb,rQ) wa K.out HV)
   obtain ⟨m0,m1,m2,m3,m4,m5,m6,m7,m8,m9,m10,m11⟩:=Cells.r12 (p:=w.heap.size) C.out
   clear hv hb kv c0 c1 d0 d1 X HV
   go_wp2_with fail
   try simp only [hp4,hwa]
   refine HS.out.mono ?_
   rintro e w5 ⟨x0,x1,x2,rfl,hv,hb⟩
   have R:=Lh (R.out.keep hb)
   have K:=Lh (below_on K.out hb)
   clear hp4 hwa a0 a1 a2 a3 m0 m1 m2 m3 m4 m5 m6 m7 m8 m9 m10 m11
   have Hv:=Lh (hv.wrote R.out (put12_heap w5 _ x0 x1 x2).1 (put12_heap w5 _ x0 x1 x2).2)
   have Hf:=Lh (below_put12 K.out (show w.heap.size≤w.heap.size+1 by omega) x0 x1 x2)
   obtain ⟨z0,z1,z2,z3,z4,z5,z6,z7,z8,z9,z10,z11⟩:=Cells.q12 (p:=w.heap.size+1) R.out
   obtain ⟨f0,f1,f2,f3,f4,f5,f6,f7,f8,f9,f10,f11⟩:=Cells.z12 (p:=w.heap.size+1) R.out
   clear hv hb
   try unfold vecVal
   go_wp2
   exact bodyPost_ret (v:= .tuple #[vecVal x0 x1 x2,.int .i64 0]) (by simp [vecVal,results,Tryz.results47,go_sem,z0,z1,z2,z3,z4,z5,z6,z7,z8,z9,z10,z11]) rfl ⟨x0,x1,x2,rfl,Hv.out,Hf.out⟩
end Go.Proofs.YtekhdklbfincpaaGreatDoor
