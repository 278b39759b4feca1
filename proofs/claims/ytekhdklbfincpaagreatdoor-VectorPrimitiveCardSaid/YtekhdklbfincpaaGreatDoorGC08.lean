/- GC08: Cmp Add Sub -/
import Derived.Test.YtekhdklbfincpaaGreatDoorGC01
import Derived.Test.YtekhdklbfincpaaGreatDoorGC02
import Derived.Deep.RegionHeld3
import Derived.Test.YtekhdklbfincpaaGreatDoorGC04
import Derived.Test.YtekhdklbfincpaaGreatDoorGC07
set_option maxRecDepth 100000
set_option maxHeartbeats 16000000
namespace Go.Proofs.YtekhdklbfincpaaGreatDoor
open Go.Value renaming pointer→Jp,int→Ji
open Go.IntKind renaming i64→Jl,u64→Ju
open _root_.Option renaming none→Jn,some→Jo
open Go renaming World→JW
open _root_.List renaming take_of_length_le→M0,getElem?_eq_none→M3,getD→M6,append_assoc→M7,take_take→Mt
open _root_.Nat renaming le_refl→M1,zero_le→M2,mul_add→M5,min_eq_left→M8,mul_le_mul_left→M9,mul_left_comm→Mr,mul_assoc→Mu,lt_or_ge→Mv
open Go.RowKit.Below renaming refl→M4,alloc→Ms
open Go.RowKit
theorem OT(a b:Int)(w:JW) :
  Calls Tryz.prog 96 #[JP a,JP b] w fun e w'=>e= .returned (Ji Jl (if a<b then -1 else if b<a then 1 else 0))/\Below w.heap.size w w':=by
 rcases Int.lt_trichotomy a b with h|h|h
 ·rw[if_pos h];go_enter Tryz.func96,Tryz.ntmps96;go_wp2;go_ret;exact⟨rfl,by repeat (first|exact M4 _ _|refine Ms ?_ (by first|exact M1 _|(simp <;> omega)) _)⟩
 ·subst h;rw[if_neg (by omega),if_neg (by omega)];go_enter Tryz.func96,Tryz.ntmps96;go_wp2;go_ret;exact⟨rfl,by repeat (first|exact M4 _ _|refine Ms ?_ (by first|exact M1 _|(simp <;> omega)) _)⟩
 ·rw[if_neg (by omega),if_pos h];go_enter Tryz.func96,Tryz.ntmps96;go_wp2;go_ret;exact⟨rfl,by repeat (first|exact M4 _ _|refine Ms ?_ (by first|exact M1 _|(simp <;> omega)) _)⟩
def cmpZ(a b:Int):Int:=if a<b then -1 else if b<a then 1 else 0
theorem KE{z k:Int}(hz:0<=z)(hk:0<=k):cmpN z.natAbs k.natAbs=cmpZ z k:=by
 unfold cmpN cmpZ;by_cases h1:z<k
 ·rw[if_pos h1,if_pos (by omega)]
 ·by_cases h2:k<z
  ·rw[if_neg h1,if_pos h2,if_neg (by omega),if_pos (by omega)]
  ·rw[if_neg h1,if_neg h2,if_neg (by omega),if_neg (by omega)]
theorem KF{z k:Int}(hz:z<0)(hk:k<0):cmpN k.natAbs z.natAbs=cmpZ z k:=by
 unfold cmpN cmpZ;by_cases h1:z<k
 ·rw[if_pos h1,if_pos (by omega)]
 ·by_cases h2:k<z
  ·rw[if_neg h1,if_pos h2,if_neg (by omega),if_pos (by omega)]
  ·rw[if_neg h1,if_neg h2,if_neg (by omega),if_neg (by omega)]
theorem Jq.any{B:Nat}{w:JW}{v:Value}{z:Int}(h:Jq B w v z):Jq 0 w v z:=h.mono (M2 _)
theorem Jq.ways{B:Nat}{w:JW}{v:Value}{z:Int}(h:Jq B w v z):(I64 z/\v=JP z)\/(¬I64 z/\∃p,v= .agg #[Ji Jl 0,Jp (Jo ⟨p,0,Jn⟩)]/\p<w.heap.size/\w.cell? ⟨p,0,Jn⟩=Jo (.bool (decide (z<0)))):=by
 rcases h with h|⟨hz,p,A,n,c,xs,rfl,hp,_,_,c0,_⟩
 ·exact .inl h
 ·exact .inr ⟨hz,p,rfl,hp,c0⟩
theorem JI(v:Value)(z:Int)(w:JW)(b:Bool)(hb:decide (z<0)=b)(h:Jq 0 w v z) :
  Calls Tryz.prog 103 #[v] w fun e w'=>∃(A:Option Addr) (n c:Nat) (xs:List Nat),e= .returned (.tuple #[.slice A n c,.bool b])/\JC 0 w' A n c xs z.natAbs/\Below w.heap.size w w':=by
 subst hb;exact FC v z w h (M2 _)
theorem OV(a b:Int)(P Q:Option Addr)(z k:Int)(w:JW)(h:Jq 0 w (.agg #[Ji Jl a,Jp P]) z)(h':Jq 0 w (.agg #[Ji Jl b,Jp Q]) k)(p:Nat)(hp:P=Jo ⟨p,0,Jn⟩) :
  Calls Tryz.prog 96 #[.agg #[Ji Jl a,Jp P],.agg #[Ji Jl b,Jp Q]] w fun e w'=>e= .returned (Ji Jl (cmpZ z k))/\Below w.heap.size w w':=by
 subst hp;obtain⟨bz,hbz⟩:∃bz,decide (z<0)=bz:=⟨_,rfl⟩;obtain⟨bk,hbk⟩:∃bk,decide (k<0)=bk:=⟨_,rfl⟩;have kk:=((M4 w.heap.size w).alloc (M1 _) (.cells #[Ji Jl a,Jp (Jo ⟨p,0,Jn⟩)] 28)).alloc (by simp) (.cells #[Ji Jl b,Jp Q] 28);have Hx:=Lh (JI _ z _ bz hbz (h.keep kk));have Hy:=Lh (fun w' (hb:Below w.heap.size w w')=>JI _ k w' bk hbk (h'.keep hb));have Kk:=Lh kk;have Hbz:=Lh hbz;have Hbk:=Lh hbk;clear h h' kk hbz hbk;go_enter Tryz.func96,Tryz.ntmps96;go_wp2_with fail
 refine Hx.out.mono ?_;rintro e w1⟨A,n,c,xs,rfl,hx,h1⟩;have e1:w1.cell? ⟨w.heap.size+1,0,Jn⟩=Jo (Ji Jl b):=(h1.cell (p:=⟨w.heap.size+1,0,Jn⟩) (by simp)).trans (by simp[go_sem]);have e2:w1.cell? ⟨w.heap.size+1,1,Jn⟩=Jo (Jp Q):=(h1.cell (p:=⟨w.heap.size+1,1,Jn⟩) (by simp)).trans (by simp[go_sem]);have K1:=Lh (Kk.out.trans (h1.mono (by simp;omega)));have Hnx:=Lh hx;clear h1 hx;go_wp2_with fail
 refine(Hy.out _ K1.out).mono ?_;rintro e w2⟨A',n',c',ys,rfl,hy,h2⟩;have Hnx2:=Lh (Hnx.out.keep h2);have Hny:=Lh hy;have K2:=Lh (K1.out.trans (h2.mono K1.out.size));clear h2 hy e1 e2;cases bz <;> cases bk
 ·have hz:=of_decide_eq_false Hbz.out;have hk:=of_decide_eq_false Hbk.out;have He:=Lh (KE (z:=z) (k:=k) (by omega) (by omega));clear hz hk;go_wp2_with fail
  refine(JQ _ Hnx2.out Hny.out).mono ?_;rintro e w3⟨rfl,h3⟩;have K3:=Lh (K2.out.trans (h3.mono K2.out.size));clear h3;go_wp2;go_ret;exact⟨by rw[←He.out];rfl,K3.out⟩
 ·have hz:=of_decide_eq_false Hbz.out;have hk:=of_decide_eq_true Hbk.out;have He:=Lh (show cmpZ z k=1 by unfold cmpZ;rw[if_neg (by omega),if_pos (by omega)]);clear hz hk;go_wp2;go_ret;exact⟨by rw[He.out];rfl,K2.out⟩
 ·have hz:=of_decide_eq_true Hbz.out;have hk:=of_decide_eq_false Hbk.out;have He:=Lh (show cmpZ z k=-1 by unfold cmpZ;rw[if_pos (by omega)]);clear hz hk;go_wp2;go_ret;exact⟨by rw[He.out];rfl,K2.out⟩
 ·have hz:=of_decide_eq_true Hbz.out;have hk:=of_decide_eq_true Hbk.out;have He:=Lh (KF (z:=z) (k:=k) (by omega) (by omega));clear hz hk;go_wp2_with fail
  refine(JQ _ Hny.out Hnx2.out).mono ?_;rintro e w3⟨rfl,h3⟩;have K3:=Lh (K2.out.trans (h3.mono K2.out.size));clear h3;go_wp2;go_ret;exact⟨by rw[←He.out];rfl,K3.out⟩
theorem OU(a b:Int)(Q:Option Addr)(z k:Int)(w:JW)(h:Jq 0 w (.agg #[Ji Jl a,Jp Jn]) z)(h':Jq 0 w (.agg #[Ji Jl b,Jp Q]) k)(p:Nat)(hp:Q=Jo ⟨p,0,Jn⟩) :
  Calls Tryz.prog 96 #[.agg #[Ji Jl a,Jp Jn],.agg #[Ji Jl b,Jp Q]] w fun e w'=>e= .returned (Ji Jl (cmpZ z k))/\Below w.heap.size w w':=by
 subst hp;obtain⟨bz,hbz⟩:∃bz,decide (z<0)=bz:=⟨_,rfl⟩;obtain⟨bk,hbk⟩:∃bk,decide (k<0)=bk:=⟨_,rfl⟩;have kk:=((M4 w.heap.size w).alloc (M1 _) (.cells #[Ji Jl a,Jp Jn] 28)).alloc (by simp) (.cells #[Ji Jl b,Jp (Jo ⟨p,0,Jn⟩)] 28);have Hx:=Lh (JI _ z _ bz hbz (h.keep kk));have Hy:=Lh (fun w' (hb:Below w.heap.size w w')=>JI _ k w' bk hbk (h'.keep hb));have Kk:=Lh kk;have Hbz:=Lh hbz;have Hbk:=Lh hbk;clear h h' kk hbz hbk;go_enter Tryz.func96,Tryz.ntmps96;go_wp2_with fail
 refine Hx.out.mono ?_;rintro e w1⟨A,n,c,xs,rfl,hx,h1⟩;have e1:w1.cell? ⟨w.heap.size+1,0,Jn⟩=Jo (Ji Jl b):=(h1.cell (p:=⟨w.heap.size+1,0,Jn⟩) (by simp)).trans (by simp[go_sem]);have e2:w1.cell? ⟨w.heap.size+1,1,Jn⟩=Jo (Jp (Jo ⟨p,0,Jn⟩)):=(h1.cell (p:=⟨w.heap.size+1,1,Jn⟩) (by simp)).trans (by simp[go_sem]);have K1:=Lh (Kk.out.trans (h1.mono (by simp;omega)));have Hnx:=Lh hx;clear h1 hx;go_wp2_with fail
 refine(Hy.out _ K1.out).mono ?_;rintro e w2⟨A',n',c',ys,rfl,hy,h2⟩;have Hnx2:=Lh (Hnx.out.keep h2);have Hny:=Lh hy;have K2:=Lh (K1.out.trans (h2.mono K1.out.size));clear h2 hy e1 e2;cases bz <;> cases bk
 ·have hz:=of_decide_eq_false Hbz.out;have hk:=of_decide_eq_false Hbk.out;have He:=Lh (KE (z:=z) (k:=k) (by omega) (by omega));clear hz hk;go_wp2_with fail
  refine(JQ _ Hnx2.out Hny.out).mono ?_;rintro e w3⟨rfl,h3⟩;have K3:=Lh (K2.out.trans (h3.mono K2.out.size));clear h3;go_wp2;go_ret;exact⟨by rw[←He.out];rfl,K3.out⟩
 ·have hz:=of_decide_eq_false Hbz.out;have hk:=of_decide_eq_true Hbk.out;have He:=Lh (show cmpZ z k=1 by unfold cmpZ;rw[if_neg (by omega),if_pos (by omega)]);clear hz hk;go_wp2;go_ret;exact⟨by rw[He.out];rfl,K2.out⟩
 ·have hz:=of_decide_eq_true Hbz.out;have hk:=of_decide_eq_false Hbk.out;have He:=Lh (show cmpZ z k=-1 by unfold cmpZ;rw[if_pos (by omega)]);clear hz hk;go_wp2;go_ret;exact⟨by rw[He.out];rfl,K2.out⟩
 ·have hz:=of_decide_eq_true Hbz.out;have hk:=of_decide_eq_true Hbk.out;have He:=Lh (KF (z:=z) (k:=k) (by omega) (by omega));clear hz hk;go_wp2_with fail
  refine(JQ _ Hny.out Hnx2.out).mono ?_;rintro e w3⟨rfl,h3⟩;have K3:=Lh (K2.out.trans (h3.mono K2.out.size));clear h3;go_wp2;go_ret;exact⟨by rw[←He.out];rfl,K3.out⟩
theorem Ge(v u:Value)(z k:Int)(w:JW)(h:Jq 0 w v z)(h':Jq 0 w u k) :
  Calls Tryz.prog 96 #[v,u] w fun e w'=>e= .returned (Ji Jl (cmpZ z k))/\Below w.heap.size w w':=by
 rcases h.ways with⟨hz,rfl⟩|⟨hz,p,rfl,hp,c0⟩
 ·rcases h'.ways with⟨hk,rfl⟩|⟨hk,q,rfl,hq,d0⟩
  ·exact OT z k w
  ·exact OU _ _ _ z k w h h' q rfl
 ·obtain⟨b,Q,rfl⟩:=h'.form;exact OV _ _ _ _ z k w h h' p rfl
theorem Yc(v:Value)(z:Int)(w:JW)(h:Jq 0 w v z) :
  Calls Tryz.prog 66 #[v] w fun e w'=>e= .returned (Ji Jl (sgn z))/\Below w.heap.size w w':=by
 rcases h.ways with⟨hz,rfl⟩|⟨hz,p,rfl,hp,c0⟩
 ·exact Wr z w
 ·unfold I64 at hz;have e0:=(IsL.grow_cell (o:= .cells #[Ji Jl 0,Jp (Jo ⟨p,0,Jn⟩)] 28) hp 0).trans c0;by_cases hneg:z<0
  ·have He:=Lh (show sgn z=-1 by unfold sgn;rw[if_pos hneg]);rw[decide_eq_true hneg]at e0;clear h hz c0 hneg;go_enter Tryz.func66,Tryz.ntmps66;go_wp2;go_ret;exact⟨by rw[He.out];rfl,(M4 _ _).alloc (M1 _) _⟩
  ·have He:=Lh (show sgn z=1 by unfold sgn;rw[if_neg hneg,if_pos (by omega)]);rw[decide_eq_false hneg]at e0;clear h hz c0 hneg;go_enter Tryz.func66,Tryz.ntmps66;go_wp2;go_ret;exact⟨by rw[He.out];rfl,(M4 _ _).alloc (M1 _) _⟩
theorem Qr{ys:List Nat}{s:Nat}(hy:Jz ys)(hs:s<18446744073709551616):Jz (ys ++ [s]):=by
 intro x hx;rcases List.mem_append.1 hx with hx|hx
 ·exact hy x hx
 ·rw[List.mem_singleton.1 hx];exact hs
theorem Qf{a b:List Nat}(ha:Jz a)(hb:Jz b):Jz (a ++ b):=by
 intro x hx;rcases List.mem_append.1 hx with hx|hx
 ·exact ha x hx
 ·exact hb x hx
theorem Q8{xs:List Nat}(h:Jz xs)(k:Nat):Jz (xs.drop k):=fun d hd=>h d (List.mem_of_mem_drop hd)
theorem JN{xs:List Nat}(h:Jz xs)(k:Nat):xs.getD k 0<18446744073709551616:=by
 by_cases hk:k<xs.length
 ·have e:xs.getD k 0=xs[k]:=by simp[M6,hk]
  rw[e];exact h _ (List.getElem_mem hk)
 ·have e:xs.getD k 0=0:=by simp[M6,M3 (by omega:xs.length<=k)]
  rw[e];decide
theorem EP{xs:List Nat}{k d:Nat}(hk:k<xs.length)(hd:xs.getD k 0=d):xs.take (k+1)=xs.take k ++ [d]:=by
 rw[List.take_succ_eq_append_getElem hk,←hd];simp[M6,hk]
theorem Qp{xs:List Nat}{k d:Nat}(hd:xs.getD k 0=d):Je (xs.take (k+1))=Je (xs.take k)+base k*d:=by
 by_cases hk:k<xs.length
 ·rw[EP hk hd,JD,List.length_take,M8 (by omega)]
 ·have e:d=0:=by rw[←hd];simp[M6,M3 (by omega:xs.length<=k)]
  rw[e,M0 (by omega),M0 (by omega)];rfl
theorem WE{xs:List Nat}{o n:Nat}{rs:List Nat}(h:rs.length<=n)(hn:o+n<=xs.length):put xs o rs=put xs o (rs ++ ((xs.drop o).take n).drop rs.length):=by
 unfold put;rw[M7,M7,M7]
 congr 2
 rw[List.drop_take,List.drop_drop];have e:o+(rs ++ ((xs.drop (o+rs.length)).take (n-rs.length))).length=o+rs.length+(n-rs.length):=by simp;omega
 have e3:xs.drop (o+rs.length+(n-rs.length))=(xs.drop (o+rs.length)).drop (n-rs.length):=by rw[List.drop_drop]
 rw[e,e3,List.take_append_drop]
def OI(w0:JW)(g o n:Nat)(xs ys:List Nat)(k:Nat)(vc:Value)(wr:JW):Prop:=
 ∃(rs:List Nat) (c:Nat),rs.length=k/\k<=n/\vc=Ji Ju (c:Nat)/\c<=1/\Jz rs/\Je rs+base k*c=Je ((xs.drop o).take k)+Je (ys.take k)/\Blk wr g (put xs o rs)/\Only g w0 wr
theorem OA{w0 wr:JW}{g o n k x y c s f m:Nat}{xs ys rs:List Nat}(hk:rs.length=k)(hkn:k<n)(ho:o+n<=xs.length)(hx:xs.getD (o+k) 0=x)(hy:ys.getD k 0=y)(hx1:x<18446744073709551616)(hy1:y<18446744073709551616)(hc:c<=1)
  (hs:(x+y+c)%18446744073709551616=s) (hf:(x+y+c)/18446744073709551616=f) (hw:Jz rs) (hv:Je rs+base k*c=Je ((xs.drop o).take k)+Je (ys.take k)) (hb:Blk wr g (put xs o rs)) (ho2:Only g w0 wr) :
  OI w0 g o n xs ys (k+1) (Ji Ju (f:Int)) ((wr.drewN m).setCell ⟨g,o+k,Jn⟩ (Ji Ju (s:Int))):=by
 have e1:s+18446744073709551616*f=x+y+c:=by omega
 refine⟨rs ++ [s],f,by simp;omega,by omega,rfl,by omega,Qr hw (by omega),?_,?_,(ho2.drewN m).set_ _ _⟩
 ·rw[JD,hk,Ui (by omega) hx,JD,Yj (by omega),Qp hy,JT];have e2:base k*s+18446744073709551616*base k*f=base k*(x+y+c):=by rw[←e1];simp only[M5,Mu,Mr]
  rw[M5,M5]at e2;omega
 ·subst hk;rw[←Yd (by omega)];exact(hb.drewN m).set_ _ (by rw[Jy (by omega)];omega)
theorem LT{k n c:Nat}{xs ys rs:List Nat}{o:Nat}(_hk:rs.length=k)(hkn:k<=n)(hyk:ys.length<=k)(hc:c≠0)(hv:Je rs+base k*c=Je ((xs.drop o).take k)+Je (ys.take k))(hroom:Je ((xs.drop o).take n)+Je ys<base n):k<n:=by
 rcases Mv k n with h|h
 ·exact h
 ·exfalso;obtain rfl:k=n:=by omega
  rw[M0 hyk]at hv;have h1:base k*1<=base k*c:=M9 _ (by omega);omega
theorem NI{wr:JW}{g o n k:Nat}{xs ys rs:List Nat}(hx:Jz xs)(hk:rs.length=k)(hkn:k<=n)(ho:o+n<=xs.length)(hyk:ys.length<=k)(hw:Jz rs)(hv:Je rs+base k*0=Je ((xs.drop o).take k)+Je (ys.take k))(hb:Blk wr g (put xs o rs)) :
  ∃zs:List Nat,zs.length=n/\Jz zs/\Je zs=Je ((xs.drop o).take n)+Je ys/\Blk wr g (put xs o zs):=by
 refine⟨rs ++ ((xs.drop o).take n).drop rs.length,by simp;omega,Qf hw (Q8 (JY (Q8 hx o) n) _),?_,by rw[←WE (by omega) ho];exact hb⟩;rw[M0 hyk]at hv;rw[Qx,hk,Qh ((xs.drop o).take n) k,Mt,M8 hkn,Yj (by omega)];omega
theorem Gi(g o n c n' c':Nat)(A':Option Addr)(xs ys:List Nat)(w:JW)(hb:Blk w g xs)(hl:IsL w A' n' c' (u64s ys))(hA:0<n'->∀a:Addr,A'=Jo a->a.block≠g)(ho:o+n<=xs.length)(hn':n'<=n)(hx:Jz xs)(hy:Jz ys)(hn:n<1000000)(_hoo:o<1000000)
  (hroom:Je ((xs.drop o).take n)+Je ys<base n) :
  Calls Tryz.prog 171 #[.slice (Jo ⟨g,o,Jn⟩) n c,.slice A' n' c'] w fun e w'=>
   e= .returned (.tuple #[])/\(∃zs:List Nat,zs.length=n/\Jz zs/\Je zs=Je ((xs.drop o).take n)+Je ys/\Blk w' g (put xs o zs))/\Only g w w':=by
 have hlen:ys.length=n':=by have:=hl.1;rwa [Qi]at this
 have Hb:=Lh hb;have Hx:=Lh hx;have Hy:=Lh hy;have Hl:=Lh hl;have HA:=Lh hA;have Hlen:=Lh hlen;have Hroom:=Lh hroom;clear hb hx hy hl hA hlen hroom;go_enter Tryz.func171,Tryz.ntmps171;go_wp2_with fail
 go_loopw [9,4] (fun vi vc wr=>∃k:Nat,k<=n'/\vi=Ji Jl (k:Nat)/\OI w g o n xs ys k vc wr) (fun vi _ _=>n'-(intOf vi).toNat)
 case atStart=>exact⟨0,M2 _,rfl,[],0,rfl,M2 _,rfl,M2 _,fun d hd=>absurd hd (by simp),by simp[Je,QH],by rw[UC];exact Hb.out,Only.refl _ _⟩
 case round=>
  obtain⟨k,hk,rfl,rs,cc,hrk,hkn,rfl,hc1,hw,hv,hblk,honly⟩:=hrel;have Hrk:=Lh hrk;have Hw:=Lh hw;have Hv:=Lh hv;have Hblk:=Lh hblk;have Honly:=Lh honly;by_cases hlt:k<n'
  ·obtain⟨b',o',rfl,hb',hc'⟩:=Hl.out.2.2 (by omega);have hne:b'≠g:=HA.out (by omega) _ rfl;have hcell:=hblk.cell (i:=o+k) (by rw[Jy (by omega)];omega);rw[Ym (by omega) (by omega)]at hcell;have hfz:=hblk.frozen (o+k);have hcy:=(honly.cell (o:=o'+k) hb' hne).trans (hc' k (Ji Ju ((ys.getD k 0:Nat):Int)) (by have:=Hlen.out;simp[u64s,show k<ys.length by omega]));have hx1:=JN Hx.out (o+k);have hy1:=JN Hy.out k;obtain⟨x,hx⟩:∃x,xs.getD (o+k) 0=x:=⟨_,rfl⟩;obtain⟨y,hy⟩:∃y,ys.getD k 0=y:=⟨_,rfl⟩;rw[hx]at hcell hx1;rw[hy]at hcy;rw[hy]at hy1;have HX:=Lh hx;have HY:=Lh hy;clear hc' hblk honly hw hv hrk hx hy;obtain⟨s,hs⟩:∃s,(x+y+cc)%18446744073709551616=s:=⟨_,rfl⟩;obtain⟨f,hf⟩:∃f,(x+y+cc)/18446744073709551616=f:=⟨_,rfl⟩;have hadd:∀W:JW,(callFunc 170 #[Ji Ju (x:Int),Ji Ju (y:Int),Ji Ju (cc:Int)]).run Tryz.prog W= .ok (.value (.tuple #[Ji Ju (s:Int),Ji Ju (f:Int)])) W:=Uv x y cc s f hc1 hs hf;have Hs:=Lh hs;have Hf:=Lh hf;clear hs hf;go_wp2_with fail
   go_region
   all_goals
    have Hfin:=Lh (OA (m:=1) Hrk.out (show k<n by omega) ho HX.out HY.out hx1 hy1 hc1 Hs.out Hf.out Hw.out Hv.out Hblk.out Honly.out);go_wp2_with fail
    exact⟨⟨k+1,hlt,by go_num,Hfin.out⟩,by simp[intOf] <;> omega⟩
  ·obtain rfl:k=n':=by omega
   have Hinv:=Lh (show OI w g o n xs ys k (Ji Ju (cc:Nat)) wr from⟨rs,cc,Hrk.out,hkn,rfl,hc1,Hw.out,Hv.out,Hblk.out,Honly.out⟩);clear hblk honly hw hv hrk;go_wp2_with fail
   go_loopw [6,4] (fun vi vc wr=>∃j:Nat,k<=j/\vi=Ji Jl (j:Nat)/\OI w g o n xs ys j vc wr) (fun vi _ _=>n-(intOf vi).toNat)
   case atStart=>exact⟨k,M1 _,rfl,Hinv.out⟩
   case round=>
    obtain⟨j,hj,rfl,rs,cc,hrk,hkn,rfl,hc1,hw,hv,hblk,honly⟩:=hrel;have Hrk:=Lh hrk;have Hw:=Lh hw;have Hv:=Lh hv;have Hblk:=Lh hblk;have Honly:=Lh honly;have hyj:ys.length<=j:=by rw[Hlen.out];exact hj
    by_cases h0:cc=0
    ·subst h0;have Hfin:=Lh (NI Hx.out hrk hkn ho hyj hw hv hblk);clear hblk honly hw hv hrk hyj;go_wp2;go_end0
     exact⟨rfl,Hfin.out,Honly.out⟩
    ·have hlt:=LT hrk hkn hyj h0 hv Hroom.out;have hcell:=hblk.cell (i:=o+j) (by rw[Jy (by omega)];omega);rw[Ym (by omega) (by omega)]at hcell;have hfz:=hblk.frozen (o+j);have hx1:=JN Hx.out (o+j);obtain⟨x,hx⟩:∃x,xs.getD (o+j) 0=x:=⟨_,rfl⟩;have hy:ys.getD j 0=0:=by simp[M6,M3 hyj]
     rw[hx]at hcell hx1;have HX:=Lh hx;have HY:=Lh hy;have t0:((cc:Int) ==0)=false:=by rw[beq_eq_false_iff_ne];omega
     clear hblk honly hw hv hrk hx hy hyj;obtain⟨s,hs⟩:∃s,(x+0+cc)%18446744073709551616=s:=⟨_,rfl⟩;obtain⟨f,hf⟩:∃f,(x+0+cc)/18446744073709551616=f:=⟨_,rfl⟩;have hadd:∀W:JW,(callFunc 170 #[Ji Ju (x:Int),Ji Ju 0,Ji Ju (cc:Int)]).run Tryz.prog W= .ok (.value (.tuple #[Ji Ju (s:Int),Ji Ju (f:Int)])) W:=Uv x 0 cc s f hc1 hs hf;have Hs:=Lh hs;have Hf:=Lh hf;clear hs hf;have Hfin:=Lh (OA (m:=0) Hrk.out hlt ho HX.out HY.out hx1 (by decide) hc1 Hs.out Hf.out Hw.out Hv.out Hblk.out Honly.out);go_wp2_with fail
     exact⟨⟨j+1,by omega,by go_num,Hfin.out⟩,by simp[intOf] <;> omega⟩
def Z6(w0:JW)(g o n:Nat)(xs ys:List Nat)(k:Nat)(vc:Value)(wr:JW):Prop:=
 ∃(rs:List Nat) (c:Nat),rs.length=k/\k<=n/\vc=Ji Ju (c:Nat)/\c<=1/\Jz rs/\Je rs+Je (ys.take k)=Je ((xs.drop o).take k)+base k*c/\Blk wr g (put xs o rs)/\Only g w0 wr
theorem Wm{w0 wr:JW}{g o n k x y c s f m:Nat}{xs ys rs:List Nat}(hk:rs.length=k)(hkn:k<n)(ho:o+n<=xs.length)(hx:xs.getD (o+k) 0=x)(hy:ys.getD k 0=y)(hx1:x<18446744073709551616)(hy1:y<18446744073709551616)(hc:c<=1)
  (hs:(x+18446744073709551616-y-c)%18446744073709551616=s) (hf:(if x<y+c then 1 else 0)=f) (hw:Jz rs) (hv:Je rs+Je (ys.take k)=Je ((xs.drop o).take k)+base k*c) (hb:Blk wr g (put xs o rs)) (ho2:Only g w0 wr) :
  Z6 w0 g o n xs ys (k+1) (Ji Ju (f:Int)) ((wr.drewN m).setCell ⟨g,o+k,Jn⟩ (Ji Ju (s:Int))):=by
 have e1:s+y+c=x+18446744073709551616*f:=by
  by_cases h1:x<y+c
  ·rw[if_pos h1]at hf;omega
  ·rw[if_neg h1]at hf;omega
 have e0:f<=1:=by rw[←hf];split <;> omega
 refine⟨rs ++ [s],f,by simp;omega,by omega,rfl,e0,Qr hw (by omega),?_,?_,(ho2.drewN m).set_ _ _⟩
 ·rw[JD,hk,Ui (by omega) hx,JD,Yj (by omega),Qp hy,JT];have e2:base k*x+18446744073709551616*base k*f=base k*(s+y+c):=by rw[e1];simp only[M5,Mu,Mr]
  rw[M5,M5]at e2;omega
 ·subst hk;rw[←Yd (by omega)];exact(hb.drewN m).set_ _ (by rw[Jy (by omega)];omega)
theorem DW{k n c:Nat}{xs ys rs:List Nat}{o:Nat}(hw:Jz rs)(hk:rs.length=k)(hkn:k<=n)(hyk:ys.length<=k)(hc:c≠0)(hv:Je rs+Je (ys.take k)=Je ((xs.drop o).take k)+base k*c)(hroom:Je ys<=Je ((xs.drop o).take n)):k<n:=by
 rcases Mv k n with h|h
 ·exact h
 ·exfalso;obtain rfl:k=n:=by omega
  rw[M0 hyk]at hv;have h1:base k*1<=base k*c:=M9 _ (by omega);have h2:=JO hw;rw[hk]at h2;omega
theorem L8{wr:JW}{g o n k:Nat}{xs ys rs:List Nat}(hx:Jz xs)(hk:rs.length=k)(hkn:k<=n)(ho:o+n<=xs.length)(hyk:ys.length<=k)(hw:Jz rs)(hv:Je rs+Je (ys.take k)=Je ((xs.drop o).take k)+base k*0)(hb:Blk wr g (put xs o rs)) :
  ∃zs:List Nat,zs.length=n/\Jz zs/\Je zs+Je ys=Je ((xs.drop o).take n)/\Blk wr g (put xs o zs):=by
 refine⟨rs ++ ((xs.drop o).take n).drop rs.length,by simp;omega,Qf hw (Q8 (JY (Q8 hx o) n) _),?_,by rw[←WE (by omega) ho];exact hb⟩;rw[M0 hyk]at hv;rw[Qx,hk,Qh ((xs.drop o).take n) k,Mt,M8 hkn,Yj (by omega)];omega
theorem Wn(g o n c n' c':Nat)(A':Option Addr)(xs ys:List Nat)(w:JW)(hb:Blk w g xs)(hl:IsL w A' n' c' (u64s ys))(hA:0<n'->∀a:Addr,A'=Jo a->a.block≠g)(ho:o+n<=xs.length)(hn':n'<=n)(hx:Jz xs)(hy:Jz ys)(hn:n<1000000)(_hoo:o<1000000)
  (hroom:Je ys<=Je ((xs.drop o).take n)) :
  Calls Tryz.prog 172 #[.slice (Jo ⟨g,o,Jn⟩) n c,.slice A' n' c'] w fun e w'=>
   e= .returned (.tuple #[])/\(∃zs:List Nat,zs.length=n/\Jz zs/\Je zs+Je ys=Je ((xs.drop o).take n)/\Blk w' g (put xs o zs))/\Only g w w':=by
 have hlen:ys.length=n':=by have:=hl.1;rwa [Qi]at this
 have Hb:=Lh hb;have Hx:=Lh hx;have Hy:=Lh hy;have Hl:=Lh hl;have HA:=Lh hA;have Hlen:=Lh hlen;have Hroom:=Lh hroom;clear hb hx hy hl hA hlen hroom;go_enter Tryz.func172,Tryz.ntmps172;go_wp2_with fail
 go_loopw [9,4] (fun vi vc wr=>∃k:Nat,k<=n'/\vi=Ji Jl (k:Nat)/\Z6 w g o n xs ys k vc wr) (fun vi _ _=>n'-(intOf vi).toNat)
 case atStart=>exact⟨0,M2 _,rfl,[],0,rfl,M2 _,rfl,M2 _,fun d hd=>absurd hd (by simp),by simp[Je,QH],by rw[UC];exact Hb.out,Only.refl _ _⟩
 case round=>
  obtain⟨k,hk,rfl,rs,cc,hrk,hkn,rfl,hc1,hw,hv,hblk,honly⟩:=hrel;have Hrk:=Lh hrk;have Hw:=Lh hw;have Hv:=Lh hv;have Hblk:=Lh hblk;have Honly:=Lh honly;by_cases hlt:k<n'
  ·obtain⟨b',o',rfl,hb',hc'⟩:=Hl.out.2.2 (by omega);have hne:b'≠g:=HA.out (by omega) _ rfl;have hcell:=hblk.cell (i:=o+k) (by rw[Jy (by omega)];omega);rw[Ym (by omega) (by omega)]at hcell;have hfz:=hblk.frozen (o+k);have hcy:=(honly.cell (o:=o'+k) hb' hne).trans (hc' k (Ji Ju ((ys.getD k 0:Nat):Int)) (by have:=Hlen.out;simp[u64s,show k<ys.length by omega]));have hx1:=JN Hx.out (o+k);have hy1:=JN Hy.out k;obtain⟨x,hx⟩:∃x,xs.getD (o+k) 0=x:=⟨_,rfl⟩;obtain⟨y,hy⟩:∃y,ys.getD k 0=y:=⟨_,rfl⟩;rw[hx]at hcell hx1;rw[hy]at hcy;rw[hy]at hy1;have HX:=Lh hx;have HY:=Lh hy;clear hc' hblk honly hw hv hrk hx hy;obtain⟨s,hs⟩:∃s,(x+18446744073709551616-y-cc)%18446744073709551616=s:=⟨_,rfl⟩;obtain⟨f,hf⟩:∃f,(if x<y+cc then 1 else 0)=f:=⟨_,rfl⟩;have hsub:∀W:JW,(callFunc 167 #[Ji Ju (x:Int),Ji Ju (y:Int),Ji Ju (cc:Int)]).run Tryz.prog W= .ok (.value (.tuple #[Ji Ju (s:Int),Ji Ju (f:Int)])) W:=Xl x y cc s f hc1 hs hf;have Hs:=Lh hs;have Hf:=Lh hf;clear hs hf;go_wp2_with fail
   go_region
   all_goals
    have Hfin:=Lh (Wm (m:=1) Hrk.out (show k<n by omega) ho HX.out HY.out hx1 hy1 hc1 Hs.out Hf.out Hw.out Hv.out Hblk.out Honly.out);go_wp2_with fail
    exact⟨⟨k+1,hlt,by go_num,Hfin.out⟩,by simp[intOf] <;> omega⟩
  ·obtain rfl:k=n':=by omega
   have Hinv:=Lh (show Z6 w g o n xs ys k (Ji Ju (cc:Nat)) wr from⟨rs,cc,Hrk.out,hkn,rfl,hc1,Hw.out,Hv.out,Hblk.out,Honly.out⟩);clear hblk honly hw hv hrk;go_wp2_with fail
   go_loopw [6,4] (fun vi vc wr=>∃j:Nat,k<=j/\vi=Ji Jl (j:Nat)/\Z6 w g o n xs ys j vc wr) (fun vi _ _=>n-(intOf vi).toNat)
   case atStart=>exact⟨k,M1 _,rfl,Hinv.out⟩
   case round=>
    obtain⟨j,hj,rfl,rs,cc,hrk,hkn,rfl,hc1,hw,hv,hblk,honly⟩:=hrel;have Hrk:=Lh hrk;have Hw:=Lh hw;have Hv:=Lh hv;have Hblk:=Lh hblk;have Honly:=Lh honly;have hyj:ys.length<=j:=by rw[Hlen.out];exact hj
    by_cases h0:cc=0
    ·subst h0;have Hfin:=Lh (L8 Hx.out hrk hkn ho hyj hw hv hblk);clear hblk honly hw hv hrk hyj;go_wp2;go_end0
     exact⟨rfl,Hfin.out,Honly.out⟩
    ·have hlt:=DW hw hrk hkn hyj h0 hv Hroom.out;have hcell:=hblk.cell (i:=o+j) (by rw[Jy (by omega)];omega);rw[Ym (by omega) (by omega)]at hcell;have hfz:=hblk.frozen (o+j);have hx1:=JN Hx.out (o+j);obtain⟨x,hx⟩:∃x,xs.getD (o+j) 0=x:=⟨_,rfl⟩;have hy:ys.getD j 0=0:=by simp[M6,M3 hyj]
     rw[hx]at hcell hx1;have HX:=Lh hx;have HY:=Lh hy;have t0:((cc:Int) ==0)=false:=by rw[beq_eq_false_iff_ne];omega
     clear hblk honly hw hv hrk hx hy hyj;obtain⟨s,hs⟩:∃s,(x+18446744073709551616-0-cc)%18446744073709551616=s:=⟨_,rfl⟩;obtain⟨f,hf⟩:∃f,(if x<0+cc then 1 else 0)=f:=⟨_,rfl⟩;have hsub:∀W:JW,(callFunc 167 #[Ji Ju (x:Int),Ji Ju 0,Ji Ju (cc:Int)]).run Tryz.prog W= .ok (.value (.tuple #[Ji Ju (s:Int),Ji Ju (f:Int)])) W:=Xl x 0 cc s f hc1 hs hf;have Hs:=Lh hs;have Hf:=Lh hf;clear hs hf;have Hfin:=Lh (Wm (m:=0) Hrk.out hlt ho HX.out HY.out hx1 (by decide) hc1 Hs.out Hf.out Hw.out Hv.out Hblk.out Honly.out);go_wp2_with fail
     exact⟨⟨j+1,by omega,by go_num,Hfin.out⟩,by simp[intOf] <;> omega⟩
