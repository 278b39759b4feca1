/- GC14: MulZ Hold -/
import Derived.Test.YtekhdklbfincpaaGreatDoorGC11
import Derived.Test.YtekhdklbfincpaaGreatDoorGC13
set_option maxRecDepth 100000
set_option maxHeartbeats 16000000
namespace Go.Proofs.YtekhdklbfincpaaGreatDoor
open Go.Value renaming pointer→Jp,int→Ji,agg→Ja
open Go.IntKind renaming i64→Jl
open Go.Obj renaming cells→Jc
open _root_.Option renaming none→Jn,some→Jo
open Go renaming World→JW
open Go.World renaming cell?_setCell_other→M0,cell?_of_block→M1,frozen?_setCell→M2,size_alloc→M5,cell?_setCell_same→M8,setCell→M9,frozen?→Mr
open Go.RowKit.Below renaming heap_setCell→M3,refl→M4
open _root_.Nat renaming le_refl→M6,lt_of_lt_of_le→M7
open Go.RowKit
theorem FO(a b:Int)(p:Nat)(Q:Option Addr)(z k:Int)(w:JW)(h:Jq 0 w (Ja #[Ji Jl a,Jp (Jo ⟨p,0,Jn⟩)]) z)(h':Jq 0 w (Ja #[Ji Jl b,Jp Q]) k)(hlz:z.natAbs<base 400)(hlk:k.natAbs<base 400)(hsm:z.natAbs<base 47\/k.natAbs<base 47)  :
  Calls Tryz.prog 86 #[Ja #[Ji Jl a,Jp (Jo ⟨p,0,Jn⟩)],Ja #[Ji Jl b,Jp Q]] w (Qt (z*k) w):=by
 obtain⟨bz,hbz⟩:∃bz,decide (z<0)=bz:=⟨_,rfl⟩;obtain⟨bk,hbk⟩:∃bk,decide (k<0)=bk:=⟨_,rfl⟩;have kk:=(((M4 w.heap.size w).alloc (M6 _) (Jc #[Ji Jl a,Jp (Jo ⟨p,0,Jn⟩)] 28)).alloc (by simp) (Jc #[Ji Jl b,Jp Q] 28)).alloc (by simp;omega) (Jc #[Ji Jl 0,Jp Jn] 28);have Hr:=Lh (Res.new ((w.alloc (Jc #[Ji Jl a,Jp (Jo ⟨p,0,Jn⟩)] 28)).alloc (Jc #[Ji Jl b,Jp Q] 28)));simp only[M5]at Hr;have Hx:=Lh (JI _ z _ bz hbz (h.keep kk));have Hy:=Lh (fun w' (hb:Below w.heap.size w w')=>JI _ k w' bk hbk (h'.keep hb));have Kk:=Lh kk;have Hlz:=Lh hlz;have Hlk:=Lh hlk;have Hsm:=Lh hsm;have hs:=Vk z k;rw[hbz,hbk]at hs;have Hs:=Lh hs;clear h h' kk hbz hbk hlz hlk hsm hs;go_enter Tryz.func86,Tryz.ntmps86;go_wp2_with fail
 refine Hx.out.mono ?_;rintro e w1⟨A,n,c,xs,rfl,hx,h1⟩;have e1:w1.cell? ⟨w.heap.size+1,0,Jn⟩=Jo (Ji Jl b):=(h1.cell (p:=⟨w.heap.size+1,0,Jn⟩) (by simp)).trans (by simp[go_sem]);have e2:w1.cell? ⟨w.heap.size+1,1,Jn⟩=Jo (Jp Q):=(h1.cell (p:=⟨w.heap.size+1,1,Jn⟩) (by simp)).trans (by simp[go_sem]);have K1:=Lh (Jd Kk.out h1);have R1:=Lh (Hr.out.keep h1);have Hnx:=Lh hx;clear h1 hx;go_wp2_with fail
 refine(Hy.out _ K1.out).mono ?_;rintro e w2⟨A',n',c',ys,rfl,hy,h2⟩;have Hnx2:=Lh (Hnx.out.keep h2);have Hny:=Lh hy;have K2:=Lh (Jd K1.out h2);have R2:=Lh (R1.out.keep h2);have hn:=Hnx2.out.len_le Hlz.out;have hn':=Hny.out.len_le Hlk.out;have h48:n<48\/n'<48:=by
  rcases Hsm.out with h0|h0
  ·left;have:=Hnx2.out.len_le h0;omega
  ·right;have:=Hny.out.len_le h0;omega
 clear h2 hy e1 e2;have Hmul:=Lh (U8 w2 Hnx2.out Hny.out h48 (by omega) (by omega));go_wp2_with fail
 refine Hmul.out.mono ?_;rintro e w3⟨A3,n3,c3,zs,rfl,h3n,h3⟩;have K4:=Lh (Jd K2.out h3);have R4:=Lh (R2.out.keep h3);have Hsg:=Lh (JH (bz !=bk) (z*k) w3 h3n Hs.out);clear h3n h3;go_wp2_with fail
 refine Hsg.out.mono ?_;rintro e w5⟨a',P',rfl,hi5,h5⟩;have R5:=Lh (R4.out.keep h5);have Hi5:=Lh (hi5.stored R5.out (Ji Jl a') (Jp P'));have K5:=Lh (Jg (Jd K4.out h5) (show w.heap.size<=w.heap.size+2 by omega) (Ji Jl a') (Jp P'));have k0:=R5.out.k0;have k1:=R5.out.k1;have f0:=R5.out.f0;have f1:=R5.out.f1;clear hi5 h5;go_wp2;exact bodyPost_ret (v:=Ja #[Ji Jl a',Jp P']) (by simp[results,Tryz.results86,go_sem,k0,k1]) rfl ⟨a',P',rfl,Hi5.out,K5.out⟩
theorem FN(a b:Int)(p:Nat)(z k:Int)(w:JW)(h:Jq 0 w (Ja #[Ji Jl a,Jp Jn]) z)(h':Jq 0 w (Ja #[Ji Jl b,Jp (Jo ⟨p,0,Jn⟩)]) k)(hlz:z.natAbs<base 400)(hlk:k.natAbs<base 400)(hsm:z.natAbs<base 47\/k.natAbs<base 47)  :
  Calls Tryz.prog 86 #[Ja #[Ji Jl a,Jp Jn],Ja #[Ji Jl b,Jp (Jo ⟨p,0,Jn⟩)]] w (Qt (z*k) w):=by
 obtain⟨bz,hbz⟩:∃bz,decide (z<0)=bz:=⟨_,rfl⟩;obtain⟨bk,hbk⟩:∃bk,decide (k<0)=bk:=⟨_,rfl⟩;have kk:=(((M4 w.heap.size w).alloc (M6 _) (Jc #[Ji Jl a,Jp Jn] 28)).alloc (by simp) (Jc #[Ji Jl b,Jp (Jo ⟨p,0,Jn⟩)] 28)).alloc (by simp;omega) (Jc #[Ji Jl 0,Jp Jn] 28);have Hr:=Lh (Res.new ((w.alloc (Jc #[Ji Jl a,Jp Jn] 28)).alloc (Jc #[Ji Jl b,Jp (Jo ⟨p,0,Jn⟩)] 28)));simp only[M5]at Hr;have Hx:=Lh (JI _ z _ bz hbz (h.keep kk));have Hy:=Lh (fun w' (hb:Below w.heap.size w w')=>JI _ k w' bk hbk (h'.keep hb));have Kk:=Lh kk;have Hlz:=Lh hlz;have Hlk:=Lh hlk;have Hsm:=Lh hsm;have hs:=Vk z k;rw[hbz,hbk]at hs;have Hs:=Lh hs;clear h h' kk hbz hbk hlz hlk hsm hs;go_enter Tryz.func86,Tryz.ntmps86;go_wp2_with fail
 refine Hx.out.mono ?_;rintro e w1⟨A,n,c,xs,rfl,hx,h1⟩;have e1:w1.cell? ⟨w.heap.size+1,0,Jn⟩=Jo (Ji Jl b):=(h1.cell (p:=⟨w.heap.size+1,0,Jn⟩) (by simp)).trans (by simp[go_sem]);have e2:w1.cell? ⟨w.heap.size+1,1,Jn⟩=Jo (Jp (Jo ⟨p,0,Jn⟩)):=(h1.cell (p:=⟨w.heap.size+1,1,Jn⟩) (by simp)).trans (by simp[go_sem]);have K1:=Lh (Jd Kk.out h1);have R1:=Lh (Hr.out.keep h1);have Hnx:=Lh hx;clear h1 hx;go_wp2_with fail
 refine(Hy.out _ K1.out).mono ?_;rintro e w2⟨A',n',c',ys,rfl,hy,h2⟩;have Hnx2:=Lh (Hnx.out.keep h2);have Hny:=Lh hy;have K2:=Lh (Jd K1.out h2);have R2:=Lh (R1.out.keep h2);have hn:=Hnx2.out.len_le Hlz.out;have hn':=Hny.out.len_le Hlk.out;have h48:n<48\/n'<48:=by
  rcases Hsm.out with h0|h0
  ·left;have:=Hnx2.out.len_le h0;omega
  ·right;have:=Hny.out.len_le h0;omega
 clear h2 hy e1 e2;have Hmul:=Lh (U8 w2 Hnx2.out Hny.out h48 (by omega) (by omega));go_wp2_with fail
 refine Hmul.out.mono ?_;rintro e w3⟨A3,n3,c3,zs,rfl,h3n,h3⟩;have K4:=Lh (Jd K2.out h3);have R4:=Lh (R2.out.keep h3);have Hsg:=Lh (JH (bz !=bk) (z*k) w3 h3n Hs.out);clear h3n h3;go_wp2_with fail
 refine Hsg.out.mono ?_;rintro e w5⟨a',P',rfl,hi5,h5⟩;have R5:=Lh (R4.out.keep h5);have Hi5:=Lh (hi5.stored R5.out (Ji Jl a') (Jp P'));have K5:=Lh (Jg (Jd K4.out h5) (show w.heap.size<=w.heap.size+2 by omega) (Ji Jl a') (Jp P'));have k0:=R5.out.k0;have k1:=R5.out.k1;have f0:=R5.out.f0;have f1:=R5.out.f1;clear hi5 h5;go_wp2;exact bodyPost_ret (v:=Ja #[Ji Jl a',Jp P']) (by simp[results,Tryz.results86,go_sem,k0,k1]) rfl ⟨a',P',rfl,Hi5.out,K5.out⟩
theorem Za{m:Nat}(h:9223372036854775807<m):∀H L:Nat,m/18446744073709551616=H->m%18446744073709551616=L->¬(H=0/\L<=9223372036854775807):=by
 intro H L hh hl;omega
theorem Gw(x y H L:Nat)(hx:x<18446744073709551616)(hy:y<18446744073709551616)(hh:x*y/18446744073709551616=H)(hl:x*y%18446744073709551616=L)(w:JW) :
  Calls Tryz.prog 120 #[Ji .u64 x,Ji .u64 y] w fun e w'=>e= .returned (.tuple #[Ji .u64 (H:Int),Ji .u64 (L:Int)])/\w'=w:=by
 rw[←hh,←hl];exact Tryz.bits_Mul64 x y hx hy w
theorem FM(z k:Int)(w:JW)(h:Jq 0 w (Ja #[Ji Jl z,Jp Jn]) z)(h':Jq 0 w (Ja #[Ji Jl k,Jp Jn]) k)(hlz:z.natAbs<base 400)(hlk:k.natAbs<base 400)(hsm:z.natAbs<base 47\/k.natAbs<base 47)(ha:I64 z)(hb:I64 k)(hbig:9223372036854775807<z.natAbs*k.natAbs)(h0:z.natAbs*k.natAbs/18446744073709551616=0) :
  Calls Tryz.prog 86 #[Ja #[Ji Jl z,Jp Jn],Ja #[Ji Jl k,Jp Jn]] w (Qt (z*k) w):=by
 obtain⟨bz,hbz⟩:∃bz,decide (z<0)=bz:=⟨_,rfl⟩;obtain⟨bk,hbk⟩:∃bk,decide (k<0)=bk:=⟨_,rfl⟩;have kk:=(((M4 w.heap.size w).alloc (M6 _) (Jc #[Ji Jl z,Jp Jn] 28)).alloc (by simp) (Jc #[Ji Jl k,Jp Jn] 28)).alloc (by simp;omega) (Jc #[Ji Jl 0,Jp Jn] 28);have Hr:=Lh (Res.new ((w.alloc (Jc #[Ji Jl z,Jp Jn] 28)).alloc (Jc #[Ji Jl k,Jp Jn] 28)));simp only[M5]at Hr;have Hx:=Lh (fun w' (hb:Below w.heap.size w w')=>JI _ z w' bz hbz (h.keep hb));have Hy:=Lh (fun w' (hb:Below w.heap.size w w')=>JI _ k w' bk hbk (h'.keep hb));have Kk:=Lh kk;have Hlz:=Lh hlz;have Hlk:=Lh hlk;have Hsm:=Lh hsm;have hs:=Vk z k;rw[hbz,hbk]at hs;have Hs:=Lh hs;clear h h' kk hbz hbk hlz hlk hsm hs;obtain⟨H,hh⟩:∃H,z.natAbs*k.natAbs/18446744073709551616=H:=⟨_,rfl⟩;obtain⟨L,hl⟩:∃L,z.natAbs*k.natAbs%18446744073709551616=L:=⟨_,rfl⟩;have hnot:=Za hbig H L hh hl;have Hh:=Lh hh;have Hl:=Lh hl;have Ha:=Lh ha;have Hb:=Lh hb;clear hh hl hbig;obtain rfl:H=0:=by rw[←Hh.out];exact h0
 have hL:¬L<=9223372036854775807:=fun e=>hnot ⟨rfl,e⟩;clear hnot h0;go_enter Tryz.func86,Tryz.ntmps86;go_wp2_with fail
 go_quiet ((first|(go_at_call 115;first|exact Calls.quiet_of_same (QG _ _ Ha.out)|exact Calls.quiet_of_same (QG _ _ Hb.out))|(go_at_call 120;exact Calls.quiet_of_same (Gw _ _ _ _ (Yq Ha.out) (Yq Hb.out) Hh.out Hl.out _))))
 go_wp2_with fail
 refine(Hx.out _ (below_drewN Kk.out _)).mono ?_;rintro e w1⟨A,n,c,xs,rfl,hx,h1⟩;have e1:w1.cell? ⟨w.heap.size+1,0,Jn⟩=Jo (Ji Jl k):=(h1.cell (p:=⟨w.heap.size+1,0,Jn⟩) (by simp)).trans (by simp[go_sem]);have e2:w1.cell? ⟨w.heap.size+1,1,Jn⟩=Jo (Jp Jn):=(h1.cell (p:=⟨w.heap.size+1,1,Jn⟩) (by simp)).trans (by simp[go_sem]);have K1:=Lh (Jd (below_drewN Kk.out _) h1);have R1:=Lh ((Hr.out.keep (below_drewN (M4 _ _) _)).keep h1);have Hnx:=Lh hx;clear h1 hx;go_wp2_with fail
 refine(Hy.out _ K1.out).mono ?_;rintro e w2⟨A',n',c',ys,rfl,hy,h2⟩;have Hnx2:=Lh (Hnx.out.keep h2);have Hny:=Lh hy;have K2:=Lh (Jd K1.out h2);have R2:=Lh (R1.out.keep h2);have hn:=Hnx2.out.len_le Hlz.out;have hn':=Hny.out.len_le Hlk.out;have h48:n<48\/n'<48:=by
  rcases Hsm.out with h0|h0
  ·left;have:=Hnx2.out.len_le h0;omega
  ·right;have:=Hny.out.len_le h0;omega
 clear h2 hy e1 e2;have Hmul:=Lh (U8 w2 Hnx2.out Hny.out h48 (by omega) (by omega));go_wp2_with fail
 refine Hmul.out.mono ?_;rintro e w3⟨A3,n3,c3,zs,rfl,h3n,h3⟩;have K4:=Lh (Jd K2.out h3);have R4:=Lh (R2.out.keep h3);have Hsg:=Lh (JH (bz !=bk) (z*k) w3 h3n Hs.out);clear h3n h3;go_wp2_with fail
 refine Hsg.out.mono ?_;rintro e w5⟨a',P',rfl,hi5,h5⟩;have R5:=Lh (R4.out.keep h5);have Hi5:=Lh (hi5.stored R5.out (Ji Jl a') (Jp P'));have K5:=Lh (Jg (Jd K4.out h5) (show w.heap.size<=w.heap.size+2 by omega) (Ji Jl a') (Jp P'));have k0:=R5.out.k0;have k1:=R5.out.k1;have f0:=R5.out.f0;have f1:=R5.out.f1;clear hi5 h5;go_wp2;exact bodyPost_ret (v:=Ja #[Ji Jl a',Jp P']) (by simp[results,Tryz.results86,go_sem,k0,k1]) rfl ⟨a',P',rfl,Hi5.out,K5.out⟩
theorem FK(z k:Int)(w:JW)(h:Jq 0 w (Ja #[Ji Jl z,Jp Jn]) z)(h':Jq 0 w (Ja #[Ji Jl k,Jp Jn]) k)(hlz:z.natAbs<base 400)(hlk:k.natAbs<base 400)(hsm:z.natAbs<base 47\/k.natAbs<base 47)(ha:I64 z)(hb:I64 k)(hbig:9223372036854775807<z.natAbs*k.natAbs)(h0:z.natAbs*k.natAbs/18446744073709551616≠0) :
  Calls Tryz.prog 86 #[Ja #[Ji Jl z,Jp Jn],Ja #[Ji Jl k,Jp Jn]] w (Qt (z*k) w):=by
 obtain⟨bz,hbz⟩:∃bz,decide (z<0)=bz:=⟨_,rfl⟩;obtain⟨bk,hbk⟩:∃bk,decide (k<0)=bk:=⟨_,rfl⟩;have kk:=(((M4 w.heap.size w).alloc (M6 _) (Jc #[Ji Jl z,Jp Jn] 28)).alloc (by simp) (Jc #[Ji Jl k,Jp Jn] 28)).alloc (by simp;omega) (Jc #[Ji Jl 0,Jp Jn] 28);have Hr:=Lh (Res.new ((w.alloc (Jc #[Ji Jl z,Jp Jn] 28)).alloc (Jc #[Ji Jl k,Jp Jn] 28)));simp only[M5]at Hr;have Hx:=Lh (fun w' (hb:Below w.heap.size w w')=>JI _ z w' bz hbz (h.keep hb));have Hy:=Lh (fun w' (hb:Below w.heap.size w w')=>JI _ k w' bk hbk (h'.keep hb));have Kk:=Lh kk;have Hlz:=Lh hlz;have Hlk:=Lh hlk;have Hsm:=Lh hsm;have hs:=Vk z k;rw[hbz,hbk]at hs;have Hs:=Lh hs;clear h h' kk hbz hbk hlz hlk hsm hs;obtain⟨H,hh⟩:∃H,z.natAbs*k.natAbs/18446744073709551616=H:=⟨_,rfl⟩;obtain⟨L,hl⟩:∃L,z.natAbs*k.natAbs%18446744073709551616=L:=⟨_,rfl⟩;have hnot:=Za hbig H L hh hl;have Hh:=Lh hh;have Hl:=Lh hl;have Ha:=Lh ha;have Hb:=Lh hb;clear hh hl hbig;have hH:((H:Int) ==0)=false:=by rw[beq_eq_false_iff_ne];intro e;exact h0 (by rw[Hh.out];omega)
 clear hnot h0;go_enter Tryz.func86,Tryz.ntmps86;go_wp2_with fail
 go_quiet ((first|(go_at_call 115;first|exact Calls.quiet_of_same (QG _ _ Ha.out)|exact Calls.quiet_of_same (QG _ _ Hb.out))|(go_at_call 120;exact Calls.quiet_of_same (Gw _ _ _ _ (Yq Ha.out) (Yq Hb.out) Hh.out Hl.out _))))
 go_wp2_with fail
 refine(Hx.out _ (below_drewN Kk.out _)).mono ?_;rintro e w1⟨A,n,c,xs,rfl,hx,h1⟩;have e1:w1.cell? ⟨w.heap.size+1,0,Jn⟩=Jo (Ji Jl k):=(h1.cell (p:=⟨w.heap.size+1,0,Jn⟩) (by simp)).trans (by simp[go_sem]);have e2:w1.cell? ⟨w.heap.size+1,1,Jn⟩=Jo (Jp Jn):=(h1.cell (p:=⟨w.heap.size+1,1,Jn⟩) (by simp)).trans (by simp[go_sem]);have K1:=Lh (Jd (below_drewN Kk.out _) h1);have R1:=Lh ((Hr.out.keep (below_drewN (M4 _ _) _)).keep h1);have Hnx:=Lh hx;clear h1 hx;go_wp2_with fail
 refine(Hy.out _ K1.out).mono ?_;rintro e w2⟨A',n',c',ys,rfl,hy,h2⟩;have Hnx2:=Lh (Hnx.out.keep h2);have Hny:=Lh hy;have K2:=Lh (Jd K1.out h2);have R2:=Lh (R1.out.keep h2);have hn:=Hnx2.out.len_le Hlz.out;have hn':=Hny.out.len_le Hlk.out;have h48:n<48\/n'<48:=by
  rcases Hsm.out with h0|h0
  ·left;have:=Hnx2.out.len_le h0;omega
  ·right;have:=Hny.out.len_le h0;omega
 clear h2 hy e1 e2;have Hmul:=Lh (U8 w2 Hnx2.out Hny.out h48 (by omega) (by omega));go_wp2_with fail
 refine Hmul.out.mono ?_;rintro e w3⟨A3,n3,c3,zs,rfl,h3n,h3⟩;have K4:=Lh (Jd K2.out h3);have R4:=Lh (R2.out.keep h3);have Hsg:=Lh (JH (bz !=bk) (z*k) w3 h3n Hs.out);clear h3n h3;go_wp2_with fail
 refine Hsg.out.mono ?_;rintro e w5⟨a',P',rfl,hi5,h5⟩;have R5:=Lh (R4.out.keep h5);have Hi5:=Lh (hi5.stored R5.out (Ji Jl a') (Jp P'));have K5:=Lh (Jg (Jd K4.out h5) (show w.heap.size<=w.heap.size+2 by omega) (Ji Jl a') (Jp P'));have k0:=R5.out.k0;have k1:=R5.out.k1;have f0:=R5.out.f0;have f1:=R5.out.f1;clear hi5 h5;go_wp2;exact bodyPost_ret (v:=Ja #[Ji Jl a',Jp P']) (by simp[results,Tryz.results86,go_sem,k0,k1]) rfl ⟨a',P',rfl,Hi5.out,K5.out⟩
theorem YN(a b:Int)(P Q:Option Addr)(z k:Int)(w:JW)(h:Jq 0 w (Ja #[Ji Jl a,Jp P]) z)(h':Jq 0 w (Ja #[Ji Jl b,Jp Q]) k)(hlz:z.natAbs<base 400)(hlk:k.natAbs<base 400)(hsm:z.natAbs<base 47\/k.natAbs<base 47) :
  Calls Tryz.prog 86 #[Ja #[Ji Jl a,Jp P],Ja #[Ji Jl b,Jp Q]] w (Qt (z*k) w):=by
 rcases h.ways with⟨hz,e⟩|⟨hz,p,e,_,_⟩
 ·obtain⟨rfl,rfl⟩:=YS e;rcases h'.ways with⟨hk,e'⟩|⟨hk,q,e',_,_⟩
  ·obtain⟨rfl,rfl⟩:=YS e';by_cases hs:a.natAbs*b.natAbs<=9223372036854775807
   ·refine(FJ a b w hz hk hs).mono ?_;rintro e w' ⟨rfl,hb⟩;have hc:(a*b).natAbs=a.natAbs*b.natAbs:=Int.natAbs_mul a b;exact⟨a*b,Jn,rfl,.inl ⟨⟨by omega,by omega⟩,rfl⟩,hb⟩
   ·by_cases h0:a.natAbs*b.natAbs/18446744073709551616=0
    ·exact FM a b w h h' hlz hlk hsm hz hk (by omega) h0
    ·exact FK a b w h h' hlz hlk hsm hz hk (by omega) h0
  ·obtain⟨rfl,rfl⟩:b=0/\Q=Jo ⟨q,0,Jn⟩:=by simpa using e'
   exact FN a 0 q a k w h h' hlz hlk hsm
 ·obtain⟨rfl,rfl⟩:a=0/\P=Jo ⟨p,0,Jn⟩:=by simpa using e
  exact FO 0 b p Q z k w h h' hlz hlk hsm
structure Var (w:JW) (p:Nat) (a:Int) (P:Option Addr) (z:Int):Prop where
 c0:w.cell? ⟨p,0,Jn⟩=Jo (Ji Jl a)
 c1:w.cell? ⟨p,1,Jn⟩=Jo (Jp P)
 lt:p<w.heap.size
 int:Jq 0 w (Ja #[Ji Jl a,Jp P]) z
theorem Var.keep{w w':JW}{p:Nat}{a:Int}{P:Option Addr}{z:Int}(h:Var w p a P z)(hb:Below w.heap.size w w'):Var w' p a P z:=
 ⟨(hb.cell (p:=⟨p,0,Jn⟩) h.lt).trans h.c0,(hb.cell (p:=⟨p,1,Jn⟩) h.lt).trans h.c1,M7 h.lt hb.size,h.int.keep hb⟩
theorem Var.new{w:JW}{a:Int}{P:Option Addr}{z:Int}(h:Jq 0 w (Ja #[Ji Jl a,Jp P]) z):Var (w.alloc (Jc #[Ji Jl a,Jp P] 28)) w.heap.size a P z:=
 ⟨by simp[go_sem],by simp[go_sem],by simp,h.keep ((M4 w.heap.size w).alloc (M6 _) _)⟩
theorem Jw{a b m:Nat}(h:m<base a)(hab:a<=b):m<base b:=M7 h (XP hab)
structure Hold (w:JW) (p:Nat) (a:Int) (P:Option Addr):Prop where
 c0:w.cell? ⟨p,0,Jn⟩=Jo (Ji Jl a)
 c1:w.cell? ⟨p,1,Jn⟩=Jo (Jp P)
 cn:∀k,w.cell? ⟨p,k+2,Jn⟩=Jn
 f0:w.frozen? ⟨p,0,Jn⟩=false
 f1:w.frozen? ⟨p,1,Jn⟩=false
 lt:p<w.heap.size
theorem Hold.keep{w w':JW}{p:Nat}{a:Int}{P:Option Addr}(h:Hold w p a P)(hb:Below w.heap.size w w'):Hold w' p a P:=
 ⟨(hb.cell (p:=⟨p,0,Jn⟩) h.lt).trans h.c0,(hb.cell (p:=⟨p,1,Jn⟩) h.lt).trans h.c1,fun k=>(hb.cell (p:=⟨p,k+2,Jn⟩) h.lt).trans (h.cn k),
  (hb.frozen (p:=⟨p,0,Jn⟩) h.lt).trans h.f0,(hb.frozen (p:=⟨p,1,Jn⟩) h.lt).trans h.f1,M7 h.lt hb.size⟩
theorem Hold.of_row{w:JW}{p:Nat}{a:Int}{P:Option Addr}{T:TypeId}(h:w.heap[p]?=Jo (Jc #[Ji Jl a,Jp P] T (0,0))):Hold w p a P:=by
 refine⟨by rw[cell_of_row _ _ _ _ _ _ h];rfl,by rw[cell_of_row _ _ _ _ _ _ h];rfl,fun k=>by rw[cell_of_row _ _ _ _ _ _ h];rfl,by simp only[Mr,h];rfl,by simp only[Mr,h];rfl,?_⟩;rcases Nat.lt_or_ge p w.heap.size with h1|h1
 ·exact h1
 ·rw[Array.getElem?_eq_none h1]at h;cases h
theorem Hold.new(w:JW)(a:Int)(P:Option Addr):Hold (w.alloc (Jc #[Ji Jl a,Jp P] 28)) w.heap.size a P:=Hold.of_row (UU w _)
theorem Hold.store{w:JW}{p:Nat}{a:Int}{P:Option Addr}(h:Hold w p a P)(b:Int)(Q:Option Addr):Hold ((w.setCell ⟨p,0,Jn⟩ (Ji Jl b)).setCell ⟨p,1,Jn⟩ (Jp Q)) p b Q:=by
 have e1:(w.setCell ⟨p,0,Jn⟩ (Ji Jl b)).cell? ⟨p,1,Jn⟩=Jo (Jp P):=(M0 _ _ _ _ (by simp)).trans h.c1;refine⟨?_,M8 _ _ _ e1,fun k=>?_,?_,?_,?_⟩
 ·rw[M0 _ _ _ _ (by simp)];exact M8 _ _ _ h.c0
 ·rw[M0 _ _ _ _ (by simp),M0 _ _ _ _ (by simp)];exact h.cn k
 ·rw[M2,M2];exact h.f0
 ·rw[M2,M2];exact h.f1
 ·simpa[M9]using h.lt
theorem Jq.hold{w w':JW}{v:Value}{z:Int}{p:Nat}{a:Int}{P:Option Addr}(h:Jq 0 w v z)(hr:Hold w p a P)(hs:w'.heap.size=w.heap.size)(hk:∀k,k≠p->w'.heap[k]?=w.heap[k]?):Jq 0 w' v z:=by
 rcases h with h|⟨hz,q,A,n,c,xs,rfl,hq,hB,hA,c0,c1,hl,hc,hn,hw,ht,hv⟩
 ·exact .inl h
 ·have hqp:q≠p:=by
   intro e;subst e;rw[hr.c0]at c0;cases c0
  refine .inr ⟨hz,q,A,n,c,xs,rfl,by omega,hB,hA,(M1 (hk q hqp)).trans c0,(M1 (hk q hqp)).trans c1,⟨hl.1,hl.2.1,fun h0=>?_⟩,hc,hn,hw,ht,hv⟩;obtain⟨b,o,e,hb,hcell⟩:=hl.2.2 h0;have hlen:=hl.1;rw[Qi]at hlen;have hbp:b≠p:=by
   intro e2;subst e2;have h1:=hcell 0 (Ji .u64 ((xs.getD 0 0:Nat):Int)) (by simp[u64s,show 0<xs.length by omega])
   match o,h1 with
   | 0,h1=>rw[show(0+0:Nat)=0 from rfl,hr.c0]at h1;cases h1
   | 1,h1=>rw[show(1+0:Nat)=1 from rfl,hr.c1]at h1;cases h1
   | o+2,h1=>rw[Nat.add_zero,hr.cn o]at h1;cases h1
  exact⟨b,o,e,by omega,fun j u hu=>(M1 (hk b hbp)).trans (hcell j u hu)⟩
theorem Jq.held{w:JW}{v:Value}{z:Int}{p:Nat}{a:Int}{P:Option Addr}(h:Jq 0 w v z)(hr:Hold w p a P)(x y:Value):Jq 0 ((w.setCell ⟨p,0,Jn⟩ x).setCell ⟨p,1,Jn⟩ y) v z:=
 h.hold hr (by simp[M9]) (fun k hk=>(M3 (w.setCell ⟨p,0,Jn⟩ x) ⟨p,1,Jn⟩ y k hk).trans (M3 w ⟨p,0,Jn⟩ x k hk))
theorem Var.held{w:JW}{q:Nat}{b:Int}{Q:Option Addr}{z:Int}{p:Nat}{a:Int}{P:Option Addr}(h:Var w q b Q z)(hr:Hold w p a P)(hq:q≠p)(x y:Value):Var ((w.setCell ⟨p,0,Jn⟩ x).setCell ⟨p,1,Jn⟩ y) q b Q z:=by
 have hb:((w.setCell ⟨p,0,Jn⟩ x).setCell ⟨p,1,Jn⟩ y).heap[q]?=w.heap[q]?:=(M3 (w.setCell ⟨p,0,Jn⟩ x) ⟨p,1,Jn⟩ y q hq).trans (M3 w ⟨p,0,Jn⟩ x q hq);exact⟨(M1 hb).trans h.c0,(M1 hb).trans h.c1,by simpa[M9]using h.lt,h.int.held hr x y⟩
