/- GC19: Ref6 -/
import Derived.Test.YtekhdklbfincpaaGreatDoorGC17
import Derived.Test.YtekhdklbfincpaaGreatDoorGC10
set_option maxRecDepth 100000
set_option maxHeartbeats 16000000
namespace Go.Proofs.YtekhdklbfincpaaGreatDoor
open Go.Value renaming string→Js
open Go.RowKit
theorem U5(z:Int)(w:World)(hs:(txt z).size<=5000) :
  Calls Tryz.prog 107 #[Js (txt z)] w fun e w'=>e= .returned (Js (txt (-z)))/\Below w.heap.size w w':=by
 have Hsz:=Lh (fun w=>Qe z w hs);have Hdz:=Lh (fun w=>QE z w hs);have hfin:∀ b:Bool,b=decide (0<sgn z)->JR b (digN z.natAbs)=txt (-z):=fun b hb=>Qg (JM _) (by rw [Qz]; omega) (fun h0=>by
  rw[hb];rcases QR z with ⟨h1,h2⟩ | ⟨h1,h2⟩ | ⟨h1,h2⟩ <;> rw [h2] <;> simp <;> omega)
 obtain⟨S,hS⟩:∃S,txt z=S:=⟨_,rfl⟩;rw[hS]at Hsz Hdz hs ⊢;obtain⟨x,hx⟩:∃x,sgn z=x:=⟨_,rfl⟩;rw[hx]at Hsz hfin;have Hfin:=Lh (hfin _ rfl);clear hS hx hfin;go_enter Tryz.func107,Tryz.ntmps107;go_wp2_with fail
 refine(Hsz.out _).mono ?_;rintro e w1⟨rfl,rfl⟩;go_wp2_with fail
 refine(Hdz.out _).mono ?_;rintro e w1⟨A,n,c,rfl,hd1,hn1,h1⟩;have K1:=Lh h1;have Ht:=Lh (JB (decide (0<x)) A n c _ w1 hd1.isl (by omega) hd1.cap (JM _));rw[Hfin.out]at Ht;clear hd1 h1;go_wp2_with fail
 refine Ht.out.mono ?_;rintro e w2⟨rfl,h2⟩;have K2:=Lh (Jd K1.out h2);clear h2;go_wp2;go_ret;exact⟨rfl,K2.out⟩
theorem D6(z:Int):sgn z<0↔z<0:=by
 rcases QR z with⟨h1,h2⟩|⟨h1,h2⟩|⟨h1,h2⟩ <;> rw[h2] <;> omega
theorem U7(z k:Int)(w:World)(hs:(txt z).size<=5000)(ht:(txt k).size<=5000) :
  Calls Tryz.prog 106 #[Js (txt z),Js (txt k)] w fun e w'=>e= .returned (Js (txt (z+k)))/\Below w.heap.size w w':=by
 have Hsz:=Lh (fun w=>Qe z w hs);have Hsk:=Lh (fun w=>Qe k w ht);have Hdz:=Lh (fun w=>QE z w hs);have Hdk:=Lh (fun w=>QE k w ht);have hzx:=D6 z;have hky:=D6 k;obtain⟨R,hR⟩:∃R,txt (z+k)=R:=⟨_,rfl⟩;have hsame:∀(l:List Int),Dig l->dval l=z.natAbs+k.natAbs->decide (z<0)=decide (k<0)->JR (decide (z<0)) l=R:=fun l hd hv he=>by
  rw[←hR];refine Qg hd (by rw[hv];by_cases h1:z<0 <;> by_cases h2:k<0 <;> simp[h1,h2]at he <;> omega) (fun h0=>?_);by_cases h1:z<0 <;> by_cases h2:k<0 <;> simp[h1,h2]at he ⊢ <;> omega
 have hge:decide (z<0)≠decide (k<0)->k.natAbs<=z.natAbs->JR (decide (z<0)) (digN (z.natAbs-k.natAbs))=R:=fun he hle=>by
  rw[←hR];refine Qg (JM _) (by rw[Qz];by_cases h1:z<0 <;> by_cases h2:k<0 <;> simp[h1,h2]at he <;> omega) (fun h0=>?_);by_cases h1:z<0 <;> by_cases h2:k<0 <;> simp[h1,h2]at he ⊢ <;> omega
 have hlt:decide (z<0)≠decide (k<0)->z.natAbs<k.natAbs->JR (decide (k<0)) (digN (k.natAbs-z.natAbs))=R:=fun he hle=>by
  rw[←hR];refine Qg (JM _) (by rw[Qz];by_cases h1:z<0 <;> by_cases h2:k<0 <;> simp[h1,h2]at he <;> omega) (fun h0=>?_);by_cases h1:z<0 <;> by_cases h2:k<0 <;> simp[h1,h2]at he ⊢ <;> omega
 have Hsame:=Lh hsame;have Hge:=Lh hge;have Hlt:=Lh hlt;obtain⟨S,hS⟩:∃S,txt z=S:=⟨_,rfl⟩;obtain⟨T,hT⟩:∃T,txt k=T:=⟨_,rfl⟩;rw[hS]at Hsz Hdz hs ⊢;rw[hT]at Hsk Hdk ht ⊢;rw[hR];clear hS hT hR hsame hge hlt hzx hky;rcases QR z with⟨hz,ez⟩|⟨hz,ez⟩|⟨hz,ez⟩
 ·rw[ez]at Hsz;clear ez;rcases QR k with⟨hk,ek⟩|⟨hk,ek⟩|⟨hk,ek⟩
  ·rw[ek]at Hsk;clear ek;have Hdz0:=Lh (show decide (z<0)=true from decide_eq_true hz);have Hdk0:=Lh (show decide (k<0)=true from decide_eq_true hk);have Heq:=Lh (show decide (z<0)=decide (k<0)by rw[decide_eq_decide];omega);clear hz hk;go_enter Tryz.func106,Tryz.ntmps106;go_wp2_with fail
   refine(Hdz.out _).mono ?_;rintro e w1⟨A,n,c,rfl,hd1,hn1,h1⟩;have K1:=Lh h1;have D1:=Lh hd1;clear h1 hd1;go_wp2_with fail
   refine(Hdk.out _).mono ?_;rintro e w2⟨A',n',c',rfl,hd2,hn2,h2⟩;have K2:=Lh (Jd K1.out h2);have D2:=Lh hd2;have D3:=Lh (D1.out.keep h2);clear h2 hd2;go_wp2_with fail
   refine(Hsz.out _).mono ?_;rintro e w3⟨rfl,rfl⟩;go_wp2_with fail
   refine(Hsk.out _).mono ?_;rintro e w3⟨rfl,rfl⟩;go_wp2_with fail
   refine(Hsz.out _).mono ?_;rintro e w3⟨rfl,rfl⟩;go_wp2_with fail
   refine(YT _ (D3.out.ds (by omega)) (D2.out.ds (by omega))).mono ?_;rintro e w4⟨v,l,rfl,hdl,hvl,hll,hown,h4⟩;obtain⟨A3,c3,rfl,hisl,hc3⟩:=Yn hown;rw[D3.out.val,D2.out.val]at hvl;have K4:=Lh (Jd K2.out h4);have Ht:=Lh (JB (decide (z<0)) A3 _ c3 l _ hisl (by omega) hc3 hdl);rw[Hsame.out l hdl hvl Heq.out,Hdz0.out]at Ht;clear hdl hvl hown h4 hisl;go_wp2_with fail
   refine Ht.out.mono ?_;rintro e w5⟨rfl,h5⟩;have K5:=Lh (Jd K4.out h5);clear h5;go_wp2;go_ret;exact⟨rfl,K5.out⟩
  ·rw[ek]at Hsk;clear ek;have Hdz0:=Lh (show decide (z<0)=true from decide_eq_true hz);have Hdk0:=Lh (show decide (k<0)=false from decide_eq_false (by omega));have Hne:=Lh (show decide (z<0)≠decide (k<0)by intro e;rw[decide_eq_decide]at e;omega);clear hz hk;by_cases hle:k.natAbs<=z.natAbs
   ·have Hle:=Lh hle;have hcmp:∃r:Int,cmpN z.natAbs k.natAbs=r/\0<=r:=by
     refine⟨_,rfl,?_⟩;unfold cmpN;rw[if_neg (by omega)]
     split <;> decide
    obtain⟨r,hr,hr0⟩:=hcmp;have Hr:=Lh hr;clear hr;go_enter Tryz.func106,Tryz.ntmps106;go_wp2_with fail
    refine(Hdz.out _).mono ?_;rintro e w1⟨A,n,c,rfl,hd1,hn1,h1⟩;have K1:=Lh h1;have D1:=Lh hd1;clear h1 hd1;go_wp2_with fail
    refine(Hdk.out _).mono ?_;rintro e w2⟨A',n',c',rfl,hd2,hn2,h2⟩;have K2:=Lh (Jd K1.out h2);have D2:=Lh hd2;have D3:=Lh (D1.out.keep h2);clear h2 hd2;go_wp2_with fail
    refine(Hsz.out _).mono ?_;rintro e w3⟨rfl,rfl⟩;go_wp2_with fail
    refine(Hsk.out _).mono ?_;rintro e w3⟨rfl,rfl⟩;have hord:=Q4 _ D3.out D2.out;rw[Hr.out]at hord;have Hord:=Lh hord;clear hord;go_wp2_with fail
    refine Hord.out.mono ?_;rintro e w4⟨rfl,h4⟩;have K4:=Lh (Jd K2.out h4);have E1:=Lh (D3.out.keep h4);have E2:=Lh (D2.out.keep h4);clear h4;go_wp2_with fail
    refine(Hsz.out _).mono ?_;rintro e w5⟨rfl,rfl⟩;go_wp2_with fail
    refine(QK _ E1.out E2.out (by omega) (by omega)).mono ?_;rintro e w5⟨A3,n3,c3,rfl,hd5,hn5,h5⟩;have K5:=Lh (Jd K4.out h5);have Ht:=Lh (JB (decide (z<0)) A3 _ c3 _ w5 hd5.isl (by omega) hd5.cap (JM _));rw[Hge.out Hne.out Hle.out,Hdz0.out]at Ht;clear h5 hd5;go_wp2_with fail
    refine Ht.out.mono ?_;rintro e w6⟨rfl,h6⟩;have K6:=Lh (Jd K5.out h6);clear h6;go_wp2;go_ret;exact⟨rfl,K6.out⟩
   ·have Hle:=Lh (show z.natAbs<k.natAbs by omega);go_enter Tryz.func106,Tryz.ntmps106;go_wp2_with fail
    refine(Hdz.out _).mono ?_;rintro e w1⟨A,n,c,rfl,hd1,hn1,h1⟩;have K1:=Lh h1;have D1:=Lh hd1;clear h1 hd1;go_wp2_with fail
    refine(Hdk.out _).mono ?_;rintro e w2⟨A',n',c',rfl,hd2,hn2,h2⟩;have K2:=Lh (Jd K1.out h2);have D2:=Lh hd2;have D3:=Lh (D1.out.keep h2);clear h2 hd2;go_wp2_with fail
    refine(Hsz.out _).mono ?_;rintro e w3⟨rfl,rfl⟩;go_wp2_with fail
    refine(Hsk.out _).mono ?_;rintro e w3⟨rfl,rfl⟩;have hord:=Q4 _ D3.out D2.out;rw[Yg (show z.natAbs<k.natAbs by omega)]at hord;have Hord:=Lh hord;clear hord;go_wp2_with fail
    refine Hord.out.mono ?_;rintro e w4⟨rfl,h4⟩;have K4:=Lh (Jd K2.out h4);have E1:=Lh (D2.out.keep h4);have E2:=Lh (D3.out.keep h4);clear h4;go_wp2_with fail
    refine(Hsk.out _).mono ?_;rintro e w5⟨rfl,rfl⟩;go_wp2_with fail
    refine(QK _ E1.out E2.out (by omega) (by omega)).mono ?_;rintro e w5⟨A3,n3,c3,rfl,hd5,hn5,h5⟩;have K5:=Lh (Jd K4.out h5);have Ht:=Lh (JB (decide (k<0)) A3 _ c3 _ w5 hd5.isl (by omega) hd5.cap (JM _));rw[Hlt.out Hne.out Hle.out,Hdk0.out]at Ht;clear h5 hd5;go_wp2_with fail
    refine Ht.out.mono ?_;rintro e w6⟨rfl,h6⟩;have K6:=Lh (Jd K5.out h6);clear h6;go_wp2;go_ret;exact⟨rfl,K6.out⟩
  ·rw[ek]at Hsk;clear ek;have Hdz0:=Lh (show decide (z<0)=true from decide_eq_true hz);have Hdk0:=Lh (show decide (k<0)=false from decide_eq_false (by omega));have Hne:=Lh (show decide (z<0)≠decide (k<0)by intro e;rw[decide_eq_decide]at e;omega);clear hz hk;by_cases hle:k.natAbs<=z.natAbs
   ·have Hle:=Lh hle;have hcmp:∃r:Int,cmpN z.natAbs k.natAbs=r/\0<=r:=by
     refine⟨_,rfl,?_⟩;unfold cmpN;rw[if_neg (by omega)]
     split <;> decide
    obtain⟨r,hr,hr0⟩:=hcmp;have Hr:=Lh hr;clear hr;go_enter Tryz.func106,Tryz.ntmps106;go_wp2_with fail
    refine(Hdz.out _).mono ?_;rintro e w1⟨A,n,c,rfl,hd1,hn1,h1⟩;have K1:=Lh h1;have D1:=Lh hd1;clear h1 hd1;go_wp2_with fail
    refine(Hdk.out _).mono ?_;rintro e w2⟨A',n',c',rfl,hd2,hn2,h2⟩;have K2:=Lh (Jd K1.out h2);have D2:=Lh hd2;have D3:=Lh (D1.out.keep h2);clear h2 hd2;go_wp2_with fail
    refine(Hsz.out _).mono ?_;rintro e w3⟨rfl,rfl⟩;go_wp2_with fail
    refine(Hsk.out _).mono ?_;rintro e w3⟨rfl,rfl⟩;have hord:=Q4 _ D3.out D2.out;rw[Hr.out]at hord;have Hord:=Lh hord;clear hord;go_wp2_with fail
    refine Hord.out.mono ?_;rintro e w4⟨rfl,h4⟩;have K4:=Lh (Jd K2.out h4);have E1:=Lh (D3.out.keep h4);have E2:=Lh (D2.out.keep h4);clear h4;go_wp2_with fail
    refine(Hsz.out _).mono ?_;rintro e w5⟨rfl,rfl⟩;go_wp2_with fail
    refine(QK _ E1.out E2.out (by omega) (by omega)).mono ?_;rintro e w5⟨A3,n3,c3,rfl,hd5,hn5,h5⟩;have K5:=Lh (Jd K4.out h5);have Ht:=Lh (JB (decide (z<0)) A3 _ c3 _ w5 hd5.isl (by omega) hd5.cap (JM _));rw[Hge.out Hne.out Hle.out,Hdz0.out]at Ht;clear h5 hd5;go_wp2_with fail
    refine Ht.out.mono ?_;rintro e w6⟨rfl,h6⟩;have K6:=Lh (Jd K5.out h6);clear h6;go_wp2;go_ret;exact⟨rfl,K6.out⟩
   ·have Hle:=Lh (show z.natAbs<k.natAbs by omega);go_enter Tryz.func106,Tryz.ntmps106;go_wp2_with fail
    refine(Hdz.out _).mono ?_;rintro e w1⟨A,n,c,rfl,hd1,hn1,h1⟩;have K1:=Lh h1;have D1:=Lh hd1;clear h1 hd1;go_wp2_with fail
    refine(Hdk.out _).mono ?_;rintro e w2⟨A',n',c',rfl,hd2,hn2,h2⟩;have K2:=Lh (Jd K1.out h2);have D2:=Lh hd2;have D3:=Lh (D1.out.keep h2);clear h2 hd2;go_wp2_with fail
    refine(Hsz.out _).mono ?_;rintro e w3⟨rfl,rfl⟩;go_wp2_with fail
    refine(Hsk.out _).mono ?_;rintro e w3⟨rfl,rfl⟩;have hord:=Q4 _ D3.out D2.out;rw[Yg (show z.natAbs<k.natAbs by omega)]at hord;have Hord:=Lh hord;clear hord;go_wp2_with fail
    refine Hord.out.mono ?_;rintro e w4⟨rfl,h4⟩;have K4:=Lh (Jd K2.out h4);have E1:=Lh (D2.out.keep h4);have E2:=Lh (D3.out.keep h4);clear h4;go_wp2_with fail
    refine(Hsk.out _).mono ?_;rintro e w5⟨rfl,rfl⟩;go_wp2_with fail
    refine(QK _ E1.out E2.out (by omega) (by omega)).mono ?_;rintro e w5⟨A3,n3,c3,rfl,hd5,hn5,h5⟩;have K5:=Lh (Jd K4.out h5);have Ht:=Lh (JB (decide (k<0)) A3 _ c3 _ w5 hd5.isl (by omega) hd5.cap (JM _));rw[Hlt.out Hne.out Hle.out,Hdk0.out]at Ht;clear h5 hd5;go_wp2_with fail
    refine Ht.out.mono ?_;rintro e w6⟨rfl,h6⟩;have K6:=Lh (Jd K5.out h6);clear h6;go_wp2;go_ret;exact⟨rfl,K6.out⟩
 ·rw[ez]at Hsz;clear ez;rcases QR k with⟨hk,ek⟩|⟨hk,ek⟩|⟨hk,ek⟩
  ·rw[ek]at Hsk;clear ek;have Hdz0:=Lh (show decide (z<0)=false from decide_eq_false (by omega));have Hdk0:=Lh (show decide (k<0)=true from decide_eq_true hk);have Hne:=Lh (show decide (z<0)≠decide (k<0)by intro e;rw[decide_eq_decide]at e;omega);clear hz hk;by_cases hle:k.natAbs<=z.natAbs
   ·have Hle:=Lh hle;have hcmp:∃r:Int,cmpN z.natAbs k.natAbs=r/\0<=r:=by
     refine⟨_,rfl,?_⟩;unfold cmpN;rw[if_neg (by omega)]
     split <;> decide
    obtain⟨r,hr,hr0⟩:=hcmp;have Hr:=Lh hr;clear hr;go_enter Tryz.func106,Tryz.ntmps106;go_wp2_with fail
    refine(Hdz.out _).mono ?_;rintro e w1⟨A,n,c,rfl,hd1,hn1,h1⟩;have K1:=Lh h1;have D1:=Lh hd1;clear h1 hd1;go_wp2_with fail
    refine(Hdk.out _).mono ?_;rintro e w2⟨A',n',c',rfl,hd2,hn2,h2⟩;have K2:=Lh (Jd K1.out h2);have D2:=Lh hd2;have D3:=Lh (D1.out.keep h2);clear h2 hd2;go_wp2_with fail
    refine(Hsz.out _).mono ?_;rintro e w3⟨rfl,rfl⟩;go_wp2_with fail
    refine(Hsk.out _).mono ?_;rintro e w3⟨rfl,rfl⟩;have hord:=Q4 _ D3.out D2.out;rw[Hr.out]at hord;have Hord:=Lh hord;clear hord;go_wp2_with fail
    refine Hord.out.mono ?_;rintro e w4⟨rfl,h4⟩;have K4:=Lh (Jd K2.out h4);have E1:=Lh (D3.out.keep h4);have E2:=Lh (D2.out.keep h4);clear h4;go_wp2_with fail
    refine(Hsz.out _).mono ?_;rintro e w5⟨rfl,rfl⟩;go_wp2_with fail
    refine(QK _ E1.out E2.out (by omega) (by omega)).mono ?_;rintro e w5⟨A3,n3,c3,rfl,hd5,hn5,h5⟩;have K5:=Lh (Jd K4.out h5);have Ht:=Lh (JB (decide (z<0)) A3 _ c3 _ w5 hd5.isl (by omega) hd5.cap (JM _));rw[Hge.out Hne.out Hle.out,Hdz0.out]at Ht;clear h5 hd5;go_wp2_with fail
    refine Ht.out.mono ?_;rintro e w6⟨rfl,h6⟩;have K6:=Lh (Jd K5.out h6);clear h6;go_wp2;go_ret;exact⟨rfl,K6.out⟩
   ·have Hle:=Lh (show z.natAbs<k.natAbs by omega);go_enter Tryz.func106,Tryz.ntmps106;go_wp2_with fail
    refine(Hdz.out _).mono ?_;rintro e w1⟨A,n,c,rfl,hd1,hn1,h1⟩;have K1:=Lh h1;have D1:=Lh hd1;clear h1 hd1;go_wp2_with fail
    refine(Hdk.out _).mono ?_;rintro e w2⟨A',n',c',rfl,hd2,hn2,h2⟩;have K2:=Lh (Jd K1.out h2);have D2:=Lh hd2;have D3:=Lh (D1.out.keep h2);clear h2 hd2;go_wp2_with fail
    refine(Hsz.out _).mono ?_;rintro e w3⟨rfl,rfl⟩;go_wp2_with fail
    refine(Hsk.out _).mono ?_;rintro e w3⟨rfl,rfl⟩;have hord:=Q4 _ D3.out D2.out;rw[Yg (show z.natAbs<k.natAbs by omega)]at hord;have Hord:=Lh hord;clear hord;go_wp2_with fail
    refine Hord.out.mono ?_;rintro e w4⟨rfl,h4⟩;have K4:=Lh (Jd K2.out h4);have E1:=Lh (D2.out.keep h4);have E2:=Lh (D3.out.keep h4);clear h4;go_wp2_with fail
    refine(Hsk.out _).mono ?_;rintro e w5⟨rfl,rfl⟩;go_wp2_with fail
    refine(QK _ E1.out E2.out (by omega) (by omega)).mono ?_;rintro e w5⟨A3,n3,c3,rfl,hd5,hn5,h5⟩;have K5:=Lh (Jd K4.out h5);have Ht:=Lh (JB (decide (k<0)) A3 _ c3 _ w5 hd5.isl (by omega) hd5.cap (JM _));rw[Hlt.out Hne.out Hle.out,Hdk0.out]at Ht;clear h5 hd5;go_wp2_with fail
    refine Ht.out.mono ?_;rintro e w6⟨rfl,h6⟩;have K6:=Lh (Jd K5.out h6);clear h6;go_wp2;go_ret;exact⟨rfl,K6.out⟩
  ·rw[ek]at Hsk;clear ek;have Hdz0:=Lh (show decide (z<0)=false from decide_eq_false (by omega));have Hdk0:=Lh (show decide (k<0)=false from decide_eq_false (by omega));have Heq:=Lh (show decide (z<0)=decide (k<0)by rw[decide_eq_decide];omega);clear hz hk;go_enter Tryz.func106,Tryz.ntmps106;go_wp2_with fail
   refine(Hdz.out _).mono ?_;rintro e w1⟨A,n,c,rfl,hd1,hn1,h1⟩;have K1:=Lh h1;have D1:=Lh hd1;clear h1 hd1;go_wp2_with fail
   refine(Hdk.out _).mono ?_;rintro e w2⟨A',n',c',rfl,hd2,hn2,h2⟩;have K2:=Lh (Jd K1.out h2);have D2:=Lh hd2;have D3:=Lh (D1.out.keep h2);clear h2 hd2;go_wp2_with fail
   refine(Hsz.out _).mono ?_;rintro e w3⟨rfl,rfl⟩;go_wp2_with fail
   refine(Hsk.out _).mono ?_;rintro e w3⟨rfl,rfl⟩;go_wp2_with fail
   refine(Hsz.out _).mono ?_;rintro e w3⟨rfl,rfl⟩;go_wp2_with fail
   refine(YT _ (D3.out.ds (by omega)) (D2.out.ds (by omega))).mono ?_;rintro e w4⟨v,l,rfl,hdl,hvl,hll,hown,h4⟩;obtain⟨A3,c3,rfl,hisl,hc3⟩:=Yn hown;rw[D3.out.val,D2.out.val]at hvl;have K4:=Lh (Jd K2.out h4);have Ht:=Lh (JB (decide (z<0)) A3 _ c3 l _ hisl (by omega) hc3 hdl);rw[Hsame.out l hdl hvl Heq.out,Hdz0.out]at Ht;clear hdl hvl hown h4 hisl;go_wp2_with fail
   refine Ht.out.mono ?_;rintro e w5⟨rfl,h5⟩;have K5:=Lh (Jd K4.out h5);clear h5;go_wp2;go_ret;exact⟨rfl,K5.out⟩
  ·rw[ek]at Hsk;clear ek;have Hdz0:=Lh (show decide (z<0)=false from decide_eq_false (by omega));have Hdk0:=Lh (show decide (k<0)=false from decide_eq_false (by omega));have Heq:=Lh (show decide (z<0)=decide (k<0)by rw[decide_eq_decide];omega);clear hz hk;go_enter Tryz.func106,Tryz.ntmps106;go_wp2_with fail
   refine(Hdz.out _).mono ?_;rintro e w1⟨A,n,c,rfl,hd1,hn1,h1⟩;have K1:=Lh h1;have D1:=Lh hd1;clear h1 hd1;go_wp2_with fail
   refine(Hdk.out _).mono ?_;rintro e w2⟨A',n',c',rfl,hd2,hn2,h2⟩;have K2:=Lh (Jd K1.out h2);have D2:=Lh hd2;have D3:=Lh (D1.out.keep h2);clear h2 hd2;go_wp2_with fail
   refine(Hsz.out _).mono ?_;rintro e w3⟨rfl,rfl⟩;go_wp2_with fail
   refine(Hsk.out _).mono ?_;rintro e w3⟨rfl,rfl⟩;go_wp2_with fail
   refine(Hsz.out _).mono ?_;rintro e w3⟨rfl,rfl⟩;go_wp2_with fail
   refine(YT _ (D3.out.ds (by omega)) (D2.out.ds (by omega))).mono ?_;rintro e w4⟨v,l,rfl,hdl,hvl,hll,hown,h4⟩;obtain⟨A3,c3,rfl,hisl,hc3⟩:=Yn hown;rw[D3.out.val,D2.out.val]at hvl;have K4:=Lh (Jd K2.out h4);have Ht:=Lh (JB (decide (z<0)) A3 _ c3 l _ hisl (by omega) hc3 hdl);rw[Hsame.out l hdl hvl Heq.out,Hdz0.out]at Ht;clear hdl hvl hown h4 hisl;go_wp2_with fail
   refine Ht.out.mono ?_;rintro e w5⟨rfl,h5⟩;have K5:=Lh (Jd K4.out h5);clear h5;go_wp2;go_ret;exact⟨rfl,K5.out⟩
 ·rw[ez]at Hsz;clear ez;rcases QR k with⟨hk,ek⟩|⟨hk,ek⟩|⟨hk,ek⟩
  ·rw[ek]at Hsk;clear ek;have Hdz0:=Lh (show decide (z<0)=false from decide_eq_false (by omega));have Hdk0:=Lh (show decide (k<0)=true from decide_eq_true hk);have Hne:=Lh (show decide (z<0)≠decide (k<0)by intro e;rw[decide_eq_decide]at e;omega);clear hz hk;by_cases hle:k.natAbs<=z.natAbs
   ·have Hle:=Lh hle;have hcmp:∃r:Int,cmpN z.natAbs k.natAbs=r/\0<=r:=by
     refine⟨_,rfl,?_⟩;unfold cmpN;rw[if_neg (by omega)]
     split <;> decide
    obtain⟨r,hr,hr0⟩:=hcmp;have Hr:=Lh hr;clear hr;go_enter Tryz.func106,Tryz.ntmps106;go_wp2_with fail
    refine(Hdz.out _).mono ?_;rintro e w1⟨A,n,c,rfl,hd1,hn1,h1⟩;have K1:=Lh h1;have D1:=Lh hd1;clear h1 hd1;go_wp2_with fail
    refine(Hdk.out _).mono ?_;rintro e w2⟨A',n',c',rfl,hd2,hn2,h2⟩;have K2:=Lh (Jd K1.out h2);have D2:=Lh hd2;have D3:=Lh (D1.out.keep h2);clear h2 hd2;go_wp2_with fail
    refine(Hsz.out _).mono ?_;rintro e w3⟨rfl,rfl⟩;go_wp2_with fail
    refine(Hsk.out _).mono ?_;rintro e w3⟨rfl,rfl⟩;have hord:=Q4 _ D3.out D2.out;rw[Hr.out]at hord;have Hord:=Lh hord;clear hord;go_wp2_with fail
    refine Hord.out.mono ?_;rintro e w4⟨rfl,h4⟩;have K4:=Lh (Jd K2.out h4);have E1:=Lh (D3.out.keep h4);have E2:=Lh (D2.out.keep h4);clear h4;go_wp2_with fail
    refine(Hsz.out _).mono ?_;rintro e w5⟨rfl,rfl⟩;go_wp2_with fail
    refine(QK _ E1.out E2.out (by omega) (by omega)).mono ?_;rintro e w5⟨A3,n3,c3,rfl,hd5,hn5,h5⟩;have K5:=Lh (Jd K4.out h5);have Ht:=Lh (JB (decide (z<0)) A3 _ c3 _ w5 hd5.isl (by omega) hd5.cap (JM _));rw[Hge.out Hne.out Hle.out,Hdz0.out]at Ht;clear h5 hd5;go_wp2_with fail
    refine Ht.out.mono ?_;rintro e w6⟨rfl,h6⟩;have K6:=Lh (Jd K5.out h6);clear h6;go_wp2;go_ret;exact⟨rfl,K6.out⟩
   ·have Hle:=Lh (show z.natAbs<k.natAbs by omega);go_enter Tryz.func106,Tryz.ntmps106;go_wp2_with fail
    refine(Hdz.out _).mono ?_;rintro e w1⟨A,n,c,rfl,hd1,hn1,h1⟩;have K1:=Lh h1;have D1:=Lh hd1;clear h1 hd1;go_wp2_with fail
    refine(Hdk.out _).mono ?_;rintro e w2⟨A',n',c',rfl,hd2,hn2,h2⟩;have K2:=Lh (Jd K1.out h2);have D2:=Lh hd2;have D3:=Lh (D1.out.keep h2);clear h2 hd2;go_wp2_with fail
    refine(Hsz.out _).mono ?_;rintro e w3⟨rfl,rfl⟩;go_wp2_with fail
    refine(Hsk.out _).mono ?_;rintro e w3⟨rfl,rfl⟩;have hord:=Q4 _ D3.out D2.out;rw[Yg (show z.natAbs<k.natAbs by omega)]at hord;have Hord:=Lh hord;clear hord;go_wp2_with fail
    refine Hord.out.mono ?_;rintro e w4⟨rfl,h4⟩;have K4:=Lh (Jd K2.out h4);have E1:=Lh (D2.out.keep h4);have E2:=Lh (D3.out.keep h4);clear h4;go_wp2_with fail
    refine(Hsk.out _).mono ?_;rintro e w5⟨rfl,rfl⟩;go_wp2_with fail
    refine(QK _ E1.out E2.out (by omega) (by omega)).mono ?_;rintro e w5⟨A3,n3,c3,rfl,hd5,hn5,h5⟩;have K5:=Lh (Jd K4.out h5);have Ht:=Lh (JB (decide (k<0)) A3 _ c3 _ w5 hd5.isl (by omega) hd5.cap (JM _));rw[Hlt.out Hne.out Hle.out,Hdk0.out]at Ht;clear h5 hd5;go_wp2_with fail
    refine Ht.out.mono ?_;rintro e w6⟨rfl,h6⟩;have K6:=Lh (Jd K5.out h6);clear h6;go_wp2;go_ret;exact⟨rfl,K6.out⟩
  ·rw[ek]at Hsk;clear ek;have Hdz0:=Lh (show decide (z<0)=false from decide_eq_false (by omega));have Hdk0:=Lh (show decide (k<0)=false from decide_eq_false (by omega));have Heq:=Lh (show decide (z<0)=decide (k<0)by rw[decide_eq_decide];omega);clear hz hk;go_enter Tryz.func106,Tryz.ntmps106;go_wp2_with fail
   refine(Hdz.out _).mono ?_;rintro e w1⟨A,n,c,rfl,hd1,hn1,h1⟩;have K1:=Lh h1;have D1:=Lh hd1;clear h1 hd1;go_wp2_with fail
   refine(Hdk.out _).mono ?_;rintro e w2⟨A',n',c',rfl,hd2,hn2,h2⟩;have K2:=Lh (Jd K1.out h2);have D2:=Lh hd2;have D3:=Lh (D1.out.keep h2);clear h2 hd2;go_wp2_with fail
   refine(Hsz.out _).mono ?_;rintro e w3⟨rfl,rfl⟩;go_wp2_with fail
   refine(Hsk.out _).mono ?_;rintro e w3⟨rfl,rfl⟩;go_wp2_with fail
   refine(Hsz.out _).mono ?_;rintro e w3⟨rfl,rfl⟩;go_wp2_with fail
   refine(YT _ (D3.out.ds (by omega)) (D2.out.ds (by omega))).mono ?_;rintro e w4⟨v,l,rfl,hdl,hvl,hll,hown,h4⟩;obtain⟨A3,c3,rfl,hisl,hc3⟩:=Yn hown;rw[D3.out.val,D2.out.val]at hvl;have K4:=Lh (Jd K2.out h4);have Ht:=Lh (JB (decide (z<0)) A3 _ c3 l _ hisl (by omega) hc3 hdl);rw[Hsame.out l hdl hvl Heq.out,Hdz0.out]at Ht;clear hdl hvl hown h4 hisl;go_wp2_with fail
   refine Ht.out.mono ?_;rintro e w5⟨rfl,h5⟩;have K5:=Lh (Jd K4.out h5);clear h5;go_wp2;go_ret;exact⟨rfl,K5.out⟩
  ·rw[ek]at Hsk;clear ek;have Hdz0:=Lh (show decide (z<0)=false from decide_eq_false (by omega));have Hdk0:=Lh (show decide (k<0)=false from decide_eq_false (by omega));have Heq:=Lh (show decide (z<0)=decide (k<0)by rw[decide_eq_decide];omega);clear hz hk;go_enter Tryz.func106,Tryz.ntmps106;go_wp2_with fail
   refine(Hdz.out _).mono ?_;rintro e w1⟨A,n,c,rfl,hd1,hn1,h1⟩;have K1:=Lh h1;have D1:=Lh hd1;clear h1 hd1;go_wp2_with fail
   refine(Hdk.out _).mono ?_;rintro e w2⟨A',n',c',rfl,hd2,hn2,h2⟩;have K2:=Lh (Jd K1.out h2);have D2:=Lh hd2;have D3:=Lh (D1.out.keep h2);clear h2 hd2;go_wp2_with fail
   refine(Hsz.out _).mono ?_;rintro e w3⟨rfl,rfl⟩;go_wp2_with fail
   refine(Hsk.out _).mono ?_;rintro e w3⟨rfl,rfl⟩;go_wp2_with fail
   refine(Hsz.out _).mono ?_;rintro e w3⟨rfl,rfl⟩;go_wp2_with fail
   refine(YT _ (D3.out.ds (by omega)) (D2.out.ds (by omega))).mono ?_;rintro e w4⟨v,l,rfl,hdl,hvl,hll,hown,h4⟩;obtain⟨A3,c3,rfl,hisl,hc3⟩:=Yn hown;rw[D3.out.val,D2.out.val]at hvl;have K4:=Lh (Jd K2.out h4);have Ht:=Lh (JB (decide (z<0)) A3 _ c3 l _ hisl (by omega) hc3 hdl);rw[Hsame.out l hdl hvl Heq.out,Hdz0.out]at Ht;clear hdl hvl hown h4 hisl;go_wp2_with fail
   refine Ht.out.mono ?_;rintro e w5⟨rfl,h5⟩;have K5:=Lh (Jd K4.out h5);clear h5;go_wp2;go_ret;exact⟨rfl,K5.out⟩
theorem GR(z k:Int)(w:World)(hs:(txt z).size<=5000)(ht:(txt k).size<=5000)(ht2:(txt (-k)).size<=5000) :
  Calls Tryz.prog 135 #[Js (txt z),Js (txt k)] w fun e w'=>e= .returned (Js (txt (z-k)))/\Below w.heap.size w w':=by
 have Hn:=Lh (fun w=>U5 k w ht);have Ha:=Lh (fun w=>U7 z (-k) w hs ht2);rw[show z+-k=z-k by omega]at Ha;obtain⟨S,hS⟩:∃S,txt z=S:=⟨_,rfl⟩;obtain⟨T,hT⟩:∃T,txt k=T:=⟨_,rfl⟩;obtain⟨U,hU⟩:∃U,txt (-k)=U:=⟨_,rfl⟩;obtain⟨R,hR⟩:∃R,txt (z-k)=R:=⟨_,rfl⟩;rw[hT,hU]at Hn;rw[hS,hU,hR]at Ha;rw[hS,hT,hR];clear hS hT hU hR hs ht ht2;go_enter Tryz.func135,Tryz.ntmps135;go_wp2_with fail
 refine(Hn.out _).mono ?_;rintro e w1⟨rfl,h1⟩;have K1:=Lh h1;clear h1;go_wp2_with fail
 refine(Ha.out _).mono ?_;rintro e w2⟨rfl,h2⟩;have K2:=Lh (Jd K1.out h2);clear h2;go_wp2;go_ret;exact⟨rfl,K2.out⟩
