/- GA25: RatK RatC -/
import Derived.Test.YtekhdklbfincpaaGreatDoorGA24
set_option maxRecDepth 100000
set_option maxHeartbeats 16000000
namespace Go.Proofs.YtekhdklbfincpaaGreatDoor
open Go.RowKit
theorem txt_not1 {z:Int} (h0:0≤z) (h:z≠1):((txt z).toList == [49])=false:=by
 rw [ByteArray.toList_eq,beq_eq_false_iff_ne]
 intro e
 have h1:=(dl_txt z).2
 rw [e] at h1
 have h2:dval (dl [49])=1:=by decide +kernel
 omega
theorem ten_size {z:Int} (h:z.natAbs<ten 2900):(txt z).size≤2901:=txt_size z h (by decide)
theorem text_pos (z:Int) (kn:Nat) (w:World) (hz:z.natAbs<ten 2900) (hk:kn<ten 2900) (hkp:0<kn) :
  Calls Tryz.prog 77 #[.string (txt z),.string (txt (kn:Int))] w fun e w'=>e= .returned (.string (ratTxt (Rat.divInt z kn)))∧Below w.heap.size w w':=by
 have HS:=Lh (fun w=>refSign_any (kn:Int) w (by have:=ten_size (z:=(kn:Int)) (by rw [Int.natAbs_natCast]; exact hk); omega))
 rw [show sgn (kn:Int)=1 by unfold sgn; rw [if_neg (by omega),if_pos (by omega)]] at HS
 have sz:=ten_size hz
 have sk:(txt (kn:Int)).size≤2901:=ten_size (by rw [Int.natAbs_natCast]; exact hk)
 obtain ⟨hqn,hqd⟩:=rat_make (n:=z) (k:=kn) hkp
 obtain ⟨g,hge⟩:∃ g,Nat.gcd (z).natAbs kn=g:=⟨_,rfl⟩
 have hgp:0<g:=by rw [← hge]; exact Nat.gcd_pos_of_pos_right _ hkp
 have hgk:g≤kn:=by rw [← hge]; exact Nat.gcd_le_right _ hkp
 have sg:(txt (g:Int)).size≤2901:=ten_size (by rw [Int.natAbs_natCast]; exact Nat.lt_of_le_of_lt hgk hk)
 have HG:=Lh (fun w=>refGcd_any z (kn:Int) w (by omega) (by omega))
 have HD:=Lh (fun w=>refDivMod_any z (g:Int) w (by omega) (by omega) (by omega))
 have HE:=Lh (fun w=>refDivMod_any (kn:Int) (g:Int) w (by omega) (by omega) (by omega))
 rw [Int.natAbs_natCast,hge] at HG
 rw [hge] at hqn hqd
 obtain ⟨q,hqq⟩:∃ q,Rat.divInt z kn=q:=⟨_,rfl⟩
 rw [hqq] at hqn hqd
 rw [hqq]
 have Hqn:=Lh hqn
 have Hqd:=Lh (show ((q.den:Nat):Int)=(kn:Int) / (g:Int) by rw [hqd]; exact Int.natCast_ediv _ _)
 have Hgp:=Lh (show (0:Int)<(g:Int) by omega)
 have sn:(txt q.num).size≤2901:=ten_size (by
  have h1:=Int.natAbs_ediv_le_natAbs (z) (g:Int)
  rw [← hqn] at h1
  omega)
 have sd:(txt (q.den:Int)).size≤2901:=ten_size (by
  rw [Int.natAbs_natCast,hqd]; exact Nat.lt_of_le_of_lt (Nat.div_le_self _ _) hk)
 have hn1:q.den≠1→((txt (q.den:Int)).toList == [49])=false:=fun h=>txt_not1 (by omega) (by omega)
 obtain ⟨T,hT⟩:∃ T,txt q.num=T:=⟨_,rfl⟩
 obtain ⟨U,hU⟩:∃ U,txt (q.den:Int)=U:=⟨_,rfl⟩
 rw [hT] at sn
 rw [hU] at sd hn1
 have HT:=Lh hT
 have HU:=Lh hU
 have Hways:=Lh (show (q.den=1∧ratTxt q=T∧U=⟨#[49]⟩)∨(q.den≠1∧ratTxt q=T ++ ⟨#[47]⟩ ++ U∧(U.toList == [49])=false) by
  by_cases h:q.den=1
  ·exact .inl ⟨h,by unfold ratTxt; rw [if_pos h,hT],by rw [← hU,h]; exact txt_1⟩
  ·exact .inr ⟨h,by unfold ratTxt; rw [if_neg h,hT,hU],hn1 h⟩)
 obtain ⟨X,hX⟩:∃ X,ratTxt q=X:=⟨_,rfl⟩
 rw [hX] at Hways ⊢
 obtain ⟨Z,hZ⟩:∃ Z,txt z=Z:=⟨_,rfl⟩
 obtain ⟨Y,hY⟩:∃ Y,txt (kn:Int)=Y:=⟨_,rfl⟩
 obtain ⟨G,hG⟩:∃ G,txt (g:Int)=G:=⟨_,rfl⟩
 rw [hZ,hY,hG] at HG
 rw [hZ,hG] at HD
 rw [hY,hG] at HE
 rw [hY] at HS
 rw [hZ,hY]
 clear sz sk hqn hqd hge hgp hgk sg hn1 hT hU hZ hY hG hz hk hkp hqq hX
 go_enter Tryz.func77,Tryz.ntmps77
 go_wp2_with fail
 refine (HS.out _).mono ?_
 rintro e w1 ⟨rfl,rfl⟩
 have K2:=Lh (Below.refl w.heap.size w)
 go_wp2_with fail
 refine (HG.out _).mono ?_
 rintro e w3 ⟨rfl,h3⟩
 have K3:=Lh (below_on K2.out h3)
 clear h3
 go_wp2_with fail
 refine (HD.out _).mono ?_
 rintro e w4 ⟨⟨q1,r1,rfl,hdm⟩,h4⟩
 have e1:=dm_ediv Hgp.out hdm
 rw [← Hqn.out] at e1
 subst e1
 have K4:=Lh (below_on K3.out h4)
 clear h4 hdm
 rw [HT.out]
 go_wp2_with fail
 refine (HE.out _).mono ?_
 rintro e w5 ⟨⟨q2,r2,rfl,hdm⟩,h5⟩
 have e2:=dm_ediv Hgp.out hdm
 rw [← Hqd.out] at e2
 subst e2
 have K5:=Lh (below_on K4.out h5)
 clear h5 hdm
 rw [HU.out]
 rcases Hways.out with ⟨hd,hfin,rfl⟩ | ⟨hd,hfin,hn1⟩
 ·have Hfin:=Lh hfin
  clear hd hfin
  go_wp2
  go_ret
  exact ⟨by rw [Hfin.out]; rfl,K5.out⟩
 ·have Hfin:=Lh hfin
  have cat1:∀ W:World,(Op.stringOp .add T ⟨#[47]⟩).run Tryz.prog W= .ok (.string (T ++ ⟨#[47]⟩)) W:=fun W=>run_string_add_sum W _ _ (by show T.size+1≤_; omega)
  have cat2:∀ W:World,(Op.stringOp .add (T ++ ⟨#[47]⟩) U).run Tryz.prog W= .ok (.string (T ++ ⟨#[47]⟩ ++ U)) W:=fun W=>run_string_add_sum W _ _ (by rw [ByteArray.size_append]; show T.size+1+U.size≤_; omega)
  clear hd hfin
  go_wp2
  go_ret
  exact ⟨by rw [Hfin.out]; rfl,K5.out⟩
theorem text_neg (z:Int) (kn:Nat) (w:World) (hz:(-z).natAbs<ten 2900) (hk:kn<ten 2900) (hkp:0<kn) :
  Calls Tryz.prog 77 #[.string (txt z),.string (txt (-(kn:Int)))] w fun e w'=>e= .returned (.string (ratTxt (Rat.divInt (-z) kn)))∧Below w.heap.size w w':=by
 have sz0:(txt z).size≤2901:=ten_size (by rw [Int.natAbs_neg] at hz; exact hz)
 have sk0:(txt (-(kn:Int))).size≤2901:=ten_size (by rw [Int.natAbs_neg,Int.natAbs_natCast]; exact hk)
 have HS:=Lh (fun w=>refSign_any (-(kn:Int)) w (by omega))
 rw [show sgn (-(kn:Int))=-1 by unfold sgn; rw [if_pos (by omega)]] at HS
 have HN:=Lh (fun w=>refNeg_any z w (by omega))
 have HM:=Lh (fun w=>refNeg_any (-(kn:Int)) w (by omega))
 rw [Int.neg_neg] at HM
 have sz:=ten_size hz
 have sk:(txt (kn:Int)).size≤2901:=ten_size (by rw [Int.natAbs_natCast]; exact hk)
 obtain ⟨hqn,hqd⟩:=rat_make (n:=(-z)) (k:=kn) hkp
 obtain ⟨g,hge⟩:∃ g,Nat.gcd ((-z)).natAbs kn=g:=⟨_,rfl⟩
 have hgp:0<g:=by rw [← hge]; exact Nat.gcd_pos_of_pos_right _ hkp
 have hgk:g≤kn:=by rw [← hge]; exact Nat.gcd_le_right _ hkp
 have sg:(txt (g:Int)).size≤2901:=ten_size (by rw [Int.natAbs_natCast]; exact Nat.lt_of_le_of_lt hgk hk)
 have HG:=Lh (fun w=>refGcd_any (-z) (kn:Int) w (by omega) (by omega))
 have HD:=Lh (fun w=>refDivMod_any (-z) (g:Int) w (by omega) (by omega) (by omega))
 have HE:=Lh (fun w=>refDivMod_any (kn:Int) (g:Int) w (by omega) (by omega) (by omega))
 rw [Int.natAbs_natCast,hge] at HG
 rw [hge] at hqn hqd
 obtain ⟨q,hqq⟩:∃ q,Rat.divInt (-z) kn=q:=⟨_,rfl⟩
 rw [hqq] at hqn hqd
 rw [hqq]
 have Hqn:=Lh hqn
 have Hqd:=Lh (show ((q.den:Nat):Int)=(kn:Int) / (g:Int) by rw [hqd]; exact Int.natCast_ediv _ _)
 have Hgp:=Lh (show (0:Int)<(g:Int) by omega)
 have sn:(txt q.num).size≤2901:=ten_size (by
  have h1:=Int.natAbs_ediv_le_natAbs ((-z)) (g:Int)
  rw [← hqn] at h1
  omega)
 have sd:(txt (q.den:Int)).size≤2901:=ten_size (by
  rw [Int.natAbs_natCast,hqd]; exact Nat.lt_of_le_of_lt (Nat.div_le_self _ _) hk)
 have hn1:q.den≠1→((txt (q.den:Int)).toList == [49])=false:=fun h=>txt_not1 (by omega) (by omega)
 obtain ⟨T,hT⟩:∃ T,txt q.num=T:=⟨_,rfl⟩
 obtain ⟨U,hU⟩:∃ U,txt (q.den:Int)=U:=⟨_,rfl⟩
 rw [hT] at sn
 rw [hU] at sd hn1
 have HT:=Lh hT
 have HU:=Lh hU
 have Hways:=Lh (show (q.den=1∧ratTxt q=T∧U=⟨#[49]⟩)∨(q.den≠1∧ratTxt q=T ++ ⟨#[47]⟩ ++ U∧(U.toList == [49])=false) by
  by_cases h:q.den=1
  ·exact .inl ⟨h,by unfold ratTxt; rw [if_pos h,hT],by rw [← hU,h]; exact txt_1⟩
  ·exact .inr ⟨h,by unfold ratTxt; rw [if_neg h,hT,hU],hn1 h⟩)
 obtain ⟨X,hX⟩:∃ X,ratTxt q=X:=⟨_,rfl⟩
 rw [hX] at Hways ⊢
 obtain ⟨Z,hZ⟩:∃ Z,txt (-z)=Z:=⟨_,rfl⟩
 obtain ⟨Y,hY⟩:∃ Y,txt (kn:Int)=Y:=⟨_,rfl⟩
 obtain ⟨G,hG⟩:∃ G,txt (g:Int)=G:=⟨_,rfl⟩
 obtain ⟨Z0,hZ0⟩:∃ Z,txt z=Z:=⟨_,rfl⟩
 obtain ⟨Y0,hY0⟩:∃ Y,txt (-(kn:Int))=Y:=⟨_,rfl⟩
 rw [hZ,hY,hG] at HG
 rw [hZ,hG] at HD
 rw [hY,hG] at HE
 rw [hY0] at HS
 rw [hZ0,hZ] at HN
 rw [hY0,hY] at HM
 rw [hZ0,hY0]
 clear sz sk hqn hqd hge hgp hgk sg hn1 hT hU hZ hY hG hz hk hkp hqq hX hZ0 hY0 sz0 sk0
 go_enter Tryz.func77,Tryz.ntmps77
 go_wp2_with fail
 refine (HS.out _).mono ?_
 rintro e w1 ⟨rfl,rfl⟩
 go_wp2_with fail
 refine (HN.out _).mono ?_
 rintro e w1 ⟨rfl,h1⟩
 have K1:=Lh h1
 clear h1
 go_wp2_with fail
 refine (HM.out _).mono ?_
 rintro e w2 ⟨rfl,h2⟩
 have K2:=Lh (below_on K1.out h2)
 clear h2
 go_wp2_with fail
 refine (HG.out _).mono ?_
 rintro e w3 ⟨rfl,h3⟩
 have K3:=Lh (below_on K2.out h3)
 clear h3
 go_wp2_with fail
 refine (HD.out _).mono ?_
 rintro e w4 ⟨⟨q1,r1,rfl,hdm⟩,h4⟩
 have e1:=dm_ediv Hgp.out hdm
 rw [← Hqn.out] at e1
 subst e1
 have K4:=Lh (below_on K3.out h4)
 clear h4 hdm
 rw [HT.out]
 go_wp2_with fail
 refine (HE.out _).mono ?_
 rintro e w5 ⟨⟨q2,r2,rfl,hdm⟩,h5⟩
 have e2:=dm_ediv Hgp.out hdm
 rw [← Hqd.out] at e2
 subst e2
 have K5:=Lh (below_on K4.out h5)
 clear h5 hdm
 rw [HU.out]
 rcases Hways.out with ⟨hd,hfin,rfl⟩ | ⟨hd,hfin,hn1⟩
 ·have Hfin:=Lh hfin
  clear hd hfin
  go_wp2
  go_ret
  exact ⟨by rw [Hfin.out]; rfl,K5.out⟩
 ·have Hfin:=Lh hfin
  have cat1:∀ W:World,(Op.stringOp .add T ⟨#[47]⟩).run Tryz.prog W= .ok (.string (T ++ ⟨#[47]⟩)) W:=fun W=>run_string_add_sum W _ _ (by show T.size+1≤_; omega)
  have cat2:∀ W:World,(Op.stringOp .add (T ++ ⟨#[47]⟩) U).run Tryz.prog W= .ok (.string (T ++ ⟨#[47]⟩ ++ U)) W:=fun W=>run_string_add_sum W _ _ (by rw [ByteArray.size_append]; show T.size+1+U.size≤_; omega)
  clear hd hfin
  go_wp2
  go_ret
  exact ⟨by rw [Hfin.out]; rfl,K5.out⟩
theorem refRat_any (z k:Int) (w:World) (hz:z.natAbs<ten 2900) (hk:k.natAbs<ten 2900) (hk0:k≠0) :
  Calls Tryz.prog 77 #[.string (txt z),.string (txt k)] w fun e w'=>e= .returned (.string (ratTxt (Rat.divInt z k)))∧Below w.heap.size w w':=by
 rcases Int.lt_or_gt_of_ne hk0 with hn | hp
 ·have e:k=-((k.natAbs:Nat):Int):=by omega
  have e2:Rat.divInt z k=Rat.divInt (-z) (k.natAbs:Nat):=by rw [← rat_neg]; congr 1; omega
  have h:=text_neg z k.natAbs w (by rw [Int.natAbs_neg]; exact hz) hk (by omega)
  rw [← e] at h
  rw [e2]
  exact h
 ·have e:k=((k.natAbs:Nat):Int):=by omega
  have h:=text_pos z k.natAbs w hz hk (by omega)
  rw [← e] at h
  exact h
def allZero (l:List UInt8):Bool:=l.all (· == 48)
def slashAt (s:ByteArray):Nat:=s.data.toList.findIdx (· == 47)
theorem slashAt_le (s:ByteArray):slashAt s≤s.size:=by
 have:=List.findIdx_le_length (xs:=s.data.toList) (p:=(· == 47))
 rwa [str_len] at this
theorem slash_whole {s:ByteArray} (h:slashAt s<s.size):s=s.extract 0 (slashAt s) ++ ⟨#[47]⟩ ++ s.extract (slashAt s+1) s.size:=by
 have hlt:slashAt s<s.data.toList.length:=by rw [str_len]; exact h
 have h47:=List.findIdx_getElem (xs:=s.data.toList) (p:=(· == 47)) (w:=hlt)
 have h47:s.data.toList[slashAt s]=47:=eq_of_beq h47
 apply ByteArray.ext
 apply Array.toList_inj.1
 have e:(s.extract 0 (slashAt s) ++ ⟨#[47]⟩ ++ s.extract (slashAt s+1) s.size).data.toList=(s.extract 0 (slashAt s)).data.toList ++ [47] ++ (s.extract (slashAt s+1) s.size).data.toList:=by simp [ByteArray.data_append]
 rw [e,extract_data]
 have e2:(s.extract 0 (slashAt s)).data.toList=s.data.toList.take (slashAt s):=by simp [ByteArray.data_extract]
 rw [e2,List.append_assoc,List.singleton_append,← h47,← List.drop_eq_getElem_cons hlt,List.take_append_drop]
def Tx (s:ByteArray) (z:Int):Prop:=errOf s=0∧zOf s=z
theorem Tx.txt {s:ByteArray} {z:Int} (h:Tx s z):txt z=s:=by rw [← h.2]; exact txt_zOf h.1
def IsR (s:ByteArray):Prop:=∃ q:Rat,ratTxt q=s∧Tx (txt q.num) q.num∧(q.den≠1→Tx (txt (q.den:Int)) (q.den:Int))∧(txt q.num).size≤s.size∧(q.den≠1→(txt (q.den:Int)).size≤s.size)
theorem size_cat (T U:ByteArray):(T ++ ⟨#[47]⟩ ++ U).size=T.size+1+U.size:=by rw [ByteArray.size_append,ByteArray.size_append]; rfl
theorem isR_int {s:ByteArray} (h:errOf s=0):IsR s:=by
 have e:=txt_zOf h
 have hn:((zOf s:Int):Rat).num=zOf s:=Rat.num_intCast _
 have hd:((zOf s:Int):Rat).den=1:=Rat.den_intCast _
 refine ⟨((zOf s:Int):Rat),by unfold ratTxt; rw [if_pos hd,hn,e],by rw [hn,e]; exact ⟨h,rfl⟩,fun h1=>absurd hd h1,by rw [hn,e]; exact Nat.le_refl _,fun h1=>absurd hd h1⟩
theorem isR_frac {T U:ByteArray} {z d:Int} (hT:Tx T z) (hU:Tx U d) (hd:1<d) (hg:Nat.gcd z.natAbs d.natAbs=1):IsR (T ++ ⟨#[47]⟩ ++ U):=by
 have e1:=hT.txt
 have e2:=hU.txt
 have hk:d=((d.natAbs:Nat):Int):=by omega
 obtain ⟨h1,h2⟩:=rat_make (n:=z) (k:=d.natAbs) (by omega)
 rw [hg] at h1 h2
 rw [Int.natCast_one,Int.ediv_one] at h1
 rw [Nat.div_one] at h2
 refine ⟨Rat.divInt z (d.natAbs:Nat),?_,by rw [h1,e1]; exact hT,fun _=>by rw [h2,← hk,e2]; exact hU,by rw [h1,e1,size_cat]; omega,fun _=>by rw [h2,← hk,e2,size_cat]; omega⟩
 unfold ratTxt
 rw [if_neg (by omega),h1,h2,← hk,e1,e2]
theorem den_neg {den:ByteArray} (hd:allDig den.data.toList=true):isNeg den=false:=by
 unfold isNeg
 cases hl:den.data.toList with
 | nil=>rfl
 | cons c l=>
  rw [hl] at hd
  unfold allDig at hd
  rw [List.all_cons,Bool.and_eq_true] at hd
  have h1:=hd.1
  rw [List.head?_cons]
  have:c≠45:=by intro e; rw [e] at h1; revert h1; decide
  simpa using this
theorem den_good {den:ByteArray} (hd:allDig den.data.toList=true) (h0:0<den.size) (h1:lead0 den=false):errOf den=0∧0<zOf den:=by
 have hn:=den_neg hd
 have hb:bodyOf den=den:=by unfold bodyOf; rw [hn]; rfl
 have he:=(errOf_ways hb).2.2.2 hd h0 (fun ⟨hl,_⟩=>by rw [h1] at hl; cases hl)
 refine ⟨he,?_⟩
 have hnn:0≤zOf den:=by unfold zOf signZ; rw [hn]; simp
 rcases Int.lt_or_eq_of_le hnn with h | h
 ·exact h
 ·exfalso
  have e:=txt_zOf he
  rw [← h,txt_zero] at e
  rw [← e] at h1
  revert h1
  decide
theorem dig_true {l:List UInt8} {n:Nat} (h:(allDig l && decide (0<n))=true):allDig l=true∧0<n:=by
 rw [Bool.and_eq_true] at h
 exact ⟨h.1,of_decide_eq_true h.2⟩
end Go.Proofs.YtekhdklbfincpaaGreatDoor
namespace Go.Proofs.YtekhdklbfincpaaGreatDoor
open Go.RowKit
theorem make_neg (a:Int) (P:Option Addr) (b:Int) (Q:Option Addr) (z:Int) (kn:Nat) (w:World) (h:IsInt 0 w (.agg #[.int .i64 a,.pointer P]) z) (h':IsInt 0 w (.agg #[.int .i64 b,.pointer Q]) (-(kn:Int))) (hkp:0<kn) (hlz:(-z).natAbs<base 390) (hlk:((kn:Nat):Int).natAbs<base 390) (hg:Good w) :
  Calls Tryz.prog 87 #[.agg #[.int .i64 a,.pointer P],.agg #[.int .i64 b,.pointer Q]] w (Made (Rat.divInt (-z) kn) w):=by
 have kk:=(((Below.refl w.heap.size w).alloc (Nat.le_refl _) (.cells #[.int .i64 a,.pointer P] 28)).alloc (by simp) (.cells #[.int .i64 b,.pointer Q] 28)).alloc (by simp; omega) (.cells #[.int .i64 0,.pointer none,.int .i64 0,.pointer none] 30)
 have V0:=Lh (((Cells.new w #[.int .i64 a,.pointer P] 28).keep ((Below.refl _ _).alloc (Nat.le_refl _) (.cells #[.int .i64 b,.pointer Q] 28))).keep ((Below.refl _ _).alloc (Nat.le_refl _) (.cells #[.int .i64 0,.pointer none,.int .i64 0,.pointer none] 30)))
 have V1:=Lh ((Cells.new (w.alloc (.cells #[.int .i64 a,.pointer P] 28)) #[.int .i64 b,.pointer Q] 28).keep ((Below.refl _ _).alloc (Nat.le_refl _) (.cells #[.int .i64 0,.pointer none,.int .i64 0,.pointer none] 30)))
 have R:=Lh (Cells.new ((w.alloc (.cells #[.int .i64 a,.pointer P] 28)).alloc (.cells #[.int .i64 b,.pointer Q] 28)) #[.int .i64 0,.pointer none,.int .i64 0,.pointer none] 30)
 simp only [World.size_alloc] at V1 R
 have Hz:=Lh (h.keep kk)
 have Hk:=Lh (h'.keep kk)
 have Hs:=Lh (signZ_any _ (-(kn:Int)) _ (h'.keep kk))
 rw [show sgn (-(kn:Int))=-1 by unfold sgn; rw [if_pos (by omega)]] at Hs
 have Kk:=Lh kk
 have Lz:=Lh hlz
 have Lk:=Lh hlk
 have Hkp:=Lh hkp
 have Hw:=Lh (fun w' (hb:Below w.heap.size w w')=>hg.below hb)
 obtain ⟨qt,hqt⟩:∃ q,Rat.divInt (-z) kn=q:=⟨_,rfl⟩
 rw [hqt]
 have Hqt:=Lh hqt.symm
 have d0:=V1.out.c0
 have d1:=V1.out.c1
 clear h h' kk hkp hlz hlk hg hqt
 go_enter Tryz.func87,Tryz.ntmps87
 go_wp2_with fail
 refine Hs.out.mono ?_
 rintro e ws ⟨rfl,h1⟩
 have V0:=Lh (V0.out.keep h1)
 have V1:=Lh (V1.out.keep h1)
 have R:=Lh (R.out.keep h1)
 have Hz:=Lh (Hz.out.keep h1)
 have Hk:=Lh (Hk.out.keep h1)
 have Ks:=Lh (below_on Kk.out h1)
 clear h1 d0 d1
 have HS:=Lh (fun v (hb:Below ws.heap.size ws v)=>(⟨(V0.out.keep hb).c0,(V0.out.keep hb).c1,(V1.out.keep hb).c0,(V1.out.keep hb).c1⟩:v.cell? ⟨w.heap.size,0,none⟩=some (.int .i64 a)∧v.cell? ⟨w.heap.size,1,none⟩=some (.pointer P)∧v.cell? ⟨w.heap.size+1,0,none⟩=some (.int .i64 b)∧v.cell? ⟨w.heap.size+1,1,none⟩=some (.pointer Q)))
 have HA:=Lh (fun v (hb:Below ws.heap.size ws v)=>neg_any a P z v (Hz.out.keep hb))
 have HB:=Lh (fun v (hb:Below ws.heap.size ws v)=>neg_any b Q (-(kn:Int)) v (Hk.out.keep hb))
 rw [Int.neg_neg] at HB
 go_wp2_with fail
 refine Till.begin 4 (fun v=>v.cell? ⟨w.heap.size,0,none⟩=some (.int .i64 a)∧v.cell? ⟨w.heap.size,1,none⟩=some (.pointer P)∧v.cell? ⟨w.heap.size+1,0,none⟩=some (.int .i64 b)∧v.cell? ⟨w.heap.size+1,1,none⟩=some (.pointer Q)) (by kernel_rfl) (HS.out _ (Below.refl _ _).drew) (fun hH=>?_)
 refine Till.tk 0 1 14 (.agg #[.int .i64 a,.pointer P]) hH ?_
 try simp only [Act.put,Pls]
 refine Till.tk 2 3 16 (.agg #[.int .i64 b,.pointer Q]) hH ?_
 try simp only [Act.put,Pls]
 clear hH
 refine Till.one (i:=1) (by kernel_rfl) rfl (fun K hK=>?_)
 go_simp
 refine (HA.out _ (Below.refl _ _).drew).mono ?_
 rintro e v1 ⟨a2,P2,rfl,hx,g1⟩
 have B1:=Lh (below_on (Below.refl ws.heap.size ws).drew g1)
 have Hx1:=Lh hx
 clear g1 hx
 go_wp2_with fail
 refine hK.out _ _ (fun _=>HS.out _ B1.out) ?_
 clear hK K
 try simp only [Act.put,Pls]
 refine Till.one (i:=3) (by kernel_rfl) rfl (fun K hK=>?_)
 go_simp
 refine (HB.out _ B1.out).mono ?_
 rintro e v2 ⟨b2,Q2,rfl,hy,g2⟩
 have B2:=Lh (below_on B1.out g2)
 have Hx2:=Lh (Hx1.out.keep g2)
 have Hy2:=Lh hy
 clear g2 hy
 go_wp2_with fail
 refine hK.out _ _ (fun _=>HS.out _ B2.out) ?_
 clear hK K
 try simp only [Act.put,Pls]
 have V0:=Lh (V0.out.keep B2.out)
 have V1:=Lh (V1.out.keep B2.out)
 have R:=Lh (R.out.keep B2.out)
 have i0:=V0.out.c0
 have i1:=V0.out.c1
 have j0:=V1.out.c0
 have j1:=V1.out.c1
 have f0:=V0.out.fz 0
 have f1:=V0.out.fz 1
 have g0:=V1.out.fz 0
 have g1:=V1.out.fz 1
 refine Till.one (i:=4) (by kernel_rfl) rfl (fun K hK=>?_)
 go_simp
 refine hK.out _ _ (fun h=>absurd h (by simp)) ?_
 clear hK K
 try simp only [Act.put,Pls]
 refine Till.one (i:=5) (by kernel_rfl) rfl (fun K hK=>?_)
 go_simp
 refine hK.out _ _ (fun h=>absurd h (by simp)) ?_
 clear hK K
 try simp only [Act.put,Pls]
 refine Till.done (by kernel_rfl) ?_ _
 clear i0 i1 j0 j1 f0 f1 g0 g1
 have V0':=V0
 have V1':=V1.out.put2_other (show w.heap.size+1≠w.heap.size by omega) (.int .i64 a2) (.pointer P2)
 have V0:=Lh ((V0.out.put2 (.int .i64 a2) (.pointer P2)).put2_other (show w.heap.size≠w.heap.size+1 by omega) (.int .i64 b2) (.pointer Q2))
 have R:=Lh ((R.out.put2_other (show w.heap.size+1+1≠w.heap.size by omega) (.int .i64 a2) (.pointer P2)).put2_other (show w.heap.size+1+1≠w.heap.size+1 by omega) (.int .i64 b2) (.pointer Q2))
 have Hz:=Lh ((Hx2.out.wrote V0'.out (by rfl) (put2_heap v2 (w.heap.size) (.int .i64 a2) (.pointer P2)).1 (put2_heap _ _ _ _).2).wrote V1' (by rfl) (put2_heap _ (w.heap.size+1) (.int .i64 b2) (.pointer Q2)).1 (put2_heap _ _ _ _).2)
 have Hk:=Lh ((Hy2.out.wrote V0'.out (by rfl) (put2_heap v2 (w.heap.size) (.int .i64 a2) (.pointer P2)).1 (put2_heap _ _ _ _).2).wrote V1' (by rfl) (put2_heap _ (w.heap.size+1) (.int .i64 b2) (.pointer Q2)).1 (put2_heap _ _ _ _).2)
 have V1:=Lh (V1'.put2 (.int .i64 b2) (.pointer Q2))
 have Kt:=Lh (below_put2 (below_put2 (below_on Ks.out B2.out) (Nat.le_refl w.heap.size) (.int .i64 a2) (.pointer P2)) (show w.heap.size≤w.heap.size+1 by omega) (.int .i64 b2) (.pointer Q2))
 obtain ⟨wt,hwt⟩:∃ wt,put2 (put2 v2 (w.heap.size) (.int .i64 a2) (.pointer P2)) (w.heap.size+1) (.int .i64 b2) (.pointer Q2)=wt:=⟨_,rfl⟩
 rw [hwt] at V0 V1 R Hz Hk Kt
 unfold put2 at hwt
 try rw [hwt]
 clear hwt V1'
 have HG:=Lh (gcd_any a2 b2 P2 Q2 (-z) (kn:Int) wt Hz.out Hk.out (base_up Lz.out (by decide)) (base_up Lk.out (by decide)) (Hw.out _ Kt.out).2 (Nat.lt_of_le_of_lt (Nat.zero_le _) V0.out.lt))
 rw [Int.natAbs_natCast] at HG
 obtain ⟨g,hge⟩:∃ g,Nat.gcd ((-z)).natAbs kn=g:=⟨_,rfl⟩
 rw [hge] at HG
 obtain ⟨hqn,hqd⟩:=rat_make (n:=(-z)) (k:=kn) Hkp.out
 rw [hge] at hqn hqd
 have hgp:0<g:=by rw [← hge]; exact Nat.gcd_pos_of_pos_right _ Hkp.out
 have hgl:g<base 390:=by rw [← hge]; exact Nat.lt_of_le_of_lt (Nat.gcd_le_right _ Hkp.out) (by have:=Lk.out; rwa [Int.natAbs_natCast] at this)
 have Hqn:=Lh hqn
 have Hqd:=Lh (show (((Rat.divInt (-z) kn).den:Nat):Int)=(kn:Int) / (g:Int) by rw [hqd]; exact Int.natCast_ediv _ _)
 have Hgp:=Lh hgp
 have Hgl:=Lh (show ((g:Nat):Int).natAbs<base 390 by rw [Int.natAbs_natCast]; exact hgl)
 obtain ⟨q,hqq⟩:∃ q,Rat.divInt (-z) kn=q:=⟨_,rfl⟩
 rw [hqq] at Hqn Hqd Hqt
 clear hge hqn hqd hgp hgl hqq
 have c0:=V0.out.c0
 have c1:=V0.out.c1
 have d0:=V1.out.c0
 have d1:=V1.out.c1
 go_wp2_with fail
 refine HG.out.mono ?_
 rintro e n1 ⟨ga,gP,rfl,hig,g1⟩
 have k3:=(Below.refl n1.heap.size n1).alloc (Nat.le_refl _) (.cells #[.int .i64 ga,.pointer gP] 28)
 have G0:=Lh (Cells.new n1 #[.int .i64 ga,.pointer gP] 28)
 have V0:=Lh ((V0.out.keep g1).keep k3)
 have V1:=Lh ((V1.out.keep g1).keep k3)
 have R:=Lh ((R.out.keep g1).keep k3)
 have Hz:=Lh ((Hz.out.keep g1).keep k3)
 have Hk:=Lh ((Hk.out.keep g1).keep k3)
 have Hig:=Lh (hig.keep k3)
 have Ku:=Lh (below_on (below_on Kt.out g1) k3)
 obtain ⟨pg,hpg⟩:∃ p,n1.heap.size=p:=⟨_,rfl⟩
 obtain ⟨wu,hwu⟩:∃ wu,n1.alloc (.cells #[.int .i64 ga,.pointer gP] 28)=wu:=⟨_,rfl⟩
 rw [hwu] at G0 V0 V1 R Hz Hk Hig Ku
 rw [hpg] at G0
 clear g1 hig k3 c0 c1 d0 d1
 have HS:=Lh (fun v (hb:Below wu.heap.size wu v)=>(⟨(V0.out.keep hb).c0,(V0.out.keep hb).c1,(V1.out.keep hb).c0,(V1.out.keep hb).c1,(G0.out.keep hb).c0,(G0.out.keep hb).c1⟩:v.cell? ⟨w.heap.size,0,none⟩=some (.int .i64 a2)∧v.cell? ⟨w.heap.size,1,none⟩=some (.pointer P2)∧v.cell? ⟨w.heap.size+1,0,none⟩=some (.int .i64 b2)∧v.cell? ⟨w.heap.size+1,1,none⟩=some (.pointer Q2)∧v.cell? ⟨pg,0,none⟩=some (.int .i64 ga)∧v.cell? ⟨pg,1,none⟩=some (.pointer gP)))
 have HA:=Lh (fun v (hb:Below wu.heap.size wu v)=>quotient_any a2 P2 ga gP (-z) (g:Int) v (Hz.out.keep hb) (Hig.out.keep hb) (by have:=Hgp.out; omega) Lz.out Hgl.out)
 have HB:=Lh (fun v (hb:Below wu.heap.size wu v)=>quotient_any b2 Q2 ga gP (kn:Int) (g:Int) v (Hk.out.keep hb) (Hig.out.keep hb) (by have:=Hgp.out; omega) Lk.out Hgl.out)
 go_wp2_with fail
 try simp only [hpg,hwu]
 clear hpg hwu
 refine Till.begin 7 (fun v=>v.cell? ⟨w.heap.size,0,none⟩=some (.int .i64 a2)∧v.cell? ⟨w.heap.size,1,none⟩=some (.pointer P2)∧v.cell? ⟨w.heap.size+1,0,none⟩=some (.int .i64 b2)∧v.cell? ⟨w.heap.size+1,1,none⟩=some (.pointer Q2)∧v.cell? ⟨pg,0,none⟩=some (.int .i64 ga)∧v.cell? ⟨pg,1,none⟩=some (.pointer gP)) (by kernel_rfl) (HS.out _ (Below.refl _ _).drew) (fun hH=>?_)
 refine Till.tk 0 2 21 (.agg #[.int .i64 a2,.pointer P2]) hH ?_
 try simp only [Act.put,Pls]
 refine Till.tk 1 2 22 (.agg #[.int .i64 ga,.pointer gP]) hH ?_
 try simp only [Act.put,Pls]
 refine Till.tk 3 5 24 (.agg #[.int .i64 b2,.pointer Q2]) hH ?_
 try simp only [Act.put,Pls]
 refine Till.tk 4 5 25 (.agg #[.int .i64 ga,.pointer gP]) hH ?_
 try simp only [Act.put,Pls]
 clear hH
 refine Till.one (i:=2) (by kernel_rfl) rfl (fun K hK=>?_)
 go_simp
 refine (HA.out _ (Below.refl _ _).drew).mono ?_
 rintro e v1 ⟨xa,xP,rfl,hx,g1⟩
 have B1:=Lh (below_on (Below.refl wu.heap.size wu).drew g1)
 have Hx1:=Lh hx
 clear g1 hx
 go_wp2_with fail
 refine hK.out _ _ (fun _=>HS.out _ B1.out) ?_
 clear hK K
 try simp only [Act.put,Pls]
 refine Till.one (i:=5) (by kernel_rfl) rfl (fun K hK=>?_)
 go_simp
 refine (HB.out _ B1.out).mono ?_
 rintro e v2 ⟨ya,yP,rfl,hy,g2⟩
 have B2:=Lh (below_on B1.out g2)
 have Hx2:=Lh (Hx1.out.keep g2)
 have Hy2:=Lh hy
 rw [← Hqn.out] at Hx2
 rw [← Hqd.out] at Hy2
 clear g2 hy
 have HO:=Lh (of_any xa xP ya yP q v2 Hx2.out Hy2.out)
 go_wp2_with fail
 refine hK.out _ _ (fun _=>HS.out _ B2.out) ?_
 clear hK K
 try simp only [Act.put,Pls]
 refine Till.one (i:=6) (by kernel_rfl) rfl (fun K hK=>?_)
 go_simp
 refine (HO.out).mono ?_
 rintro e v3 ⟨oa,oP,ob,oQ,rfl,ho,g3⟩
 have B3:=Lh (below_on B2.out g3)
 have Ho:=Lh ho
 clear g3 ho
 go_wp2_with fail
 refine hK.out _ _ (fun _=>HS.out _ B3.out) ?_
 clear hK K
 try simp only [Act.put,Pls]
 have R:=Lh (R.out.keep B3.out)
 have k0:=R.out.c0
 have k1:=R.out.c1
 have k2:=R.out.c2
 have k3:=R.out.c3
 have f0:=R.out.fz 0
 have f1:=R.out.fz 1
 have f2:=R.out.fz 2
 have f3:=R.out.fz 3
 refine Till.one (i:=7) (by kernel_rfl) rfl (fun K hK=>?_)
 go_simp
 refine hK.out _ _ (fun h=>absurd h (by simp)) ?_
 clear hK K
 try simp only [Act.put,Pls]
 refine Till.one (i:=8) (by kernel_rfl) rfl (fun K hK=>?_)
 go_simp
 refine hK.out _ _ (fun h=>absurd h (by simp)) ?_
 clear hK K
 try simp only [Act.put,Pls]
 refine Till.done (by kernel_rfl) ?_ _
 have Hfin:=Lh (Ho.out.wrote R.out (by rfl) (put4_heap v3 (w.heap.size+1+1) (.int .i64 oa) (.pointer oP) (.int .i64 ob) (.pointer oQ)).1 (put4_heap _ _ _ _ _ _).2)
 have Kf:=Lh (below_put4 (below_on Ku.out B3.out) (show w.heap.size≤w.heap.size+1+1 by omega) (.int .i64 oa) (.pointer oP) (.int .i64 ob) (.pointer oQ))
 go_wp2
 exact bodyPost_ret (v:= .tuple #[.agg #[.int .i64 oa,.pointer oP,.int .i64 ob,.pointer oQ],.int .i64 0]) (by simp [results,Tryz.results87,go_sem,k0,k1,k2,k3]) rfl ⟨oa,oP,ob,oQ,rfl,by rw [Hqt.out]; exact Hfin.out,Kf.out⟩
theorem make_any (a:Int) (P:Option Addr) (b:Int) (Q:Option Addr) (z k:Int) (w:World) (h:IsInt 0 w (.agg #[.int .i64 a,.pointer P]) z) (h':IsInt 0 w (.agg #[.int .i64 b,.pointer Q]) k) (hk0:k≠0) (hlz:z.natAbs<base 390) (hlk:k.natAbs<base 390) (hg:Good w) :
  Calls Tryz.prog 87 #[.agg #[.int .i64 a,.pointer P],.agg #[.int .i64 b,.pointer Q]] w (Made (Rat.divInt z k) w):=by
 rcases Int.lt_or_gt_of_ne hk0 with hn | hp
 ·have e:k=-((k.natAbs:Nat):Int):=by omega
  have e2:Rat.divInt z k=Rat.divInt (-z) (k.natAbs:Nat):=by rw [← rat_neg]; congr 1; omega
  rw [e2]
  rw [e] at h'
  exact make_neg a P b Q z k.natAbs w h h' (by omega) (by rw [Int.natAbs_neg]; exact hlz) (by rw [Int.natAbs_natCast]; exact hlk) hg
 ·have e:k=((k.natAbs:Nat):Int):=by omega
  rw [e]
  rw [e] at h'
  exact make_pos a P b Q z k.natAbs w h h' (by omega) hlz (by rw [Int.natAbs_natCast]; exact hlk) hg
end Go.Proofs.YtekhdklbfincpaaGreatDoor
