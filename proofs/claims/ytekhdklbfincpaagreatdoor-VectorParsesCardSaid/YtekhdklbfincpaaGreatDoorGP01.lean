/- GP01: RatK ChkA Vec4 -/
import Derived.Test.YtekhdklbfincpaaGreatDoorGA01
import Derived.Test.YtekhdklbfincpaaGreatDoorGA02
import Derived.Test.YtekhdklbfincpaaGreatDoorGA03
import Derived.Test.YtekhdklbfincpaaGreatDoorGA04
import Derived.Test.YtekhdklbfincpaaGreatDoorGA05
import Derived.Test.YtekhdklbfincpaaGreatDoorGA06
import Derived.Test.YtekhdklbfincpaaGreatDoorGA07
import Derived.Test.YtekhdklbfincpaaGreatDoorGA08
import Derived.Test.YtekhdklbfincpaaGreatDoorGA09
import Derived.Test.YtekhdklbfincpaaGreatDoorGA10
import Derived.Test.YtekhdklbfincpaaGreatDoorGA11
import Derived.Test.YtekhdklbfincpaaGreatDoorGA12
import Derived.Test.YtekhdklbfincpaaGreatDoorGA13
import Derived.Test.YtekhdklbfincpaaGreatDoorGA14
import Derived.Test.YtekhdklbfincpaaGreatDoorGA15
import Derived.Test.YtekhdklbfincpaaGreatDoorGA16
import Derived.Test.YtekhdklbfincpaaGreatDoorGA17
import Derived.Test.YtekhdklbfincpaaGreatDoorGA18
import Derived.Test.YtekhdklbfincpaaGreatDoorGA19
import Derived.Test.YtekhdklbfincpaaGreatDoorGA20
import Derived.Test.YtekhdklbfincpaaGreatDoorGA21
import Derived.Test.YtekhdklbfincpaaGreatDoorGA22
import Derived.Test.YtekhdklbfincpaaGreatDoorGA23
import Derived.Test.YtekhdklbfincpaaGreatDoorGA24
import Derived.Test.YtekhdklbfincpaaGreatDoorGA25
import Derived.Test.YtekhdklbfincpaaGreatDoorGA26
import Derived.Test.YtekhdklbfincpaaGreatDoorGA27
import Derived.Test.YtekhdklbfincpaaGreatDoorGA28
import Derived.Test.YtekhdklbfincpaaGreatDoorGA29
import Derived.Test.YtekhdklbfincpaaGreatDoorGA30
import Derived.Test.YtekhdklbfincpaaGreatDoorGA31
import Derived.Test.YtekhdklbfincpaaGreatDoorGA32
import Derived.Test.YtekhdklbfincpaaGreatDoorGA33
import Derived.Test.YtekhdklbfincpaaGreatDoorGA34
import Derived.Test.YtekhdklbfincpaaGreatDoorGA35
import Derived.Test.YtekhdklbfincpaaGreatDoorGA36
import Derived.Test.YtekhdklbfincpaaGreatDoorGA37
import Derived.Test.YtekhdklbfincpaaGreatDoorGA38
import Derived.Test.YtekhdklbfincpaaGreatDoorGA39
import Derived.Test.YtekhdklbfincpaaGreatDoorGA40
import Derived.Test.YtekhdklbfincpaaGreatDoorGA41
import Derived.Test.YtekhdklbfincpaaGreatDoorGA42
import Derived.Test.YtekhdklbfincpaaGreatDoorGA43
import Derived.Test.YtekhdklbfincpaaGreatDoorGA44
import Derived.Test.YtekhdklbfincpaaGreatDoorGA45
import Derived.Laws.IdiomArrays
set_option maxRecDepth 100000
set_option maxHeartbeats 16000000
namespace Go.Proofs.YtekhdklbfincpaaGreatDoor
open Go.RowKit
theorem refDigitsR_any (s:ByteArray) (w:World) (hs:s.size≤9223372036854775807) :
  Calls Tryz.prog 99 #[.string s] w fun e w'=>e= .returned (.bool (allDig s.data.toList && decide (0<s.size)))∧w=w':=by
 go_enter Tryz.func99,Tryz.ntmps99
 go_wp2_with fail
 go_loop [3] (fun i=>∃ k:Nat,k≤s.size∧i= .int .i64 k∧allDig (s.data.toList.take k)=true) (fun i=>s.size - (intOf i).toNat)
 case atStart=>exact ⟨0,Nat.zero_le _,rfl,rfl⟩
 case round=>
  obtain ⟨k,hk,rfl,hd⟩:=hrel
  have Hd:=Lh hd
  clear hd
  by_cases hlt:k<s.size
  ·have Hat:=Lh (str_at hlt)
   obtain ⟨x,hx⟩:∃ x,(s[k]).toNat=x:=⟨_,rfl⟩
   have Hx:=Lh hx
   by_cases h1:x<48
   ·have hf:allDig s.data.toList=false:=allDig_not Hat.out (by unfold isDig; rw [Hx.out]; simp; omega)
    go_wp2
    all_goals go_ret
    all_goals simp
   ·by_cases h2:57<x
    ·have hf:allDig s.data.toList=false:=allDig_not Hat.out (by unfold isDig; rw [Hx.out]; simp; omega)
     go_wp2
     all_goals go_ret
     all_goals simp
    ·have hf:=Lh (allDig_take Hat.out (by unfold isDig; rw [Hx.out]; simp; omega) Hd.out)
     go_wp2
     go_round
     case rel=>exact ⟨k+1,by omega,by go_num,hf.out⟩
     case measure=>simp [intOf]; omega
  ·have e:k=s.size:=by omega
   have hall:allDig s.data.toList=true:=by
    have:=Hd.out
    rw [e,← str_len,List.take_length] at this
    exact this
   go_wp2
   go_ret
   simp
theorem allZero_not {l:List UInt8} {k:Nat} {c:UInt8} (h:l[k]?=some c) (hc:c≠48):allZero l=false:=by
 unfold allZero
 rw [Bool.eq_false_iff]
 intro h1
 rw [List.all_eq_true] at h1
 have:=h1 c (List.mem_of_getElem? h)
 exact hc (by simpa using this)
theorem allZero_take {l:List UInt8} {k:Nat} {c:UInt8} (h:l[k]?=some c) (hc:c=48) (hd:allZero (l.take k)=true):allZero (l.take (k+1))=true:=by
 unfold allZero at *
 rw [List.take_add_one,h,List.all_append,hd]
 simp [hc]
theorem refZeros_any (s:ByteArray) (w:World) (hs:s.size≤9223372036854775807) :
  Calls Tryz.prog 100 #[.string s] w fun e w'=>e= .returned (.bool (allZero s.data.toList))∧w=w':=by
 go_enter Tryz.func100,Tryz.ntmps100
 go_wp2_with fail
 go_loop [3] (fun i=>∃ k:Nat,k≤s.size∧i= .int .i64 k∧allZero (s.data.toList.take k)=true) (fun i=>s.size - (intOf i).toNat)
 case atStart=>exact ⟨0,Nat.zero_le _,rfl,rfl⟩
 case round=>
  obtain ⟨k,hk,rfl,hd⟩:=hrel
  have Hd:=Lh hd
  clear hd
  by_cases hlt:k<s.size
  ·have Hat:=Lh (str_at hlt)
   obtain ⟨x,hx⟩:∃ x,(s[k]).toNat=x:=⟨_,rfl⟩
   have Hx:=Lh hx
   by_cases h1:x=48
   ·have hf:=Lh (allZero_take Hat.out (by apply UInt8.toNat_inj.1; rw [Hx.out]; exact h1) Hd.out)
    subst h1
    go_wp2
    go_round
    case rel=>exact ⟨k+1,by omega,by go_num,hf.out⟩
    case measure=>simp [intOf]; omega
   ·have hf:allZero s.data.toList=false:=allZero_not Hat.out (fun e=>by rw [e] at Hx; exact h1 Hx.out.symm)
    have t0:((x:Int) == 48)=false:=by rw [beq_eq_false_iff_ne]; omega
    go_wp2
    go_ret
    simp
  ·have e:k=s.size:=by omega
   have hall:allZero s.data.toList=true:=by
    have:=Hd.out
    rw [e,← str_len,List.take_length] at this
    exact this
   go_wp2
   go_ret
   simp
theorem slashR_any (s:ByteArray) (w:World) (hs:s.size≤9223372036854775807) :
  Calls Tryz.prog 101 #[.string s] w fun e w'=>e= .returned (.int .i64 (slashAt s:Nat))∧w=w':=
 slash_any s (slashAt s) w hs (slashAt_le s) (fun j c hj h=>by
  have hlt:j<s.data.toList.length:=by
   rcases Nat.lt_or_ge j s.data.toList.length with h1 | h1
   ·exact h1
   ·rw [List.getElem?_eq_none h1] at h; cases h
  have:=List.not_of_lt_findIdx hj
  rw [List.getElem?_eq_getElem hlt] at h
  injection h with h
  rw [h] at this
  simpa using this) (fun c h=>by
  have hlt:slashAt s<s.data.toList.length:=by
   rcases Nat.lt_or_ge (slashAt s) s.data.toList.length with h1 | h1
   ·exact h1
   ·rw [List.getElem?_eq_none h1] at h; cases h
  have:=List.findIdx_getElem (xs:=s.data.toList) (p:=(· == 47)) (w:=hlt)
  rw [List.getElem?_eq_getElem hlt] at h
  injection h with h
  have h2:s.data.toList[slashAt s]=c:=h
  unfold slashAt at h2
  rw [h2] at this
  simpa using this)
theorem isNeg_cons {s:ByteArray} (h:isNeg s=true):∃ d:ByteArray,bodyOf s=d∧s.size=d.size+1∧s.data.toList=45 :: d.data.toList:=by
 refine ⟨_,rfl,?_,?_⟩
 ·have hs:0<s.size:=by
   rcases Nat.eq_zero_or_pos s.size with h0 | h0
   ·rw [isNeg_empty h0] at h; cases h
   ·exact h0
  unfold bodyOf
  rw [if_pos h,tail_size]; omega
 ·unfold bodyOf
  rw [if_pos h,extract_data]
  unfold isNeg at h
  have h2:s.data.toList.head?=some 45:=by simpa using h
  cases hl:s.data.toList with
  | nil=>rw [hl] at h2; cases h2
  | cons c l=>rw [hl] at h2; simp at h2; rw [h2]; rfl
theorem num_good {num d:ByteArray} (hb:bodyOf num=d) (hd:allDig d.data.toList=true) (h0:0<d.size) (h1:¬ (1<d.size∧lead0 d=true)) (h2:num≠⟨#[45,48]⟩):errOf num=0:=by
 refine (errOf_ways hb).2.2.2 hd h0 (fun ⟨hl,hor⟩=>?_)
 rcases hor with h | h
 ·exact h1 ⟨h,hl⟩
 ·by_cases hn:isNeg num=true
  ·obtain ⟨d',hb',hsz,hdata⟩:=isNeg_cons hn
   obtain rfl:d'=d:=hb'.symm.trans hb
   have hd1:d'.size=1:=by
    rcases Nat.lt_or_ge 1 d'.size with h3 | h3
    ·exact absurd ⟨h3,hl⟩ h1
    ·omega
   apply h2
   apply ByteArray.ext
   apply Array.toList_inj.1
   rw [hdata]
   unfold lead0 at hl
   have hl2:d'.data.toList.head?=some 48:=by simpa using hl
   have hlen:d'.data.toList.length=1:=by rw [str_len]; exact hd1
   obtain ⟨c,hc⟩:=List.length_eq_one_iff.1 hlen
   rw [hc] at hl2 ⊢
   simp at hl2
   rw [hl2]
  ·have e:bodyOf num=num:=by unfold bodyOf; rw [if_neg hn]
   rw [e] at hb
   subst hb
   exact h1 ⟨h,hl⟩
end Go.Proofs.YtekhdklbfincpaaGreatDoor
namespace Go.Proofs.YtekhdklbfincpaaGreatDoor
open Go.RowKit
theorem refPartsE_any (s:ByteArray) (w:World) (hs:s.size≤5000) :
  Calls Tryz.prog 76 #[.string s] w fun e w'=>e= .returned (.tuple #[.string (numR s),.string (denR s)])∧Below w.heap.size w w':=by
 have HS:=Lh (fun w=>slashR_any s w (by omega))
 have hle:=slashAt_le s
 unfold numR denR
 obtain ⟨k,hk⟩:∃ k,slashAt s=k:=⟨_,rfl⟩
 rw [hk] at HS hle ⊢
 clear hk
 by_cases h:k<s.size
 ·rw [if_pos h]
  have hle1:k+1≤s.size:=h
  have hk5:(k:Int)≤5000:=by omega
  have hs5:(s.size:Int)≤5000:=by omega
  have t0:((k:Int) == (s.size:Int))=false:=by rw [beq_eq_false_iff_ne]; omega
  go_enter Tryz.func76,Tryz.ntmps76
  go_wp2_with fail
  refine (HS.out _).mono ?_
  rintro e w1 ⟨rfl,rfl⟩
  go_wp2_with fail
  go_region
  all_goals
   go_wp2
   go_ret2
   exact ⟨rfl,(Below.refl _ _).drew⟩
 ·obtain rfl:k=s.size:=by omega
  rw [if_neg (by omega),whole_extract]
  clear h
  go_enter Tryz.func76,Tryz.ntmps76
  go_wp2_with fail
  refine (HS.out _).mono ?_
  rintro e w1 ⟨rfl,rfl⟩
  go_wp2
  go_ret2
  exact ⟨rfl,Below.refl _ _⟩
theorem refCheckE_any (s:ByteArray) (most:Nat) (w:World) (hs:s.size≤500) (hm:s.size≤most) (_hm2:most≤1000000000):Calls Tryz.prog 62 #[.string s,.int .i64 (most:Nat)] w (CheckE s w):=by
 have hmI:(s.size:Int)≤(most:Int):=by omega
 have HP:=Lh (fun w=>refPartsE_any s w (by omega))
 have hways:=(partR s).1
 have hR:errR s=errP (numR s) (denR s) (fracR s):=rfl
 obtain ⟨num,hnum⟩:∃ x,numR s=x:=⟨_,rfl⟩
 obtain ⟨den,hden⟩:∃ x,denR s=x:=⟨_,rfl⟩
 obtain ⟨f,hf⟩:∃ x,fracR s=x:=⟨_,rfl⟩
 rw [hnum,hden,hf] at hways hR
 rw [hnum,hden] at HP
 have HR:=Lh hR
 clear hnum hden hf hR
 have HSl:=Lh (fun w=>slashR_any s w (by omega))
 go_enter Tryz.func62,Tryz.ntmps62
 go_wp2_with fail
 refine (HP.out _).mono ?_
 rintro e w1 ⟨rfl,h1⟩
 have K1:=Lh h1
 have z1:num.size≤501∧den.size≤501:=by
  rcases hways with ⟨_,_,rfl,rfl⟩ | ⟨_,_,h⟩
  ·exact ⟨by omega,by decide⟩
  ·have h2:=congrArg ByteArray.size h
   rw [size_cat] at h2
   omega
 obtain ⟨zn,zd⟩:=z1
 clear h1
 obtain ⟨b2,hb2⟩:∃ b,digs den=b:=⟨_,rfl⟩
 have HD2:=Lh (fun w=>refDigitsR_any den w (by omega))
 rw [show (allDig den.data.toList && decide (0<den.size))=digs den from rfl,hb2] at HD2
 have Hb2:=Lh hb2
 obtain ⟨b3,hb3⟩:∃ b,allZero den.data.toList=b:=⟨_,rfl⟩
 have HZ:=Lh (fun w=>refZeros_any den w (by omega))
 rw [hb3] at HZ
 have Hb3:=Lh hb3
 clear hb2 hb3
 rcases Nat.eq_zero_or_pos num.size with h0 | h0
 ·obtain ⟨b1,hb1⟩:∃ b,digs num=b:=⟨_,rfl⟩
  have HD1:=Lh (fun w=>refDigitsR_any num w (by omega))
  rw [show (allDig num.data.toList && decide (0<num.size))=digs num from rfl] at HD1
  rw [hb1] at HD1
  obtain rfl:b1=false:=by rw [← hb1]; unfold digs; rw [h0]; simp
  have H14:=Lh (show digs (bodyOf num)=false by unfold bodyOf; rw [isNeg_empty h0]; exact hb1)
  clear hb1
  go_wp2_with fail
  refine (HD1.out _).mono ?_
  rintro e w2 ⟨rfl,rfl⟩
  go_wp2
  go_ret
  exact CheckE.of HR.out rfl (errP_14 (.inl H14.out)) K1.out
 ·obtain ⟨x,hx⟩:∃ x,(num[0]).toNat=x:=⟨_,rfl⟩
  have hneg:=isNeg_of h0 hx
  by_cases h45:x=45
  ·rw [decide_eq_true h45] at hneg
   have hb:bodyOf num=num.extract 1 num.size:=by unfold bodyOf; rw [hneg]; rfl
   obtain ⟨d,hd⟩:∃ d,num.extract 1 num.size=d:=⟨_,rfl⟩
   rw [hd] at hb
   have hds:d.size≤501:=by rw [← hd,tail_size]; omega
   have Hb:=Lh hb
   have h1s:(1:Int)≤(num.size:Int):=by omega
   have hns:(num.size:Int)≤501:=by omega
   subst h45
   obtain ⟨b1,hb1⟩:∃ b,digs d=b:=⟨_,rfl⟩
   have HD1:=Lh (fun w=>refDigitsR_any d w (by omega))
   rw [show (allDig d.data.toList && decide (0<d.size))=digs d from rfl] at HD1
   rw [hb1] at HD1
   have Hb1:=Lh hb1
   clear hb1 hb hneg
   go_wp2_with fail
   refine (HD1.out _).mono ?_
   rintro e w2 ⟨rfl,rfl⟩
   cases b1 with
   | false=>
    go_wp2
    go_ret
    exact CheckE.of HR.out rfl (errP_14 (.inl (by rw [Hb.out]; exact Hb1.out))) K1.out
   | true=>
    go_wp2_with fail
    refine (HD2.out _).mono ?_
    rintro e w2 ⟨rfl,rfl⟩
    cases b2 with
    | false=>
     go_wp2
     go_ret
     exact CheckE.of HR.out rfl (errP_14 (.inr Hb2.out)) K1.out
    | true=>
     obtain ⟨ad,sd⟩:=dig_true Hb1.out
     obtain ⟨an,sn⟩:=dig_true Hb2.out
     have Ad:=Lh ad
     have An:=Lh an
     clear ad an
     go_wp2_with fail
     refine (HZ.out _).mono ?_
     rintro e w2 ⟨rfl,rfl⟩
     cases b3 with
     | true=>
      go_wp2
      go_ret
      exact CheckE.of HR.out rfl (errP_19 (by rw [Hb.out]; exact Hb1.out) Hb2.out Hb3.out) K1.out
     | false=>
      obtain ⟨y,hy⟩:∃ y,(d[0]).toNat=y:=⟨_,rfl⟩
      obtain ⟨u,hu⟩:∃ u,(den[0]).toNat=u:=⟨_,rfl⟩
      have Hl0:=Lh (lead0_of sd hy)
      have Hu0:=Lh (lead0_of sn hu)
      by_cases hlead:1<d.size∧y=48
      ·obtain ⟨hl1,rfl⟩:=hlead
       have H3:=Lh (errP_3 (f:=f) (by rw [Hb.out]; exact Hb1.out) Hb2.out Hb3.out (.inl (errOf_lead Hb.out Hb1.out Hl0.out (.inl hl1))))
       go_wp2
       go_ret
       exact CheckE.of HR.out rfl (H3.out) K1.out
      ·have tl:(1<d.size∧((y:Int) == 48)=false)∨¬ 1<d.size:=by
        rcases Nat.lt_or_ge 1 d.size with h1 | h1
        ·exact .inl ⟨h1,by rw [beq_eq_false_iff_ne]; intro e; exact hlead ⟨h1,by omega⟩⟩
        ·exact .inr (by omega)
       have Hgl:=Lh (show ¬ (1<d.size∧lead0 d=true) from fun ⟨h1,h2⟩=>hlead ⟨h1,by rw [Hl0.out] at h2; exact of_decide_eq_true h2⟩)
       clear hlead
       by_cases hm:num=⟨#[45,48]⟩
       ·have tm:(num.toList == [45,48])=true:=by rw [hm]; decide +kernel
        have H3:=Lh (errP_3 (f:=f) (by rw [Hb.out]; exact Hb1.out) Hb2.out Hb3.out (.inl (by rw [hm]; decide +kernel)))
        clear hm
        rcases tl with ⟨tl1,tl2⟩ | tl1
        ·go_wp2
         go_ret
         exact CheckE.of HR.out rfl (H3.out) K1.out
        ·go_wp2
         go_ret
         exact CheckE.of HR.out rfl (H3.out) K1.out
       ·have tm:(num.toList == [45,48])=false:=by
         rw [ByteArray.toList_eq,beq_eq_false_iff_ne]
         intro e
         exact hm (by apply ByteArray.ext; apply Array.toList_inj.1; rw [e])
        have Hm:=Lh hm
        clear hm
        have He:=Lh (num_good Hb.out Ad.out sd Hgl.out Hm.out)
        by_cases hu48:u=48
        ·subst hu48
         have H3:=Lh (errP_3 (f:=f) (by rw [Hb.out]; exact Hb1.out) Hb2.out Hb3.out (.inr (.inl Hu0.out)))
         rcases tl with ⟨tl1,tl2⟩ | tl1
         ·go_wp2
          go_ret
          exact CheckE.of HR.out rfl (H3.out) K1.out
         ·go_wp2
          go_ret
          exact CheckE.of HR.out rfl (H3.out) K1.out
        ·have tu:((u:Int) == 48)=false:=by rw [beq_eq_false_iff_ne]; omega
         have Hul:=Lh (show lead0 den=false by rw [Hu0.out]; exact decide_eq_false hu48)
         have Hd0:=Lh (den_good An.out sn Hul.out)
         clear hu48
         rcases hways with ⟨rfl,hk,rfl,rfl⟩ | ⟨rfl,hk,hcat⟩
         ·have Hfin:=Lh (errP_0 (f:=false) (by rw [Hb.out]; exact Hb1.out) Hb2.out Hb3.out He.out Hul.out (.inl rfl))
          rw [hk] at HSl
          clear hk
          rcases tl with ⟨tl1,tl2⟩ | tl1
          ·go_wp2_with fail
           refine (HSl.out _).mono ?_
           rintro e w3 ⟨rfl,rfl⟩
           go_wp2
           go_ret
           exact CheckE.of HR.out rfl (Hfin.out) K1.out
          ·go_wp2_with fail
           refine (HSl.out _).mono ?_
           rintro e w3 ⟨rfl,rfl⟩
           go_wp2
           go_ret
           exact CheckE.of HR.out rfl (Hfin.out) K1.out
         ·have hkk:(slashAt s:Int)<(s.size:Int):=by omega
          have Hcat:=Lh hcat
          obtain ⟨kk,hkke⟩:∃ kk,slashAt s=kk:=⟨_,rfl⟩
          rw [hkke] at HSl hkk
          clear hk hcat hkke
          by_cases hone:den=⟨#[49]⟩
          ·have t1:(den.toList == [49])=true:=by rw [hone]; decide +kernel
           have H3:=Lh (errP_3 (f:=true) (by rw [Hb.out]; exact Hb1.out) Hb2.out Hb3.out (.inr (.inr ⟨rfl,.inl (by rw [hone]; decide +kernel)⟩)))
           clear hone
           rcases tl with ⟨tl1,tl2⟩ | tl1
           ·go_wp2_with fail
            refine (HSl.out _).mono ?_
            rintro e w3 ⟨rfl,rfl⟩
            go_wp2
            go_ret
            exact CheckE.of HR.out rfl (H3.out) K1.out
           ·go_wp2_with fail
            refine (HSl.out _).mono ?_
            rintro e w3 ⟨rfl,rfl⟩
            go_wp2
            go_ret
            exact CheckE.of HR.out rfl (H3.out) K1.out
          ·have t1:(den.toList == [49])=false:=by
            rw [ByteArray.toList_eq,beq_eq_false_iff_ne]
            intro e
            exact hone (by apply ByteArray.ext; apply Array.toList_inj.1; rw [e])
           have en:=txt_zOf He.out
           have ed:=txt_zOf Hd0.out.1
           obtain ⟨z,hz⟩:∃ z,zOf num=z:=⟨_,rfl⟩
           obtain ⟨dd,hdd⟩:∃ dd,zOf den=dd:=⟨_,rfl⟩
           have hdp:=Hd0.out.2
           rw [hdd] at ed hdp
           rw [hz] at en
           have hd1:1<dd:=by
            rcases Int.lt_or_eq_of_le (show (1:Int)≤dd by omega) with h | h
            ·exact h
            ·exfalso
             apply hone
             rw [← ed,← h]
             exact txt_1
           have HG:=Lh (fun w=>refGcd_any z dd w (by rw [en]; omega) (by rw [ed]; omega))
           rw [en,ed] at HG
           have Hz:=Lh (show Tx num z from ⟨He.out,hz⟩)
           have Hdd:=Lh (show Tx den dd from ⟨Hd0.out.1,hdd⟩)
           obtain ⟨g,hg⟩:∃ g,Nat.gcd z.natAbs dd.natAbs=g:=⟨_,rfl⟩
           rw [hg] at HG
           by_cases hg1:g=1
           ·have Hfin:=Lh (errP_0 (f:=true) (by rw [Hb.out]; exact Hb1.out) Hb2.out Hb3.out He.out Hul.out (.inr ⟨by rw [hdd]; omega,by rw [hz,hdd]; exact hg.trans hg1⟩))
            subst hg1
            rw [show txt ((1:Nat):Int)=⟨#[49]⟩ from txt_1] at HG
            clear hone en ed hz hdd hdp hg hd1
            rcases tl with ⟨tl1,tl2⟩ | tl1
            ·go_wp2_with fail
             refine (HSl.out _).mono ?_
             rintro e w3 ⟨rfl,rfl⟩
             go_wp2_with fail
             refine (HG.out _).mono ?_
             rintro e w4 ⟨rfl,h4⟩
             have KG:=Lh (below_on K1.out h4)
             clear h4
             go_wp2
             go_ret
             exact CheckE.of HR.out rfl (Hfin.out) KG.out
            ·go_wp2_with fail
             refine (HSl.out _).mono ?_
             rintro e w3 ⟨rfl,rfl⟩
             go_wp2_with fail
             refine (HG.out _).mono ?_
             rintro e w4 ⟨rfl,h4⟩
             have KG:=Lh (below_on K1.out h4)
             clear h4
             go_wp2
             go_ret
             exact CheckE.of HR.out rfl (Hfin.out) KG.out
           ·have tg:((txt (g:Int)).toList == [49])=false:=txt_not1 (by omega) (by omega)
            have H3:=Lh (errP_3 (f:=true) (by rw [Hb.out]; exact Hb1.out) Hb2.out Hb3.out (.inr (.inr ⟨rfl,.inr (by rw [hz,hdd,hg]; exact hg1)⟩)))
            obtain ⟨G,hG⟩:∃ G,txt (g:Int)=G:=⟨_,rfl⟩
            rw [hG] at tg HG
            clear hone en ed hz hdd hdp hg hd1 hg1 hG
            rcases tl with ⟨tl1,tl2⟩ | tl1
            ·go_wp2_with fail
             refine (HSl.out _).mono ?_
             rintro e w3 ⟨rfl,rfl⟩
             go_wp2_with fail
             refine (HG.out _).mono ?_
             rintro e w4 ⟨rfl,h4⟩
             have KG:=Lh (below_on K1.out h4)
             clear h4
             go_wp2
             go_ret
             exact CheckE.of HR.out rfl (H3.out) KG.out
            ·go_wp2_with fail
             refine (HSl.out _).mono ?_
             rintro e w3 ⟨rfl,rfl⟩
             go_wp2_with fail
             refine (HG.out _).mono ?_
             rintro e w4 ⟨rfl,h4⟩
             have KG:=Lh (below_on K1.out h4)
             clear h4
             go_wp2
             go_ret
             exact CheckE.of HR.out rfl (H3.out) KG.out
  ·rw [decide_eq_false h45] at hneg
   have Hb:=Lh (show bodyOf num=num by unfold bodyOf; rw [hneg]; rfl)
   have t45:((x:Int) == 45)=false:=by rw [beq_eq_false_iff_ne]; omega
   obtain ⟨b1,hb1⟩:∃ b,digs num=b:=⟨_,rfl⟩
   have HD1:=Lh (fun w=>refDigitsR_any num w (by omega))
   rw [show (allDig num.data.toList && decide (0<num.size))=digs num from rfl] at HD1
   rw [hb1] at HD1
   have Hb1:=Lh hb1
   clear hb1 hneg
   go_wp2_with fail
   refine (HD1.out _).mono ?_
   rintro e w2 ⟨rfl,rfl⟩
   cases b1 with
   | false=>
    go_wp2
    go_ret
    exact CheckE.of HR.out rfl (errP_14 (.inl (by rw [Hb.out]; exact Hb1.out))) K1.out
   | true=>
    go_wp2_with fail
    refine (HD2.out _).mono ?_
    rintro e w2 ⟨rfl,rfl⟩
    cases b2 with
    | false=>
     go_wp2
     go_ret
     exact CheckE.of HR.out rfl (errP_14 (.inr Hb2.out)) K1.out
    | true=>
     obtain ⟨ad,sd⟩:=dig_true Hb1.out
     obtain ⟨an,sn⟩:=dig_true Hb2.out
     have Ad:=Lh ad
     have An:=Lh an
     clear ad an
     go_wp2_with fail
     refine (HZ.out _).mono ?_
     rintro e w2 ⟨rfl,rfl⟩
     cases b3 with
     | true=>
      go_wp2
      go_ret
      exact CheckE.of HR.out rfl (errP_19 (by rw [Hb.out]; exact Hb1.out) Hb2.out Hb3.out) K1.out
     | false=>
      obtain ⟨y,hy⟩:∃ y,(num[0]).toNat=y:=⟨_,rfl⟩
      obtain rfl:y=x:=hy.symm.trans hx
      obtain ⟨u,hu⟩:∃ u,(den[0]).toNat=u:=⟨_,rfl⟩
      have Hl0:=Lh (lead0_of sd hy)
      have Hu0:=Lh (lead0_of sn hu)
      by_cases hlead:1<num.size∧y=48
      ·obtain ⟨hl1,rfl⟩:=hlead
       have H3:=Lh (errP_3 (f:=f) (by rw [Hb.out]; exact Hb1.out) Hb2.out Hb3.out (.inl (errOf_lead Hb.out Hb1.out Hl0.out (.inl hl1))))
       go_wp2
       go_ret
       exact CheckE.of HR.out rfl (H3.out) K1.out
      ·have tl:(1<num.size∧((y:Int) == 48)=false)∨¬ 1<num.size:=by
        rcases Nat.lt_or_ge 1 num.size with h1 | h1
        ·exact .inl ⟨h1,by rw [beq_eq_false_iff_ne]; intro e; exact hlead ⟨h1,by omega⟩⟩
        ·exact .inr (by omega)
       have Hgl:=Lh (show ¬ (1<num.size∧lead0 num=true) from fun ⟨h1,h2⟩=>hlead ⟨h1,by rw [Hl0.out] at h2; exact of_decide_eq_true h2⟩)
       clear hlead
       by_cases hm:num=⟨#[45,48]⟩
       ·have tm:(num.toList == [45,48])=true:=by rw [hm]; decide +kernel
        have H3:=Lh (errP_3 (f:=f) (by rw [Hb.out]; exact Hb1.out) Hb2.out Hb3.out (.inl (by rw [hm]; decide +kernel)))
        clear hm
        rcases tl with ⟨tl1,tl2⟩ | tl1
        ·go_wp2
         go_ret
         exact CheckE.of HR.out rfl (H3.out) K1.out
        ·go_wp2
         go_ret
         exact CheckE.of HR.out rfl (H3.out) K1.out
       ·have tm:(num.toList == [45,48])=false:=by
         rw [ByteArray.toList_eq,beq_eq_false_iff_ne]
         intro e
         exact hm (by apply ByteArray.ext; apply Array.toList_inj.1; rw [e])
        have Hm:=Lh hm
        clear hm
        have He:=Lh (num_good Hb.out Ad.out sd Hgl.out Hm.out)
        by_cases hu48:u=48
        ·subst hu48
         have H3:=Lh (errP_3 (f:=f) (by rw [Hb.out]; exact Hb1.out) Hb2.out Hb3.out (.inr (.inl Hu0.out)))
         rcases tl with ⟨tl1,tl2⟩ | tl1
         ·go_wp2
          go_ret
          exact CheckE.of HR.out rfl (H3.out) K1.out
         ·go_wp2
          go_ret
          exact CheckE.of HR.out rfl (H3.out) K1.out
        ·have tu:((u:Int) == 48)=false:=by rw [beq_eq_false_iff_ne]; omega
         have Hul:=Lh (show lead0 den=false by rw [Hu0.out]; exact decide_eq_false hu48)
         have Hd0:=Lh (den_good An.out sn Hul.out)
         clear hu48
         rcases hways with ⟨rfl,hk,rfl,rfl⟩ | ⟨rfl,hk,hcat⟩
         ·have Hfin:=Lh (errP_0 (f:=false) (by rw [Hb.out]; exact Hb1.out) Hb2.out Hb3.out He.out Hul.out (.inl rfl))
          rw [hk] at HSl
          clear hk
          rcases tl with ⟨tl1,tl2⟩ | tl1
          ·go_wp2_with fail
           refine (HSl.out _).mono ?_
           rintro e w3 ⟨rfl,rfl⟩
           go_wp2
           go_ret
           exact CheckE.of HR.out rfl (Hfin.out) K1.out
          ·go_wp2_with fail
           refine (HSl.out _).mono ?_
           rintro e w3 ⟨rfl,rfl⟩
           go_wp2
           go_ret
           exact CheckE.of HR.out rfl (Hfin.out) K1.out
         ·have hkk:(slashAt s:Int)<(s.size:Int):=by omega
          have Hcat:=Lh hcat
          obtain ⟨kk,hkke⟩:∃ kk,slashAt s=kk:=⟨_,rfl⟩
          rw [hkke] at HSl hkk
          clear hk hcat hkke
          by_cases hone:den=⟨#[49]⟩
          ·have t1:(den.toList == [49])=true:=by rw [hone]; decide +kernel
           have H3:=Lh (errP_3 (f:=true) (by rw [Hb.out]; exact Hb1.out) Hb2.out Hb3.out (.inr (.inr ⟨rfl,.inl (by rw [hone]; decide +kernel)⟩)))
           clear hone
           rcases tl with ⟨tl1,tl2⟩ | tl1
           ·go_wp2_with fail
            refine (HSl.out _).mono ?_
            rintro e w3 ⟨rfl,rfl⟩
            go_wp2
            go_ret
            exact CheckE.of HR.out rfl (H3.out) K1.out
           ·go_wp2_with fail
            refine (HSl.out _).mono ?_
            rintro e w3 ⟨rfl,rfl⟩
            go_wp2
            go_ret
            exact CheckE.of HR.out rfl (H3.out) K1.out
          ·have t1:(den.toList == [49])=false:=by
            rw [ByteArray.toList_eq,beq_eq_false_iff_ne]
            intro e
            exact hone (by apply ByteArray.ext; apply Array.toList_inj.1; rw [e])
           have en:=txt_zOf He.out
           have ed:=txt_zOf Hd0.out.1
           obtain ⟨z,hz⟩:∃ z,zOf num=z:=⟨_,rfl⟩
           obtain ⟨dd,hdd⟩:∃ dd,zOf den=dd:=⟨_,rfl⟩
           have hdp:=Hd0.out.2
           rw [hdd] at ed hdp
           rw [hz] at en
           have hd1:1<dd:=by
            rcases Int.lt_or_eq_of_le (show (1:Int)≤dd by omega) with h | h
            ·exact h
            ·exfalso
             apply hone
             rw [← ed,← h]
             exact txt_1
           have HG:=Lh (fun w=>refGcd_any z dd w (by rw [en]; omega) (by rw [ed]; omega))
           rw [en,ed] at HG
           have Hz:=Lh (show Tx num z from ⟨He.out,hz⟩)
           have Hdd:=Lh (show Tx den dd from ⟨Hd0.out.1,hdd⟩)
           obtain ⟨g,hg⟩:∃ g,Nat.gcd z.natAbs dd.natAbs=g:=⟨_,rfl⟩
           rw [hg] at HG
           by_cases hg1:g=1
           ·have Hfin:=Lh (errP_0 (f:=true) (by rw [Hb.out]; exact Hb1.out) Hb2.out Hb3.out He.out Hul.out (.inr ⟨by rw [hdd]; omega,by rw [hz,hdd]; exact hg.trans hg1⟩))
            subst hg1
            rw [show txt ((1:Nat):Int)=⟨#[49]⟩ from txt_1] at HG
            clear hone en ed hz hdd hdp hg hd1
            rcases tl with ⟨tl1,tl2⟩ | tl1
            ·go_wp2_with fail
             refine (HSl.out _).mono ?_
             rintro e w3 ⟨rfl,rfl⟩
             go_wp2_with fail
             refine (HG.out _).mono ?_
             rintro e w4 ⟨rfl,h4⟩
             have KG:=Lh (below_on K1.out h4)
             clear h4
             go_wp2
             go_ret
             exact CheckE.of HR.out rfl (Hfin.out) KG.out
            ·go_wp2_with fail
             refine (HSl.out _).mono ?_
             rintro e w3 ⟨rfl,rfl⟩
             go_wp2_with fail
             refine (HG.out _).mono ?_
             rintro e w4 ⟨rfl,h4⟩
             have KG:=Lh (below_on K1.out h4)
             clear h4
             go_wp2
             go_ret
             exact CheckE.of HR.out rfl (Hfin.out) KG.out
           ·have tg:((txt (g:Int)).toList == [49])=false:=txt_not1 (by omega) (by omega)
            have H3:=Lh (errP_3 (f:=true) (by rw [Hb.out]; exact Hb1.out) Hb2.out Hb3.out (.inr (.inr ⟨rfl,.inr (by rw [hz,hdd,hg]; exact hg1)⟩)))
            obtain ⟨G,hG⟩:∃ G,txt (g:Int)=G:=⟨_,rfl⟩
            rw [hG] at tg HG
            clear hone en ed hz hdd hdp hg hd1 hg1 hG
            rcases tl with ⟨tl1,tl2⟩ | tl1
            ·go_wp2_with fail
             refine (HSl.out _).mono ?_
             rintro e w3 ⟨rfl,rfl⟩
             go_wp2_with fail
             refine (HG.out _).mono ?_
             rintro e w4 ⟨rfl,h4⟩
             have KG:=Lh (below_on K1.out h4)
             clear h4
             go_wp2
             go_ret
             exact CheckE.of HR.out rfl (H3.out) KG.out
            ·go_wp2_with fail
             refine (HSl.out _).mono ?_
             rintro e w3 ⟨rfl,rfl⟩
             go_wp2_with fail
             refine (HG.out _).mono ?_
             rintro e w4 ⟨rfl,h4⟩
             have KG:=Lh (below_on K1.out h4)
             clear h4
             go_wp2
             go_ret
             exact CheckE.of HR.out rfl (H3.out) KG.out
end Go.Proofs.YtekhdklbfincpaaGreatDoor
namespace Go.Proofs.YtekhdklbfincpaaGreatDoor
open Go.RowKit
theorem refLong_any (s:ByteArray) (most:Nat) (w:World) (hs:most<s.size) (_hs2:s.size≤9223372036854775807) :
  Calls Tryz.prog 62 #[.string s,.int .i64 (most:Nat)] w fun e w'=>e= .returned (.int .i64 5)∧Below w.heap.size w w':=by
 have hmI:(most:Int)<(s.size:Int):=by omega
 go_enter Tryz.func62,Tryz.ntmps62
 go_wp2
 go_ret
 exact ⟨rfl,Below.refl _ _⟩
theorem refCheckM_any (s:ByteArray) (most:Nat) (w:World) (hs:s.size≤500) (hm2:most≤1000000000) :
  Calls Tryz.prog 62 #[.string s,.int .i64 (most:Nat)] w fun e w'=>e= .returned (.int .i64 (errM most s))∧Below w.heap.size w w':=by
 unfold errM
 by_cases h:most<s.size
 ·rw [if_pos h]
  exact refLong_any s most w h (by omega)
 ·rw [if_neg h]
  exact refCheckE_any s most w hs (by omega) hm2
theorem refCheckV_any (s0 s1 s2:ByteArray) (most:Nat) (w:World) (h0:s0.size≤500) (h1:s1.size≤500) (h2:s2.size≤500) (hm2:most≤1000000000) :
  Calls Tryz.prog 15 #[.agg #[.string s0,.string s1,.string s2],.int .i64 (most:Nat)] w fun e w'=>e= .returned (.int .i64 (errV most s0 s1 s2))∧Below w.heap.size w w':=by
 have HC0:=Lh (fun w=>refCheckM_any s0 most w h0 hm2)
 have HC1:=Lh (fun w=>refCheckM_any s1 most w h1 hm2)
 have HC2:=Lh (fun w=>refCheckM_any s2 most w h2 hm2)
 unfold errV
 generalize errM most s0=E0 at HC0 ⊢
 generalize errM most s1=E1 at HC1 ⊢
 generalize errM most s2=E2 at HC2 ⊢
 have kb:=(Below.refl w.heap.size w).alloc (Nat.le_refl _) (.cells #[.string s0,.string s1,.string s2] 24)
 have hlt:w.heap.size<(w.alloc (.cells #[.string s0,.string s1,.string s2] 24)).heap.size:=by simp
 have HX:=Lh (fun wr (hb:Below (w.alloc (.cells #[.string s0,.string s1,.string s2] 24)).heap.size (w.alloc (.cells #[.string s0,.string s1,.string s2] 24)) wr) (i:Nat)=>(hb.cell (p:=⟨w.heap.size,i,none⟩) hlt).trans ((Cells.new w #[.string s0,.string s1,.string s2] 24).at_ i))
 have KB:=Lh kb
 clear h0 h1 h2 hm2 kb hlt
 go_enter Tryz.func15,Tryz.ntmps15
 go_wp2_with fail
 go_loopw [5] (fun v wr=>∃ (k:Nat) (z:Int),k≤3∧z=(k:Int)∧v= .int .i64 z∧(0<k→E0=0)∧(1<k→E1=0)∧(2<k→E2=0)∧Below (w.alloc (.cells #[.string s0,.string s1,.string s2] 24)).heap.size (w.alloc (.cells #[.string s0,.string s1,.string s2] 24)) wr) (fun v _=>3 - (intOf v).toNat)
 case atStart=>exact ⟨0,0,by decide,rfl,rfl,fun h=>absurd h (by decide),fun h=>absurd h (by decide),fun h=>absurd h (by decide),Below.refl _ _⟩
 case round=>
  obtain ⟨k,z,hk,hzk,rfl,e0,e1,e2,hb⟩:=hrel
  have Hb:=Lh hb
  clear hb
  obtain rfl | rfl | rfl | rfl:k=0∨k=1∨k=2∨k=3:=by omega
  ·obtain rfl:z=0:=hzk
   have c0:wr.cell? ⟨w.heap.size,0,none⟩=some (.string s0):=HX.out wr Hb.out 0
   clear e0 e1 e2
   go_wp2_with fail
   refine (HC0.out _).mono ?_
   rintro e w1 ⟨rfl,h1⟩
   have Hb:=Lh (below_on Hb.out h1)
   have Kf:=Lh (below_on KB.out Hb.out)
   clear h1 c0
   by_cases h0:E0=0
   ·subst h0
    go_wp2
    go_roundw
    case rel=>exact ⟨1,1,by decide,rfl,by go_num,by first | (intro _; rfl) | trivial | simp,by first | (intro h; exact absurd h (by decide)) | trivial | simp,by first | (intro h; exact absurd h (by decide)) | trivial | simp,Hb.out⟩
    case measure=>simp [intOf]
   ·have t0:(E0 == 0)=false:=by rw [beq_eq_false_iff_ne]; exact h0
    go_wp2
    go_ret
    exact ⟨by simp,Kf.out⟩
  ·obtain rfl:z=1:=hzk
   obtain rfl:=e0 (by decide)
   have c0:wr.cell? ⟨w.heap.size,1,none⟩=some (.string s1):=HX.out wr Hb.out 1
   clear e0 e1 e2
   go_wp2_with fail
   refine (HC1.out _).mono ?_
   rintro e w1 ⟨rfl,h1⟩
   have Hb:=Lh (below_on Hb.out h1)
   have Kf:=Lh (below_on KB.out Hb.out)
   clear h1 c0
   by_cases h0:E1=0
   ·subst h0
    go_wp2
    go_roundw
    case rel=>exact ⟨2,2,by decide,rfl,by go_num,by first | (intro _; rfl) | trivial | simp,by first | (intro _; rfl) | trivial | simp,by first | (intro h; exact absurd h (by decide)) | trivial | simp,Hb.out⟩
    case measure=>simp [intOf]
   ·have t0:(E1 == 0)=false:=by rw [beq_eq_false_iff_ne]; exact h0
    go_wp2
    go_ret
    exact ⟨by simp,Kf.out⟩
  ·obtain rfl:z=2:=hzk
   obtain rfl:=e0 (by decide)
   obtain rfl:=e1 (by decide)
   have c0:wr.cell? ⟨w.heap.size,2,none⟩=some (.string s2):=HX.out wr Hb.out 2
   clear e0 e1 e2
   go_wp2_with fail
   refine (HC2.out _).mono ?_
   rintro e w1 ⟨rfl,h1⟩
   have Hb:=Lh (below_on Hb.out h1)
   have Kf:=Lh (below_on KB.out Hb.out)
   clear h1 c0
   by_cases h0:E2=0
   ·subst h0
    go_wp2
    go_roundw
    case rel=>exact ⟨3,3,by decide,rfl,by go_num,by first | (intro _; rfl) | trivial | simp,by first | (intro _; rfl) | trivial | simp,by first | (intro _; rfl) | trivial | simp,Hb.out⟩
    case measure=>simp [intOf]
   ·have t0:(E2 == 0)=false:=by rw [beq_eq_false_iff_ne]; exact h0
    go_wp2
    go_ret
    exact ⟨by simp,Kf.out⟩
  ·obtain rfl:z=3:=hzk
   obtain rfl:=e0 (by decide)
   obtain rfl:=e1 (by decide)
   obtain rfl:=e2 (by decide)
   have Kf:=Lh (below_on KB.out Hb.out)
   go_wp2
   go_ret
   exact ⟨by simp,Kf.out⟩
end Go.Proofs.YtekhdklbfincpaaGreatDoor
