/- GA09: Ref2 Add -/
import Derived.Test.YtekhdklbfincpaaGreatDoorGA07
import Derived.Test.YtekhdklbfincpaaGreatDoorGA08
set_option maxRecDepth 100000
set_option maxHeartbeats 16000000
namespace Go.Proofs.YtekhdklbfincpaaGreatDoor
open Go.RowKit
def dval:List Int→Nat
 | []=>0
 | d :: r=>d.toNat+10*dval r
def Dig (l:List Int):Prop:=∀ x ∈ l,0≤x∧x≤9
def ten (n:Nat):Nat:=10 ^ n
theorem ten_zero:ten 0=1:=rfl
theorem ten_succ (n:Nat):ten (n+1)=10*ten n:=by unfold ten; rw [Nat.pow_succ,Nat.mul_comm]
theorem ten_pos (n:Nat):0<ten n:=Nat.pow_pos (by decide)
theorem ten_le {a b:Nat} (h:a≤b):ten a≤ten b:=Nat.pow_le_pow_right (by decide) h
theorem dval_append (a b:List Int):dval (a ++ b)=dval a+ten a.length*dval b:=by
 induction a with
 | nil=>simp [dval,ten_zero]
 | cons d r ih=>rw [List.cons_append,dval,dval,ih,List.length_cons,ten_succ,Nat.mul_add,Nat.mul_assoc]; omega
theorem dval_snoc (a:List Int) (d:Int):dval (a ++ [d])=dval a+ten a.length*d.toNat:=by rw [dval_append]; simp [dval]
theorem dval_lt {l:List Int} (h:Dig l):dval l<ten l.length:=by
 induction l with
 | nil=>exact Nat.one_pos
 | cons d r ih=>
  rw [dval,List.length_cons,ten_succ]
  have h1:=h d (List.mem_cons_self ..)
  have h2:=ih (fun x hx=>h x (List.mem_cons_of_mem _ hx))
  omega
theorem dval_digN (u:Nat):dval (digN u)=u:=by
 induction u using Nat.strongRecOn with
 | _ u ih=>
  by_cases h0:u=0
  ·subst h0; rw [digN_zero]; rfl
  ·rw [digN_pos h0,dval,ih (u / 10) (by omega)]
   omega
theorem dig_digN (u:Nat):Dig (digN u):=digN_mem u
theorem dig_take {l:List Int} (h:Dig l) (k:Nat):Dig (l.take k):=fun d hd=>h d (List.mem_of_mem_take hd)
theorem dval_split (xs:List Int) (k:Nat):dval xs=dval (xs.take k)+ten (xs.take k).length*dval (xs.drop k):=by
 rw [← dval_append,List.take_append_drop]
theorem digN_dval:∀ l:List Int,Dig l→l.getLast?≠some 0→digN (dval l)=l:=by
 intro l
 induction l with
 | nil=>intro _ _; rw [dval,digN_zero]
 | cons d r ih=>
  intro h hl
  have hd:=h d (List.mem_cons_self ..)
  have hr:Dig r:=fun x hx=>h x (List.mem_cons_of_mem _ hx)
  cases r with
  | nil=>
   have:d≠0:=by intro e; apply hl; simp [e]
   rw [dval,dval,digN_pos (by omega),show (d.toNat+10*0) / 10=0 by omega,digN_zero]
   congr 1
   omega
  | cons e s=>
   have hl':(e :: s).getLast?≠some 0:=by rw [List.getLast?_cons_of_ne_nil (by simp)] at hl; exact hl
   have ih':=ih hr hl'
   have hpos:dval (e :: s)≠0:=by
    intro h0
    rw [h0,digN_zero] at ih'
    cases ih'
   rw [dval,digN_pos (by omega),show (d.toNat+10*dval (e :: s)) / 10=dval (e :: s) by omega,ih']
   congr 1
   omega
theorem dval_trim (l:List Int):∀ k,k≤l.length→dval (l.take (trimTo l k))=dval (l.take k):=by
 intro k
 induction k with
 | zero=>intro _; rfl
 | succ k ih=>
  intro hk
  unfold trimTo
  by_cases h0:l.getD k 0=0
  ·rw [if_pos h0,ih (by omega),List.take_succ_eq_append_getElem (by omega),dval_snoc]
   have e:l[k]=0:=by rw [← h0]; simp [List.getD,show k<l.length by omega]
   rw [e]
   simp
  ·rw [if_neg h0]
theorem trim_last (l:List Int):∀ k,k≤l.length→(l.take (trimTo l k)).getLast?≠some 0:=by
 intro k
 induction k with
 | zero=>intro _; simp [trimTo]
 | succ k ih=>
  intro hk
  unfold trimTo
  by_cases h0:l.getD k 0=0
  ·rw [if_pos h0]; exact ih (by omega)
  ·rw [if_neg h0,List.take_succ_eq_append_getElem (by omega)]
   have e:l[k]=l.getD k 0:=by simp [List.getD,show k<l.length by omega]
   rw [List.getLast?_append,List.getLast?_singleton,e]
   simp only [Option.some_or,ne_eq,Option.some.injEq]
   exact h0
theorem trim_digN {l:List Int} (h:Dig l):l.take (trimTo l l.length)=digN (dval l):=by
 have e:=digN_dval _ (dig_take h _) (trim_last l l.length (Nat.le_refl _))
 rw [dval_trim l l.length (Nat.le_refl _),List.take_length] at e
 exact e.symm
theorem trim_len {l:List Int} (h:Dig l):trimTo l l.length=(digN (dval l)).length:=by
 rw [← trim_digN h,List.length_take]
 have:=trimTo_le l l.length
 omega
theorem textOf_dval (neg:Bool) {l:List Int} (h:Dig l):textOf neg l=textOf neg (digN (dval l)):=by
 unfold textOf
 rw [trimTo_full _ (digN_last _),List.take_length,trim_digN h,trim_len h]
theorem digN_ge {u:Nat} (h:0<u):ten ((digN u).length - 1)≤u:=by
 induction u using Nat.strongRecOn with
 | _ u ih=>
  rw [digN_pos (by omega),List.length_cons]
  by_cases h1:u / 10=0
  ·rw [h1,digN_zero]; exact h
  ·have h2:=ih (u / 10) (by omega) (by omega)
   have h3:0<(digN (u / 10)).length:=by rw [digN_pos h1]; simp
   rw [show (digN (u / 10)).length+1 - 1=((digN (u / 10)).length - 1)+1 by omega,ten_succ]
   omega
theorem digN_lt (u:Nat):u<ten (digN u).length:=by
 have:=dval_lt (dig_digN u)
 rwa [dval_digN] at this
def txt (z:Int):ByteArray:=textOf (decide (z<0)) (digN z.natAbs)
def zOf (s:ByteArray):Int:=signZ (isNeg s) (decV (bodyOf s).data.toList)
theorem txt_zOf {s:ByteArray} (h:errOf s=0):txt (zOf s)=s:=text_whole h
theorem textOf_txt {neg:Bool} {l:List Int} {z:Int} (h:Dig l) (hv:dval l=z.natAbs) (hs:z≠0→neg=decide (z<0)):textOf neg l=txt z:=by
 rw [textOf_dval neg h,hv]
 unfold txt
 by_cases h0:z=0
 ·subst h0
  unfold textOf
  rw [show (0:Int).natAbs=0 from rfl,digN_zero]
  rfl
 ·rw [hs h0]
theorem txt_zero:txt 0=⟨#[48]⟩:=by
 unfold txt textOf
 rw [show (0:Int).natAbs=0 from rfl,digN_zero]
 rfl
theorem txt_ne {z:Int} (h:z≠0):txt z=strOfNums ((if z<0 then [45] else []) ++ (digN z.natAbs).reverse.map (48+·)):=by
 have e:txt z=textOf (decide (z<0)) (digN z.natAbs):=rfl
 rw [e,textOf_pos _ (by omega)]
 unfold sig
 rw [List.map_reverse]
 by_cases hz:z<0 <;> simp [hz]
theorem nums_data (l:List Int):(strOfNums l).data.toList=l.map fun n=>UInt8.ofNat n.toNat:=by
 simp [strOfNums]
def dl (l:List UInt8):List Int:=(l.filter (· != 45)).reverse.map fun c=>(c.toNat:Int) - 48
theorem dl_minus (l:List UInt8):dl (45 :: l)=dl l:=by unfold dl; rw [List.filter_cons_of_neg (by decide)]
theorem dl_digit {c:UInt8} (h:c≠45) (l:List UInt8):dl (c :: l)=dl l ++ [(c.toNat:Int) - 48]:=by
 unfold dl
 rw [List.filter_cons_of_pos (by simpa using h),List.reverse_cons,List.map_append]
 rfl
theorem dl_sig:∀ l:List Int,Dig l→dl (l.reverse.map fun d=>UInt8.ofNat (48+d).toNat)=l:=by
 intro l h
 unfold dl
 have hf:(l.reverse.map fun d=>UInt8.ofNat (48+d).toNat).filter (· != 45)=l.reverse.map fun d=>UInt8.ofNat (48+d).toNat:=by
  rw [List.filter_eq_self]
  intro c hc
  obtain ⟨d,hd,rfl⟩:=List.mem_map.1 hc
  have:=h d (by simpa using hd)
  simp only [bne_iff_ne,ne_eq]
  intro e
  have e2:=congrArg UInt8.toNat e
  rw [UInt8.toNat_ofNat'] at e2
  simp at e2
  omega
 rw [hf,← List.map_reverse,List.reverse_reverse,List.map_map]
 conv=>rhs; rw [← List.map_id l]
 apply List.map_congr_left
 intro d hd
 have:=h d hd
 simp only [Function.comp,id]
 rw [UInt8.toNat_ofNat']
 omega
theorem dl_txt (z:Int):Dig (dl (txt z).data.toList)∧dval (dl (txt z).data.toList)=z.natAbs:=by
 by_cases h0:z=0
 ·subst h0
  rw [txt_zero]
  have e:dl (⟨#[48]⟩:ByteArray).data.toList=[0]:=by decide
  rw [e]
  exact ⟨fun x hx=>by rw [List.mem_singleton.1 hx]; decide,rfl⟩
 ·have e:dl (txt z).data.toList=digN z.natAbs:=by
   rw [txt_ne h0,nums_data]
   have hd:=dl_sig _ (dig_digN z.natAbs)
   by_cases hz:z<0
   ·rw [if_pos hz,List.map_append,List.map_map,← hd]
    exact (dl_minus _).trans (by rw [hd]; exact hd)
   ·rw [if_neg hz,List.nil_append,List.map_map]
    exact hd
  rw [e]
  exact ⟨dig_digN _,dval_digN _⟩
theorem txt_first {z:Int} (h:z≠0):∃ (n:Nat) (hs:0<(txt z).size),((txt z)[0]).toNat=n∧(z<0→n=45)∧(0<z→49≤n∧n≤57):=by
 have e:=txt_ne h
 have hl:(txt z).data.toList=((if z<0 then [45] else []) ++ (digN z.natAbs).reverse.map (48+·)).map fun n:Int=>UInt8.ofNat n.toNat:=by rw [e,nums_data]
 have hne:digN z.natAbs≠[]:=by rw [digN_pos (by omega)]; simp
 obtain ⟨d,hd⟩:∃ d,(digN z.natAbs).getLast?=some d:=⟨_,List.getLast?_eq_some_getLast hne⟩
 have hd0:d≠0:=fun e=>digN_last z.natAbs (by rw [hd,e])
 have hdm:=dig_digN z.natAbs d (List.mem_of_getLast? hd)
 have hs:0<(txt z).size:=by
  rw [← str_len,hl]
  simp only [List.length_map,List.length_append,List.length_reverse]
  have:=List.length_pos_iff.mpr hne
  omega
 have hh:=head_at hs
 rw [hl] at hh
 refine ⟨_,hs,rfl,fun hz=>?_,fun hz=>?_⟩
 ·rw [if_pos hz] at hh
  simp at hh
  rw [← hh]
  decide
 ·rw [if_neg (by omega),List.nil_append,List.map_map,List.head?_map,List.head?_reverse,hd] at hh
  simp at hh
  rw [← hh,UInt8.toNat_ofNat']
  omega
theorem txt_size (z:Int) {k:Nat} (h:z.natAbs<ten k) (hk:0<k):(txt z).size≤k+1:=by
 by_cases h0:z=0
 ·subst h0; rw [txt_zero]; show 1≤k+1; omega
 ·rw [txt_ne h0,strOfNums_size]
  have:=digN_len k z.natAbs h
  split <;> simp <;> omega
theorem bytes_ne {s:ByteArray} {n:Nat} (hs:0<s.size) (h:(s[0]).toNat=n) (h48:n≠48):(s.toList == [48])=false:=by
 rw [ByteArray.toList_eq,beq_eq_false_iff_ne]
 intro e
 have hh:=head_at hs
 rw [e] at hh
 simp at hh
 apply h48
 rw [← h,← hh]
 rfl
theorem refSign_neg (s:ByteArray) (w:World) (hs:0<s.size) (hn:(s[0]).toNat=45) (hne:(s.toList == [48])=false) (_hsz:s.size≤5000) :
  Calls Tryz.prog 108 #[.string s] w fun e w'=>e= .returned (.int .i64 (-1))∧w=w':=by
 go_enter Tryz.func108,Tryz.ntmps108
 go_wp2
 go_ret
 exact ⟨rfl,rfl⟩
theorem refSign_pos (s:ByteArray) (w:World) (n:Nat) (hs:0<s.size) (hn:(s[0]).toNat=n) (hne:(s.toList == [48])=false) (h45:((n:Int) == 45)=false) (_hsz:s.size≤5000) :
  Calls Tryz.prog 108 #[.string s] w fun e w'=>e= .returned (.int .i64 1)∧w=w':=by
 go_enter Tryz.func108,Tryz.ntmps108
 go_wp2
 go_ret
 exact ⟨rfl,rfl⟩
theorem refSign_any (z:Int) (w:World) (hsz:(txt z).size≤5000) :
  Calls Tryz.prog 108 #[.string (txt z)] w fun e w'=>e= .returned (.int .i64 (sgn z))∧w=w':=by
 rcases Int.lt_trichotomy z 0 with h | h | h
 ·obtain ⟨n,hs,hn,h1,_⟩:=txt_first (z:=z) (by omega)
  have h45:=h1 h
  rw [show sgn z=-1 by unfold sgn; rw [if_pos h]]
  exact refSign_neg _ w hs (hn.trans h45) (bytes_ne hs hn (by omega)) hsz
 ·subst h
  rw [txt_zero]
  go_enter Tryz.func108,Tryz.ntmps108
  go_wp2
  go_ret
  exact ⟨rfl,rfl⟩
 ·obtain ⟨n,hs,hn,_,h2⟩:=txt_first (z:=z) (by omega)
  have h49:=h2 h
  rw [show sgn z=1 by unfold sgn; rw [if_neg (by omega),if_pos h]]
  exact refSign_pos _ w n hs hn (bytes_ne hs hn (by omega)) (by rw [beq_eq_false_iff_ne]; omega) hsz
def DigitsInv (w0:World) (s:ByteArray) (v i:Value) (wr:World):Prop:=
 ∃ j:Nat,j≤s.size∧i= .int .i64 ((j:Int) - 1)∧wr.ownsRow w0.heap.size 3 1 v (dl (s.data.toList.drop j)).length (ints (dl (s.data.toList.drop j)))∧Below w0.heap.size w0 wr
theorem drop_byte {s:ByteArray} {j:Nat} (hj:j<s.size):s.data.toList.drop j=s[j] :: s.data.toList.drop (j+1):=by
 rw [List.drop_eq_getElem_cons (by rw [str_len]; exact hj)]
 congr 1
theorem digits_skip {w0 wr:World} {s:ByteArray} {j y:Nat} {v:Value} (hj:j<s.size) (hy:(s[j]).toNat=y) (h45:y=45) (hown:wr.ownsRow w0.heap.size 3 1 v (dl (s.data.toList.drop (j+1))).length (ints (dl (s.data.toList.drop (j+1))))) (hbel:Below w0.heap.size w0 wr) :
  DigitsInv w0 s v (.int .i64 ((j:Int) - 1)) wr:=by
 have e:dl (s.data.toList.drop j)=dl (s.data.toList.drop (j+1)):=by
  rw [drop_byte hj,byte_eq (n:=45) (by decide) (hy.trans h45)]
  exact dl_minus _
 exact ⟨j,by omega,rfl,by rw [e]; exact hown,hbel⟩
theorem digits_step {w0 wr w1:World} {s:ByteArray} {j y:Nat} {u v':Value} {x:Int} (hj:j<s.size) (hy:(s[j]).toNat=y) (h45:y≠45) (hx:x=(y:Int) - 48) (hown:wr.ownsRow w0.heap.size 3 1 u (dl (s.data.toList.drop (j+1))).length (ints (dl (s.data.toList.drop (j+1)))))
  (hown':w1.ownsRow w0.heap.size 3 1 v' ((dl (s.data.toList.drop (j+1))).length+1) (ints (dl (s.data.toList.drop (j+1))) ++ [.int .i64 x]))
  (hgrow:(wr.alloc (.cells #[.int .i64 x] 3)).grownBy w1 u.ownBlock) (hbel:Below w0.heap.size w0 wr):DigitsInv w0 s v' (.int .i64 ((j:Int) - 1)) w1:=by
 have e:dl (s.data.toList.drop j)=dl (s.data.toList.drop (j+1)) ++ [x]:=by
  rw [drop_byte hj,dl_digit (by intro e; apply h45; rw [← hy,e]; rfl),hy,hx]
 refine ⟨j,by omega,rfl,?_,(hbel.alloc hbel.size _).grown hgrow (by simp; have:=hbel.size; omega) (fun k hk=>own_ge hown hk)⟩
 rw [e]
 simpa [ints] using hown'
theorem dl_len (l:List UInt8):(dl l).length≤l.length:=by
 unfold dl
 rw [List.length_map,List.length_reverse]
 exact List.length_filter_le _ _
theorem digits_loop (s:ByteArray) (w:World) (hs:s.size≤5000) (hd:Dig (dl s.data.toList)) :
  Calls Tryz.prog 110 #[.string s] w fun e w'=>∃ A c,e= .returned (.slice A (digN (dval (dl s.data.toList))).length c)∧IsL w' A (digN (dval (dl s.data.toList))).length c (ints (digN (dval (dl s.data.toList))))∧c≤9223372036854775807∧Below w.heap.size w w':=by
 obtain ⟨i0,hi,hz0,hz1,hz2⟩:=info_parts info_int
 have Hd:=Lh hd
 clear hd
 go_enter Tryz.func110,Tryz.ntmps110
 go_wp2_with fail
 go_loopw [3,4] (fun v i wr=>DigitsInv w s v i wr) (fun _ i _=>(intOf i+1).toNat)
 case atStart=>
  refine ⟨s.size,Nat.le_refl _,rfl,?_,Below.refl _ _⟩
  rw [List.drop_eq_nil_of_le (by rw [str_len]; exact Nat.le_refl _)]
  exact World.ownsRow_nil _ _ _ _
 case round=>
  obtain ⟨j,hj,rfl,hown,hbel⟩:=hrel
  have hsz:=hbel.size
  have hlen:(dl (s.data.toList.drop j)).length≤5000:=by
   have:=dl_len (s.data.toList.drop j)
   rw [List.length_drop,str_len] at this
   omega
  have Hown:=Lh hown
  have Hbel:=Lh hbel
  clear hown hbel
  cases j with
  | zero=>
   rw [List.drop_zero] at Hown hlen
   obtain ⟨A,c,rfl,hisl,hc⟩:=own_isL Hown.out
   have Hi:=Lh hisl
   have Ht:=Lh (trim_any A _ c _ wr hisl (by omega) hc)
   clear hisl
   go_wp2_with fail
   refine Ht.out.mono ?_
   rintro e w2 ⟨rfl,rfl⟩
   have hcut:=Hi.out.cut (trimTo_le (dl s.data.toList) _)
   have e1:(ints (dl s.data.toList)).take (trimTo (dl s.data.toList) (dl s.data.toList).length)=ints (digN (dval (dl s.data.toList))):=by
    unfold ints
    rw [← List.map_take,trim_digN Hd.out]
   rw [e1,trim_len Hd.out] at hcut
   have Hcut:=Lh hcut
   have Hlen:=Lh (trim_len Hd.out)
   clear hcut e1
   go_wp2
   go_ret
   exact ⟨A,c,ret_slice Hlen.out,Hcut.out,hc,Hbel.out⟩
  | succ j=>
   have hjs:j<s.size:=by omega
   obtain ⟨y,hy⟩:∃ y,(s[j]).toNat=y:=⟨_,rfl⟩
   have hy1:y<256:=by rw [← hy]; exact UInt8.toNat_lt _
   have Hy:=Lh hy
   by_cases h45:y=45
   ·have Hfin:=Lh (digits_skip hjs hy h45 Hown.out Hbel.out)
    subst h45
    go_wp2
    go_roundw
    case rel=>exact Hfin.out
    case measure=>simp [intOf] <;> omega
   ·have t0:((y:Int) == 45)=false:=by rw [beq_eq_false_iff_ne]; omega
    go_wp2_with (at_builtin; refine wpList_append_own _ rfl _ _ 126 rfl w.heap.size 3 i0 (.int .i64 0) 1 8 Tryz.underlying126 hi hz0 hz1 hz2 rfl (by decide) _ _ _ rfl (Hown.out.alloc _) ⟨wr.heap.size,0,none⟩ 1 1 [.int .i64 ((y:Int) - 48)] rfl rfl (fun k u hu=>by match k,hu with | 0,hu=>simp at hu; subst hu; simp [Addr.add]) (fun u hu=>by simp at hu; subst hu; rfl) (by unfold maxLen; omega) (by omega) (by simp; omega) ?_)
    intro v' w1 hown' hgrow _
    have hfin:=digits_step hjs Hy.out h45 rfl Hown.out hown' hgrow Hbel.out
    have Hfin:=Lh hfin
    clear hfin hown' hgrow
    go_wp2
    go_roundw
    case rel=>exact Hfin.out
    case measure=>simp [intOf] <;> omega
theorem refDigits_any (z:Int) (w:World) (hs:(txt z).size≤5000) :
  Calls Tryz.prog 110 #[.string (txt z)] w fun e w'=>∃ A c,e= .returned (.slice A (digN z.natAbs).length c)∧IsL w' A (digN z.natAbs).length c (ints (digN z.natAbs))∧c≤9223372036854775807∧Below w.heap.size w w':=by
 have h:=digits_loop (txt z) w hs (dl_txt z).1
 rw [(dl_txt z).2] at h
 exact h
structure IsDig (w:World) (A:Option Addr) (n c:Nat) (xs:List Int) (m:Nat):Prop where
 isl:IsL w A n c (ints xs)
 cap:c≤9223372036854775807
 len:n<4294967296
 dig:Dig xs
 tight:xs=digN m
theorem ints_length (xs:List Int):(ints xs).length=xs.length:=by simp [ints]
theorem IsDig.size {w:World} {A:Option Addr} {n c m:Nat} {xs:List Int} (h:IsDig w A n c xs m):xs.length=n:=by
 have:=h.isl.1; rwa [ints_length] at this
theorem IsDig.val {w:World} {A:Option Addr} {n c m:Nat} {xs:List Int} (h:IsDig w A n c xs m):dval xs=m:=by
 rw [h.tight,dval_digN]
theorem IsDig.at {w:World} {A:Option Addr} {n c m:Nat} {xs:List Int} (h:IsDig w A n c xs m) (h0:0<n):∃ b o,A=some ⟨b,o,none⟩∧b<w.heap.size∧∀ k:Nat,k<n→w.cell? ⟨b,o+k,none⟩=some (.int .i64 (xs.getD k 0)):=by
 obtain ⟨b,o,e,hb,hc⟩:=h.isl.2.2 h0
 exact ⟨b,o,e,hb,fun k hk=>hc k _ (by have:=h.size; simp [ints,show k<xs.length by omega])⟩
theorem IsDig.keep {w w':World} {A:Option Addr} {n c m:Nat} {xs:List Int} (h:IsDig w A n c xs m) (hb:Below w.heap.size w w'):IsDig w' A n c xs m:=
 ⟨h.isl.keep hb,h.cap,h.len,h.dig,h.tight⟩
theorem getD_dig {l:List Int} (h:Dig l) (k:Nat):0≤l.getD k 0∧l.getD k 0≤9:=by
 by_cases hk:k<l.length
 ·have e:l.getD k 0=l[k]:=by simp [List.getD,hk]
  rw [e]; exact h _ (List.getElem_mem hk)
 ·have e:l.getD k 0=0:=by simp [List.getD,List.getElem?_eq_none (by omega:l.length≤k)]
  rw [e]; decide
theorem cmpD_len {xs ys:List Int} {m:Nat} (hx:Dig xs) (hy:ys=digN m) (h:xs.length<ys.length):dval xs<dval ys:=by
 subst hy
 have hm:0<m:=by
  rcases Nat.eq_zero_or_pos m with h0 | h0
  ·subst h0; rw [digN_zero] at h; simp at h
  ·exact h0
 rw [dval_digN]
 exact Nat.lt_of_lt_of_le (dval_lt hx) (Nat.le_trans (ten_le (by omega)) (digN_ge hm))
theorem cmpD_step {xs ys:List Int} {k:Nat} {x y:Int} (hx:Dig xs) (hk:k<xs.length) (hk2:k<ys.length) (hd:xs.drop (k+1)=ys.drop (k+1)) (ex:xs.getD k 0=x) (ey:ys.getD k 0=y) (h:x<y):dval xs<dval ys:=by
 have e1:xs[k]=x:=by rw [← ex]; simp [List.getD,hk]
 have e2:ys[k]=y:=by rw [← ey]; simp [List.getD,hk2]
 have hx0:=(getD_dig hx k).1
 rw [ex] at hx0
 rw [dval_split xs k,dval_split ys k,List.drop_eq_getElem_cons hk,List.drop_eq_getElem_cons hk2,hd,e1,e2]
 have h1:=dval_lt (dig_take hx k)
 have l1:(xs.take k).length=k:=by simp; omega
 have l2:(ys.take k).length=k:=by simp; omega
 rw [l1] at h1 ⊢
 rw [l2,dval,dval]
 have h2:ten k*(x.toNat+10*dval (ys.drop (k+1))+1)≤ten k*(y.toNat+10*dval (ys.drop (k+1))):=Nat.mul_le_mul_left _ (by omega)
 rw [Nat.mul_add _ _ 1] at h2
 omega
theorem dropD_same {xs ys:List Int} {k:Nat} {x:Int} (hk:k<xs.length) (hk2:k<ys.length) (hd:xs.drop (k+1)=ys.drop (k+1)) (ex:xs.getD k 0=x) (ey:ys.getD k 0=x):xs.drop k=ys.drop k:=by
 have e1:xs[k]=x:=by rw [← ex]; simp [List.getD,hk]
 have e2:ys[k]=x:=by rw [← ey]; simp [List.getD,hk2]
 rw [List.drop_eq_getElem_cons hk,List.drop_eq_getElem_cons hk2,hd,e1,e2]
theorem order_any {A A':Option Addr} {n c n' c' m m':Nat} {xs ys:List Int} (w:World) (hx:IsDig w A n c xs m) (hy:IsDig w A' n' c' ys m') :
  Calls Tryz.prog 133 #[.slice A n c,.slice A' n' c'] w fun e w'=>e= .returned (.int .i64 (cmpN m m'))∧Below w.heap.size w w':=by
 have hn:=hx.len
 have hn':=hy.len
 have hs:=hx.size
 have hs':=hy.size
 have hv:=hx.val
 have hv':=hy.val
 have hle:=hx.isl.2.1
 have hle':=hy.isl.2.1
 by_cases h1:n<n'
 ·have he:=cmpN_lt (cmpD_len hx.dig hy.tight (by omega))
  rw [hv,hv'] at he
  rw [he]
  have t0:((n:Int) == (n':Int))=false:=by rw [beq_eq_false_iff_ne]; omega
  clear hx hy hs hs' hv hv' he
  go_enter Tryz.func133,Tryz.ntmps133
  go_wp2
  go_ret
  exact ⟨rfl,Below.refl _ _⟩
 ·by_cases h2:n'<n
  ·have he:=cmpN_gt (cmpD_len hy.dig hx.tight (by omega))
   rw [hv,hv'] at he
   rw [he]
   have t0:((n:Int) == (n':Int))=false:=by rw [beq_eq_false_iff_ne]; omega
   clear hx hy hs hs' hv hv' he
   go_enter Tryz.func133,Tryz.ntmps133
   go_wp2
   go_ret
   exact ⟨rfl,Below.refl _ _⟩
  ·obtain rfl:n=n':=by omega
   clear h1 h2
   rcases Nat.eq_zero_or_pos n with h0 | h0
   ·subst h0
    have e1:xs=[]:=List.eq_nil_of_length_eq_zero hs
    have e2:ys=[]:=List.eq_nil_of_length_eq_zero hs'
    subst e1 e2
    have he:cmpN m m'=0:=cmpN_eq (by rw [← hv,← hv'])
    rw [he]
    clear hx hy hv hv' he hs hs'
    go_enter Tryz.func133,Tryz.ntmps133
    go_wp2_with fail
    refine wp_loop_rounds 1 ?_
    rw [rounds_succ]
    go_wp2
    go_ret
    exact ⟨rfl,Below.refl _ _⟩
   ·obtain ⟨b,o,rfl,hb,hcx⟩:=hx.at h0
    obtain ⟨b',o',rfl,hb',hcy⟩:=hy.at h0
    have Hcx:=Lh hcx
    have Hcy:=Lh hcy
    have Hwx:=Lh hx.dig
    have Hwy:=Lh hy.dig
    have Hs:=Lh hs
    have Hs':=Lh hs'
    have Hv:=Lh hv
    have Hv':=Lh hv'
    clear hx hy hcx hcy hs hs' hv hv'
    go_enter Tryz.func133,Tryz.ntmps133
    go_wp2_with fail
    go_loopw [5] (fun i wr=>∃ k:Nat,k≤n∧i= .int .i64 ((k:Int) - 1)∧xs.drop k=ys.drop k∧Below w.heap.size w wr) (fun i _=>(intOf i+1).toNat)
    case atStart=>exact ⟨n,Nat.le_refl _,rfl,by rw [List.drop_eq_nil_of_le (by rw [Hs.out]; exact Nat.le_refl _),List.drop_eq_nil_of_le (by rw [Hs'.out]; exact Nat.le_refl _)],Below.refl _ _⟩
    case round=>
     obtain ⟨k,hk,rfl,hd,hbel⟩:=hrel
     have Hbel:=Lh hbel
     have Hd:=Lh hd
     clear hd
     cases k with
     | zero=>
      have he:cmpN m m'=0:=cmpN_eq (by rw [← Hv.out,← Hv'.out]; have:=Hd.out; simp at this; rw [this])
      have He:=Lh he
      clear he
      clear hbel
      go_wp2
      go_ret
      exact ⟨by rw [He.out]; rfl,Hbel.out⟩
     | succ k=>
      have cx:=(hbel.cell (p:=⟨b,o+k,none⟩) hb).trans (Hcx.out k (by omega))
      have cy:=(hbel.cell (p:=⟨b',o'+k,none⟩) hb').trans (Hcy.out k (by omega))
      clear hbel
      obtain ⟨x,hx⟩:∃ x,xs.getD k 0=x:=⟨_,rfl⟩
      obtain ⟨y,hy⟩:∃ y,ys.getD k 0=y:=⟨_,rfl⟩
      rw [hx] at cx
      rw [hy] at cy
      have Hx:=Lh hx
      have Hy:=Lh hy
      clear hx hy
      have hx0:=(getD_dig Hwx.out k).1
      have hy0:=(getD_dig Hwy.out k).1
      have hx9:=(getD_dig Hwx.out k).2
      have hy9:=(getD_dig Hwy.out k).2
      rw [Hx.out] at hx0 hx9
      rw [Hy.out] at hy0 hy9
      by_cases h1:x<y
      ·have he:=cmpN_lt (cmpD_step Hwx.out (by have:=Hs.out; omega) (by have:=Hs'.out; omega) Hd.out Hx.out Hy.out h1)
       rw [Hv.out,Hv'.out] at he
       have He:=Lh he
       clear he
       go_wp2
       go_quiet (fail)
       go_wp2
       go_ret
       exact ⟨by rw [He.out]; rfl,by repeat (first | exact Hbel.out | refine below_drewN ?_ _)⟩
      ·by_cases h2:y<x
       ·have he:=cmpN_gt (cmpD_step Hwy.out (by have:=Hs'.out; omega) (by have:=Hs.out; omega) Hd.out.symm Hy.out Hx.out h2)
        rw [Hv.out,Hv'.out] at he
        have He:=Lh he
        clear he
        go_wp2
        go_quiet (fail)
        go_wp2
        go_quiet (fail)
        go_wp2
        go_ret
        exact ⟨by rw [He.out]; rfl,by repeat (first | exact Hbel.out | refine below_drewN ?_ _)⟩
       ·obtain rfl:x=y:=by omega
        have Hnew:=Lh (dropD_same (by have:=Hs.out; omega) (by have:=Hs'.out; omega) Hd.out Hx.out Hy.out)
        go_wp2
        go_quiet (fail)
        go_wp2
        go_quiet (fail)
        go_wp2
        exact ⟨⟨k,by omega,by go_num,Hnew.out,by repeat (first | exact Hbel.out | refine below_drewN ?_ _)⟩,by simp [intOf] <;> omega⟩
theorem refDigits_at (z:Int) (w:World) (hs:(txt z).size≤5000) :
  Calls Tryz.prog 110 #[.string (txt z)] w fun e w'=>∃ A n c,e= .returned (.slice A n c)∧IsDig w' A n c (digN z.natAbs) z.natAbs∧n≤5001∧Below w.heap.size w w':=by
 refine (refDigits_any z w hs).mono ?_
 rintro e w' ⟨A,c,rfl,hl,hc,hb⟩
 have hlen:(digN z.natAbs).length≤5000:=by
  by_cases h0:z=0
  ·subst h0; rw [show (0:Int).natAbs=0 from rfl,digN_zero]; simp
  ·have:=hs
   rw [txt_ne h0,strOfNums_size,List.length_append,List.length_map,List.length_reverse] at this
   omega
 exact ⟨A,_,c,rfl,⟨hl,hc,by omega,dig_digN _,rfl⟩,by omega,hb⟩
theorem sgn_cases (z:Int):(z<0∧sgn z=-1)∨(z=0∧sgn z=0)∨(0<z∧sgn z=1):=by
 unfold sgn
 rcases Int.lt_trichotomy z 0 with h | h | h
 ·exact .inl ⟨h,if_pos h⟩
 ·exact .inr (.inl ⟨h,by rw [if_neg (by omega),if_neg (by omega)]⟩)
 ·exact .inr (.inr ⟨h,by rw [if_neg (by omega),if_pos h]⟩)
end Go.Proofs.YtekhdklbfincpaaGreatDoor
namespace Go.Proofs.YtekhdklbfincpaaGreatDoor
open Go.RowKit
theorem words_snoc {ys:List Nat} {s:Nat} (hy:Words ys) (hs:s<18446744073709551616):Words (ys ++ [s]):=by
 intro x hx
 rcases List.mem_append.1 hx with hx | hx
 ·exact hy x hx
 ·rw [List.mem_singleton.1 hx]; exact hs
theorem words_append {a b:List Nat} (ha:Words a) (hb:Words b):Words (a ++ b):=by
 intro x hx
 rcases List.mem_append.1 hx with hx | hx
 ·exact ha x hx
 ·exact hb x hx
theorem words_drop {xs:List Nat} (h:Words xs) (k:Nat):Words (xs.drop k):=fun d hd=>h d (List.mem_of_mem_drop hd)
theorem word_at {xs:List Nat} (h:Words xs) (k:Nat):xs.getD k 0<18446744073709551616:=by
 by_cases hk:k<xs.length
 ·have e:xs.getD k 0=xs[k]:=by simp [List.getD,hk]
  rw [e]; exact h _ (List.getElem_mem hk)
 ·have e:xs.getD k 0=0:=by simp [List.getD,List.getElem?_eq_none (by omega:xs.length≤k)]
  rw [e]; decide
theorem take_up {xs:List Nat} {k d:Nat} (hk:k<xs.length) (hd:xs.getD k 0=d):xs.take (k+1)=xs.take k ++ [d]:=by
 rw [List.take_succ_eq_append_getElem hk,← hd]
 simp [List.getD,hk]
theorem take_up0 {xs:List Nat} {k d:Nat} (hd:xs.getD k 0=d):natVal (xs.take (k+1))=natVal (xs.take k)+base k*d:=by
 by_cases hk:k<xs.length
 ·rw [take_up hk hd,natVal_snoc,List.length_take,Nat.min_eq_left (by omega)]
 ·have e:d=0:=by rw [← hd]; simp [List.getD,List.getElem?_eq_none (by omega:xs.length≤k)]
  rw [e,List.take_of_length_le (by omega),List.take_of_length_le (by omega)]
  rfl
theorem put_rest {xs:List Nat} {o n:Nat} {rs:List Nat} (h:rs.length≤n) (hn:o+n≤xs.length):put xs o rs=put xs o (rs ++ ((xs.drop o).take n).drop rs.length):=by
 unfold put
 rw [List.append_assoc,List.append_assoc,List.append_assoc]
 congr 2
 rw [List.drop_take,List.drop_drop]
 have e:o+(rs ++ ((xs.drop (o+rs.length)).take (n - rs.length))).length=o+rs.length+(n - rs.length):=by simp; omega
 have e3:xs.drop (o+rs.length+(n - rs.length))=(xs.drop (o+rs.length)).drop (n - rs.length):=by rw [List.drop_drop]
 rw [e,e3,List.take_append_drop]
def AddInv (w0:World) (g o n:Nat) (xs ys:List Nat) (k:Nat) (vc:Value) (wr:World):Prop:=
 ∃ (rs:List Nat) (c:Nat),rs.length=k∧k≤n∧vc= .int .u64 (c:Nat)∧c≤1∧Words rs∧natVal rs+base k*c=natVal ((xs.drop o).take k)+natVal (ys.take k)∧Blk wr g (put xs o rs)∧Only g w0 wr
theorem add_step {w0 wr:World} {g o n k x y c s f m:Nat} {xs ys rs:List Nat} (hk:rs.length=k) (hkn:k<n) (ho:o+n≤xs.length) (hx:xs.getD (o+k) 0=x) (hy:ys.getD k 0=y) (hx1:x<18446744073709551616) (hy1:y<18446744073709551616) (hc:c≤1)
  (hs:(x+y+c) % 18446744073709551616=s) (hf:(x+y+c) / 18446744073709551616=f) (hw:Words rs) (hv:natVal rs+base k*c=natVal ((xs.drop o).take k)+natVal (ys.take k)) (hb:Blk wr g (put xs o rs)) (ho2:Only g w0 wr) :
  AddInv w0 g o n xs ys (k+1) (.int .u64 (f:Int)) ((wr.drewN m).setCell ⟨g,o+k,none⟩ (.int .u64 (s:Int))):=by
 have e1:s+18446744073709551616*f=x+y+c:=by omega
 refine ⟨rs ++ [s],f,by simp; omega,by omega,rfl,by omega,words_snoc hw (by omega),?_,?_,(ho2.drewN m).set_ _ _⟩
 ·rw [natVal_snoc,hk,take_next (by omega) hx,natVal_snoc,take_len (by omega),take_up0 hy,base_succ]
  have e2:base k*s+18446744073709551616*base k*f=base k*(x+y+c):=by rw [← e1]; simp only [Nat.mul_add,Nat.mul_assoc,Nat.mul_left_comm]
  rw [Nat.mul_add,Nat.mul_add] at e2
  omega
 ·subst hk
  rw [← put_set (by omega)]
  exact (hb.drewN m).set_ _ (by rw [put_length (by omega)]; omega)
theorem add_room {k n c:Nat} {xs ys rs:List Nat} {o:Nat} (_hk:rs.length=k) (hkn:k≤n) (hyk:ys.length≤k) (hc:c≠0) (hv:natVal rs+base k*c=natVal ((xs.drop o).take k)+natVal (ys.take k)) (hroom:natVal ((xs.drop o).take n)+natVal ys<base n):k<n:=by
 rcases Nat.lt_or_ge k n with h | h
 ·exact h
 ·exfalso
  obtain rfl:k=n:=by omega
  rw [List.take_of_length_le hyk] at hv
  have h1:base k*1≤base k*c:=Nat.mul_le_mul_left _ (by omega)
  omega
theorem add_fin {wr:World} {g o n k:Nat} {xs ys rs:List Nat} (hx:Words xs) (hk:rs.length=k) (hkn:k≤n) (ho:o+n≤xs.length) (hyk:ys.length≤k) (hw:Words rs) (hv:natVal rs+base k*0=natVal ((xs.drop o).take k)+natVal (ys.take k)) (hb:Blk wr g (put xs o rs)) :
  ∃ zs:List Nat,zs.length=n∧Words zs∧natVal zs=natVal ((xs.drop o).take n)+natVal ys∧Blk wr g (put xs o zs):=by
 refine ⟨rs ++ ((xs.drop o).take n).drop rs.length,by simp; omega,words_append hw (words_drop (words_take (words_drop hx o) n) _),?_,by rw [← put_rest (by omega) ho]; exact hb⟩
 rw [List.take_of_length_le hyk] at hv
 rw [natVal_append,hk,natVal_split ((xs.drop o).take n) k,List.take_take,Nat.min_eq_left hkn,take_len (by omega)]
 omega
theorem addInto_any (g o n c n' c':Nat) (A':Option Addr) (xs ys:List Nat) (w:World) (hb:Blk w g xs) (hl:IsL w A' n' c' (u64s ys)) (hA:0<n'→∀ a:Addr,A'=some a→a.block≠g) (ho:o+n≤xs.length) (hn':n'≤n) (hx:Words xs) (hy:Words ys) (hn:n<1000000) (_hoo:o<1000000)
  (hroom:natVal ((xs.drop o).take n)+natVal ys<base n) :
  Calls Tryz.prog 171 #[.slice (some ⟨g,o,none⟩) n c,.slice A' n' c'] w fun e w'=>
   e= .returned (.tuple #[])∧(∃ zs:List Nat,zs.length=n∧Words zs∧natVal zs=natVal ((xs.drop o).take n)+natVal ys∧Blk w' g (put xs o zs))∧Only g w w':=by
 have hlen:ys.length=n':=by have:=hl.1; rwa [u64s_length] at this
 have Hb:=Lh hb
 have Hx:=Lh hx
 have Hy:=Lh hy
 have Hl:=Lh hl
 have HA:=Lh hA
 have Hlen:=Lh hlen
 have Hroom:=Lh hroom
 clear hb hx hy hl hA hlen hroom
 go_enter Tryz.func171,Tryz.ntmps171
 go_wp2_with fail
 go_loopw [9,4] (fun vi vc wr=>∃ k:Nat,k≤n'∧vi= .int .i64 (k:Nat)∧AddInv w g o n xs ys k vc wr) (fun vi _ _=>n' - (intOf vi).toNat)
 case atStart=>exact ⟨0,Nat.zero_le _,rfl,[],0,rfl,Nat.zero_le _,rfl,Nat.zero_le _,fun d hd=>absurd hd (by simp),by simp [natVal,base_zero],by rw [put_nil]; exact Hb.out,Only.refl _ _⟩
 case round=>
  obtain ⟨k,hk,rfl,rs,cc,hrk,hkn,rfl,hc1,hw,hv,hblk,honly⟩:=hrel
  have Hrk:=Lh hrk
  have Hw:=Lh hw
  have Hv:=Lh hv
  have Hblk:=Lh hblk
  have Honly:=Lh honly
  by_cases hlt:k<n'
  ·obtain ⟨b',o',rfl,hb',hc'⟩:=Hl.out.2.2 (by omega)
   have hne:b'≠g:=HA.out (by omega) _ rfl
   have hcell:=hblk.cell (i:=o+k) (by rw [put_length (by omega)]; omega)
   rw [put_get (by omega) (by omega)] at hcell
   have hfz:=hblk.frozen (o+k)
   have hcy:=(honly.cell (o:=o'+k) hb' hne).trans (hc' k (.int .u64 ((ys.getD k 0:Nat):Int)) (by have:=Hlen.out; simp [u64s,show k<ys.length by omega]))
   have hx1:=word_at Hx.out (o+k)
   have hy1:=word_at Hy.out k
   obtain ⟨x,hx⟩:∃ x,xs.getD (o+k) 0=x:=⟨_,rfl⟩
   obtain ⟨y,hy⟩:∃ y,ys.getD k 0=y:=⟨_,rfl⟩
   rw [hx] at hcell hx1
   rw [hy] at hcy
   rw [hy] at hy1
   have HX:=Lh hx
   have HY:=Lh hy
   clear hc' hblk honly hw hv hrk hx hy
   obtain ⟨s,hs⟩:∃ s,(x+y+cc) % 18446744073709551616=s:=⟨_,rfl⟩
   obtain ⟨f,hf⟩:∃ f,(x+y+cc) / 18446744073709551616=f:=⟨_,rfl⟩
   have hadd:∀ W:World,(callFunc 170 #[.int .u64 (x:Int),.int .u64 (y:Int),.int .u64 (cc:Int)]).run Tryz.prog W= .ok (.value (.tuple #[.int .u64 (s:Int),.int .u64 (f:Int)])) W:=add64_at x y cc s f hc1 hs hf
   have Hs:=Lh hs
   have Hf:=Lh hf
   clear hs hf
   go_wp2_with fail
   go_region
   all_goals
    have Hfin:=Lh (add_step (m:=1) Hrk.out (show k<n by omega) ho HX.out HY.out hx1 hy1 hc1 Hs.out Hf.out Hw.out Hv.out Hblk.out Honly.out)
    go_wp2_with fail
    exact ⟨⟨k+1,hlt,by go_num,Hfin.out⟩,by simp [intOf] <;> omega⟩
  ·obtain rfl:k=n':=by omega
   have Hinv:=Lh (show AddInv w g o n xs ys k (.int .u64 (cc:Nat)) wr from ⟨rs,cc,Hrk.out,hkn,rfl,hc1,Hw.out,Hv.out,Hblk.out,Honly.out⟩)
   clear hblk honly hw hv hrk
   go_wp2_with fail
   go_loopw [6,4] (fun vi vc wr=>∃ j:Nat,k≤j∧vi= .int .i64 (j:Nat)∧AddInv w g o n xs ys j vc wr) (fun vi _ _=>n - (intOf vi).toNat)
   case atStart=>exact ⟨k,Nat.le_refl _,rfl,Hinv.out⟩
   case round=>
    obtain ⟨j,hj,rfl,rs,cc,hrk,hkn,rfl,hc1,hw,hv,hblk,honly⟩:=hrel
    have Hrk:=Lh hrk
    have Hw:=Lh hw
    have Hv:=Lh hv
    have Hblk:=Lh hblk
    have Honly:=Lh honly
    have hyj:ys.length≤j:=by rw [Hlen.out]; exact hj
    by_cases h0:cc=0
    ·subst h0
     have Hfin:=Lh (add_fin Hx.out hrk hkn ho hyj hw hv hblk)
     clear hblk honly hw hv hrk hyj
     go_wp2
     go_end0
     exact ⟨rfl,Hfin.out,Honly.out⟩
    ·have hlt:=add_room hrk hkn hyj h0 hv Hroom.out
     have hcell:=hblk.cell (i:=o+j) (by rw [put_length (by omega)]; omega)
     rw [put_get (by omega) (by omega)] at hcell
     have hfz:=hblk.frozen (o+j)
     have hx1:=word_at Hx.out (o+j)
     obtain ⟨x,hx⟩:∃ x,xs.getD (o+j) 0=x:=⟨_,rfl⟩
     have hy:ys.getD j 0=0:=by simp [List.getD,List.getElem?_eq_none hyj]
     rw [hx] at hcell hx1
     have HX:=Lh hx
     have HY:=Lh hy
     have t0:((cc:Int) == 0)=false:=by rw [beq_eq_false_iff_ne]; omega
     clear hblk honly hw hv hrk hx hy hyj
     obtain ⟨s,hs⟩:∃ s,(x+0+cc) % 18446744073709551616=s:=⟨_,rfl⟩
     obtain ⟨f,hf⟩:∃ f,(x+0+cc) / 18446744073709551616=f:=⟨_,rfl⟩
     have hadd:∀ W:World,(callFunc 170 #[.int .u64 (x:Int),.int .u64 0,.int .u64 (cc:Int)]).run Tryz.prog W= .ok (.value (.tuple #[.int .u64 (s:Int),.int .u64 (f:Int)])) W:=add64_at x 0 cc s f hc1 hs hf
     have Hs:=Lh hs
     have Hf:=Lh hf
     clear hs hf
     have Hfin:=Lh (add_step (m:=0) Hrk.out hlt ho HX.out HY.out hx1 (by decide) hc1 Hs.out Hf.out Hw.out Hv.out Hblk.out Honly.out)
     go_wp2_with fail
     exact ⟨⟨j+1,by omega,by go_num,Hfin.out⟩,by simp [intOf] <;> omega⟩
end Go.Proofs.YtekhdklbfincpaaGreatDoor
