/- C10: Ref4 Ref8 Ref6 RefC -/
import Derived.Test.YthhobhjcnmmipaaGreatDoorC05
import Derived.Test.YthhobhjcnmmipaaGreatDoorC06
import Derived.Laws.AppendOwnNone
import Derived.Test.YthhobhjcnmmipaaGreatDoorC02
set_option maxRecDepth 100000
set_option maxHeartbeats 16000000
namespace Go.Proofs.YthhobhjcnmmipaaGreatDoor
open Go renaming World→JW
open Go.RowKit
structure IsDs (w:JW) (A:Option Addr) (n c:Nat) (xs:List Int):Prop where
 isl:IsL w A n c (ints xs)
 cap:c<=9223372036854775807
 len:n<100000
 dig:Dig xs
theorem IsDs.size{w:JW}{A:Option Addr}{n c:Nat}{xs:List Int}(h:IsDs w A n c xs):xs.length=n:=by
 have:=h.isl.1;rwa [Xh]at this
theorem IsDs.keep{w w':JW}{A:Option Addr}{n c:Nat}{xs:List Int}(h:IsDs w A n c xs)(hb:Below w.heap.size w w'):IsDs w' A n c xs:=
 ⟨h.isl.keep hb,h.cap,h.len,h.dig⟩
theorem IsDs.cell{w:JW}{A:Option Addr}{n c:Nat}{xs:List Int}(h:IsDs w A n c xs){k:Nat}(hk:k<n):∃b o,A=some ⟨b,o,none⟩/\b<w.heap.size/\w.cell? ⟨b,o+k,none⟩=some (.int .i64 (xs.getD k 0)):=by
 obtain⟨b,o,e,hb,hc⟩:=h.isl.2.2 (by omega);exact⟨b,o,e,hb,hc k _ (by have:=h.size;simp[ints,show k<xs.length by omega])⟩
theorem Yx.ds{w:JW}{A:Option Addr}{n c m:Nat}{xs:List Int}(h:Yx w A n c xs m)(hn:n<100000):IsDs w A n c xs:=⟨h.isl,h.cap,hn,h.dig⟩
def IBlk(w:JW)(g:Nat)(xs:List Int):Prop:=∃cur:Array Value,w.heap[g]?=some (.cells cur 3 (0,0))/\cur.toList.take xs.length=ints xs
theorem IBlk.lt{w:JW}{g:Nat}{xs:List Int}(h:IBlk w g xs):g<w.heap.size:=by
 obtain⟨cur,h,_⟩:=h;rcases Nat.lt_or_ge g w.heap.size with hlt|hge
 ·exact hlt
 ·rw[Array.getElem?_eq_none hge]at h;cases h
theorem IBlk.cell{w:JW}{g:Nat}{xs:List Int}(h:IBlk w g xs){i:Nat}(hi:i<xs.length):w.cell? ⟨g,i,none⟩=some (.int .i64 (xs.getD i 0)):=by
 obtain⟨cur,h,hc⟩:=h;rw[cell_of_row w g i cur 3 (0,0) h];have e:cur.toList[i]?=(ints xs)[i]?:=by rw[←hc,List.getElem?_take,if_pos hi]
 rw[←Array.getElem?_toList,e];simp[ints,hi]
theorem IBlk.frozen{w:JW}{g:Nat}{xs:List Int}(h:IBlk w g xs)(i:Nat):w.frozen? ⟨g,i,none⟩=false:=by
 obtain⟨cur,h,_⟩:=h;simp[World.frozen?,h]
theorem IBlk.set_{w:JW}{g:Nat}{xs:List Int}(h:IBlk w g xs)(i:Nat)(d:Int):IBlk (w.setCell ⟨g,i,none⟩ (.int .i64 d)) g (xs.set i d):=by
 obtain⟨cur,h,hc⟩:=h;refine⟨cur.setIfInBounds i (.int .i64 d),by simp[World.setCell,Array.getElem?_modify,h],?_⟩;rw[Array.toList_setIfInBounds,List.length_set,List.take_set,hc];simp[ints,List.map_set]
theorem IBlk.drewN{w:JW}{g:Nat}{xs:List Int}(h:IBlk w g xs)(n:Nat):IBlk (w.drewN n) g xs:=h
theorem IBlk.isL{w:JW}{g:Nat}{xs:List Int}(h:IBlk w g xs){n c:Nat}(hn:xs.length=n)(hc:n<=c):IsL w (some ⟨g,0,none⟩) n c (ints xs):=by
 refine⟨by simp[ints];omega,hc,fun _=>⟨g,0,rfl,h.lt,fun j u hu=>?_⟩⟩;simp only[ints,List.getElem?_map,Option.map_eq_some_iff]at hu;obtain⟨d,hd,rfl⟩:=hu;have hj:j<xs.length:=(List.getElem?_eq_some_iff.1 hd).1;rw[Nat.zero_add,h.cell hj];simp[List.getD,hd]
theorem Yx.keep'{w w':JW}{A:Option Addr}{n c m:Nat}{xs:List Int}(h:Yx w A n c xs m)(hb:Below w.heap.size w w'):Yx w' A n c xs m:=
 ⟨h.isl.keep hb,h.cap,h.len,h.dig,h.tight⟩
structure O7 (B:Nat) (w:JW) (A:Option Addr) (n c r:Nat):Prop where
 dig:Yx w A n c (digN r) r
 nil:A=none->c=0
 low:∀a:Addr,A=some a->B<=a.block
theorem O7.keep{B:Nat}{w w':JW}{A:Option Addr}{n c r:Nat}(h:O7 B w A n c r)(hb:Below w.heap.size w w'):O7 B w' A n c r:=⟨h.dig.keep' hb,h.nil,h.low⟩
def intAt(w:JW)(g i:Nat):Nat:=
 match w.cell? ⟨g,i,none⟩with
 | some (.int _ x)=>x.toNat
 | _=>0
theorem IBlk.intAt{w:JW}{g:Nat}{xs:List Int}(h:IBlk w g xs){i:Nat}(hi:i<xs.length):intAt w g i=(xs.getD i 0).toNat:=by
 unfold Go.Proofs.YthhobhjcnmmipaaGreatDoor.intAt;rw[h.cell hi]
theorem IBlk.keep{w w':JW}{g:Nat}{xs:List Int}(h:IBlk w g xs)(hb:Below w.heap.size w w'):IBlk w' g xs:=by
 have hlt:=h.lt;obtain⟨cur,hh,hc⟩:=h;exact⟨cur,(hb.block g hlt).trans hh,hc⟩
theorem Zp{z:Int}:(digN z.natAbs).length<=(txt z).size:=by
 by_cases h0:z=0
 ·subst h0;rw[show(0:Int).natAbs=0 from rfl,Qa];exact Nat.zero_le _
 ·rw[U1 h0,strOfNums_size,List.length_append,List.length_map,List.length_reverse];omega
theorem EQ:txt 1=⟨#[49]⟩:=by
 rw[U1 (by decide),if_neg (by decide),show(1:Int).natAbs=1 from rfl,Qt (by decide),show 1/10=0 from rfl,Qa];rfl
theorem Xu(x y:Nat):Nat.gcd y (x%y)=Nat.gcd x y:=by rw[Nat.gcd_comm x y,Nat.gcd_rec y x,Nat.gcd_comm]
