/- GC18: Ref8 -/
import Derived.Test.YtekhdklbfincpaaGreatDoorGC17
import Derived.Test.YtekhdklbfincpaaGreatDoorGC09
set_option maxRecDepth 100000
set_option maxHeartbeats 16000000
namespace Go.Proofs.YtekhdklbfincpaaGreatDoor
open Go renaming World→JW
open _root_.Int renaming mul_neg_of_neg_of_pos→M0,mul_neg_of_pos_of_neg→M1,mul_pos_of_neg_of_neg→M2,le_of_lt→M3,natAbs_mul→M4,zero_mul→M5,mul_zero→M6,mul_pos→M7,mul_nonneg→Mw
open _root_.Nat renaming mul_add→M8,le_refl→Ms,mul_assoc→Mt,mul_left_comm→Mu,lt_or_ge→My,add_mul→Mz,pow_add→MA,zero_le→MB
open _root_.List renaming replicate→M9,take_of_length_le→Mr,length_set→Mv,getD→Mx
open Go.RowKit
def IBlk(w:JW)(g:Nat)(xs:List Int):Prop:=∃cur:Array Value,w.heap[g]?=some (.cells cur 3 (0,0))/\cur.toList.take xs.length=ints xs
theorem IBlk.lt{w:JW}{g:Nat}{xs:List Int}(h:IBlk w g xs):g<w.heap.size:=by
 obtain⟨cur,h,_⟩:=h;rcases My g w.heap.size with hlt|hge
 ·exact hlt
 ·rw[Array.getElem?_eq_none hge]at h;cases h
theorem IBlk.cell{w:JW}{g:Nat}{xs:List Int}(h:IBlk w g xs){i:Nat}(hi:i<xs.length):w.cell? ⟨g,i,none⟩=some (.int .i64 (xs.getD i 0)):=by
 obtain⟨cur,h,hc⟩:=h;rw[cell_of_row w g i cur 3 (0,0) h];have e:cur.toList[i]?=(ints xs)[i]?:=by rw[←hc,List.getElem?_take,if_pos hi]
 rw[←Array.getElem?_toList,e];simp[ints,hi]
theorem IBlk.frozen{w:JW}{g:Nat}{xs:List Int}(h:IBlk w g xs)(i:Nat):w.frozen? ⟨g,i,none⟩=false:=by
 obtain⟨cur,h,_⟩:=h;simp[World.frozen?,h]
theorem IBlk.set_{w:JW}{g:Nat}{xs:List Int}(h:IBlk w g xs)(i:Nat)(d:Int):IBlk (w.setCell ⟨g,i,none⟩ (.int .i64 d)) g (xs.set i d):=by
 obtain⟨cur,h,hc⟩:=h;refine⟨cur.setIfInBounds i (.int .i64 d),by simp[World.setCell,Array.getElem?_modify,h],?_⟩;rw[Array.toList_setIfInBounds,Mv,List.take_set,hc];simp[ints,List.map_set]
theorem IBlk.drewN{w:JW}{g:Nat}{xs:List Int}(h:IBlk w g xs)(n:Nat):IBlk (w.drewN n) g xs:=h
theorem IBlk.isL{w:JW}{g:Nat}{xs:List Int}(h:IBlk w g xs){n c:Nat}(hn:xs.length=n)(hc:n<=c):IsL w (some ⟨g,0,none⟩) n c (ints xs):=by
 refine⟨by simp[ints];omega,hc,fun _=>⟨g,0,rfl,h.lt,fun j u hu=>?_⟩⟩;simp only[ints,List.getElem?_map,Option.map_eq_some_iff]at hu;obtain⟨d,hd,rfl⟩:=hu;have hj:j<xs.length:=(List.getElem?_eq_some_iff.1 hd).1;rw[Nat.zero_add,h.cell hj];simp[Mx,hd]
theorem Ff(n:Nat):(madeCells #[.int .i64 0] n).toList=ints (M9 n 0):=by
 unfold ints madeCells;apply List.ext_getElem
 ·simp
 ·intro i h1 h2;simp[Nat.mod_one]
theorem Zd{w w1:JW}{N:Nat}(hown:w1.ownsRow w.heap.size 3 1 (.slice (some ⟨w.heap.size,0,none⟩) N N) N (madeCells #[.int .i64 0] N).toList)(h0:0<N):IBlk w1 w.heap.size (M9 N 0):=by
 rw[Ff]at hown;have hl:=hown.1;rcases hown.2 with⟨_,h⟩|⟨g,cap,cur,e,hg,hh,hnc,hcm,hcs,hx⟩
 ·omega
 ·injection e with e1 e2 e3
  injection e1 with e1
  injection e1 with e1
  subst e1;refine⟨cur,hh,?_⟩;rw[List.length_replicate,←hx,Nat.mul_one]
theorem Eu(n:Nat):dval (M9 n 0)=0:=by
 induction n with
 | zero=>rfl
 | succ n ih=>rw[List.replicate_succ,dval,ih];rfl
theorem Di(n:Nat):Dig (M9 n 0):=fun d hd=>by rw[(List.mem_replicate.1 hd).2];decide
theorem LF{P:List Int}{k:Nat}{p s:Int}(hk:k<P.length)(hp:P.getD k 0=p):dval (P.set k s)+ten k*p.toNat=dval P+ten k*s.toNat:=by
 have e1:P[k]=p:=by rw[←hp];simp[Mx,hk]
 have l1:(P.take k).length=k:=by simp;omega
 have a1:P=P.take k ++ (p :: P.drop (k+1)):=by
  conv=>lhs;rw[←List.take_append_drop k P,List.drop_eq_getElem_cons hk,e1]
 have a2:P.set k s=P.take k ++ (s :: P.drop (k+1)):=by
  conv=>lhs;rw[a1]
  rw[List.set_append_right _ _ (by omega),l1,Nat.sub_self];rfl
 rw[a2,UF,l1,dval]
 conv=>rhs;rw[a1]
 rw[UF,l1,dval,M8,M8];omega
theorem Nx{P:List Int}(h:Dig P)(k:Nat){s:Int}(h0:0<=s)(h9:s<=9):Dig (P.set k s):=by
 intro x hx;rcases List.mem_or_eq_of_mem_set hx with h1|h1
 ·exact h x h1
 ·rw[h1];exact⟨h0,h9⟩
theorem Ln{xs ys P:List Int}{i k N:Nat}{x c:Int}(hx:xs.getD i 0=x)(hi:i<xs.length)(hdx:Dig xs)(hdy:Dig ys)(hN:xs.length+ys.length<N)(hc:0<c)
  (hv:dval P+ten (i+k)*c.toNat=dval (xs.take i)*dval ys+ten i*(x.toNat*dval (ys.take k))) (hyk:ys.length<=k):i+k<N:=by
 rcases My (i+k) N with h|h
 ·exact h
 ·exfalso;rw[Mr hyk]at hv;have e:dval (xs.take i)*dval ys+ten i*(x.toNat*dval ys)=dval (xs.take (i+1))*dval ys:=by
   rw[Un hx,Mz,Mt]
  rw[e]at hv;have h1:=XK (Ou hdx (i+1));have h2:=XK hdy;have l1:(xs.take (i+1)).length<=xs.length:=by simp;omega
  have h3:dval (xs.take (i+1))<ten xs.length:=Nat.lt_of_lt_of_le h1 (JK l1);have h4:dval (xs.take (i+1))*dval ys<=ten xs.length*ten ys.length:=Nat.mul_le_mul (by omega) (by omega);have h5:ten xs.length*ten ys.length=ten (xs.length+ys.length):=by unfold ten;rw[MA]
  have h6:ten (xs.length+ys.length+1)<=ten (i+k):=JK (by omega);rw[Yi]at h6;have h7:=L6 (xs.length+ys.length);have h8:ten (i+k)*1<=ten (i+k)*c.toNat:=Nat.mul_le_mul_left _ (by omega);omega
def KJ(w0:JW)(g N i:Nat)(xs ys:List Int)(x:Int)(vc vk:Value)(wr:JW):Prop:=
 ∃(P:List Int) (c:Int) (k:Nat),vc= .int .i64 c/\vk= .int .i64 (k:Nat)/\0<=c/\c<=9/\k<=N/\P.length=N/\Dig P/\dval P+ten (i+k)*c.toNat=dval (xs.take i)*dval ys+ten i*(x.toNat*dval (ys.take k))/\IBlk wr g P/\Below w0.heap.size w0 wr
theorem G8{w0 wr:JW}{g N i k m:Nat}{xs ys P:List Int}{x y c p s d:Int}(hg:w0.heap.size<=g)(hp:P.getD (i+k) 0=p)(hy:ys.getD k 0=y)(hx0:0<=x)(hx9:x<=9)(hy0:0<=y)(hy9:y<=9)(hc0:0<=c)(hc9:c<=9)(hk:i+k<N)(hP:P.length=N)(hd:Dig P)
  (hs:s=(p+c+x*y)%10) (hdv:d=(p+c+x*y)/10) (hv:dval P+ten (i+k)*c.toNat=dval (xs.take i)*dval ys+ten i*(x.toNat*dval (ys.take k))) (hb:IBlk wr g P) (hbel:Below w0.heap.size w0 wr) :
  KJ w0 g N i xs ys x (.int .i64 d) (.int .i64 ((k:Int)+1)) ((wr.drewN m).setCell ⟨g,i+k,none⟩ (.int .i64 s)):=by
 have hp0:=(JV hd (i+k)).1;have hp9:=(JV hd (i+k)).2;rw[hp]at hp0 hp9;have hxy:0<=x*y/\x*y<=81:=⟨Mw hx0 hy0,by have:=Int.mul_le_mul hx9 hy9 hy0 (by omega);omega⟩;have exy:(x*y).toNat=x.toNat*y.toNat:=by
  obtain⟨a,rfl⟩:=Int.eq_ofNat_of_zero_le hx0;obtain⟨b,rfl⟩:=Int.eq_ofNat_of_zero_le hy0;rfl
 obtain⟨q,hq⟩:∃q,x*y=q:=⟨_,rfl⟩;rw[hq]at hs hdv hxy exy;refine⟨P.set (i+k) s,d,k+1,rfl,rfl,by omega,by omega,by omega,by rw[Mv];exact hP,Nx hd _ (by omega) (by omega),?_,(hb.drewN m).set_ _ _,(below_drewN hbel m).setCell (p:=⟨g,i+k,none⟩) hg _⟩;have h1:=LF (s:=s) (by omega:i+k<P.length) hp;rw[←Nat.add_assoc,Yi,Un hy];have e2:ten (i+k)*s.toNat+10*ten (i+k)*d.toNat=ten (i+k)*(p.toNat+c.toNat+q.toNat):=by
  rw[show p.toNat+c.toNat+q.toNat=s.toNat+10*d.toNat by omega];simp only[M8,Mt,Mu]
 rw[M8,M8]at e2;have e3:ten i*(x.toNat*(dval (ys.take k)+ten k*y.toNat))=ten i*(x.toNat*dval (ys.take k))+ten (i+k)*q.toNat:=by
  have e4:ten (i+k)=ten i*ten k:=by unfold ten;rw[MA]
  rw[exy,e4,M8,M8];simp only[Mt,Mu]
 rw[e3];omega
def KH(w0:JW)(g N:Nat)(xs ys:List Int)(vi:Value)(wr:JW):Prop:=
 ∃(P:List Int) (i:Nat),vi= .int .i64 (i:Nat)/\i<=xs.length/\P.length=N/\Dig P/\dval P=dval (xs.take i)*dval ys/\IBlk wr g P/\Below w0.heap.size w0 wr
theorem QL(z k:Int)(w:JW)(hs:(txt z).size<=5000)(ht:(txt k).size<=5000) :
  Calls Tryz.prog 78 #[.string (txt z),.string (txt k)] w fun e w'=>e= .returned (.string (txt (z*k)))/\Below w.heap.size w w':=by
 obtain⟨i0,hi,hz0,hz1,hz2⟩:=info_parts UT;have Hsz:=Lh (fun w=>Qe z w hs);have Hsk:=Lh (fun w=>Qe k w ht);have Hdz:=Lh (fun w=>QE z w hs);have Hdk:=Lh (fun w=>QE k w ht);obtain⟨R,hR⟩:∃R,txt (z*k)=R:=⟨_,rfl⟩;have HR:=Lh hR;obtain⟨S,hS⟩:∃S,txt z=S:=⟨_,rfl⟩;obtain⟨T,hT⟩:∃T,txt k=T:=⟨_,rfl⟩;rw[hS]at Hsz Hdz hs ⊢;rw[hT]at Hsk Hdk ht ⊢;rw[hR];clear hS hT hR;go_enter Tryz.func78,Tryz.ntmps78;go_wp2_with fail
 refine(Hdz.out _).mono ?_;rintro e w1⟨A,n,c,rfl,hd1,hn1,h1⟩;have K1:=Lh h1;have D1:=Lh hd1;clear h1 hd1;go_wp2_with fail
 refine(Hdk.out _).mono ?_;rintro e w2⟨A',n',c',rfl,hd2,hn2,h2⟩;have K2:=Lh (h2.mono (by have:=K1.out.size;exact this) |> K1.out.trans);have D2:=Lh hd2;have D3:=Lh (D1.out.keep h2);have hcl:=D3.out.isl.2.1;have hcl':=hd2.isl.2.1;clear h2 hd2;have hk2:=K2.out.size;go_wp2_with (at_make;refine wpList_make_full _ rfl _ _ 126 rfl w2.heap.size 3 i0 (.int .i64 0) 1 Tryz.underlying126 hi hz0 hz1 _ _ _ _ (n+n'+1) rfl rfl (by simp) (by simp) (by rw[hz2];omega) (by unfold maxLen;omega) (Ms _) ?_)
 intro w3 hown hgrow;have hblk:=Zd hown (by omega);have b3:=(Below.refl w2.heap.size w2).grown hgrow (Ms _) (by simp);have Hblk:=Lh hblk;have B3:=Lh b3;have HX:=Lh (D3.out.ds (by omega));have HY:=Lh (D2.out.ds (by omega));clear hown hgrow hblk b3;go_wp2_with fail
 go_loopw [8] (fun vi wr=>KH w2 w2.heap.size (n+n'+1) (digN z.natAbs) (digN k.natAbs) vi wr) (fun vi _=>n-(intOf vi).toNat)
 case atStart=>exact⟨M9 (n+n'+1) 0,0,rfl,MB _,by simp,Di _,by rw[Eu];simp[dval],Hblk.out,B3.out⟩
 case round=>
  obtain⟨P,i,rfl,hin,hP,hPd,hPv,hPb,hbel⟩:=hrel;have hxs:=HX.out.size;have hys:=HY.out.size;have HP:=Lh hP;have HPd:=Lh hPd;have HPv:=Lh hPv;have HPb:=Lh hPb;have Hbel:=Lh hbel;have hin2:i<=n:=by omega
  clear hP hPd hPv hPb hbel hin;by_cases hi2:i<n
  ·obtain⟨x,hx⟩:∃x,(digN z.natAbs).getD i 0=x:=⟨_,rfl⟩;have hx0:=(JV HX.out.dig i).1;have hx9:=(JV HX.out.dig i).2;rw[hx]at hx0 hx9;obtain⟨b1,o1,rfl,hb1,hc1⟩:=HX.out.cell hi2;rw[hx]at hc1;have Hc1:=Lh hc1;have Hx:=Lh hx;have Hxs:=Lh hxs;have Hys:=Lh hys;clear hc1 hx hxs hys;go_wp2_with fail
   go_loopw [9,10] (fun vc vk wr=>KJ w2 w2.heap.size (n+n'+1) i (digN z.natAbs) (digN k.natAbs) x vc vk wr) (fun _ vk _=>n+n'+2-(intOf vk).toNat)
   case atStart=>exact⟨P,0,0,rfl,rfl,by decide,by decide,MB _,HP.out,HPd.out,by simpa[dval]using HPv.out,HPb.out,Hbel.out⟩
   case round=>
    obtain⟨P,cc,j,rfl,rfl,hc0,hc9,hjN,hP,hPd,hPv,hPb,hbel⟩:=hrel;have HP:=Lh hP;have HPd:=Lh hPd;have HPv:=Lh hPv;have HPb:=Lh hPb;have Hbel:=Lh hbel;have cx:=(hbel.cell (p:=⟨b1,o1+i,none⟩) hb1).trans Hc1.out;obtain⟨y,hy⟩:∃y,(digN k.natAbs).getD j 0=y:=⟨_,rfl⟩;have hy0:=(JV HY.out.dig j).1;have hy9:=(JV HY.out.dig j).2;rw[hy]at hy0 hy9;have Hy:=Lh hy;obtain⟨p,hp⟩:∃p,P.getD (i+j) 0=p:=⟨_,rfl⟩;have hp0:=(JV hPd (i+j)).1;have hp9:=(JV hPd (i+j)).2;rw[hp]at hp0 hp9;have Hp:=Lh hp;have hfz:=hPb.frozen (i+j);have hcell:i+j<n+n'+1->wr.cell? ⟨w2.heap.size,i+j,none⟩=some (.int .i64 p):=fun h=>by rw[←hp];exact hPb.cell (by rw[hP];exact h)
    have Hcell:=Lh hcell;clear hP hPd hPv hPb hbel hy hp hcell;by_cases hj:j<n'
    ·have hij:i+j<n+n'+1:=by omega
     have cp:=Hcell.out hij;obtain⟨b2,o2,rfl,hb2,hc2⟩:=HY.out.cell hj;have cy:=(Hbel.out.cell (p:=⟨b2,o2+j,none⟩) hb2).trans hc2;rw[Hy.out]at cy;have hxy0:0<=x*y:=Mw hx0 hy0;have hxy9:x*y<=81:=by have:=Int.mul_le_mul hx9 hy9 hy0 (by omega);omega
     have Hfin:=fun m=>Lh (G8 (m:=m) (Ms w2.heap.size) Hp.out Hy.out hx0 hx9 hy0 hy9 hc0 hc9 hij HP.out HPd.out rfl rfl HPv.out HPb.out Hbel.out);have HF:=Lh Hfin;clear hc2 Hfin;go_wp2_with fail
     go_quiet (fail)
     go_wp2_with fail
     exact⟨(HF.out _).out,by simp[intOf] <;> omega⟩
    ·by_cases h0:cc=0
     ·subst h0;have hyk:(digN k.natAbs).take j=digN k.natAbs:=Mr (by rw[Hys.out];omega);have hfin:dval P=dval ((digN z.natAbs).take (i+1))*dval (digN k.natAbs):=by
       have h1:=HPv.out;rw[hyk]at h1;rw[Un Hx.out,Mz,Mt];simpa using h1
      have Hfin:=Lh (show KH w2 w2.heap.size (n+n'+1) (digN z.natAbs) (digN k.natAbs) (.int .i64 ((i:Int)+1)) wr from⟨P,i+1,rfl,by rw[Hxs.out];exact hi2,HP.out,HPd.out,hfin,HPb.out,Hbel.out⟩);clear hyk hfin;go_wp2;exact⟨Hfin.out,by simp[intOf] <;> omega⟩
     ·have hc1:0<cc:=by omega
      have hij:i+j<n+n'+1:=Ln Hx.out (by rw[Hxs.out];exact hi2) HX.out.dig HY.out.dig (by rw[Hxs.out,Hys.out];omega) hc1 HPv.out (by rw[Hys.out];omega);have cp:=Hcell.out hij;have e0:y=0:=by rw[←Hy.out];simp[Mx,List.getElem?_eq_none (by have:=Hys.out;omega:(digN k.natAbs).length<=j)]
      subst e0;have Hfin:=fun m=>Lh (G8 (m:=m) (s:=(p+cc)%10) (d:=(p+cc)/10) (Ms w2.heap.size) Hp.out Hy.out hx0 hx9 hy0 hy9 hc0 hc9 hij HP.out HPd.out (by simp) (by simp) HPv.out HPb.out Hbel.out);have HF:=Lh Hfin;clear Hfin;go_wp2_with fail
      exact⟨(HF.out 0).out,by simp[intOf] <;> omega⟩
  ·have hii:i=n:=by omega
   have Hval:=Lh (show dval P=z.natAbs*k.natAbs by
    have h1:=HPv.out;rw[Mr (by rw[hxs,hii];exact Ms _),Qz,Qz]at h1;exact h1)
   have hisl:=HPb.out.isL HP.out (Ms (n+n'+1));rcases QR z with⟨hz,ez⟩|⟨hz,ez⟩|⟨hz,ez⟩
   ·rw[ez]at Hsz;clear ez;rcases QR k with⟨hk,ek⟩|⟨hk,ek⟩|⟨hk,ek⟩
    ·rw[ek]at Hsk;have Ht:=Lh (JB false _ _ (n+n'+1) P wr hisl (by omega) (by omega) HPd.out);have he:JR false P=R:=by
      rw[←HR.out];refine Qg HPd.out (by rw[Hval.out,M4]) (fun h0=>?_)
      first
       |(exfalso;apply h0;first|(rw[hz];exact M5 _)|(rw[hk];exact M6 _))
       |(symm;apply decide_eq_true;first|exact M0 hz hk|exact M1 hz hk)
       |(symm;apply decide_eq_false;first|exact Int.not_lt.mpr (M3 (M7 hz hk))|exact Int.not_lt.mpr (M3 (M2 hz hk)))
     rw[he]at Ht;clear ek hz hk he;go_wp2_with fail
     refine(Hsz.out _).mono ?_;rintro e w5⟨rfl,rfl⟩;go_wp2_with fail
     refine(Hsk.out _).mono ?_;rintro e w5⟨rfl,rfl⟩;go_wp2_with fail
     refine Ht.out.mono ?_;rintro e w6⟨rfl,h6⟩;have Kf:=Lh (K2.out.trans ((Hbel.out.trans (h6.mono Hbel.out.size)).mono hk2));clear h6;go_wp2;go_ret;exact⟨rfl,Kf.out⟩
    ·rw[ek]at Hsk;have Ht:=Lh (JB false _ _ (n+n'+1) P wr hisl (by omega) (by omega) HPd.out);have he:JR false P=R:=by
      rw[←HR.out];refine Qg HPd.out (by rw[Hval.out,M4]) (fun h0=>?_)
      first
       |(exfalso;apply h0;first|(rw[hz];exact M5 _)|(rw[hk];exact M6 _))
       |(symm;apply decide_eq_true;first|exact M0 hz hk|exact M1 hz hk)
       |(symm;apply decide_eq_false;first|exact Int.not_lt.mpr (M3 (M7 hz hk))|exact Int.not_lt.mpr (M3 (M2 hz hk)))
     rw[he]at Ht;clear ek hz hk he;go_wp2_with fail
     refine(Hsz.out _).mono ?_;rintro e w5⟨rfl,rfl⟩;go_wp2_with fail
     refine(Hsk.out _).mono ?_;rintro e w5⟨rfl,rfl⟩;go_wp2_with fail
     refine Ht.out.mono ?_;rintro e w6⟨rfl,h6⟩;have Kf:=Lh (K2.out.trans ((Hbel.out.trans (h6.mono Hbel.out.size)).mono hk2));clear h6;go_wp2;go_ret;exact⟨rfl,Kf.out⟩
    ·rw[ek]at Hsk;have Ht:=Lh (JB true _ _ (n+n'+1) P wr hisl (by omega) (by omega) HPd.out);have he:JR true P=R:=by
      rw[←HR.out];refine Qg HPd.out (by rw[Hval.out,M4]) (fun h0=>?_)
      first
       |(exfalso;apply h0;first|(rw[hz];exact M5 _)|(rw[hk];exact M6 _))
       |(symm;apply decide_eq_true;first|exact M0 hz hk|exact M1 hz hk)
       |(symm;apply decide_eq_false;first|exact Int.not_lt.mpr (M3 (M7 hz hk))|exact Int.not_lt.mpr (M3 (M2 hz hk)))
     rw[he]at Ht;clear ek hz hk he;go_wp2_with fail
     refine(Hsz.out _).mono ?_;rintro e w5⟨rfl,rfl⟩;go_wp2_with fail
     refine(Hsk.out _).mono ?_;rintro e w5⟨rfl,rfl⟩;go_wp2_with fail
     refine Ht.out.mono ?_;rintro e w6⟨rfl,h6⟩;have Kf:=Lh (K2.out.trans ((Hbel.out.trans (h6.mono Hbel.out.size)).mono hk2));clear h6;go_wp2;go_ret;exact⟨rfl,Kf.out⟩
   ·rw[ez]at Hsz;clear ez;rcases QR k with⟨hk,ek⟩|⟨hk,ek⟩|⟨hk,ek⟩
    ·rw[ek]at Hsk;have Ht:=Lh (JB false _ _ (n+n'+1) P wr hisl (by omega) (by omega) HPd.out);have he:JR false P=R:=by
      rw[←HR.out];refine Qg HPd.out (by rw[Hval.out,M4]) (fun h0=>?_)
      first
       |(exfalso;apply h0;first|(rw[hz];exact M5 _)|(rw[hk];exact M6 _))
       |(symm;apply decide_eq_true;first|exact M0 hz hk|exact M1 hz hk)
       |(symm;apply decide_eq_false;first|exact Int.not_lt.mpr (M3 (M7 hz hk))|exact Int.not_lt.mpr (M3 (M2 hz hk)))
     rw[he]at Ht;clear ek hz hk he;go_wp2_with fail
     refine(Hsz.out _).mono ?_;rintro e w5⟨rfl,rfl⟩;go_wp2_with fail
     refine(Hsk.out _).mono ?_;rintro e w5⟨rfl,rfl⟩;go_wp2_with fail
     refine Ht.out.mono ?_;rintro e w6⟨rfl,h6⟩;have Kf:=Lh (K2.out.trans ((Hbel.out.trans (h6.mono Hbel.out.size)).mono hk2));clear h6;go_wp2;go_ret;exact⟨rfl,Kf.out⟩
    ·rw[ek]at Hsk;have Ht:=Lh (JB false _ _ (n+n'+1) P wr hisl (by omega) (by omega) HPd.out);have he:JR false P=R:=by
      rw[←HR.out];refine Qg HPd.out (by rw[Hval.out,M4]) (fun h0=>?_)
      first
       |(exfalso;apply h0;first|(rw[hz];exact M5 _)|(rw[hk];exact M6 _))
       |(symm;apply decide_eq_true;first|exact M0 hz hk|exact M1 hz hk)
       |(symm;apply decide_eq_false;first|exact Int.not_lt.mpr (M3 (M7 hz hk))|exact Int.not_lt.mpr (M3 (M2 hz hk)))
     rw[he]at Ht;clear ek hz hk he;go_wp2_with fail
     refine(Hsz.out _).mono ?_;rintro e w5⟨rfl,rfl⟩;go_wp2_with fail
     refine(Hsk.out _).mono ?_;rintro e w5⟨rfl,rfl⟩;go_wp2_with fail
     refine Ht.out.mono ?_;rintro e w6⟨rfl,h6⟩;have Kf:=Lh (K2.out.trans ((Hbel.out.trans (h6.mono Hbel.out.size)).mono hk2));clear h6;go_wp2;go_ret;exact⟨rfl,Kf.out⟩
    ·rw[ek]at Hsk;have Ht:=Lh (JB false _ _ (n+n'+1) P wr hisl (by omega) (by omega) HPd.out);have he:JR false P=R:=by
      rw[←HR.out];refine Qg HPd.out (by rw[Hval.out,M4]) (fun h0=>?_)
      first
       |(exfalso;apply h0;first|(rw[hz];exact M5 _)|(rw[hk];exact M6 _))
       |(symm;apply decide_eq_true;first|exact M0 hz hk|exact M1 hz hk)
       |(symm;apply decide_eq_false;first|exact Int.not_lt.mpr (M3 (M7 hz hk))|exact Int.not_lt.mpr (M3 (M2 hz hk)))
     rw[he]at Ht;clear ek hz hk he;go_wp2_with fail
     refine(Hsz.out _).mono ?_;rintro e w5⟨rfl,rfl⟩;go_wp2_with fail
     refine(Hsk.out _).mono ?_;rintro e w5⟨rfl,rfl⟩;go_wp2_with fail
     refine Ht.out.mono ?_;rintro e w6⟨rfl,h6⟩;have Kf:=Lh (K2.out.trans ((Hbel.out.trans (h6.mono Hbel.out.size)).mono hk2));clear h6;go_wp2;go_ret;exact⟨rfl,Kf.out⟩
   ·rw[ez]at Hsz;clear ez;rcases QR k with⟨hk,ek⟩|⟨hk,ek⟩|⟨hk,ek⟩
    ·rw[ek]at Hsk;have Ht:=Lh (JB true _ _ (n+n'+1) P wr hisl (by omega) (by omega) HPd.out);have he:JR true P=R:=by
      rw[←HR.out];refine Qg HPd.out (by rw[Hval.out,M4]) (fun h0=>?_)
      first
       |(exfalso;apply h0;first|(rw[hz];exact M5 _)|(rw[hk];exact M6 _))
       |(symm;apply decide_eq_true;first|exact M0 hz hk|exact M1 hz hk)
       |(symm;apply decide_eq_false;first|exact Int.not_lt.mpr (M3 (M7 hz hk))|exact Int.not_lt.mpr (M3 (M2 hz hk)))
     rw[he]at Ht;clear ek hz hk he;go_wp2_with fail
     refine(Hsz.out _).mono ?_;rintro e w5⟨rfl,rfl⟩;go_wp2_with fail
     refine(Hsk.out _).mono ?_;rintro e w5⟨rfl,rfl⟩;go_wp2_with fail
     refine Ht.out.mono ?_;rintro e w6⟨rfl,h6⟩;have Kf:=Lh (K2.out.trans ((Hbel.out.trans (h6.mono Hbel.out.size)).mono hk2));clear h6;go_wp2;go_ret;exact⟨rfl,Kf.out⟩
    ·rw[ek]at Hsk;have Ht:=Lh (JB false _ _ (n+n'+1) P wr hisl (by omega) (by omega) HPd.out);have he:JR false P=R:=by
      rw[←HR.out];refine Qg HPd.out (by rw[Hval.out,M4]) (fun h0=>?_)
      first
       |(exfalso;apply h0;first|(rw[hz];exact M5 _)|(rw[hk];exact M6 _))
       |(symm;apply decide_eq_true;first|exact M0 hz hk|exact M1 hz hk)
       |(symm;apply decide_eq_false;first|exact Int.not_lt.mpr (M3 (M7 hz hk))|exact Int.not_lt.mpr (M3 (M2 hz hk)))
     rw[he]at Ht;clear ek hz hk he;go_wp2_with fail
     refine(Hsz.out _).mono ?_;rintro e w5⟨rfl,rfl⟩;go_wp2_with fail
     refine(Hsk.out _).mono ?_;rintro e w5⟨rfl,rfl⟩;go_wp2_with fail
     refine Ht.out.mono ?_;rintro e w6⟨rfl,h6⟩;have Kf:=Lh (K2.out.trans ((Hbel.out.trans (h6.mono Hbel.out.size)).mono hk2));clear h6;go_wp2;go_ret;exact⟨rfl,Kf.out⟩
    ·rw[ek]at Hsk;have Ht:=Lh (JB false _ _ (n+n'+1) P wr hisl (by omega) (by omega) HPd.out);have he:JR false P=R:=by
      rw[←HR.out];refine Qg HPd.out (by rw[Hval.out,M4]) (fun h0=>?_)
      first
       |(exfalso;apply h0;first|(rw[hz];exact M5 _)|(rw[hk];exact M6 _))
       |(symm;apply decide_eq_true;first|exact M0 hz hk|exact M1 hz hk)
       |(symm;apply decide_eq_false;first|exact Int.not_lt.mpr (M3 (M7 hz hk))|exact Int.not_lt.mpr (M3 (M2 hz hk)))
     rw[he]at Ht;clear ek hz hk he;go_wp2_with fail
     refine(Hsz.out _).mono ?_;rintro e w5⟨rfl,rfl⟩;go_wp2_with fail
     refine(Hsk.out _).mono ?_;rintro e w5⟨rfl,rfl⟩;go_wp2_with fail
     refine Ht.out.mono ?_;rintro e w6⟨rfl,h6⟩;have Kf:=Lh (K2.out.trans ((Hbel.out.trans (h6.mono Hbel.out.size)).mono hk2));clear h6;go_wp2;go_ret;exact⟨rfl,Kf.out⟩
