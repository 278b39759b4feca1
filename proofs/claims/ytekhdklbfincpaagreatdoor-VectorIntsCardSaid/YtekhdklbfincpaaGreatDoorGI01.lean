/- GI01: Vmk Vof -/
import Derived.Test.YtekhdklbfincpaaGreatDoorGA48
import Derived.Test.YtekhdklbfincpaaGreatDoorGA50
set_option maxRecDepth 100000
set_option maxHeartbeats 16000000
namespace Go.Proofs.YtekhdklbfincpaaGreatDoor
open Go.RowKit
theorem isT_any (x0 x1 x2:R4) (q0 q1 q2:Rat) (s0 s1 s2:ByteArray) (k:Nat) (w:World) (h:VecV w x0 x1 x2 q0 q1 q2) (f:Few3 k q0 q1 q2) (hk:k≤3000) (h0:ratTxt q0=s0) (h1:ratTxt q1=s1) (h2:ratTxt q2=s2) (hg:Good w) :
  Calls Tryz.prog 17 #[vecVal x0 x1 x2,.agg #[.string s0,.string s1,.string s2]] w fun e w'=>e= .returned (.bool true)∧Below w.heap.size w w':=by
 have kb:=((Below.refl w.heap.size w).alloc (Nat.le_refl _) (.cells #[.int .i64 x0.1,.pointer x0.2.1,.int .i64 x0.2.2.1,.pointer x0.2.2.2,.int .i64 x1.1,.pointer x1.2.1,.int .i64 x1.2.2.1,.pointer x1.2.2.2,.int .i64 x2.1,.pointer x2.2.1,.int .i64 x2.2.2.1,.pointer x2.2.2.2] 32)).alloc (by simp) (.cells #[.string s0,.string s1,.string s2] 48)
 have C0:=(box_vec w x0 x1 x2).keep ((Below.refl _ _).alloc (Nat.le_refl _) (.cells #[.string s0,.string s1,.string s2] 48))
 have C1:=Cells.new (w.alloc (.cells #[.int .i64 x0.1,.pointer x0.2.1,.int .i64 x0.2.2.1,.pointer x0.2.2.2,.int .i64 x1.1,.pointer x1.2.1,.int .i64 x1.2.2.1,.pointer x1.2.2.2,.int .i64 x2.1,.pointer x2.2.1,.int .i64 x2.2.2.1,.pointer x2.2.2.2] 32)) #[.string s0,.string s1,.string s2] 48
 simp only [World.size_alloc] at C1
 have HP:=fun w' (hb:Below w.heap.size w w')=>vecPoint_any x0 x1 x2 s0 s1 s2 w' ((h.x.keep hb).txt f.x hk h0) ((h.y.keep hb).txt f.y hk h1) ((h.z.keep hb).txt f.z hk h2) (hg.below hb)
 obtain ⟨W,hW⟩:∃ u,(w.alloc (.cells #[.int .i64 x0.1,.pointer x0.2.1,.int .i64 x0.2.2.1,.pointer x0.2.2.2,.int .i64 x1.1,.pointer x1.2.1,.int .i64 x1.2.2.1,.pointer x1.2.2.2,.int .i64 x2.1,.pointer x2.2.1,.int .i64 x2.2.2.1,.pointer x2.2.2.2] 32)).alloc (.cells #[.string s0,.string s1,.string s2] 48)=u:=⟨_,rfl⟩
 rw [hW] at kb C0 C1
 have Kb:=Lh kb
 have HP:=Lh HP
 have V0:=Lh C0
 have V1:=Lh C1
 have hq:=fun W:World=>point_eq s0 s1 s2 W
 have HS:=Lh (fun w' (hb:Below W.heap.size W w')=>(⟨(V0.out.keep hb).at_ 0,(V0.out.keep hb).at_ 1,(V0.out.keep hb).at_ 2,(V0.out.keep hb).at_ 3,(V0.out.keep hb).at_ 4,(V0.out.keep hb).at_ 5,(V0.out.keep hb).at_ 6,(V0.out.keep hb).at_ 7,(V0.out.keep hb).at_ 8,(V0.out.keep hb).at_ 9,(V0.out.keep hb).at_ 10,(V0.out.keep hb).at_ 11,(V1.out.keep hb).at_ 0,(V1.out.keep hb).at_ 1,(V1.out.keep hb).at_ 2⟩:w'.cell? ⟨w.heap.size,0,none⟩=some (.int .i64 x0.1)∧w'.cell? ⟨w.heap.size,1,none⟩=some (.pointer x0.2.1)∧w'.cell? ⟨w.heap.size,2,none⟩=some (.int .i64 x0.2.2.1)∧w'.cell? ⟨w.heap.size,3,none⟩=some (.pointer x0.2.2.2)∧w'.cell? ⟨w.heap.size,4,none⟩=some (.int .i64 x1.1)∧w'.cell? ⟨w.heap.size,5,none⟩=some (.pointer x1.2.1)∧w'.cell? ⟨w.heap.size,6,none⟩=some (.int .i64 x1.2.2.1)∧w'.cell? ⟨w.heap.size,7,none⟩=some (.pointer x1.2.2.2)∧w'.cell? ⟨w.heap.size,8,none⟩=some (.int .i64 x2.1)∧w'.cell? ⟨w.heap.size,9,none⟩=some (.pointer x2.2.1)∧w'.cell? ⟨w.heap.size,10,none⟩=some (.int .i64 x2.2.2.1)∧w'.cell? ⟨w.heap.size,11,none⟩=some (.pointer x2.2.2.2)∧w'.cell? ⟨w.heap.size+1,0,none⟩=some (.string s0)∧w'.cell? ⟨w.heap.size+1,1,none⟩=some (.string s1)∧w'.cell? ⟨w.heap.size+1,2,none⟩=some (.string s2)))
 clear h f hk h0 h1 h2 hg kb C0 C1
 unfold vecVal at *
 go_enter Tryz.func17,Tryz.ntmps17
 go_upto_region 1 with fail
 try simp only [hW]
 clear hW
 refine Till.begin 5 (fun w'=>w'.cell? ⟨w.heap.size,0,none⟩=some (.int .i64 x0.1)∧w'.cell? ⟨w.heap.size,1,none⟩=some (.pointer x0.2.1)∧w'.cell? ⟨w.heap.size,2,none⟩=some (.int .i64 x0.2.2.1)∧w'.cell? ⟨w.heap.size,3,none⟩=some (.pointer x0.2.2.2)∧w'.cell? ⟨w.heap.size,4,none⟩=some (.int .i64 x1.1)∧w'.cell? ⟨w.heap.size,5,none⟩=some (.pointer x1.2.1)∧w'.cell? ⟨w.heap.size,6,none⟩=some (.int .i64 x1.2.2.1)∧w'.cell? ⟨w.heap.size,7,none⟩=some (.pointer x1.2.2.2)∧w'.cell? ⟨w.heap.size,8,none⟩=some (.int .i64 x2.1)∧w'.cell? ⟨w.heap.size,9,none⟩=some (.pointer x2.2.1)∧w'.cell? ⟨w.heap.size,10,none⟩=some (.int .i64 x2.2.2.1)∧w'.cell? ⟨w.heap.size,11,none⟩=some (.pointer x2.2.2.2)∧w'.cell? ⟨w.heap.size+1,0,none⟩=some (.string s0)∧w'.cell? ⟨w.heap.size+1,1,none⟩=some (.string s1)∧w'.cell? ⟨w.heap.size+1,2,none⟩=some (.string s2)) (by kernel_rfl) (HS.out _ (Below.refl _ _).drew) (fun hH=>?_)
 clear hH
 have HB:=Lh (Below.refl W.heap.size W).drew
 generalize W.drew=v0 at HB ⊢
 try simp only [Pls]
 refine Till.tk 0 1 5 (.agg #[.int .i64 x0.1,.pointer x0.2.1,.int .i64 x0.2.2.1,.pointer x0.2.2.2,.int .i64 x1.1,.pointer x1.2.1,.int .i64 x1.2.2.1,.pointer x1.2.2.2,.int .i64 x2.1,.pointer x2.2.1,.int .i64 x2.2.2.1,.pointer x2.2.2.2]) (HS.out _ HB.out) ?_
 try simp only [Act.put,Pls]
 refine Till.tk 2 3 7 (.agg #[.string s0,.string s1,.string s2]) (HS.out _ HB.out) ?_
 try simp only [Act.put,Pls]
 refine Till.one (i:=1) (by kernel_rfl) rfl (fun K hK=>?_)
 go_simp
 refine (HP.out _ (below_on Kb.out HB.out)).mono ?_
 rintro e v1 ⟨rfl,g⟩
 replace HB:=Lh (below_on HB.out g)
 clear g
 go_wp2_with fail
 refine hK.out _ _ (fun _=>HS.out _ HB.out) ?_
 clear hK K
 try simp only [Pls]
 refine Till.one (i:=3) (by kernel_rfl) rfl (fun K hK=>?_)
 go_simp
 refine (refPoint_any s0 s1 s2 _).mono ?_
 rintro e v2 ⟨rfl,g⟩
 replace HB:=Lh (below_on HB.out g)
 clear g
 go_wp2_with fail
 refine hK.out _ _ (fun _=>HS.out _ HB.out) ?_
 clear hK K
 try simp only [Pls]
 refine Till.one (i:=4) (by kernel_rfl) rfl (fun K hK=>?_)
 go_simp
 refine hK.out _ _ (fun _=>HS.out _ HB.out) ?_
 clear hK K
 try simp only [Pls]
 refine Till.one (i:=5) (by kernel_rfl) rfl (fun K hK=>?_)
 go_simp
 refine hK.out _ _ (fun h=>absurd h (by simp)) ?_
 clear hK K
 try simp only [Pls]
 refine Till.done (by kernel_rfl) ?_ _
 have Kf:=Lh (below_on Kb.out HB.out)
 go_wp2
 exact bodyPost_ret (v:= .bool true) (by simp [results,Tryz.results17,go_sem]) rfl ⟨rfl,Kf.out⟩
end Go.Proofs.YtekhdklbfincpaaGreatDoor
namespace Go.Proofs.YtekhdklbfincpaaGreatDoor
open Go.RowKit
theorem refOf_any (n0 n1 n2:Int) (w:World) (h0:I64 n0) (h1:I64 n1) (h2:I64 n2):Calls Tryz.prog 19 #[.agg #[.int .i64 n0,.int .i64 n1,.int .i64 n2]] w fun e w'=>e= .returned (.agg #[.string (txt n0),.string (txt n1),.string (txt n2)])∧Below w.heap.size w w':=by
 have kb:=((Below.refl w.heap.size w).alloc (Nat.le_refl _) (.cells #[.int .i64 n0,.int .i64 n1,.int .i64 n2] 40)).alloc (by simp) (.cells #[.string ⟨#[]⟩,.string ⟨#[]⟩,.string ⟨#[]⟩] 48)
 have C0:=(Cells.new w #[.int .i64 n0,.int .i64 n1,.int .i64 n2] 40).keep ((Below.refl _ _).alloc (Nat.le_refl _) (.cells #[.string ⟨#[]⟩,.string ⟨#[]⟩,.string ⟨#[]⟩] 48))
 have C1:=Cells.new (w.alloc (.cells #[.int .i64 n0,.int .i64 n1,.int .i64 n2] 40)) #[.string ⟨#[]⟩,.string ⟨#[]⟩,.string ⟨#[]⟩] 48
 simp only [World.size_alloc] at C1
 have HF0:=fun w'=>(show Calls Tryz.prog 64 #[.int .i64 n0] w' (fun e w''=>e= .returned (.string (txt n0))∧Below w'.heap.size w' w'') from refFrom_any n0 w' h0)
 have HF1:=fun w'=>(show Calls Tryz.prog 64 #[.int .i64 n1] w' (fun e w''=>e= .returned (.string (txt n1))∧Below w'.heap.size w' w'') from refFrom_any n1 w' h1)
 have HF2:=fun w'=>(show Calls Tryz.prog 64 #[.int .i64 n2] w' (fun e w''=>e= .returned (.string (txt n2))∧Below w'.heap.size w' w'') from refFrom_any n2 w' h2)
 generalize txt n0=s0 at *
 generalize txt n1=s1 at *
 generalize txt n2=s2 at *
 have HF0:=Lh HF0
 have HF1:=Lh HF1
 have HF2:=Lh HF2
 obtain ⟨W,hW⟩:∃ u,(w.alloc (.cells #[.int .i64 n0,.int .i64 n1,.int .i64 n2] 40)).alloc (.cells #[.string ⟨#[]⟩,.string ⟨#[]⟩,.string ⟨#[]⟩] 48)=u:=⟨_,rfl⟩
 rw [hW] at kb C0 C1
 have K0:=Lh kb
 have V0:=Lh C0
 have V1:=Lh (show Cells W (w.heap.size+1) [.string ⟨#[]⟩,.string ⟨#[]⟩,.string ⟨#[]⟩] from C1)
 have HS:=Lh (fun w' (hb:Below W.heap.size W w')=>(⟨(V0.out.keep hb).at_ 0,(V0.out.keep hb).at_ 1,(V0.out.keep hb).at_ 2⟩:w'.cell? ⟨w.heap.size,0,none⟩=some (.int .i64 n0)∧w'.cell? ⟨w.heap.size,1,none⟩=some (.int .i64 n1)∧w'.cell? ⟨w.heap.size,2,none⟩=some (.int .i64 n2)))
 clear kb C0 C1 h0 h1 h2
 go_enter Tryz.func19,Tryz.ntmps19
 go_upto_region 1 with fail
 try simp only [hW]
 clear hW
 refine Till.begin 10 (fun w'=>w'.cell? ⟨w.heap.size,0,none⟩=some (.int .i64 n0)∧w'.cell? ⟨w.heap.size,1,none⟩=some (.int .i64 n1)∧w'.cell? ⟨w.heap.size,2,none⟩=some (.int .i64 n2)) (by kernel_rfl) (HS.out _ (Below.refl _ _).drew) (fun hH=>?_)
 clear hH
 have HB:=Lh (Below.refl W.heap.size W).drew
 generalize W.drew=v0 at HB ⊢
 try simp only [Pls]
 refine Till.tk 0 1 3 (.pointer (some ⟨w.heap.size,0,none⟩)) (HS.out _ HB.out) ?_
 try simp only [Act.put,Pls]
 refine Till.tk 1 2 4 (.int .i64 n0) (HS.out _ HB.out) ?_
 try simp only [Act.put,Pls]
 refine Till.tk 3 4 6 (.pointer (some ⟨w.heap.size,1,none⟩)) (HS.out _ HB.out) ?_
 try simp only [Act.put,Pls]
 refine Till.tk 4 5 7 (.int .i64 n1) (HS.out _ HB.out) ?_
 try simp only [Act.put,Pls]
 refine Till.tk 6 7 9 (.pointer (some ⟨w.heap.size,2,none⟩)) (HS.out _ HB.out) ?_
 try simp only [Act.put,Pls]
 refine Till.tk 7 8 10 (.int .i64 n2) (HS.out _ HB.out) ?_
 try simp only [Act.put,Pls]
 refine Till.one (i:=2) (by kernel_rfl) rfl (fun K hK=>?_)
 go_simp
 refine (HF0.out _).mono ?_
 rintro e v1 ⟨rfl,g⟩
 replace HB:=Lh (below_on HB.out g)
 clear g
 go_wp2_with fail
 refine hK.out _ _ (fun _=>HS.out _ HB.out) ?_
 clear hK K
 try simp only [Pls]
 refine Till.one (i:=5) (by kernel_rfl) rfl (fun K hK=>?_)
 go_simp
 refine (HF1.out _).mono ?_
 rintro e v2 ⟨rfl,g⟩
 replace HB:=Lh (below_on HB.out g)
 clear g
 go_wp2_with fail
 refine hK.out _ _ (fun _=>HS.out _ HB.out) ?_
 clear hK K
 try simp only [Pls]
 refine Till.one (i:=8) (by kernel_rfl) rfl (fun K hK=>?_)
 go_simp
 refine (HF2.out _).mono ?_
 rintro e v3 ⟨rfl,g⟩
 replace HB:=Lh (below_on HB.out g)
 have Cv:=V1.out.keep HB.out
 have f0:v3.frozen? ⟨w.heap.size+1,0,none⟩=false:=Cv.fz 0
 have k0:v3.cell? ⟨w.heap.size+1,0,none⟩=some (.string ⟨#[]⟩):=Cv.at_ 0
 have f1:v3.frozen? ⟨w.heap.size+1,1,none⟩=false:=Cv.fz 1
 have k1:v3.cell? ⟨w.heap.size+1,1,none⟩=some (.string ⟨#[]⟩):=Cv.at_ 1
 have f2:v3.frozen? ⟨w.heap.size+1,2,none⟩=false:=Cv.fz 2
 have k2:v3.cell? ⟨w.heap.size+1,2,none⟩=some (.string ⟨#[]⟩):=Cv.at_ 2
 clear Cv
 clear g
 go_wp2_with fail
 refine hK.out _ _ (fun _=>HS.out _ HB.out) ?_
 clear hK K
 try simp only [Pls]
 refine Till.one (i:=9) (by kernel_rfl) rfl (fun K hK=>?_)
 go_simp
 refine hK.out _ _ (fun _=>HS.out _ HB.out) ?_
 clear hK K
 try simp only [Pls]
 refine Till.one (i:=10) (by kernel_rfl) rfl (fun K hK=>?_)
 go_simp
 refine hK.out _ _ (fun h=>absurd h (by simp)) ?_
 clear hK K
 try simp only [Pls]
 refine Till.done (by kernel_rfl) ?_ _
 have Kf:=Lh ((((below_on K0.out HB.out).setCell (p:=⟨w.heap.size+1,0,none⟩) (Nat.le_succ _) (.string s0)).setCell (p:=⟨w.heap.size+1,1,none⟩) (Nat.le_succ _) (.string s1)).setCell (p:=⟨w.heap.size+1,2,none⟩) (Nat.le_succ _) (.string s2))
 go_wp2
 exact bodyPost_ret (v:= .agg #[.string s0,.string s1,.string s2]) (by simp [results,Tryz.results19,go_sem,k0,k1,k2]) rfl ⟨rfl,Kf.out⟩
theorem vector_eq (a b c:Int) (w:World):(Op.equalIn 10000 40 (.agg #[.int .i64 a,.int .i64 b,.int .i64 c]) (.agg #[.int .i64 a,.int .i64 b,.int .i64 c])).run Tryz.prog w= .ok true w:=by
 have u3:=Tryz.underlying3
 have a3:=Tryz.isAgg3
 have z3:=Tryz.sizeOf3
 rw [show (10000:Nat)=9999+1 from rfl,Op.equalIn]
 simp only [Sem.run_bind,run_underlying Tryz.underlying40,Result.andThen_ok]
 simp only [Std.Legacy.Range.forIn_eq_forIn_range',Std.Legacy.Range.size,Nat.sub_zero,Nat.add_sub_cancel,Nat.div_one,List.range'_succ,List.range'_zero,List.forIn_cons,List.forIn_nil]
 go_simp
def smallIs (n r:Int):Bool:=(decide (IsI (smallQ n r)) == (Int.tmod n (1+r) == 0)) && decide ((smallQ n r).num.natAbs≤128)
theorem small_is_all:((List.range 256).all fun i=>(List.range 6).all fun j=>smallIs ((i:Int) - 128) (j:Int))=true:=by decide +kernel
theorem small_is {n r:Int} (h0:-128≤n) (h1:n≤127) (r0:0≤r) (r1:r≤5):(Int.tmod n (1+r) == 0)=decide (IsI (smallQ n r))∧I64 (smallQ n r).num:=by
 have h:=small_is_all
 rw [List.all_eq_true] at h
 have h:=h (n+128).toNat (List.mem_range.2 (by omega))
 rw [List.all_eq_true] at h
 have h:=h r.toNat (List.mem_range.2 (by omega))
 rw [show (((n+128).toNat:Nat):Int) - 128=n by omega,show ((r.toNat:Nat):Int)=r by omega] at h
 unfold smallIs at h
 simp only [Bool.and_eq_true,beq_iff_eq,decide_eq_true_eq] at h
 exact ⟨h.1.symm,by omega,by omega⟩
theorem few_i64 {n:Int} (h:I64 n):Few ((n:Int):Rat) 20:=⟨by rw [Rat.num_intCast]; have:=h.1; have:=h.2; show n.natAbs<100000000000000000000; omega,by rw [Rat.den_intCast]; decide⟩
theorem isI_int {n:Int} (h:I64 n):IsI ((n:Int):Rat):=⟨Rat.den_intCast n,by rw [Rat.num_intCast]; exact h⟩
def whK (t0 t1 t2:Bool):Nat→Bool
 | 0=>true
 | 1=>t0
 | 2=>t0 && t1
 | _=>t0 && t1 && t2
end Go.Proofs.YtekhdklbfincpaaGreatDoor
