/- fill.least. (Laid by mkfill.py.) -/
import Derived.Test.YtigokanoflkinabGreatDoorFBW
set_option maxHeartbeats 2000000
set_option maxRecDepth 20000
namespace Go.Proofs.YtigokanoflkinabGreatDoor
set_option linter.unusedSimpArgs false
set_option linter.unusedVariables false
open Go.RowKit Por
def leastF (f:Nat→Rat):Nat→Rat
  | 0=>f 0
  | m+1=>if f m<leastF f m then f m else leastF f m
theorem jDJ {f:Nat→Rat}{n L:Nat}(h:∀ i,i<n→Sm (f i) L)(h0:0<n):∀ m,m≤n→Sm (leastF f m) L:=by
 intro m
 induction m with
 | zero=>intro _;exact h 0 h0
 | succ m ih=>
  intro hm;simp only[leastF];split
  ·exact h m (by omega)
  ·exact ih (by omega)
theorem jFq (l:List Rat)(m:Nat):leastF (rq l) m=leastN l m:=by
 induction m with
 | zero=>rfl
 | succ m ih=>simp only[leastF,leastN];rw[ih]
theorem jHk (ao:Option Addr)(cap:Nat)(w:World):Calls Tryz.prog 94 #[.slice ao 0 cap] w fun e w'=>e = .returned (.tuple #[.agg #[.bool false,.slice none 0 0,.slice none 0 0],.bool false])∧Below w.heap.size w w':=by
 go_enter Tryz.func94,Tryz.ntmps94;go_wp2;exact bodyPost_ret (v:=.tuple #[.agg #[.bool false,.slice none 0 0,.slice none 0 0],.bool false]) (by simp[results,Tryz.results94,go_sem]) rfl ⟨rfl,(Below.refl _ _).alloc (Nat.le_refl _) _⟩
theorem jEv (ao:Option Addr)(n cap:Nat)(f:Nat→Rat)(w:World)(hf:Frs w ao n cap f)(hs:∀ i,i<n→Sm (f i) 10000)(h0:0<n):Calls Tryz.prog 94 #[.slice ao n cap] w fun e w'=>∃ v,e = .returned (.tuple #[v,.bool true])∧Frac w' v (leastF f n)∧Below w.heap.size w w':=by
 have hnm:=hf.le;unfold maxLen at hnm;(have hn0:((n:Int) == 0)=false:=by rw[beq_eq_false_iff_ne];omega);(have hn1:(0:Int)<(n:Int):=by omega);have HF:=hid hf;have HS:=hid hs;clear hf hs;obtain ⟨b,o,pa,pb,pc,pd,pe,pf,rfl,hbl,c0,c1,c2,hp1,hp2⟩:=HF.out.get h0;(have hbl2:b<(w.alloc (.cells #[.bool false,.slice none 0 0,.slice none 0 0] 118)).heap.size:=by simp;omega);have lp1:=hp1.sm1 (HS.out 0 h0);have lp2:=hp2.sm2 (HS.out 0 h0);have HB_0:=hid (Below.refl w.heap.size w);have Rp1_0:=hid hp1;have Rp2_0:=hid hp2;clear hp1 hp2;have XR_1:=hid (jAC w #[.bool false,.slice none 0 0,.slice none 0 0] 118);have Rp1_1:=hid (Rp1_0.out.alloc (.cells #[.bool false,.slice none 0 0,.slice none 0 0] 118));have Rp2_1:=hid (Rp2_0.out.alloc (.cells #[.bool false,.slice none 0 0,.slice none 0 0] 118));have HB_1:Hid (Below w.heap.size w (w.alloc (.cells #[.bool false,.slice none 0 0,.slice none 0 0] 118))):=HB_0.out.alloc HB_0.out.size (.cells #[.bool false,.slice none 0 0,.slice none 0 0] 118);have leR:w.heap.size≤w.heap.size:=HB_0.out.size;clear Rp1_0 Rp2_0 HB_0;simp only[Nat.zero_mul,Nat.add_zero] at c0 c1 c2;go_enter Tryz.func94,Tryz.ntmps94;have XR_2:=hid (jAB XR_1.out (.cells #[.bool (negB (f 0)),.slice pa pb pc,.slice pd pe pf] 118));have XL_2:=hid (jAC (w.alloc (.cells #[.bool false,.slice none 0 0,.slice none 0 0] 118)) #[.bool (negB (f 0)),.slice pa pb pc,.slice pd pe pf] 118);have Rp1_2:=hid (Rp1_1.out.alloc (.cells #[.bool (negB (f 0)),.slice pa pb pc,.slice pd pe pf] 118));have Rp2_2:=hid (Rp2_1.out.alloc (.cells #[.bool (negB (f 0)),.slice pa pb pc,.slice pd pe pf] 118));have HB_2:Hid (Below w.heap.size w ((w.alloc (.cells #[.bool false,.slice none 0 0,.slice none 0 0] 118)).alloc (.cells #[.bool (negB (f 0)),.slice pa pb pc,.slice pd pe pf] 118))):=HB_1.out.alloc HB_1.out.size (.cells #[.bool (negB (f 0)),.slice pa pb pc,.slice pd pe pf] 118);have leL:w.heap.size≤(w.alloc (.cells #[.bool false,.slice none 0 0,.slice none 0 0] 118)).heap.size:=HB_1.out.size;clear XR_1 Rp1_1 Rp2_1 HB_1;(have n1:w.heap.size≠w.heap.size+1:=by omega);go_wp2
 go_loopw [16] (fun i wr=>∃ (k:Nat) (qa:Option Addr) (qb qc:Nat) (qd:Option Addr) (qe qf:Nat),k≤n∧i = .int .i64 k∧Hid (Bx wr w.heap.size #[.bool false,.slice none 0 0,.slice none 0 0] 118)∧Hid (Bx wr (w.heap.size+1) #[.bool (negB (leastF f k)),.slice qa qb qc,.slice qd qe qf] 118)∧Hid (Row wr qa qb qc (limbs (leastF f k).num.natAbs))∧Hid (Row wr qd qe qf (limbs (leastF f k).den))∧Hid (Below w.heap.size w wr)) (fun i _=>n - (intOf i).toNat)
 case atStart=>exact ⟨0,pa,pb,pc,pd,pe,pf,Nat.zero_le _,rfl,XR_2.out,(by have h9:=XL_2.out;simp only[World.size_alloc] at h9;exact h9),Rp1_2.out,Rp2_2.out,HB_2.out⟩
 case round=>
  clear c0 c1 c2;obtain ⟨k,qa,qb,qc,qd,qe,qf,hk,rfl,hX,hY,hq1,hq2,hB⟩:=hrel;by_cases hlt:k<n
  ·obtain ⟨b2,o2,ua,ub,uc,ud,ue,uf,hao,hbl3,c0,c1,c2,hu1,hu2⟩:=(HF.out.below hB.out).get hlt;(obtain ⟨rfl,rfl⟩:b=b2∧o=o2:=by simpa using hao);have lu1:=hu1.sm1 (HS.out k hlt);have lu2:=hu2.sm2 (HS.out k hlt);have SQ:=jDJ HS.out h0 k hk;have lq1:=hq1.out.sm1 SQ;have lq2:=hq2.out.sm2 SQ;clear SQ;have Ru1_0:=hid hu1;have Ru2_0:=hid hu2;clear hu1 hu2;have ltL:=hY.out.lt;have cL0:=hY.out.cell 0 _ rfl;have cL1:=hY.out.cell 1 _ rfl;have cL2:=hY.out.cell 2 _ rfl;have XR_1:=hid (jAB hX.out (.cells #[.bool (negB (f k)),.slice ua ub uc,.slice ud ue uf] 118));have XL_1:=hid (jAB hY.out (.cells #[.bool (negB (f k)),.slice ua ub uc,.slice ud ue uf] 118));have XU_1:=hid (jAC wr #[.bool (negB (f k)),.slice ua ub uc,.slice ud ue uf] 118);have Rq1_1:=hid (hq1.out.alloc (.cells #[.bool (negB (f k)),.slice ua ub uc,.slice ud ue uf] 118));have Rq2_1:=hid (hq2.out.alloc (.cells #[.bool (negB (f k)),.slice ua ub uc,.slice ud ue uf] 118));have Ru1_1:=hid (Ru1_0.out.alloc (.cells #[.bool (negB (f k)),.slice ua ub uc,.slice ud ue uf] 118));have Ru2_1:=hid (Ru2_0.out.alloc (.cells #[.bool (negB (f k)),.slice ua ub uc,.slice ud ue uf] 118));have HB_1:Hid (Below w.heap.size w (wr.alloc (.cells #[.bool (negB (f k)),.slice ua ub uc,.slice ud ue uf] 118))):=hB.out.alloc hB.out.size (.cells #[.bool (negB (f k)),.slice ua ub uc,.slice ud ue uf] 118);have leU:w.heap.size≤wr.heap.size:=hB.out.size;clear hX hY hq1 hq2 Ru1_0 Ru2_0 hB;(have ltr:w.heap.size<wr.heap.size:=by omega);go_wp2_with fail;refine (jCj ua ud qa qd ub uc ue uf qb qc qe qf (f k) (leastF f k) _ Ru1_1.out Ru2_1.out Rq1_1.out Rq2_1.out (by omega) (by omega) (by omega) (by omega)).mono ?_;rintro e1 w1 ⟨rfl,hb1⟩;have XR_2:=hid (XR_1.out.keep hb1);have XL_2:=hid (XL_1.out.keep hb1);have XU_2:=hid (XU_1.out.keep hb1);have Rq1_2:=hid (Rq1_1.out.below hb1);have Rq2_2:=hid (Rq2_1.out.below hb1);have Ru1_2:=hid (Ru1_1.out.below hb1);have Ru2_2:=hid (Ru2_1.out.below hb1);have HB_2:Hid (Below w.heap.size w w1):=HB_1.out.trans (hb1.mono HB_1.out.size);clear XR_1 XL_1 XU_1 Rq1_1 Rq2_1 Ru1_1 Ru2_1 HB_1;clear hb1;clear c0 c1 c2 ltL cL0 cL1 cL2;have ltL:=XL_2.out.lt;have cL0:=XL_2.out.cell 0 _ rfl;have zL0:=XL_2.out.frozen 0;have cL1:=XL_2.out.cell 1 _ rfl;have zL1:=XL_2.out.frozen 1;have cL2:=XL_2.out.cell 2 _ rfl;have zL2:=XL_2.out.frozen 2;have ltU:=XU_2.out.lt;have cU0:=XU_2.out.cell 0 _ rfl;have cU1:=XU_2.out.cell 1 _ rfl;have cU2:=XU_2.out.cell 2 _ rfl;generalize hcq:cmpQ (f k) (leastF f k)=c;have HCQ:=hid hcq;clear hcq;by_cases hc:c<0
   ·(have E:leastF f (k+1)=f k:=by simp only[leastF];rw[if_pos];have h9:=HCQ.out;rw[← h9] at hc;exact jK1.1 hc);have HE:=hid E;clear E;go_wp2
    go_roundw
    clear ltL cL0 zL0 cL1 zL1 cL2 zL2 ltU cU0 cU1 cU2
    case rel=>
     have XR_3:=hid (XR_2.out.put3_other (b:=(w.heap.size+1)) (.bool (negB (f k))) (.slice ua ub uc) (.slice ud ue uf) (by omega));have Rq1_3:=hid (Rq1_2.out.put3 XL_2.out (by decide) (.bool (negB (f k))) (.slice ua ub uc) (.slice ud ue uf));have Rq2_3:=hid (Rq2_2.out.put3 XL_2.out (by decide) (.bool (negB (f k))) (.slice ua ub uc) (.slice ud ue uf));have Ru1_3:=hid (Ru1_2.out.put3 XL_2.out (by decide) (.bool (negB (f k))) (.slice ua ub uc) (.slice ud ue uf));have Ru2_3:=hid (Ru2_2.out.put3 XL_2.out (by decide) (.bool (negB (f k))) (.slice ua ub uc) (.slice ud ue uf));have HB_3:=hid (jAD HB_2.out (by omega:w.heap.size≤(w.heap.size+1)) (.bool (negB (f k))) (.slice ua ub uc) (.slice ud ue uf));have XL_3:=hid (XL_2.out.put3 (.bool (negB (f k))) (.slice ua ub uc) (.slice ud ue uf));clear XR_2 XL_2 Rq1_2 Rq2_2 Ru1_2 Ru2_2 HB_2;refine ⟨k+1,ua,ub,uc,ud,ue,uf,by omega,by go_num,XR_3.out,?_,?_,?_,HB_3.out⟩;all_goals rw[HE.out]
     ·exact XL_3.out
     ·exact Ru1_3.out
     ·exact Ru2_3.out
    case measure=>simp[intOf];omega
   ·(have E:leastF f (k+1)=leastF f k:=by simp only[leastF];rw[if_neg];have h9:=HCQ.out;rw[← h9] at hc;exact fun h=>hc (jK1.2 h));have HE:=hid E;clear E;go_wp2
    go_roundw
    case rel=>
     refine ⟨k+1,qa,qb,qc,qd,qe,qf,by omega,by go_num,XR_2.out,?_,?_,?_,HB_2.out⟩;all_goals rw[HE.out]
     ·exact XL_2.out
     ·exact Rq1_2.out
     ·exact Rq2_2.out
    case measure=>simp[intOf];omega
  ·(obtain rfl:k=n:=by omega);have ltR:=hX.out.lt;have cR0:=hX.out.cell 0 _ rfl;have zR0:=hX.out.frozen 0;have cR1:=hX.out.cell 1 _ rfl;have zR1:=hX.out.frozen 1;have cR2:=hX.out.cell 2 _ rfl;have zR2:=hX.out.frozen 2;have ltL:=hY.out.lt;have cL0:=hY.out.cell 0 _ rfl;have cL1:=hY.out.cell 1 _ rfl;have cL2:=hY.out.cell 2 _ rfl;go_wp2;have Z:=hX.out.put3 (.bool (negB (leastF f k))) (.slice qa qb qc) (.slice qd qe qf);have z0:=Z.cell 0 _ rfl;have z1:=Z.cell 1 _ rfl;have z2:=Z.cell 2 _ rfl;unfold wput3 at z0 z1 z2;exact bodyPost_ret (v:=.tuple #[.agg #[.bool (negB (leastF f k)),.slice qa qb qc,.slice qd qe qf],.bool true]) (by simp[results,Tryz.results94,go_sem,z0,z1,z2]) rfl ⟨_,rfl,⟨qa,qb,qc,qd,qe,qf,rfl,hq1.out.put3 hX.out (by decide) _ _ _,hq2.out.put3 hX.out (by decide) _ _ _⟩,jAD hB.out (Nat.le_refl _) _ _ _⟩
end Go.Proofs.YtigokanoflkinabGreatDoor
