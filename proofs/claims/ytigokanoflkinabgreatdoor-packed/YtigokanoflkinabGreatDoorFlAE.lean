/- FlA, FlB, FlC, FlD, FlE, joined. -/
import Derived.Test.YtigokanoflkinabGreatDoorFBW
import Derived.Test.YtigokanoflkinabGreatDoorMFleet
import Derived.Test.YtigokanoflkinabGreatDoorLHnd
import Derived.Deep.MidRow
set_option maxHeartbeats 2000000
set_option maxRecDepth 20000
namespace Go.Proofs.YtigokanoflkinabGreatDoor
set_option linter.unusedSimpArgs false
set_option linter.unusedVariables false
open Go.RowKit Por
abbrev av (a:Nat→Int):Array Value:=#[.int .i64 (a 0),.int .i64 (a 1),.int .i64 (a 2),.int .i64 (a 3)]
def AOk (a:Nat→Int):Prop:=∀ r,r<4→-1000000000000000≤a r∧a r≤1000000000000000
theorem aplus4 (a0 a1 a2 a3 b0 b1 b2 b3:Int)(ha0:-1000000000000000≤a0∧a0≤1000000000000000)(ha1:-1000000000000000≤a1∧a1≤1000000000000000)(ha2:-1000000000000000≤a2∧a2≤1000000000000000)(ha3:-1000000000000000≤a3∧a3≤1000000000000000)(hb0:-1000000000000000≤b0∧b0≤1000000000000000)(hb1:-1000000000000000≤b1∧b1≤1000000000000000)(hb2:-1000000000000000≤b2∧b2≤1000000000000000)(hb3:-1000000000000000≤b3∧b3≤1000000000000000)(w:World):Calls Tryz.prog 87 #[.agg #[.int .i64 a0,.int .i64 a1,.int .i64 a2,.int .i64 a3],.agg #[.int .i64 b0,.int .i64 b1,.int .i64 b2,.int .i64 b3]] w fun e w'=>e = .returned (.agg #[(.int .i64 (a0+b0)),(.int .i64 (a1+b1)),(.int .i64 (a2+b2)),(.int .i64 (a3+b3))])∧Below w.heap.size w w':=by
 obtain ⟨la0,ga0⟩:=ha0;obtain ⟨la1,ga1⟩:=ha1;obtain ⟨la2,ga2⟩:=ha2;obtain ⟨la3,ga3⟩:=ha3;obtain ⟨lb0,gb0⟩:=hb0;obtain ⟨lb1,gb1⟩:=hb1;obtain ⟨lb2,gb2⟩:=hb2;obtain ⟨lb3,gb3⟩:=hb3;have wp0:IntKind.i64.wrap (a0+b0)=a0+b0:=Go.IntWalk.i64_in _ ⟨by omega,by omega⟩;have wp1:IntKind.i64.wrap (a1+b1)=a1+b1:=Go.IntWalk.i64_in _ ⟨by omega,by omega⟩;have wp2:IntKind.i64.wrap (a2+b2)=a2+b2:=Go.IntWalk.i64_in _ ⟨by omega,by omega⟩;have wp3:IntKind.i64.wrap (a3+b3)=a3+b3:=Go.IntWalk.i64_in _ ⟨by omega,by omega⟩;(have ix0:∀ w:World,(Instr.index 68 (.agg #[.int .i64 b0,.int .i64 b1,.int .i64 b2,.int .i64 b3]) (.int .i64 0)).run Tryz.prog w = .ok (.int .i64 b0) w:=fun _=>by kernel_rfl);(have ix1:∀ w:World,(Instr.index 68 (.agg #[.int .i64 b0,.int .i64 b1,.int .i64 b2,.int .i64 b3]) (.int .i64 1)).run Tryz.prog w = .ok (.int .i64 b1) w:=fun _=>by kernel_rfl);(have ix2:∀ w:World,(Instr.index 68 (.agg #[.int .i64 b0,.int .i64 b1,.int .i64 b2,.int .i64 b3]) (.int .i64 2)).run Tryz.prog w = .ok (.int .i64 b2) w:=fun _=>by kernel_rfl);(have ix3:∀ w:World,(Instr.index 68 (.agg #[.int .i64 b0,.int .i64 b1,.int .i64 b2,.int .i64 b3]) (.int .i64 3)).run Tryz.prog w = .ok (.int .i64 b3) w:=fun _=>by kernel_rfl);have HB_0:=hid (Below.refl w.heap.size w);have XA_6:=hid (jAC w #[.int .i64 a0,.int .i64 a1,.int .i64 a2,.int .i64 a3] 68);have HB_6:Hid (Below w.heap.size w (w.alloc (.cells #[.int .i64 a0,.int .i64 a1,.int .i64 a2,.int .i64 a3] 68))):=HB_0.out.alloc HB_0.out.size (.cells #[.int .i64 a0,.int .i64 a1,.int .i64 a2,.int .i64 a3] 68);have leA:w.heap.size≤w.heap.size:=HB_0.out.size;clear HB_0;have XA_7:=hid (jAB XA_6.out (.cells #[.int .i64 b0,.int .i64 b1,.int .i64 b2,.int .i64 b3] 68));have XB_7:=hid (jAC (w.alloc (.cells #[.int .i64 a0,.int .i64 a1,.int .i64 a2,.int .i64 a3] 68)) #[.int .i64 b0,.int .i64 b1,.int .i64 b2,.int .i64 b3] 68);have HB_7:Hid (Below w.heap.size w ((w.alloc (.cells #[.int .i64 a0,.int .i64 a1,.int .i64 a2,.int .i64 a3] 68)).alloc (.cells #[.int .i64 b0,.int .i64 b1,.int .i64 b2,.int .i64 b3] 68))):=HB_6.out.alloc HB_6.out.size (.cells #[.int .i64 b0,.int .i64 b1,.int .i64 b2,.int .i64 b3] 68);have leB:w.heap.size≤(w.alloc (.cells #[.int .i64 a0,.int .i64 a1,.int .i64 a2,.int .i64 a3] 68)).heap.size:=HB_6.out.size;clear XA_6 HB_6;have XA_8:=hid (jAB XA_7.out (.cells #[.int .i64 0,.int .i64 0,.int .i64 0,.int .i64 0] 68));have XB_8:=hid (jAB XB_7.out (.cells #[.int .i64 0,.int .i64 0,.int .i64 0,.int .i64 0] 68));have XR_8:=hid (jAC ((w.alloc (.cells #[.int .i64 a0,.int .i64 a1,.int .i64 a2,.int .i64 a3] 68)).alloc (.cells #[.int .i64 b0,.int .i64 b1,.int .i64 b2,.int .i64 b3] 68)) #[.int .i64 0,.int .i64 0,.int .i64 0,.int .i64 0] 68);have HB_8:Hid (Below w.heap.size w (((w.alloc (.cells #[.int .i64 a0,.int .i64 a1,.int .i64 a2,.int .i64 a3] 68)).alloc (.cells #[.int .i64 b0,.int .i64 b1,.int .i64 b2,.int .i64 b3] 68)).alloc (.cells #[.int .i64 0,.int .i64 0,.int .i64 0,.int .i64 0] 68))):=HB_7.out.alloc HB_7.out.size (.cells #[.int .i64 0,.int .i64 0,.int .i64 0,.int .i64 0] 68);have leR:w.heap.size≤((w.alloc (.cells #[.int .i64 a0,.int .i64 a1,.int .i64 a2,.int .i64 a3] 68)).alloc (.cells #[.int .i64 b0,.int .i64 b1,.int .i64 b2,.int .i64 b3] 68)).heap.size:=HB_7.out.size;clear XA_7 XB_7 HB_7;go_enter Tryz.func87,Tryz.ntmps87;go_wp2;obtain ⟨V,hV⟩:∃ V,V=(((w.alloc (.cells #[.int .i64 a0,.int .i64 a1,.int .i64 a2,.int .i64 a3] 68)).alloc (.cells #[.int .i64 b0,.int .i64 b1,.int .i64 b2,.int .i64 b3] 68)).alloc (.cells #[.int .i64 0,.int .i64 0,.int .i64 0,.int .i64 0] 68)):=⟨_,rfl⟩;rw[← hV] at XA_8 XB_8 XR_8 HB_8 ⊢;clear hV;have hA:=XA_8;have hR:=XR_8;simp only[World.size_alloc] at hR
 go_loopg[8] 4 (fun gg ix wr=>∃ (k:Nat) (c0 c1 c2 c3:Int),gg=4 - k∧k≤4∧ix = .int .i64 k∧c0=(if 0<k then a0+b0 else a0)∧c1=(if 1<k then a1+b1 else a1)∧c2=(if 2<k then a2+b2 else a2)∧c3=(if 3<k then a3+b3 else a3)∧Hid (Bx wr w.heap.size #[.int .i64 c0,.int .i64 c1,.int .i64 c2,.int .i64 c3] 68)∧Hid (Bx wr (w.heap.size+1+1) #[.int .i64 0,.int .i64 0,.int .i64 0,.int .i64 0] 68)∧Hid (Below w.heap.size w wr))
 case atStart=>exact ⟨0,a0,a1,a2,a3,rfl,by omega,rfl,rfl,rfl,rfl,rfl,hA.out,hR.out,HB_8.out⟩
 case round=>
  clear hA hR HB_8;obtain ⟨k,c0,c1,c2,c3,hgk,hk,rfl,e0,e1,e2,e3,XA,XR,hB⟩:=hrel;(have hk5:k=0∨k=1∨k=2∨k=3∨k=4:=by omega);rcases hk5 with rfl | rfl | rfl | rfl | rfl
  ·rw[show c0=a0 from e0,show c1=a1 from e1,show c2=a2 from e2,show c3=a3 from e3] at XA;clear e0 e1 e2 e3 c0 c1 c2 c3;have ca:=XA.out.cell 0 _ rfl;have za:=XA.out.frozen 0;have la:=XA.out.lt;go_wp2;go_roundg (4 - (0+1));(case measure=>omega);case rel=>exact ⟨1,(a0+b0),a1,a2,a3,rfl,by omega,rfl,rfl,rfl,rfl,rfl,jAE XA.out 0 _,XR.out.other _ _ (by show w.heap.size≠w.heap.size+1+1;omega),hB.out.setCell (Nat.le_refl _) _⟩
  ·rw[show c0=(a0+b0) from e0,show c1=a1 from e1,show c2=a2 from e2,show c3=a3 from e3] at XA;clear e0 e1 e2 e3 c0 c1 c2 c3;have ca:=XA.out.cell 1 _ rfl;have za:=XA.out.frozen 1;have la:=XA.out.lt;go_wp2;go_roundg (4 - (1+1));(case measure=>omega);case rel=>exact ⟨2,(a0+b0),(a1+b1),a2,a3,rfl,by omega,rfl,rfl,rfl,rfl,rfl,jAE XA.out 1 _,XR.out.other _ _ (by show w.heap.size≠w.heap.size+1+1;omega),hB.out.setCell (Nat.le_refl _) _⟩
  ·rw[show c0=(a0+b0) from e0,show c1=(a1+b1) from e1,show c2=a2 from e2,show c3=a3 from e3] at XA;clear e0 e1 e2 e3 c0 c1 c2 c3;have ca:=XA.out.cell 2 _ rfl;have za:=XA.out.frozen 2;have la:=XA.out.lt;go_wp2;go_roundg (4 - (2+1));(case measure=>omega);case rel=>exact ⟨3,(a0+b0),(a1+b1),(a2+b2),a3,rfl,by omega,rfl,rfl,rfl,rfl,rfl,jAE XA.out 2 _,XR.out.other _ _ (by show w.heap.size≠w.heap.size+1+1;omega),hB.out.setCell (Nat.le_refl _) _⟩
  ·rw[show c0=(a0+b0) from e0,show c1=(a1+b1) from e1,show c2=(a2+b2) from e2,show c3=a3 from e3] at XA;clear e0 e1 e2 e3 c0 c1 c2 c3;have ca:=XA.out.cell 3 _ rfl;have za:=XA.out.frozen 3;have la:=XA.out.lt;go_wp2;go_roundg (4 - (3+1));(case measure=>omega);case rel=>exact ⟨4,(a0+b0),(a1+b1),(a2+b2),(a3+b3),rfl,by omega,rfl,rfl,rfl,rfl,rfl,jAE XA.out 3 _,XR.out.other _ _ (by show w.heap.size≠w.heap.size+1+1;omega),hB.out.setCell (Nat.le_refl _) _⟩
  ·rw[show c0=(a0+b0) from e0,show c1=(a1+b1) from e1,show c2=(a2+b2) from e2,show c3=(a3+b3) from e3] at XA;clear e0 e1 e2 e3 c0 c1 c2 c3;have x0:=XA.out.cell 0 _ rfl;have r0:=XR.out.cell 0 _ rfl;have q0:=XR.out.frozen 0;have x1:=XA.out.cell 1 _ rfl;have r1:=XR.out.cell 1 _ rfl;have q1:=XR.out.frozen 1;have x2:=XA.out.cell 2 _ rfl;have r2:=XR.out.cell 2 _ rfl;have q2:=XR.out.frozen 2;have x3:=XA.out.cell 3 _ rfl;have r3:=XR.out.cell 3 _ rfl;have q3:=XR.out.frozen 3;have la:=XA.out.lt;have lr:=XR.out.lt;have HRF:Hid (Bx ((((wr.setCell ⟨w.heap.size+1+1,0,none⟩ (.int .i64 (a0+b0))).setCell ⟨w.heap.size+1+1,1,none⟩ (.int .i64 (a1+b1))).setCell ⟨w.heap.size+1+1,2,none⟩ (.int .i64 (a2+b2))).setCell ⟨w.heap.size+1+1,3,none⟩ (.int .i64 (a3+b3))) (w.heap.size+1+1) #[(.int .i64 (a0+b0)),(.int .i64 (a1+b1)),(.int .i64 (a2+b2)),(.int .i64 (a3+b3))] 68):=(jAE (jAE (jAE (jAE XR.out 0 (.int .i64 (a0+b0))) 1 (.int .i64 (a1+b1))) 2 (.int .i64 (a2+b2))) 3 (.int .i64 (a3+b3)));have HBF:Hid (Below w.heap.size w ((((wr.setCell ⟨w.heap.size+1+1,0,none⟩ (.int .i64 (a0+b0))).setCell ⟨w.heap.size+1+1,1,none⟩ (.int .i64 (a1+b1))).setCell ⟨w.heap.size+1+1,2,none⟩ (.int .i64 (a2+b2))).setCell ⟨w.heap.size+1+1,3,none⟩ (.int .i64 (a3+b3)))):=((((hB.out.setCell (p:=⟨w.heap.size+1+1,0,none⟩) (by show w.heap.size≤w.heap.size+1+1;omega) (.int .i64 (a0+b0))).setCell (p:=⟨w.heap.size+1+1,1,none⟩) (by show w.heap.size≤w.heap.size+1+1;omega) (.int .i64 (a1+b1))).setCell (p:=⟨w.heap.size+1+1,2,none⟩) (by show w.heap.size≤w.heap.size+1+1;omega) (.int .i64 (a2+b2))).setCell (p:=⟨w.heap.size+1+1,3,none⟩) (by show w.heap.size≤w.heap.size+1+1;omega) (.int .i64 (a3+b3)));go_wp2;have y0:=HRF.out.cell 0 _ rfl;have y1:=HRF.out.cell 1 _ rfl;have y2:=HRF.out.cell 2 _ rfl;have y3:=HRF.out.cell 3 _ rfl;refine bodyPost_ret (v:=.agg #[(.int .i64 (a0+b0)),(.int .i64 (a1+b1)),(.int .i64 (a2+b2)),(.int .i64 (a3+b3))]) (by simp[results,Tryz.results87,go_sem,y0,y1,y2,y3]) rfl ⟨rfl,HBF.out⟩
theorem jFf (a b:Nat→Int) (ha:AOk a) (hb:AOk b) (w:World) :
    Calls Tryz.prog 87 #[.agg (av a),.agg (av b)] w fun e w'=>e = .returned (.agg (av (fun r=>a r+b r)))∧Below w.heap.size w w':=
  aplus4 (a 0) (a 1) (a 2) (a 3) (b 0) (b 1) (b 2) (b 3) (ha 0 (by omega)) (ha 1 (by omega)) (ha 2 (by omega)) (ha 3 (by omega)) (hb 0 (by omega)) (hb 1 (by omega)) (hb 2 (by omega)) (hb 3 (by omega)) w
theorem aminus4 (a0 a1 a2 a3 b0 b1 b2 b3:Int)(ha0:-1000000000000000≤a0∧a0≤1000000000000000)(ha1:-1000000000000000≤a1∧a1≤1000000000000000)(ha2:-1000000000000000≤a2∧a2≤1000000000000000)(ha3:-1000000000000000≤a3∧a3≤1000000000000000)(hb0:-1000000000000000≤b0∧b0≤1000000000000000)(hb1:-1000000000000000≤b1∧b1≤1000000000000000)(hb2:-1000000000000000≤b2∧b2≤1000000000000000)(hb3:-1000000000000000≤b3∧b3≤1000000000000000)(w:World):Calls Tryz.prog 86 #[.agg #[.int .i64 a0,.int .i64 a1,.int .i64 a2,.int .i64 a3],.agg #[.int .i64 b0,.int .i64 b1,.int .i64 b2,.int .i64 b3]] w fun e w'=>e = .returned (.agg #[(.int .i64 (a0 - b0)),(.int .i64 (a1 - b1)),(.int .i64 (a2 - b2)),(.int .i64 (a3 - b3))])∧Below w.heap.size w w':=by
 obtain ⟨la0,ga0⟩:=ha0;obtain ⟨la1,ga1⟩:=ha1;obtain ⟨la2,ga2⟩:=ha2;obtain ⟨la3,ga3⟩:=ha3;obtain ⟨lb0,gb0⟩:=hb0;obtain ⟨lb1,gb1⟩:=hb1;obtain ⟨lb2,gb2⟩:=hb2;obtain ⟨lb3,gb3⟩:=hb3;have wp0:IntKind.i64.wrap (a0 - b0)=a0 - b0:=Go.IntWalk.i64_in _ ⟨by omega,by omega⟩;have wp1:IntKind.i64.wrap (a1 - b1)=a1 - b1:=Go.IntWalk.i64_in _ ⟨by omega,by omega⟩;have wp2:IntKind.i64.wrap (a2 - b2)=a2 - b2:=Go.IntWalk.i64_in _ ⟨by omega,by omega⟩;have wp3:IntKind.i64.wrap (a3 - b3)=a3 - b3:=Go.IntWalk.i64_in _ ⟨by omega,by omega⟩;(have ix0:∀ w:World,(Instr.index 68 (.agg #[.int .i64 b0,.int .i64 b1,.int .i64 b2,.int .i64 b3]) (.int .i64 0)).run Tryz.prog w = .ok (.int .i64 b0) w:=fun _=>by kernel_rfl);(have ix1:∀ w:World,(Instr.index 68 (.agg #[.int .i64 b0,.int .i64 b1,.int .i64 b2,.int .i64 b3]) (.int .i64 1)).run Tryz.prog w = .ok (.int .i64 b1) w:=fun _=>by kernel_rfl);(have ix2:∀ w:World,(Instr.index 68 (.agg #[.int .i64 b0,.int .i64 b1,.int .i64 b2,.int .i64 b3]) (.int .i64 2)).run Tryz.prog w = .ok (.int .i64 b2) w:=fun _=>by kernel_rfl);(have ix3:∀ w:World,(Instr.index 68 (.agg #[.int .i64 b0,.int .i64 b1,.int .i64 b2,.int .i64 b3]) (.int .i64 3)).run Tryz.prog w = .ok (.int .i64 b3) w:=fun _=>by kernel_rfl);have HB_0:=hid (Below.refl w.heap.size w);have XA_6:=hid (jAC w #[.int .i64 a0,.int .i64 a1,.int .i64 a2,.int .i64 a3] 68);have HB_6:Hid (Below w.heap.size w (w.alloc (.cells #[.int .i64 a0,.int .i64 a1,.int .i64 a2,.int .i64 a3] 68))):=HB_0.out.alloc HB_0.out.size (.cells #[.int .i64 a0,.int .i64 a1,.int .i64 a2,.int .i64 a3] 68);have leA:w.heap.size≤w.heap.size:=HB_0.out.size;clear HB_0;have XA_7:=hid (jAB XA_6.out (.cells #[.int .i64 b0,.int .i64 b1,.int .i64 b2,.int .i64 b3] 68));have XB_7:=hid (jAC (w.alloc (.cells #[.int .i64 a0,.int .i64 a1,.int .i64 a2,.int .i64 a3] 68)) #[.int .i64 b0,.int .i64 b1,.int .i64 b2,.int .i64 b3] 68);have HB_7:Hid (Below w.heap.size w ((w.alloc (.cells #[.int .i64 a0,.int .i64 a1,.int .i64 a2,.int .i64 a3] 68)).alloc (.cells #[.int .i64 b0,.int .i64 b1,.int .i64 b2,.int .i64 b3] 68))):=HB_6.out.alloc HB_6.out.size (.cells #[.int .i64 b0,.int .i64 b1,.int .i64 b2,.int .i64 b3] 68);have leB:w.heap.size≤(w.alloc (.cells #[.int .i64 a0,.int .i64 a1,.int .i64 a2,.int .i64 a3] 68)).heap.size:=HB_6.out.size;clear XA_6 HB_6;have XA_8:=hid (jAB XA_7.out (.cells #[.int .i64 0,.int .i64 0,.int .i64 0,.int .i64 0] 68));have XB_8:=hid (jAB XB_7.out (.cells #[.int .i64 0,.int .i64 0,.int .i64 0,.int .i64 0] 68));have XR_8:=hid (jAC ((w.alloc (.cells #[.int .i64 a0,.int .i64 a1,.int .i64 a2,.int .i64 a3] 68)).alloc (.cells #[.int .i64 b0,.int .i64 b1,.int .i64 b2,.int .i64 b3] 68)) #[.int .i64 0,.int .i64 0,.int .i64 0,.int .i64 0] 68);have HB_8:Hid (Below w.heap.size w (((w.alloc (.cells #[.int .i64 a0,.int .i64 a1,.int .i64 a2,.int .i64 a3] 68)).alloc (.cells #[.int .i64 b0,.int .i64 b1,.int .i64 b2,.int .i64 b3] 68)).alloc (.cells #[.int .i64 0,.int .i64 0,.int .i64 0,.int .i64 0] 68))):=HB_7.out.alloc HB_7.out.size (.cells #[.int .i64 0,.int .i64 0,.int .i64 0,.int .i64 0] 68);have leR:w.heap.size≤((w.alloc (.cells #[.int .i64 a0,.int .i64 a1,.int .i64 a2,.int .i64 a3] 68)).alloc (.cells #[.int .i64 b0,.int .i64 b1,.int .i64 b2,.int .i64 b3] 68)).heap.size:=HB_7.out.size;clear XA_7 XB_7 HB_7;go_enter Tryz.func86,Tryz.ntmps86;go_wp2;obtain ⟨V,hV⟩:∃ V,V=(((w.alloc (.cells #[.int .i64 a0,.int .i64 a1,.int .i64 a2,.int .i64 a3] 68)).alloc (.cells #[.int .i64 b0,.int .i64 b1,.int .i64 b2,.int .i64 b3] 68)).alloc (.cells #[.int .i64 0,.int .i64 0,.int .i64 0,.int .i64 0] 68)):=⟨_,rfl⟩;rw[← hV] at XA_8 XB_8 XR_8 HB_8 ⊢;clear hV;have hA:=XA_8;have hR:=XR_8;simp only[World.size_alloc] at hR
 go_loopg[8] 4 (fun gg ix wr=>∃ (k:Nat) (c0 c1 c2 c3:Int),gg=4 - k∧k≤4∧ix = .int .i64 k∧c0=(if 0<k then a0 - b0 else a0)∧c1=(if 1<k then a1 - b1 else a1)∧c2=(if 2<k then a2 - b2 else a2)∧c3=(if 3<k then a3 - b3 else a3)∧Hid (Bx wr w.heap.size #[.int .i64 c0,.int .i64 c1,.int .i64 c2,.int .i64 c3] 68)∧Hid (Bx wr (w.heap.size+1+1) #[.int .i64 0,.int .i64 0,.int .i64 0,.int .i64 0] 68)∧Hid (Below w.heap.size w wr))
 case atStart=>exact ⟨0,a0,a1,a2,a3,rfl,by omega,rfl,rfl,rfl,rfl,rfl,hA.out,hR.out,HB_8.out⟩
 case round=>
  clear hA hR HB_8;obtain ⟨k,c0,c1,c2,c3,hgk,hk,rfl,e0,e1,e2,e3,XA,XR,hB⟩:=hrel;(have hk5:k=0∨k=1∨k=2∨k=3∨k=4:=by omega);rcases hk5 with rfl | rfl | rfl | rfl | rfl
  ·rw[show c0=a0 from e0,show c1=a1 from e1,show c2=a2 from e2,show c3=a3 from e3] at XA;clear e0 e1 e2 e3 c0 c1 c2 c3;have ca:=XA.out.cell 0 _ rfl;have za:=XA.out.frozen 0;have la:=XA.out.lt;go_wp2;go_roundg (4 - (0+1));(case measure=>omega);case rel=>exact ⟨1,(a0 - b0),a1,a2,a3,rfl,by omega,rfl,rfl,rfl,rfl,rfl,jAE XA.out 0 _,XR.out.other _ _ (by show w.heap.size≠w.heap.size+1+1;omega),hB.out.setCell (Nat.le_refl _) _⟩
  ·rw[show c0=(a0 - b0) from e0,show c1=a1 from e1,show c2=a2 from e2,show c3=a3 from e3] at XA;clear e0 e1 e2 e3 c0 c1 c2 c3;have ca:=XA.out.cell 1 _ rfl;have za:=XA.out.frozen 1;have la:=XA.out.lt;go_wp2;go_roundg (4 - (1+1));(case measure=>omega);case rel=>exact ⟨2,(a0 - b0),(a1 - b1),a2,a3,rfl,by omega,rfl,rfl,rfl,rfl,rfl,jAE XA.out 1 _,XR.out.other _ _ (by show w.heap.size≠w.heap.size+1+1;omega),hB.out.setCell (Nat.le_refl _) _⟩
  ·rw[show c0=(a0 - b0) from e0,show c1=(a1 - b1) from e1,show c2=a2 from e2,show c3=a3 from e3] at XA;clear e0 e1 e2 e3 c0 c1 c2 c3;have ca:=XA.out.cell 2 _ rfl;have za:=XA.out.frozen 2;have la:=XA.out.lt;go_wp2;go_roundg (4 - (2+1));(case measure=>omega);case rel=>exact ⟨3,(a0 - b0),(a1 - b1),(a2 - b2),a3,rfl,by omega,rfl,rfl,rfl,rfl,rfl,jAE XA.out 2 _,XR.out.other _ _ (by show w.heap.size≠w.heap.size+1+1;omega),hB.out.setCell (Nat.le_refl _) _⟩
  ·rw[show c0=(a0 - b0) from e0,show c1=(a1 - b1) from e1,show c2=(a2 - b2) from e2,show c3=a3 from e3] at XA;clear e0 e1 e2 e3 c0 c1 c2 c3;have ca:=XA.out.cell 3 _ rfl;have za:=XA.out.frozen 3;have la:=XA.out.lt;go_wp2;go_roundg (4 - (3+1));(case measure=>omega);case rel=>exact ⟨4,(a0 - b0),(a1 - b1),(a2 - b2),(a3 - b3),rfl,by omega,rfl,rfl,rfl,rfl,rfl,jAE XA.out 3 _,XR.out.other _ _ (by show w.heap.size≠w.heap.size+1+1;omega),hB.out.setCell (Nat.le_refl _) _⟩
  ·rw[show c0=(a0 - b0) from e0,show c1=(a1 - b1) from e1,show c2=(a2 - b2) from e2,show c3=(a3 - b3) from e3] at XA;clear e0 e1 e2 e3 c0 c1 c2 c3;have x0:=XA.out.cell 0 _ rfl;have r0:=XR.out.cell 0 _ rfl;have q0:=XR.out.frozen 0;have x1:=XA.out.cell 1 _ rfl;have r1:=XR.out.cell 1 _ rfl;have q1:=XR.out.frozen 1;have x2:=XA.out.cell 2 _ rfl;have r2:=XR.out.cell 2 _ rfl;have q2:=XR.out.frozen 2;have x3:=XA.out.cell 3 _ rfl;have r3:=XR.out.cell 3 _ rfl;have q3:=XR.out.frozen 3;have la:=XA.out.lt;have lr:=XR.out.lt;have HRF:Hid (Bx ((((wr.setCell ⟨w.heap.size+1+1,0,none⟩ (.int .i64 (a0 - b0))).setCell ⟨w.heap.size+1+1,1,none⟩ (.int .i64 (a1 - b1))).setCell ⟨w.heap.size+1+1,2,none⟩ (.int .i64 (a2 - b2))).setCell ⟨w.heap.size+1+1,3,none⟩ (.int .i64 (a3 - b3))) (w.heap.size+1+1) #[(.int .i64 (a0 - b0)),(.int .i64 (a1 - b1)),(.int .i64 (a2 - b2)),(.int .i64 (a3 - b3))] 68):=(jAE (jAE (jAE (jAE XR.out 0 (.int .i64 (a0 - b0))) 1 (.int .i64 (a1 - b1))) 2 (.int .i64 (a2 - b2))) 3 (.int .i64 (a3 - b3)));have HBF:Hid (Below w.heap.size w ((((wr.setCell ⟨w.heap.size+1+1,0,none⟩ (.int .i64 (a0 - b0))).setCell ⟨w.heap.size+1+1,1,none⟩ (.int .i64 (a1 - b1))).setCell ⟨w.heap.size+1+1,2,none⟩ (.int .i64 (a2 - b2))).setCell ⟨w.heap.size+1+1,3,none⟩ (.int .i64 (a3 - b3)))):=((((hB.out.setCell (p:=⟨w.heap.size+1+1,0,none⟩) (by show w.heap.size≤w.heap.size+1+1;omega) (.int .i64 (a0 - b0))).setCell (p:=⟨w.heap.size+1+1,1,none⟩) (by show w.heap.size≤w.heap.size+1+1;omega) (.int .i64 (a1 - b1))).setCell (p:=⟨w.heap.size+1+1,2,none⟩) (by show w.heap.size≤w.heap.size+1+1;omega) (.int .i64 (a2 - b2))).setCell (p:=⟨w.heap.size+1+1,3,none⟩) (by show w.heap.size≤w.heap.size+1+1;omega) (.int .i64 (a3 - b3)));go_wp2;have y0:=HRF.out.cell 0 _ rfl;have y1:=HRF.out.cell 1 _ rfl;have y2:=HRF.out.cell 2 _ rfl;have y3:=HRF.out.cell 3 _ rfl;refine bodyPost_ret (v:=.agg #[(.int .i64 (a0 - b0)),(.int .i64 (a1 - b1)),(.int .i64 (a2 - b2)),(.int .i64 (a3 - b3))]) (by simp[results,Tryz.results86,go_sem,y0,y1,y2,y3]) rfl ⟨rfl,HBF.out⟩
theorem jE0 (a b:Nat→Int) (ha:AOk a) (hb:AOk b) (w:World) :
    Calls Tryz.prog 86 #[.agg (av a),.agg (av b)] w fun e w'=>e = .returned (.agg (av (fun r=>a r - b r)))∧Below w.heap.size w w':=
  aminus4 (a 0) (a 1) (a 2) (a 3) (b 0) (b 1) (b 2) (b 3) (ha 0 (by omega)) (ha 1 (by omega)) (ha 2 (by omega)) (ha 3 (by omega)) (hb 0 (by omega)) (hb 1 (by omega)) (hb 2 (by omega)) (hb 3 (by omega)) w
theorem atimes4 (a0 a1 a2 a3 n:Int)(ha0:-1000000000000000≤a0*n∧a0*n≤1000000000000000)(ha1:-1000000000000000≤a1*n∧a1*n≤1000000000000000)(ha2:-1000000000000000≤a2*n∧a2*n≤1000000000000000)(ha3:-1000000000000000≤a3*n∧a3*n≤1000000000000000)(w:World):Calls Tryz.prog 85 #[.agg #[.int .i64 a0,.int .i64 a1,.int .i64 a2,.int .i64 a3],.int .i64 n] w fun e w'=>e = .returned (.agg #[.int .i64 (a0*n),.int .i64 (a1*n),.int .i64 (a2*n),.int .i64 (a3*n)])∧Below w.heap.size w w':=by
 obtain ⟨la0,ga0⟩:=ha0;obtain ⟨la1,ga1⟩:=ha1;obtain ⟨la2,ga2⟩:=ha2;obtain ⟨la3,ga3⟩:=ha3;obtain ⟨p0,hp0⟩:∃ p,p=a0*n:=⟨_,rfl⟩;obtain ⟨p1,hp1⟩:∃ p,p=a1*n:=⟨_,rfl⟩;obtain ⟨p2,hp2⟩:∃ p,p=a2*n:=⟨_,rfl⟩;obtain ⟨p3,hp3⟩:∃ p,p=a3*n:=⟨_,rfl⟩;rw[← hp0] at la0 ga0;rw[← hp1] at la1 ga1;rw[← hp2] at la2 ga2;rw[← hp3] at la3 ga3;have wp0:IntKind.i64.wrap p0=p0:=Go.IntWalk.i64_in _ ⟨by omega,by omega⟩;have wp1:IntKind.i64.wrap p1=p1:=Go.IntWalk.i64_in _ ⟨by omega,by omega⟩;have wp2:IntKind.i64.wrap p2=p2:=Go.IntWalk.i64_in _ ⟨by omega,by omega⟩;have wp3:IntKind.i64.wrap p3=p3:=Go.IntWalk.i64_in _ ⟨by omega,by omega⟩;have ep0:a0*n=p0:=hp0.symm;have ep1:a1*n=p1:=hp1.symm;have ep2:a2*n=p2:=hp2.symm;have ep3:a3*n=p3:=hp3.symm;rw[← hp0,← hp1,← hp2,← hp3];clear hp0 hp1 hp2 hp3;have HB_0:=hid (Below.refl w.heap.size w);have XA_6:=hid (jAC w #[.int .i64 a0,.int .i64 a1,.int .i64 a2,.int .i64 a3] 68);have HB_6:Hid (Below w.heap.size w (w.alloc (.cells #[.int .i64 a0,.int .i64 a1,.int .i64 a2,.int .i64 a3] 68))):=HB_0.out.alloc HB_0.out.size (.cells #[.int .i64 a0,.int .i64 a1,.int .i64 a2,.int .i64 a3] 68);have leA:w.heap.size≤w.heap.size:=HB_0.out.size;clear HB_0;have XA_7:=hid (jAB XA_6.out (.cells #[.int .i64 0,.int .i64 0,.int .i64 0,.int .i64 0] 68));have XR_7:=hid (jAC (w.alloc (.cells #[.int .i64 a0,.int .i64 a1,.int .i64 a2,.int .i64 a3] 68)) #[.int .i64 0,.int .i64 0,.int .i64 0,.int .i64 0] 68);have HB_7:Hid (Below w.heap.size w ((w.alloc (.cells #[.int .i64 a0,.int .i64 a1,.int .i64 a2,.int .i64 a3] 68)).alloc (.cells #[.int .i64 0,.int .i64 0,.int .i64 0,.int .i64 0] 68))):=HB_6.out.alloc HB_6.out.size (.cells #[.int .i64 0,.int .i64 0,.int .i64 0,.int .i64 0] 68);have leR:w.heap.size≤(w.alloc (.cells #[.int .i64 a0,.int .i64 a1,.int .i64 a2,.int .i64 a3] 68)).heap.size:=HB_6.out.size;clear XA_6 HB_6;go_enter Tryz.func85,Tryz.ntmps85;go_wp2;obtain ⟨V,hV⟩:∃ V,V=((w.alloc (.cells #[.int .i64 a0,.int .i64 a1,.int .i64 a2,.int .i64 a3] 68)).alloc (.cells #[.int .i64 0,.int .i64 0,.int .i64 0,.int .i64 0] 68)):=⟨_,rfl⟩;rw[← hV] at XA_7 XR_7 HB_7 ⊢;clear hV;have hA:=XA_7;have hR:=XR_7;simp only[World.size_alloc] at hR
 go_loopg[6] 4 (fun gg ix wr=>∃ (k:Nat) (c0 c1 c2 c3:Int),gg=4 - k∧k≤4∧ix = .int .i64 k∧c0=(if 0<k then p0 else a0)∧c1=(if 1<k then p1 else a1)∧c2=(if 2<k then p2 else a2)∧c3=(if 3<k then p3 else a3)∧Hid (Bx wr w.heap.size #[.int .i64 c0,.int .i64 c1,.int .i64 c2,.int .i64 c3] 68)∧Hid (Bx wr (w.heap.size+1) #[.int .i64 0,.int .i64 0,.int .i64 0,.int .i64 0] 68)∧Hid (Below w.heap.size w wr))
 case atStart=>exact ⟨0,a0,a1,a2,a3,rfl,by omega,rfl,rfl,rfl,rfl,rfl,hA.out,hR.out,HB_7.out⟩
 case round=>
  clear hA hR HB_7;obtain ⟨k,c0,c1,c2,c3,hgk,hk,rfl,e0,e1,e2,e3,XA,XR,hB⟩:=hrel;(have hk5:k=0∨k=1∨k=2∨k=3∨k=4:=by omega);rcases hk5 with rfl | rfl | rfl | rfl | rfl
  ·rw[show c0=a0 from e0,show c1=a1 from e1,show c2=a2 from e2,show c3=a3 from e3] at XA;clear e0 e1 e2 e3 c0 c1 c2 c3;have ca:=XA.out.cell 0 _ rfl;have za:=XA.out.frozen 0;have la:=XA.out.lt;go_wp2;go_roundg (4 - (0+1));(case measure=>omega);case rel=>exact ⟨1,p0,a1,a2,a3,rfl,by omega,rfl,rfl,rfl,rfl,rfl,jAE XA.out 0 _,XR.out.other _ _ (by show w.heap.size≠w.heap.size+1;omega),hB.out.setCell (Nat.le_refl _) _⟩
  ·rw[show c0=p0 from e0,show c1=a1 from e1,show c2=a2 from e2,show c3=a3 from e3] at XA;clear e0 e1 e2 e3 c0 c1 c2 c3;have ca:=XA.out.cell 1 _ rfl;have za:=XA.out.frozen 1;have la:=XA.out.lt;go_wp2;go_roundg (4 - (1+1));(case measure=>omega);case rel=>exact ⟨2,p0,p1,a2,a3,rfl,by omega,rfl,rfl,rfl,rfl,rfl,jAE XA.out 1 _,XR.out.other _ _ (by show w.heap.size≠w.heap.size+1;omega),hB.out.setCell (Nat.le_refl _) _⟩
  ·rw[show c0=p0 from e0,show c1=p1 from e1,show c2=a2 from e2,show c3=a3 from e3] at XA;clear e0 e1 e2 e3 c0 c1 c2 c3;have ca:=XA.out.cell 2 _ rfl;have za:=XA.out.frozen 2;have la:=XA.out.lt;go_wp2;go_roundg (4 - (2+1));(case measure=>omega);case rel=>exact ⟨3,p0,p1,p2,a3,rfl,by omega,rfl,rfl,rfl,rfl,rfl,jAE XA.out 2 _,XR.out.other _ _ (by show w.heap.size≠w.heap.size+1;omega),hB.out.setCell (Nat.le_refl _) _⟩
  ·rw[show c0=p0 from e0,show c1=p1 from e1,show c2=p2 from e2,show c3=a3 from e3] at XA;clear e0 e1 e2 e3 c0 c1 c2 c3;have ca:=XA.out.cell 3 _ rfl;have za:=XA.out.frozen 3;have la:=XA.out.lt;go_wp2;go_roundg (4 - (3+1));(case measure=>omega);case rel=>exact ⟨4,p0,p1,p2,p3,rfl,by omega,rfl,rfl,rfl,rfl,rfl,jAE XA.out 3 _,XR.out.other _ _ (by show w.heap.size≠w.heap.size+1;omega),hB.out.setCell (Nat.le_refl _) _⟩
  ·rw[show c0=p0 from e0,show c1=p1 from e1,show c2=p2 from e2,show c3=p3 from e3] at XA;clear e0 e1 e2 e3 c0 c1 c2 c3;have x0:=XA.out.cell 0 _ rfl;have r0:=XR.out.cell 0 _ rfl;have q0:=XR.out.frozen 0;have x1:=XA.out.cell 1 _ rfl;have r1:=XR.out.cell 1 _ rfl;have q1:=XR.out.frozen 1;have x2:=XA.out.cell 2 _ rfl;have r2:=XR.out.cell 2 _ rfl;have q2:=XR.out.frozen 2;have x3:=XA.out.cell 3 _ rfl;have r3:=XR.out.cell 3 _ rfl;have q3:=XR.out.frozen 3;have la:=XA.out.lt;have lr:=XR.out.lt;have HRF:Hid (Bx ((((wr.setCell ⟨w.heap.size+1,0,none⟩ (.int .i64 p0)).setCell ⟨w.heap.size+1,1,none⟩ (.int .i64 p1)).setCell ⟨w.heap.size+1,2,none⟩ (.int .i64 p2)).setCell ⟨w.heap.size+1,3,none⟩ (.int .i64 p3)) (w.heap.size+1) #[(.int .i64 p0),(.int .i64 p1),(.int .i64 p2),(.int .i64 p3)] 68):=(jAE (jAE (jAE (jAE XR.out 0 (.int .i64 p0)) 1 (.int .i64 p1)) 2 (.int .i64 p2)) 3 (.int .i64 p3));have HBF:Hid (Below w.heap.size w ((((wr.setCell ⟨w.heap.size+1,0,none⟩ (.int .i64 p0)).setCell ⟨w.heap.size+1,1,none⟩ (.int .i64 p1)).setCell ⟨w.heap.size+1,2,none⟩ (.int .i64 p2)).setCell ⟨w.heap.size+1,3,none⟩ (.int .i64 p3))):=((((hB.out.setCell (p:=⟨w.heap.size+1,0,none⟩) (by show w.heap.size≤w.heap.size+1;omega) (.int .i64 p0)).setCell (p:=⟨w.heap.size+1,1,none⟩) (by show w.heap.size≤w.heap.size+1;omega) (.int .i64 p1)).setCell (p:=⟨w.heap.size+1,2,none⟩) (by show w.heap.size≤w.heap.size+1;omega) (.int .i64 p2)).setCell (p:=⟨w.heap.size+1,3,none⟩) (by show w.heap.size≤w.heap.size+1;omega) (.int .i64 p3));go_wp2;have y0:=HRF.out.cell 0 _ rfl;have y1:=HRF.out.cell 1 _ rfl;have y2:=HRF.out.cell 2 _ rfl;have y3:=HRF.out.cell 3 _ rfl;refine bodyPost_ret (v:=.agg #[(.int .i64 p0),(.int .i64 p1),(.int .i64 p2),(.int .i64 p3)]) (by simp[results,Tryz.results85,go_sem,y0,y1,y2,y3]) rfl ⟨rfl,HBF.out⟩
theorem jIH (a:Nat→Int) (n:Int) (ha:AOk (fun r=>a r*n)) (w:World) :
    Calls Tryz.prog 85 #[.agg (av a),.int .i64 n] w fun e w'=>e = .returned (.agg (av (fun r=>a r*n)))∧Below w.heap.size w w':=
  atimes4 (a 0) (a 1) (a 2) (a 3) n (ha 0 (by omega)) (ha 1 (by omega)) (ha 2 (by omega)) (ha 3 (by omega)) w
theorem asum4 (a0 a1 a2 a3:Int)(ha0:-1000000000000000≤a0∧a0≤1000000000000000)(ha1:-1000000000000000≤a1∧a1≤1000000000000000)(ha2:-1000000000000000≤a2∧a2≤1000000000000000)(ha3:-1000000000000000≤a3∧a3≤1000000000000000)(w:World):Calls Tryz.prog 137 #[.agg #[.int .i64 a0,.int .i64 a1,.int .i64 a2,.int .i64 a3]] w fun e w'=>e = .returned (.int .i64 ((((0+a0)+a1)+a2)+a3))∧Below w.heap.size w w':=by
 (have ix0:∀ w:World,(Instr.index 68 (.agg #[.int .i64 a0,.int .i64 a1,.int .i64 a2,.int .i64 a3]) (.int .i64 0)).run Tryz.prog w = .ok (.int .i64 a0) w:=fun _=>by kernel_rfl);(have ix1:∀ w:World,(Instr.index 68 (.agg #[.int .i64 a0,.int .i64 a1,.int .i64 a2,.int .i64 a3]) (.int .i64 1)).run Tryz.prog w = .ok (.int .i64 a1) w:=fun _=>by kernel_rfl);(have ix2:∀ w:World,(Instr.index 68 (.agg #[.int .i64 a0,.int .i64 a1,.int .i64 a2,.int .i64 a3]) (.int .i64 2)).run Tryz.prog w = .ok (.int .i64 a2) w:=fun _=>by kernel_rfl);(have ix3:∀ w:World,(Instr.index 68 (.agg #[.int .i64 a0,.int .i64 a1,.int .i64 a2,.int .i64 a3]) (.int .i64 3)).run Tryz.prog w = .ok (.int .i64 a3) w:=fun _=>by kernel_rfl);obtain ⟨la0,ga0⟩:=ha0;obtain ⟨la1,ga1⟩:=ha1;obtain ⟨la2,ga2⟩:=ha2;obtain ⟨la3,ga3⟩:=ha3;have wp0:IntKind.i64.wrap (0+a0)=(0+a0):=Go.IntWalk.i64_in _ ⟨by omega,by omega⟩;have wp1:IntKind.i64.wrap ((0+a0)+a1)=((0+a0)+a1):=Go.IntWalk.i64_in _ ⟨by omega,by omega⟩;have wp2:IntKind.i64.wrap (((0+a0)+a1)+a2)=(((0+a0)+a1)+a2):=Go.IntWalk.i64_in _ ⟨by omega,by omega⟩;have wp3:IntKind.i64.wrap ((((0+a0)+a1)+a2)+a3)=((((0+a0)+a1)+a2)+a3):=Go.IntWalk.i64_in _ ⟨by omega,by omega⟩;have HB_0:=hid (Below.refl w.heap.size w);have XA_6:=hid (jAC w #[.int .i64 a0,.int .i64 a1,.int .i64 a2,.int .i64 a3] 68);have HB_6:Hid (Below w.heap.size w (w.alloc (.cells #[.int .i64 a0,.int .i64 a1,.int .i64 a2,.int .i64 a3] 68))):=HB_0.out.alloc HB_0.out.size (.cells #[.int .i64 a0,.int .i64 a1,.int .i64 a2,.int .i64 a3] 68);have leA:w.heap.size≤w.heap.size:=HB_0.out.size;clear HB_0;go_enter Tryz.func137,Tryz.ntmps137;go_wp2;obtain ⟨V,hV⟩:∃ V,V=(w.alloc (.cells #[.int .i64 a0,.int .i64 a1,.int .i64 a2,.int .i64 a3] 68)):=⟨_,rfl⟩;rw[← hV] at XA_6 HB_6 ⊢;clear hV
 go_loopg[3,7] 4 (fun gg s3 ix wr=>∃ (k:Nat) (c:Int),gg=4 - k∧k≤4∧ix = .int .i64 k∧s3 = .int .i64 c∧c=(if k=0 then 0 else if k=1 then (0+a0) else if k=2 then ((0+a0)+a1) else if k=3 then (((0+a0)+a1)+a2) else ((((0+a0)+a1)+a2)+a3))∧wr=V)
 case atStart=>exact ⟨0,0,rfl,by omega,rfl,rfl,rfl,rfl⟩
 case round=>
  obtain ⟨k,c,hgk,hk,rfl,rfl,ec,rfl⟩:=hrel;(have hk5:k=0∨k=1∨k=2∨k=3∨k=4:=by omega);rcases hk5 with rfl | rfl | rfl | rfl | rfl
  ·obtain rfl:c=0:=ec;go_wp2;go_roundg (4 - (0+1));(case measure=>omega);case rel=>exact ⟨1,(0+a0),rfl,by omega,rfl,by first | rfl | simp,rfl,rfl⟩
  ·obtain rfl:c=(0+a0):=ec;go_wp2;go_roundg (4 - (1+1));(case measure=>omega);case rel=>exact ⟨2,((0+a0)+a1),rfl,by omega,rfl,by first | rfl | simp,rfl,rfl⟩
  ·obtain rfl:c=((0+a0)+a1):=ec;go_wp2;go_roundg (4 - (2+1));(case measure=>omega);case rel=>exact ⟨3,(((0+a0)+a1)+a2),rfl,by omega,rfl,by first | rfl | simp,rfl,rfl⟩
  ·obtain rfl:c=(((0+a0)+a1)+a2):=ec;go_wp2;go_roundg (4 - (3+1));(case measure=>omega);case rel=>exact ⟨4,((((0+a0)+a1)+a2)+a3),rfl,by omega,rfl,by first | rfl | simp,rfl,rfl⟩
  ·obtain rfl:c=((((0+a0)+a1)+a2)+a3):=ec;go_wp2;go_ret;exact ⟨rfl,HB_6.out⟩
theorem jJ4 (a:Nat→Int) (ha:AOk a) (w:World) :
    Calls Tryz.prog 137 #[.agg (av a)] w fun e w'=>e = .returned (.int .i64 (sumI a 4))∧Below w.heap.size w w':=
  asum4 (a 0) (a 1) (a 2) (a 3) (ha 0 (by omega)) (ha 1 (by omega)) (ha 2 (by omega)) (ha 3 (by omega)) w
theorem abears4 (a0 a1 a2 a3 b0 b1 b2 b3:Int)(w:World):Calls Tryz.prog 136 #[.agg #[.int .i64 a0,.int .i64 a1,.int .i64 a2,.int .i64 a3],.agg #[.int .i64 b0,.int .i64 b1,.int .i64 b2,.int .i64 b3]] w fun e w'=>e = .returned (.bool (decide (b0≤a0∧b1≤a1∧b2≤a2∧b3≤a3)))∧Below w.heap.size w w':=by
 (have ix0:∀ w:World,(Instr.index 68 (.agg #[.int .i64 b0,.int .i64 b1,.int .i64 b2,.int .i64 b3]) (.int .i64 0)).run Tryz.prog w = .ok (.int .i64 b0) w:=fun _=>by kernel_rfl);(have ix1:∀ w:World,(Instr.index 68 (.agg #[.int .i64 b0,.int .i64 b1,.int .i64 b2,.int .i64 b3]) (.int .i64 1)).run Tryz.prog w = .ok (.int .i64 b1) w:=fun _=>by kernel_rfl);(have ix2:∀ w:World,(Instr.index 68 (.agg #[.int .i64 b0,.int .i64 b1,.int .i64 b2,.int .i64 b3]) (.int .i64 2)).run Tryz.prog w = .ok (.int .i64 b2) w:=fun _=>by kernel_rfl);(have ix3:∀ w:World,(Instr.index 68 (.agg #[.int .i64 b0,.int .i64 b1,.int .i64 b2,.int .i64 b3]) (.int .i64 3)).run Tryz.prog w = .ok (.int .i64 b3) w:=fun _=>by kernel_rfl);have HB_0:=hid (Below.refl w.heap.size w);have XA_6:=hid (jAC w #[.int .i64 a0,.int .i64 a1,.int .i64 a2,.int .i64 a3] 68);have HB_6:Hid (Below w.heap.size w (w.alloc (.cells #[.int .i64 a0,.int .i64 a1,.int .i64 a2,.int .i64 a3] 68))):=HB_0.out.alloc HB_0.out.size (.cells #[.int .i64 a0,.int .i64 a1,.int .i64 a2,.int .i64 a3] 68);have leA:w.heap.size≤w.heap.size:=HB_0.out.size;clear HB_0;have XA_7:=hid (jAB XA_6.out (.cells #[.int .i64 b0,.int .i64 b1,.int .i64 b2,.int .i64 b3] 68));have XB_7:=hid (jAC (w.alloc (.cells #[.int .i64 a0,.int .i64 a1,.int .i64 a2,.int .i64 a3] 68)) #[.int .i64 b0,.int .i64 b1,.int .i64 b2,.int .i64 b3] 68);have HB_7:Hid (Below w.heap.size w ((w.alloc (.cells #[.int .i64 a0,.int .i64 a1,.int .i64 a2,.int .i64 a3] 68)).alloc (.cells #[.int .i64 b0,.int .i64 b1,.int .i64 b2,.int .i64 b3] 68))):=HB_6.out.alloc HB_6.out.size (.cells #[.int .i64 b0,.int .i64 b1,.int .i64 b2,.int .i64 b3] 68);have leB:w.heap.size≤(w.alloc (.cells #[.int .i64 a0,.int .i64 a1,.int .i64 a2,.int .i64 a3] 68)).heap.size:=HB_6.out.size;clear XA_6 HB_6;go_enter Tryz.func136,Tryz.ntmps136;go_wp2;obtain ⟨V,hV⟩:∃ V,V=((w.alloc (.cells #[.int .i64 a0,.int .i64 a1,.int .i64 a2,.int .i64 a3] 68)).alloc (.cells #[.int .i64 b0,.int .i64 b1,.int .i64 b2,.int .i64 b3] 68)):=⟨_,rfl⟩;rw[← hV] at XA_7 XB_7 HB_7 ⊢;clear hV;have ca0:=XA_7.out.cell 0 _ rfl;have ca1:=XA_7.out.cell 1 _ rfl;have ca2:=XA_7.out.cell 2 _ rfl;have ca3:=XA_7.out.cell 3 _ rfl;have la:=XA_7.out.lt
 go_loopg[8] 4 (fun gg ix wr=>∃ (k:Nat),gg=4 - k∧k≤4∧ix = .int .i64 k∧Hid (0<k→b0≤a0)∧Hid (1<k→b1≤a1)∧Hid (2<k→b2≤a2)∧Hid (3<k→b3≤a3)∧wr=V)
 case atStart=>exact ⟨0,rfl,by omega,rfl,fun h=>by omega,fun h=>by omega,fun h=>by omega,fun h=>by omega,rfl⟩
 case round=>
  obtain ⟨k,hgk,hk,rfl,e0,e1,e2,e3,rfl⟩:=hrel;(have hk5:k=0∨k=1∨k=2∨k=3∨k=4:=by omega);rcases hk5 with rfl | rfl | rfl | rfl | rfl
  ·by_cases hc:b0≤a0
   ·(have hc2:¬ a0<b0:=by omega);have HC:=hid hc;clear hc;go_wp2;go_roundg (4 - (0+1));(case measure=>omega);case rel=>exact ⟨1,rfl,by omega,rfl,fun h=>HC.out,fun h=>by omega,fun h=>by omega,fun h=>by omega,rfl⟩
   ·(have hc2:a0<b0:=by omega);have HF:Hid (decide (b0≤a0∧b1≤a1∧b2≤a2∧b3≤a3)=false):=decide_eq_false (fun h=>hc (by omega));clear hc;go_wp2;go_ret;exact ⟨by rw[HF.out];rfl,HB_7.out⟩
  ·by_cases hc:b1≤a1
   ·(have hc2:¬ a1<b1:=by omega);have HC:=hid hc;clear hc;go_wp2;go_roundg (4 - (1+1));(case measure=>omega);case rel=>exact ⟨2,rfl,by omega,rfl,fun h=>e0.out (by omega),fun h=>HC.out,fun h=>by omega,fun h=>by omega,rfl⟩
   ·(have hc2:a1<b1:=by omega);have HF:Hid (decide (b0≤a0∧b1≤a1∧b2≤a2∧b3≤a3)=false):=decide_eq_false (fun h=>hc (by omega));clear hc;go_wp2;go_ret;exact ⟨by rw[HF.out];rfl,HB_7.out⟩
  ·by_cases hc:b2≤a2
   ·(have hc2:¬ a2<b2:=by omega);have HC:=hid hc;clear hc;go_wp2;go_roundg (4 - (2+1));(case measure=>omega);case rel=>exact ⟨3,rfl,by omega,rfl,fun h=>e0.out (by omega),fun h=>e1.out (by omega),fun h=>HC.out,fun h=>by omega,rfl⟩
   ·(have hc2:a2<b2:=by omega);have HF:Hid (decide (b0≤a0∧b1≤a1∧b2≤a2∧b3≤a3)=false):=decide_eq_false (fun h=>hc (by omega));clear hc;go_wp2;go_ret;exact ⟨by rw[HF.out];rfl,HB_7.out⟩
  ·by_cases hc:b3≤a3
   ·(have hc2:¬ a3<b3:=by omega);have HC:=hid hc;clear hc;go_wp2;go_roundg (4 - (3+1));(case measure=>omega);case rel=>exact ⟨4,rfl,by omega,rfl,fun h=>e0.out (by omega),fun h=>e1.out (by omega),fun h=>e2.out (by omega),fun h=>HC.out,rfl⟩
   ·(have hc2:a3<b3:=by omega);have HF:Hid (decide (b0≤a0∧b1≤a1∧b2≤a2∧b3≤a3)=false):=decide_eq_false (fun h=>hc (by omega));clear hc;go_wp2;go_ret;exact ⟨by rw[HF.out];rfl,HB_7.out⟩
  ·have HF:Hid (decide (b0≤a0∧b1≤a1∧b2≤a2∧b3≤a3)=true):=decide_eq_true ⟨e0.out (by omega),e1.out (by omega),e2.out (by omega),e3.out (by omega)⟩;go_wp2;go_ret;exact ⟨by rw[HF.out];rfl,HB_7.out⟩
theorem jGR (a b:Nat→Int):decide (b 0≤a 0∧b 1≤a 1∧b 2≤a 2∧b 3≤a 3)=bearsB a b 4:=by
 rw[Bool.eq_iff_iff,decide_eq_true_eq,jA8];constructor
 ·rintro ⟨h0,h1,h2,h3⟩ r hr;(have:r=0∨r=1∨r=2∨r=3:=by omega);rcases this with rfl | rfl | rfl | rfl <;> assumption
 ·exact fun h=>⟨h 0 (by omega),h 1 (by omega),h 2 (by omega),h 3 (by omega)⟩
theorem jDU (a b:Nat→Int)(w:World):Calls Tryz.prog 136 #[.agg (av a),.agg (av b)] w fun e w'=>e = .returned (.bool (bearsB a b 4))∧Below w.heap.size w w':=by
 rw[← jGR];exact abears4 (a 0) (a 1) (a 2) (a 3) (b 0) (b 1) (b 2) (b 3) w
def FBk (w:World)(b:Nat)(M:Nat→Value):Prop:=w.heap[b]? = some (.cells (Array.ofFn (n:=180) fun i=>M i.val) 77 (0,0))
theorem FBk.lt {w:World}{b:Nat}{M:Nat→Value}(h:FBk w b M):b<w.heap.size:=(Array.getElem?_eq_some_iff.1 h).1
theorem FBk.cell {w:World}{b:Nat}{M:Nat→Value}(h:FBk w b M){o:Nat}(ho:o<180):w.cell? ⟨b,o,none⟩=some (M o):=by
 rw[cell_of_row w b o _ _ _ h,Array.getElem?_ofFn,dif_pos ho]
theorem FBk.frozen {w:World}{b:Nat}{M:Nat→Value}(h:FBk w b M)(o:Nat):w.frozen? ⟨b,o,none⟩=false:=frozen_of_row w b o _ _ h
theorem FBk.below {w w':World}{b:Nat}{M:Nat→Value}(h:FBk w b M){B:Nat}(hb:Below B w w')(hB:b<B):FBk w' b M:=(hb.block b hB).trans h
def updV (M:Nat→Value)(o:Nat)(v:Value):Nat→Value:=fun j=>if j=o then v else M j
theorem jA4 (M:Nat→Value)(o:Nat)(v:Value):updV M o v o=v:=if_pos rfl
theorem jAA (M:Nat→Value){o j:Nat}(v:Value)(h:j≠o):updV M o v j=M j:=if_neg h
theorem jHW (n:Nat)(M:Nat→Value)(o:Nat)(v:Value):(Array.ofFn (n:=n) fun i=>M i.val).setIfInBounds o v=Array.ofFn (n:=n) fun i=>updV M o v i.val:=by
 apply Array.ext
 ·simp
 ·intro i h1 h2;simp only[Array.size_setIfInBounds,Array.size_ofFn] at h1;rw[Array.getElem_setIfInBounds (by simpa using h1)];simp only[Array.getElem_ofFn,updV];by_cases e:o=i
  ·subst e;simp
  ·rw[if_neg e,if_neg (fun h=>e h.symm)]
theorem FBk.set {w:World}{b:Nat}{M:Nat→Value}(h:FBk w b M)(o:Nat)(v:Value):FBk (w.setCell ⟨b,o,none⟩ v) b (updV M o v):=by
 have h9:=heap_setCell_same w b o _ _ v h;rw[jHW] at h9;exact h9
structure Flt where
  k:Nat
  mg:Nat
  ug:Nat
  mt:Nat→Bool
  ms:Nat→Nat→Int
  ut:Nat→Bool
  ud:Nat→Nat→Int
  uw:Nat→Int
  uc:Nat→Int
  m:FM
  due:Nat→ByteArray
  used:Nat→Nat→Int
  ck:Int
  idle:Nat→Int
structure Enc (M:Nat→Value)(F:Flt):Prop where
  k:M 0 = .int .i64 F.k
  mg:M 1 = .int .i64 F.mg
  ug:M 2 = .int .i64 F.ug
  mt:∀ i,i<8→M (3+i*5) = .bool (F.mt i)
  ms:∀ i,i<8→∀ r,r<4→M (3+i*5+1+r) = .int .i64 (F.ms i r)
  ut:∀ u,u<6→M (43+u*22) = .bool (F.ut u)
  ud:∀ u,u<6→∀ r,r<4→M (43+u*22+1+r) = .int .i64 (F.ud u r)
  uw:∀ u,u<6→M (43+u*22+5) = .int .i64 (F.uw u)
  uc:∀ u,u<6→M (43+u*22+6) = .int .i64 (F.uc u)
  wait:∀ u,u<6→M (43+u*22+7) = .int .i64 (F.m.wait u)
  on:∀ u,u<6→∀ m,m<8→M (43+u*22+8+m) = .int .i64 (F.m.on u m)
  due:∀ u,u<6→M (43+u*22+16) = .string (F.due u)
  rev:∀ u,u<6→M (43+u*22+17) = .int .i64 (F.m.rev u)
  used:∀ u,u<6→∀ r,r<4→M (43+u*22+18+r) = .int .i64 (F.used u r)
  ck:M 175 = .int .i64 F.ck
  idle:∀ r,r<4→M (176+r) = .int .i64 (F.idle r)
def FL (w:World)(b:Nat)(F:Flt):Prop:=∃ M,FBk w b M∧Enc M F
theorem FL.lt {w:World}{b:Nat}{F:Flt}(h:FL w b F):b<w.heap.size:=by obtain ⟨M,h1,_⟩:=h;exact h1.lt
theorem FL.below {w w':World}{b:Nat}{F:Flt}(h:FL w b F)(hb:Below w.heap.size w w'):FL w' b F:=by
 obtain ⟨M,h1,h2⟩:=h;exact ⟨M,h1.below hb h1.lt,h2⟩
theorem Enc.setWait {M:Nat→Value}{F:Flt}(h:Enc M F){u:Nat}(hu:u<6)(x:Int):Enc (updV M (43+u*22+7) (.int .i64 x)) { F with m:={ F.m with wait:=updI F.m.wait u x } }:=by
 refine ⟨?_,?_,?_,fun i hi=>?_,fun i hi r hr=>?_,fun v hv=>?_,fun v hv r hr=>?_,fun v hv=>?_,fun v hv=>?_,fun v hv=>?_,fun v hv m hm=>?_,fun v hv=>?_,fun v hv=>?_,fun v hv r hr=>?_,?_,fun r hr=>?_⟩
 ·rw[jAA _ _ (by omega)];exact h.k
 ·rw[jAA _ _ (by omega)];exact h.mg
 ·rw[jAA _ _ (by omega)];exact h.ug
 ·rw[jAA _ _ (by omega)];exact h.mt i hi
 ·rw[jAA _ _ (by omega)];exact h.ms i hi r hr
 ·rw[jAA _ _ (by omega)];exact h.ut v hv
 ·rw[jAA _ _ (by omega)];exact h.ud v hv r hr
 ·rw[jAA _ _ (by omega)];exact h.uw v hv
 ·rw[jAA _ _ (by omega)];exact h.uc v hv
 ·by_cases e:v=u
  ·subst e;rw[jA4];show _=Value.int .i64 (updI F.m.wait v x v);rw[jAS]
  ·rw[jAA _ _ (by omega)];show _=Value.int .i64 (updI F.m.wait u x v);rw[jAK _ _ e];exact h.wait v hv
 ·rw[jAA _ _ (by omega)];exact h.on v hv m hm
 ·rw[jAA _ _ (by omega)];exact h.due v hv
 ·rw[jAA _ _ (by omega)];exact h.rev v hv
 ·rw[jAA _ _ (by omega)];exact h.used v hv r hr
 ·rw[jAA _ _ (by omega)];exact h.ck
 ·rw[jAA _ _ (by omega)];exact h.idle r hr
theorem Enc.setOn {M:Nat→Value}{F:Flt}(h:Enc M F){u m:Nat}(hu:u<6)(hm:m<8)(x:Int):Enc (updV M (43+u*22+8+m) (.int .i64 x)) { F with m:={ F.m with on:=upd2 F.m.on u m x } }:=by
 refine ⟨?_,?_,?_,fun i hi=>?_,fun i hi r hr=>?_,fun v hv=>?_,fun v hv r hr=>?_,fun v hv=>?_,fun v hv=>?_,fun v hv=>?_,fun v hv l hl=>?_,fun v hv=>?_,fun v hv=>?_,fun v hv r hr=>?_,?_,fun r hr=>?_⟩
 ·rw[jAA _ _ (by omega)];exact h.k
 ·rw[jAA _ _ (by omega)];exact h.mg
 ·rw[jAA _ _ (by omega)];exact h.ug
 ·rw[jAA _ _ (by omega)];exact h.mt i hi
 ·rw[jAA _ _ (by omega)];exact h.ms i hi r hr
 ·rw[jAA _ _ (by omega)];exact h.ut v hv
 ·rw[jAA _ _ (by omega)];exact h.ud v hv r hr
 ·rw[jAA _ _ (by omega)];exact h.uw v hv
 ·rw[jAA _ _ (by omega)];exact h.uc v hv
 ·rw[jAA _ _ (by omega)];exact h.wait v hv
 ·show _=Value.int .i64 (upd2 F.m.on u m x v l);by_cases e:v=u∧l=m
  ·obtain ⟨rfl,rfl⟩:=e;rw[jA4,jDB]
  ·rw[jAA _ _ (by omega),jEQ _ _ e];exact h.on v hv l hl
 ·rw[jAA _ _ (by omega)];exact h.due v hv
 ·rw[jAA _ _ (by omega)];exact h.rev v hv
 ·rw[jAA _ _ (by omega)];exact h.used v hv r hr
 ·rw[jAA _ _ (by omega)];exact h.ck
 ·rw[jAA _ _ (by omega)];exact h.idle r hr
theorem Enc.setRev {M:Nat→Value}{F:Flt}(h:Enc M F){u:Nat}(hu:u<6)(x:Int):Enc (updV M (43+u*22+17) (.int .i64 x)) { F with m:={ F.m with rev:=updI F.m.rev u x } }:=by
 refine ⟨?_,?_,?_,fun i hi=>?_,fun i hi r hr=>?_,fun v hv=>?_,fun v hv r hr=>?_,fun v hv=>?_,fun v hv=>?_,fun v hv=>?_,fun v hv m hm=>?_,fun v hv=>?_,fun v hv=>?_,fun v hv r hr=>?_,?_,fun r hr=>?_⟩
 ·rw[jAA _ _ (by omega)];exact h.k
 ·rw[jAA _ _ (by omega)];exact h.mg
 ·rw[jAA _ _ (by omega)];exact h.ug
 ·rw[jAA _ _ (by omega)];exact h.mt i hi
 ·rw[jAA _ _ (by omega)];exact h.ms i hi r hr
 ·rw[jAA _ _ (by omega)];exact h.ut v hv
 ·rw[jAA _ _ (by omega)];exact h.ud v hv r hr
 ·rw[jAA _ _ (by omega)];exact h.uw v hv
 ·rw[jAA _ _ (by omega)];exact h.uc v hv
 ·rw[jAA _ _ (by omega)];exact h.wait v hv
 ·rw[jAA _ _ (by omega)];exact h.on v hv m hm
 ·rw[jAA _ _ (by omega)];exact h.due v hv
 ·by_cases e:v=u
  ·subst e;rw[jA4];show _=Value.int .i64 (updI F.m.rev v x v);rw[jAS]
  ·rw[jAA _ _ (by omega)];show _=Value.int .i64 (updI F.m.rev u x v);rw[jAK _ _ e];exact h.rev v hv
 ·rw[jAA _ _ (by omega)];exact h.used v hv r hr
 ·rw[jAA _ _ (by omega)];exact h.ck
 ·rw[jAA _ _ (by omega)];exact h.idle r hr
def getV (c:Bool)(v z:Value):Value:=if c then .tuple #[v,.int .i64 0] else .tuple #[z,.int .i64 7]
def hasU (F:Flt)(x:Int):Bool:=decide (0≤x) && decide (x<6) && F.ut x.toNat
def hasM (F:Flt)(x:Int):Bool:=decide (0≤x) && decide (x<8) && F.mt x.toNat
def hadU (F:Flt)(x:Int):Bool:=decide (0≤x) && decide (x<F.ug)
def hasK (F:Flt)(x:Int):Bool:=decide (0≤x) && decide (x<F.k)
theorem jA6 {F:Flt}{x:Int}(h:hasU F x=true):∃ u:Nat,x=u∧u<6∧F.ut u=true:=by
 unfold hasU at h;simp only[Bool.and_eq_true,decide_eq_true_eq] at h;exact ⟨x.toNat,by omega,by omega,h.2⟩
theorem jC9 {F:Flt}{x:Int}(h:hasM F x=true):∃ u:Nat,x=u∧u<8∧F.mt u=true:=by
 unfold hasM at h;simp only[Bool.and_eq_true,decide_eq_true_eq] at h;exact ⟨x.toNat,by omega,by omega,h.2⟩
theorem jHL {F:Flt}{x:Int}(h:hadU F x=true):∃ u:Nat,x=u∧u<F.ug:=by
 unfold hadU at h;simp only[Bool.and_eq_true,decide_eq_true_eq] at h;exact ⟨x.toNat,by omega,by omega⟩
theorem jHK {F:Flt}{x:Int}(h:hasK F x=true):∃ u:Nat,x=u∧u<F.k:=by
 unfold hasK at h;simp only[Bool.and_eq_true,decide_eq_true_eq] at h;exact ⟨x.toNat,by omega,by omega⟩
theorem jAv (b:Nat)(F:Flt)(x:Int)(w:World)(hf:FL w b F):Calls Tryz.prog 54 #[.pointer (some ⟨b,0,none⟩),.int .i64 x] w fun e w'=>e = .returned (.bool (hasU F x))∧w'=w:=by
 obtain ⟨M,hF,hE⟩:=hf;have lb:=hF.lt;have HE:=hid hE;have HF:=hid hF;clear hE hF;go_enter Tryz.func54,Tryz.ntmps54;by_cases h0:x<0
 ·(have HR:Hid (hasU F x=false):=by unfold Hid hasU;rw[decide_eq_false (by omega:¬ 0≤x)];rfl);have d0:decide ((0:Int)≤x)=false:=decide_eq_false (by omega);(have d1:¬ (0:Int)≤x:=by omega);go_wp2;go_ret;exact ⟨by rw[HR.out];rfl,rfl⟩
 ·obtain ⟨u,rfl⟩:∃ u:Nat,x=(u:Int):=⟨x.toNat,by omega⟩;by_cases h1:u<6
  ·(have h2:(u:Int)<6:=by omega);(have HR:Hid (hasU F (u:Int)=F.ut u):=by unfold Hid hasU;rw[decide_eq_true (by omega:(0:Int)≤u),decide_eq_true h2];simp);have c0:=HF.out.cell (o:=43+u*22) (by omega);rw[HE.out.ut u h1] at c0;go_wp2;go_ret;exact ⟨by rw[HR.out];rfl,rfl⟩
  ·(have h2:¬ (u:Int)<6:=by omega);have d2:decide ((u:Int)<6)=false:=decide_eq_false h2;(have HR:Hid (hasU F (u:Int)=false):=by unfold Hid hasU;rw[d2];simp);go_wp2;go_ret;exact ⟨by rw[HR.out];rfl,rfl⟩
theorem jBx (b:Nat)(F:Flt)(x:Int)(w:World)(hf:FL w b F):Calls Tryz.prog 55 #[.pointer (some ⟨b,0,none⟩),.int .i64 x] w fun e w'=>e = .returned (.bool (hasM F x))∧w'=w:=by
 obtain ⟨M,hF,hE⟩:=hf;have lb:=hF.lt;have HE:=hid hE;have HF:=hid hF;clear hE hF;go_enter Tryz.func55,Tryz.ntmps55;by_cases h0:x<0
 ·(have HR:Hid (hasM F x=false):=by unfold Hid hasM;rw[decide_eq_false (by omega:¬ 0≤x)];rfl);have d0:decide ((0:Int)≤x)=false:=decide_eq_false (by omega);(have d1:¬ (0:Int)≤x:=by omega);go_wp2;go_ret;exact ⟨by rw[HR.out];rfl,rfl⟩
 ·obtain ⟨u,rfl⟩:∃ u:Nat,x=(u:Int):=⟨x.toNat,by omega⟩;by_cases h1:u<8
  ·(have h2:(u:Int)<8:=by omega);(have HR:Hid (hasM F (u:Int)=F.mt u):=by unfold Hid hasM;rw[decide_eq_true (by omega:(0:Int)≤u),decide_eq_true h2];simp);have c0:=HF.out.cell (o:=3+u*5) (by omega);rw[HE.out.mt u h1] at c0;go_wp2;go_ret;exact ⟨by rw[HR.out];rfl,rfl⟩
  ·(have h2:¬ (u:Int)<8:=by omega);have d2:decide ((u:Int)<8)=false:=decide_eq_false h2;(have HR:Hid (hasM F (u:Int)=false):=by unfold Hid hasM;rw[d2];simp);go_wp2;go_ret;exact ⟨by rw[HR.out];rfl,rfl⟩
theorem jED (b:Nat)(F:Flt)(x:Int)(w:World)(hf:FL w b F):Calls Tryz.prog 56 #[.pointer (some ⟨b,0,none⟩),.int .i64 x] w fun e w'=>e = .returned (.bool (hadU F x))∧w'=w:=by
 obtain ⟨M,hF,hE⟩:=hf;have lb:=hF.lt;have c0:=hF.cell (o:=2) (by omega);rw[hE.ug] at c0;clear hE hF;go_enter Tryz.func56,Tryz.ntmps56;by_cases h0:x<0
 ·(have HR:Hid (hadU F x=false):=by unfold Hid hadU;rw[decide_eq_false (by omega:¬ 0≤x)];rfl);have d0:decide ((0:Int)≤x)=false:=decide_eq_false (by omega);(have d1:¬ (0:Int)≤x:=by omega);go_wp2;go_ret;exact ⟨by rw[HR.out];rfl,rfl⟩
 ·(have h00:(0:Int)≤x:=by omega);(have HR:Hid (hadU F x=decide (x<F.ug)):=by unfold Hid hadU;rw[decide_eq_true h00];rfl);go_wp2;go_ret;exact ⟨by rw[HR.out];rfl,rfl⟩
theorem jEK (b:Nat)(F:Flt)(x:Int)(w:World)(hf:FL w b F):Calls Tryz.prog 57 #[.pointer (some ⟨b,0,none⟩),.int .i64 x] w fun e w'=>e = .returned (.bool (hasK F x))∧w'=w:=by
 obtain ⟨M,hF,hE⟩:=hf;have lb:=hF.lt;have c0:=hF.cell (o:=0) (by omega);rw[hE.k] at c0;clear hE hF;go_enter Tryz.func57,Tryz.ntmps57;by_cases h0:x<0
 ·(have HR:Hid (hasK F x=false):=by unfold Hid hasK;rw[decide_eq_false (by omega:¬ 0≤x)];rfl);have d0:decide ((0:Int)≤x)=false:=decide_eq_false (by omega);(have d1:¬ (0:Int)≤x:=by omega);go_wp2;go_ret;exact ⟨by rw[HR.out];rfl,rfl⟩
 ·(have h00:(0:Int)≤x:=by omega);(have HR:Hid (hasK F x=decide (x<F.k)):=by unfold Hid hasK;rw[decide_eq_true h00];rfl);go_wp2;go_ret;exact ⟨by rw[HR.out];rfl,rfl⟩
theorem Running_any (b:Nat)(F:Flt)(x y:Int)(w:World)(hf:FL w b F):Calls Tryz.prog 19 #[.pointer (some ⟨b,0,none⟩),.int .i64 x,.int .i64 y] w fun e w'=>e = .returned (getV (hasU F x && hasM F y) (.int .i64 (F.m.on x.toNat y.toNat)) (.int .i64 0))∧w'=w:=by
 have HF:=hid hf;clear hf;go_enter Tryz.func19,Tryz.ntmps19;go_wp2_with fail;refine (jAv b F x _ HF.out).mono ?_;rintro e1 w1 ⟨rfl,rfl⟩;by_cases hhasU:hasU F x=true
 ·have HhasU:=hid hhasU;rw[hhasU];obtain ⟨u,rfl,ult,_⟩:=jA6 hhasU;clear hhasU;(have ui:(u:Int)<6:=by omega);go_wp2_with fail;refine (jBx b F y _ HF.out).mono ?_;rintro e1 w1 ⟨rfl,rfl⟩;by_cases hhasM:hasM F y=true
  ·have HhasM:=hid hhasM;rw[hhasM];obtain ⟨m,rfl,mlt,_⟩:=jC9 hhasM;clear hhasM;(have mi:(m:Int)<8:=by omega);obtain ⟨M,hF,hE⟩:=HF.out;have lb:=hF.lt;have c0:=hF.cell (o:=43+u*22+8+m) (by omega);rw[hE.on u ult m mlt] at c0;clear hE hF;go_wp2;go_ret2;exact ⟨by rw[HhasU.out,HhasM.out];rfl,rfl⟩
  ·(have h9:hasM F y=false:=by simpa using hhasM);have HhasM:=hid h9;rw[h9];clear hhasM h9;go_wp2;go_ret2;exact ⟨by rw[HhasU.out,HhasM.out];rfl,rfl⟩
 ·(have h9:hasU F x=false:=by simpa using hhasU);have HhasU:=hid h9;rw[h9];clear hhasU h9;go_wp2;go_ret2;exact ⟨by rw[HhasU.out];rfl,rfl⟩
theorem Waiting_any (b:Nat)(F:Flt)(x:Int)(w:World)(hf:FL w b F):Calls Tryz.prog 21 #[.pointer (some ⟨b,0,none⟩),.int .i64 x] w fun e w'=>e = .returned (getV (hasU F x) (.int .i64 (F.m.wait x.toNat)) (.int .i64 0))∧w'=w:=by
 have HF:=hid hf;clear hf;go_enter Tryz.func21,Tryz.ntmps21;go_wp2_with fail;refine (jAv b F x _ HF.out).mono ?_;rintro e1 w1 ⟨rfl,rfl⟩;by_cases hhasU:hasU F x=true
 ·have HhasU:=hid hhasU;rw[hhasU];obtain ⟨u,rfl,ult,_⟩:=jA6 hhasU;clear hhasU;(have ui:(u:Int)<6:=by omega);obtain ⟨M,hF,hE⟩:=HF.out;have lb:=hF.lt;have c0:=hF.cell (o:=43+u*22+7) (by omega);rw[hE.wait u ult] at c0;clear hE hF;go_wp2;go_ret2;exact ⟨by rw[HhasU.out];rfl,rfl⟩
 ·(have h9:hasU F x=false:=by simpa using hhasU);have HhasU:=hid h9;rw[h9];clear hhasU h9;go_wp2;go_ret2;exact ⟨by rw[HhasU.out];rfl,rfl⟩
theorem Due_any (b:Nat)(F:Flt)(x:Int)(w:World)(hf:FL w b F):Calls Tryz.prog 22 #[.pointer (some ⟨b,0,none⟩),.int .i64 x] w fun e w'=>e = .returned (getV (hasU F x) (.string (F.due x.toNat)) (.string ⟨#[]⟩))∧w'=w:=by
 have HF:=hid hf;clear hf;go_enter Tryz.func22,Tryz.ntmps22;go_wp2_with fail;refine (jAv b F x _ HF.out).mono ?_;rintro e1 w1 ⟨rfl,rfl⟩;by_cases hhasU:hasU F x=true
 ·have HhasU:=hid hhasU;rw[hhasU];obtain ⟨u,rfl,ult,_⟩:=jA6 hhasU;clear hhasU;(have ui:(u:Int)<6:=by omega);obtain ⟨M,hF,hE⟩:=HF.out;have lb:=hF.lt;have c0:=hF.cell (o:=43+u*22+16) (by omega);rw[hE.due u ult] at c0;clear hE hF;go_wp2;go_ret2;exact ⟨by rw[HhasU.out];rfl,rfl⟩
 ·(have h9:hasU F x=false:=by simpa using hhasU);have HhasU:=hid h9;rw[h9];clear hhasU h9;go_wp2;go_ret2;exact ⟨by rw[HhasU.out];rfl,rfl⟩
theorem Revoked_any (b:Nat)(F:Flt)(x:Int)(w:World)(hf:FL w b F)(hug:F.ug≤6):Calls Tryz.prog 23 #[.pointer (some ⟨b,0,none⟩),.int .i64 x] w fun e w'=>e = .returned (getV (hadU F x) (.int .i64 (F.m.rev x.toNat)) (.int .i64 0))∧w'=w:=by
 have HF:=hid hf;clear hf;go_enter Tryz.func23,Tryz.ntmps23;go_wp2_with fail;refine (jED b F x _ HF.out).mono ?_;rintro e1 w1 ⟨rfl,rfl⟩;by_cases hhadU:hadU F x=true
 ·have HhadU:=hid hhadU;rw[hhadU];obtain ⟨u,rfl,ult⟩:=jHL hhadU;clear hhadU;(have ui:(u:Int)<F.ug:=by omega);obtain ⟨M,hF,hE⟩:=HF.out;have lb:=hF.lt;have c0:=hF.cell (o:=43+u*22+17) (by omega);rw[hE.rev u (by omega)] at c0;clear hE hF;go_wp2;go_ret2;exact ⟨by rw[HhadU.out];rfl,rfl⟩
 ·(have h9:hadU F x=false:=by simpa using hhadU);have HhadU:=hid h9;rw[h9];clear hhadU h9;go_wp2;go_ret2;exact ⟨by rw[HhadU.out];rfl,rfl⟩
theorem Used_any (b:Nat)(F:Flt)(x y:Int)(w:World)(hf:FL w b F)(hug:F.ug≤6)(hk:F.k≤4):Calls Tryz.prog 20 #[.pointer (some ⟨b,0,none⟩),.int .i64 x,.int .i64 y] w fun e w'=>e = .returned (getV (hadU F x && hasK F y) (.int .i64 (F.used x.toNat y.toNat)) (.int .i64 0))∧w'=w:=by
 have HF:=hid hf;clear hf;go_enter Tryz.func20,Tryz.ntmps20;go_wp2_with fail;refine (jED b F x _ HF.out).mono ?_;rintro e1 w1 ⟨rfl,rfl⟩;by_cases hhadU:hadU F x=true
 ·have HhadU:=hid hhadU;rw[hhadU];obtain ⟨u,rfl,ult⟩:=jHL hhadU;clear hhadU;(have ui:(u:Int)<F.ug:=by omega);go_wp2_with fail;refine (jEK b F y _ HF.out).mono ?_;rintro e1 w1 ⟨rfl,rfl⟩;by_cases hhasK:hasK F y=true
  ·have HhasK:=hid hhasK;rw[hhasK];obtain ⟨r,rfl,rlt⟩:=jHK hhasK;clear hhasK;(have ri:(r:Int)<F.k:=by omega);obtain ⟨M,hF,hE⟩:=HF.out;have lb:=hF.lt;have c0:=hF.cell (o:=43+u*22+18+r) (by omega);rw[hE.used u (by omega) r (by omega)] at c0;clear hE hF;go_wp2;go_ret2;exact ⟨by rw[HhadU.out,HhasK.out];rfl,rfl⟩
  ·(have h9:hasK F y=false:=by simpa using hhasK);have HhasK:=hid h9;rw[h9];clear hhasK h9;go_wp2;go_ret2;exact ⟨by rw[HhadU.out,HhasK.out];rfl,rfl⟩
 ·(have h9:hadU F x=false:=by simpa using hhadU);have HhadU:=hid h9;rw[h9];clear hhadU h9;go_wp2;go_ret2;exact ⟨by rw[HhadU.out];rfl,rfl⟩
theorem Idle_any (b:Nat)(F:Flt)(y:Int)(w:World)(hf:FL w b F)(hk:F.k≤4):Calls Tryz.prog 24 #[.pointer (some ⟨b,0,none⟩),.int .i64 y] w fun e w'=>e = .returned (getV (hasK F y) (.int .i64 (F.idle y.toNat)) (.int .i64 0))∧w'=w:=by
 have HF:=hid hf;clear hf;go_enter Tryz.func24,Tryz.ntmps24;go_wp2_with fail;refine (jEK b F y _ HF.out).mono ?_;rintro e1 w1 ⟨rfl,rfl⟩;by_cases hhasK:hasK F y=true
 ·have HhasK:=hid hhasK;rw[hhasK];obtain ⟨r,rfl,rlt⟩:=jHK hhasK;clear hhasK;(have ri:(r:Int)<F.k:=by omega);obtain ⟨M,hF,hE⟩:=HF.out;have lb:=hF.lt;have c0:=hF.cell (o:=176+r) (by omega);rw[hE.idle r (by omega)] at c0;clear hE hF;go_wp2;go_ret2;exact ⟨by rw[HhasK.out];rfl,rfl⟩
 ·(have h9:hasK F y=false:=by simpa using hhasK);have HhasK:=hid h9;rw[h9];clear hhasK h9;go_wp2;go_ret2;exact ⟨by rw[HhasK.out];rfl,rfl⟩
theorem Clock_any (b:Nat)(F:Flt)(w:World)(hf:FL w b F):Calls Tryz.prog 25 #[.pointer (some ⟨b,0,none⟩)] w fun e w'=>e = .returned (.int .i64 F.ck)∧w'=w:=by
 obtain ⟨M,hF,hE⟩:=hf;have lb:=hF.lt;have c0:=hF.cell (o:=175) (by omega);rw[hE.ck] at c0;clear hE hF;go_enter Tryz.func25,Tryz.ntmps25;go_wp2;go_ret;exact ⟨rfl,rfl⟩
theorem running8 (pb po:Nat)(o0 o1 o2 o3 o4 o5 o6 o7:Int)(w:World)(lb:pb<w.heap.size)(c0:w.cell? ⟨pb,po+8,none⟩=some (.int .i64 o0))(h0:0≤o0∧o0≤1000000)(c1:w.cell? ⟨pb,po+8+1,none⟩=some (.int .i64 o1))(h1:0≤o1∧o1≤1000000)(c2:w.cell? ⟨pb,po+8+2,none⟩=some (.int .i64 o2))(h2:0≤o2∧o2≤1000000)(c3:w.cell? ⟨pb,po+8+3,none⟩=some (.int .i64 o3))(h3:0≤o3∧o3≤1000000)(c4:w.cell? ⟨pb,po+8+4,none⟩=some (.int .i64 o4))(h4:0≤o4∧o4≤1000000)(c5:w.cell? ⟨pb,po+8+5,none⟩=some (.int .i64 o5))(h5:0≤o5∧o5≤1000000)(c6:w.cell? ⟨pb,po+8+6,none⟩=some (.int .i64 o6))(h6:0≤o6∧o6≤1000000)(c7:w.cell? ⟨pb,po+8+7,none⟩=some (.int .i64 o7))(h7:0≤o7∧o7≤1000000):Calls Tryz.prog 84 #[.pointer (some ⟨pb,po,none⟩)] w fun e w'=>e = .returned (.int .i64 ((((((((0+o0)+o1)+o2)+o3)+o4)+o5)+o6)+o7))∧w'=w:=by
 (have ix0:∀ w:World,(Instr.index 72 (.agg #[.int .i64 o0,.int .i64 o1,.int .i64 o2,.int .i64 o3,.int .i64 o4,.int .i64 o5,.int .i64 o6,.int .i64 o7]) (.int .i64 0)).run Tryz.prog w = .ok (.int .i64 o0) w:=fun _=>by kernel_rfl);(have ix1:∀ w:World,(Instr.index 72 (.agg #[.int .i64 o0,.int .i64 o1,.int .i64 o2,.int .i64 o3,.int .i64 o4,.int .i64 o5,.int .i64 o6,.int .i64 o7]) (.int .i64 1)).run Tryz.prog w = .ok (.int .i64 o1) w:=fun _=>by kernel_rfl);(have ix2:∀ w:World,(Instr.index 72 (.agg #[.int .i64 o0,.int .i64 o1,.int .i64 o2,.int .i64 o3,.int .i64 o4,.int .i64 o5,.int .i64 o6,.int .i64 o7]) (.int .i64 2)).run Tryz.prog w = .ok (.int .i64 o2) w:=fun _=>by kernel_rfl);(have ix3:∀ w:World,(Instr.index 72 (.agg #[.int .i64 o0,.int .i64 o1,.int .i64 o2,.int .i64 o3,.int .i64 o4,.int .i64 o5,.int .i64 o6,.int .i64 o7]) (.int .i64 3)).run Tryz.prog w = .ok (.int .i64 o3) w:=fun _=>by kernel_rfl);(have ix4:∀ w:World,(Instr.index 72 (.agg #[.int .i64 o0,.int .i64 o1,.int .i64 o2,.int .i64 o3,.int .i64 o4,.int .i64 o5,.int .i64 o6,.int .i64 o7]) (.int .i64 4)).run Tryz.prog w = .ok (.int .i64 o4) w:=fun _=>by kernel_rfl);(have ix5:∀ w:World,(Instr.index 72 (.agg #[.int .i64 o0,.int .i64 o1,.int .i64 o2,.int .i64 o3,.int .i64 o4,.int .i64 o5,.int .i64 o6,.int .i64 o7]) (.int .i64 5)).run Tryz.prog w = .ok (.int .i64 o5) w:=fun _=>by kernel_rfl);(have ix6:∀ w:World,(Instr.index 72 (.agg #[.int .i64 o0,.int .i64 o1,.int .i64 o2,.int .i64 o3,.int .i64 o4,.int .i64 o5,.int .i64 o6,.int .i64 o7]) (.int .i64 6)).run Tryz.prog w = .ok (.int .i64 o6) w:=fun _=>by kernel_rfl);(have ix7:∀ w:World,(Instr.index 72 (.agg #[.int .i64 o0,.int .i64 o1,.int .i64 o2,.int .i64 o3,.int .i64 o4,.int .i64 o5,.int .i64 o6,.int .i64 o7]) (.int .i64 7)).run Tryz.prog w = .ok (.int .i64 o7) w:=fun _=>by kernel_rfl);have wp0:IntKind.i64.wrap (0+o0)=(0+o0):=Go.IntWalk.i64_in _ ⟨by omega,by omega⟩;have wp1:IntKind.i64.wrap ((0+o0)+o1)=((0+o0)+o1):=Go.IntWalk.i64_in _ ⟨by omega,by omega⟩;have wp2:IntKind.i64.wrap (((0+o0)+o1)+o2)=(((0+o0)+o1)+o2):=Go.IntWalk.i64_in _ ⟨by omega,by omega⟩;have wp3:IntKind.i64.wrap ((((0+o0)+o1)+o2)+o3)=((((0+o0)+o1)+o2)+o3):=Go.IntWalk.i64_in _ ⟨by omega,by omega⟩;have wp4:IntKind.i64.wrap (((((0+o0)+o1)+o2)+o3)+o4)=(((((0+o0)+o1)+o2)+o3)+o4):=Go.IntWalk.i64_in _ ⟨by omega,by omega⟩;have wp5:IntKind.i64.wrap ((((((0+o0)+o1)+o2)+o3)+o4)+o5)=((((((0+o0)+o1)+o2)+o3)+o4)+o5):=Go.IntWalk.i64_in _ ⟨by omega,by omega⟩;have wp6:IntKind.i64.wrap (((((((0+o0)+o1)+o2)+o3)+o4)+o5)+o6)=(((((((0+o0)+o1)+o2)+o3)+o4)+o5)+o6):=Go.IntWalk.i64_in _ ⟨by omega,by omega⟩;have wp7:IntKind.i64.wrap ((((((((0+o0)+o1)+o2)+o3)+o4)+o5)+o6)+o7)=((((((((0+o0)+o1)+o2)+o3)+o4)+o5)+o6)+o7):=Go.IntWalk.i64_in _ ⟨by omega,by omega⟩;go_enter Tryz.func84,Tryz.ntmps84;go_wp2
 go_loopg[3,10] 8 (fun gg s3 ix wr=>∃ (k:Nat) (c:Int),gg=8 - k∧k≤8∧ix = .int .i64 k∧s3 = .int .i64 c∧c=(if k=0 then 0 else if k=1 then (0+o0) else if k=2 then ((0+o0)+o1) else if k=3 then (((0+o0)+o1)+o2) else if k=4 then ((((0+o0)+o1)+o2)+o3) else if k=5 then (((((0+o0)+o1)+o2)+o3)+o4) else if k=6 then ((((((0+o0)+o1)+o2)+o3)+o4)+o5) else if k=7 then (((((((0+o0)+o1)+o2)+o3)+o4)+o5)+o6) else ((((((((0+o0)+o1)+o2)+o3)+o4)+o5)+o6)+o7))∧wr=w)
 case atStart=>exact ⟨0,0,rfl,by omega,rfl,rfl,rfl,rfl⟩
 case round=>
  obtain ⟨k,c,hgk,hk,rfl,rfl,ec,rfl⟩:=hrel;(have hk5:k=0∨k=1∨k=2∨k=3∨k=4∨k=5∨k=6∨k=7∨k=8:=by omega);rcases hk5 with rfl | rfl | rfl | rfl | rfl | rfl | rfl | rfl | rfl
  ·obtain rfl:c=0:=ec;go_wp2;go_roundg (8 - (0+1));(case measure=>omega);case rel=>exact ⟨1,(0+o0),rfl,by omega,rfl,by first | rfl | simp,rfl,rfl⟩
  ·obtain rfl:c=(0+o0):=ec;go_wp2;go_roundg (8 - (1+1));(case measure=>omega);case rel=>exact ⟨2,((0+o0)+o1),rfl,by omega,rfl,by first | rfl | simp,rfl,rfl⟩
  ·obtain rfl:c=((0+o0)+o1):=ec;go_wp2;go_roundg (8 - (2+1));(case measure=>omega);case rel=>exact ⟨3,(((0+o0)+o1)+o2),rfl,by omega,rfl,by first | rfl | simp,rfl,rfl⟩
  ·obtain rfl:c=(((0+o0)+o1)+o2):=ec;go_wp2;go_roundg (8 - (3+1));(case measure=>omega);case rel=>exact ⟨4,((((0+o0)+o1)+o2)+o3),rfl,by omega,rfl,by first | rfl | simp,rfl,rfl⟩
  ·obtain rfl:c=((((0+o0)+o1)+o2)+o3):=ec;go_wp2;go_roundg (8 - (4+1));(case measure=>omega);case rel=>exact ⟨5,(((((0+o0)+o1)+o2)+o3)+o4),rfl,by omega,rfl,by first | rfl | simp,rfl,rfl⟩
  ·obtain rfl:c=(((((0+o0)+o1)+o2)+o3)+o4):=ec;go_wp2;go_roundg (8 - (5+1));(case measure=>omega);case rel=>exact ⟨6,((((((0+o0)+o1)+o2)+o3)+o4)+o5),rfl,by omega,rfl,by first | rfl | simp,rfl,rfl⟩
  ·obtain rfl:c=((((((0+o0)+o1)+o2)+o3)+o4)+o5):=ec;go_wp2;go_roundg (8 - (6+1));(case measure=>omega);case rel=>exact ⟨7,(((((((0+o0)+o1)+o2)+o3)+o4)+o5)+o6),rfl,by omega,rfl,by first | rfl | simp,rfl,rfl⟩
  ·obtain rfl:c=(((((((0+o0)+o1)+o2)+o3)+o4)+o5)+o6):=ec;go_wp2;go_roundg (8 - (7+1));(case measure=>omega);case rel=>exact ⟨8,((((((((0+o0)+o1)+o2)+o3)+o4)+o5)+o6)+o7),rfl,by omega,rfl,by first | rfl | simp,rfl,rfl⟩
  ·obtain rfl:c=((((((((0+o0)+o1)+o2)+o3)+o4)+o5)+o6)+o7):=ec;go_wp2;go_ret;exact ⟨rfl,rfl⟩
theorem jCF (pb po:Nat) (on:Nat→Int) (w:World) (lb:pb<w.heap.size) (hc:∀ m,m<8→w.cell? ⟨pb,po+8+m,none⟩=some (.int .i64 (on m))) (h:∀ m,m<8→0≤on m∧on m≤1000000) :
    Calls Tryz.prog 84 #[.pointer (some ⟨pb,po,none⟩)] w fun e w'=>e = .returned (.int .i64 (sumI on 8))∧w'=w:=
  running8 pb po (on 0) (on 1) (on 2) (on 3) (on 4) (on 5) (on 6) (on 7) w lb (hc 0 (by omega)) (h 0 (by omega)) (hc 1 (by omega)) (h 1 (by omega)) (hc 2 (by omega)) (h 2 (by omega)) (hc 3 (by omega)) (h 3 (by omega)) (hc 4 (by omega)) (h 4 (by omega)) (hc 5 (by omega)) (h 5 (by omega)) (hc 6 (by omega)) (h 6 (by omega)) (hc 7 (by omega)) (h 7 (by omega))
theorem jDG (T e:TypeId)(n s k:Nat)(A:Array Value)(d:TypeDesc)(w:World)(hu:Tryz.prog.underlying T=some (.array n e))(he:Tryz.prog.underlying e=some d)(hd:d.isRow=true)(hs:(Tryz.prog.info? e).map (·.size)=some s)(hk:k<n):(Instr.index T (.agg A) (.int .i64 k)).run Tryz.prog w = .ok (.agg (A.extract (k*s) (k*s+s))) w:=by
 have h1:(0:Int)≤(k:Int)∧(k:Int)<(n:Int):=by omega
 cases hq:Tryz.prog.info? e with
 | none=>simp[hq] at hs
 | some i=>
  have hs2:i.size=s:=by simpa [hq] using hs
  have hagg:(isAgg e).run Tryz.prog w = .ok true w:=by
   unfold isAgg;rw[Sem.run_bind,run_underlying he w]
   cases d <;> simp_all
  simp[Instr.index,Sem.run_bind,asIntOf,run_underlying hu w,sizeOf,typeInfo,hq,hs2,part,hagg,h1];intro h;omega
def cellsL (M:Nat→Value)(o n:Nat):List Value:=(List.range n).map fun j=>M (o+j)
theorem jA9 (M:Nat→Value)(o n:Nat):(cellsL M o n).length=n:=by simp[cellsL]
theorem jEF (M:Nat→Value)(o n a m:Nat)(h:a+m≤n):(cellsL M o n).toArray.extract a (a+m)=(cellsL M (o+a) m).toArray:=by
 apply Array.ext
 ·simp[cellsL];omega
 ·intro i h1 h2;simp[cellsL] at h2 ⊢;congr 1;omega
theorem FBk.range {w:World}{b:Nat}{M:Nat→Value}(h:FBk w b M)(o n:Nat)(hn:o+n≤180):w.rangeAt b o (cellsL M o n):=by
 intro j v hv;(have hj:j<n:=by simpa [cellsL] using (List.getElem?_eq_some_iff.1 hv).1);rw[h.cell (by omega)];unfold cellsL at hv;rw[List.getElem?_map,List.getElem?_range hj] at hv;exact hv
theorem Tryz.uMachs:Tryz.prog.underlying 71=some (.array 8 70):=by kernel_rfl
theorem Tryz.uUsers:Tryz.prog.underlying 75=some (.array 6 74):=by kernel_rfl
theorem Tryz.zMachs:(Tryz.prog.info? 71).map (·.size)=some 40:=by kernel_rfl
theorem Tryz.zUsers:(Tryz.prog.info? 75).map (·.size)=some 132:=by kernel_rfl
theorem Tryz.zMach:(Tryz.prog.info? 70).map (·.size)=some 5:=by kernel_rfl
theorem Tryz.zUser:(Tryz.prog.info? 74).map (·.size)=some 22:=by kernel_rfl
theorem Tryz.uMach:∃ d,Tryz.prog.underlying 70=some d∧d.isRow=true:=by
 have h:(Tryz.prog.underlying 70).map TypeDesc.isRow=some true:=by kernel_rfl
 cases hq:Tryz.prog.underlying 70 with
 | none=>rw[hq] at h;cases h
 | some d=>rw[hq] at h;exact ⟨d,rfl,by simpa using h⟩
theorem Tryz.uUser:∃ d,Tryz.prog.underlying 74=some d∧d.isRow=true:=by
 have h:(Tryz.prog.underlying 74).map TypeDesc.isRow=some true:=by kernel_rfl
 cases hq:Tryz.prog.underlying 74 with
 | none=>rw[hq] at h;cases h
 | some d=>rw[hq] at h;exact ⟨d,rfl,by simpa using h⟩
abbrev mcells (F:Flt)(i:Nat):Array Value:=#[.bool (F.mt i),.int .i64 (F.ms i 0),.int .i64 (F.ms i 1),.int .i64 (F.ms i 2),.int .i64 (F.ms i 3)]
abbrev ucells (F:Flt)(u:Nat):Array Value:=#[.bool (F.ut u),.int .i64 (F.ud u 0),.int .i64 (F.ud u 1),.int .i64 (F.ud u 2),.int .i64 (F.ud u 3),.int .i64 (F.uw u),.int .i64 (F.uc u),.int .i64 (F.m.wait u),.int .i64 (F.m.on u 0),.int .i64 (F.m.on u 1),.int .i64 (F.m.on u 2),.int .i64 (F.m.on u 3),.int .i64 (F.m.on u 4),.int .i64 (F.m.on u 5),.int .i64 (F.m.on u 6),.int .i64 (F.m.on u 7),.string (F.due u),.int .i64 (F.m.rev u),.int .i64 (F.used u 0),.int .i64 (F.used u 1),.int .i64 (F.used u 2),.int .i64 (F.used u 3)]
theorem jCE {M:Nat→Value}{F:Flt}(hE:Enc M F){i:Nat}(hi:i<8)(w:World):(Instr.index 71 (.agg (cellsL M 3 40).toArray) (.int .i64 i)).run Tryz.prog w = .ok (.agg (mcells F i)) w:=by
 obtain ⟨d,hd,hr⟩:=Tryz.uMach;rw[jDG _ _ 8 5 i _ d w Tryz.uMachs hd hr Tryz.zMach hi,jEF M 3 40 (i*5) 5 (by omega)];have e:(cellsL M (3+i*5) 5).toArray=#[M (3+i*5+0),M (3+i*5+1),M (3+i*5+2),M (3+i*5+3),M (3+i*5+4)]:=rfl;rw[e];have h0:=hE.mt i hi;have h1:=hE.ms i hi 0 (by omega);have h2:=hE.ms i hi 1 (by omega);have h3:=hE.ms i hi 2 (by omega);have h4:=hE.ms i hi 3 (by omega);rw[show 3+i*5+1+0=3+i*5+1 by omega] at h1;rw[show 3+i*5+1+1=3+i*5+2 by omega] at h2;rw[show 3+i*5+1+2=3+i*5+3 by omega] at h3;rw[show 3+i*5+1+3=3+i*5+4 by omega] at h4;rw[show 3+i*5+0=3+i*5 by omega,h0,h1,h2,h3,h4]
theorem jB6 {M:Nat→Value}{F:Flt}(hE:Enc M F){i:Nat}(hi:i<6)(w:World):(Instr.index 75 (.agg (cellsL M 43 132).toArray) (.int .i64 i)).run Tryz.prog w = .ok (.agg (ucells F i)) w:=by
 obtain ⟨d,hd,hr⟩:=Tryz.uUser;rw[jDG _ _ 6 22 i _ d w Tryz.uUsers hd hr Tryz.zUser hi,jEF M 43 132 (i*22) 22 (by omega)];(have hud:∀ r,r<4→M (43+i*22+(1+r)) = .int .i64 (F.ud i r):=fun r hr=>by rw[← Nat.add_assoc];exact hE.ud i hi r hr);(have hon:∀ r,r<8→M (43+i*22+(8+r)) = .int .i64 (F.m.on i r):=fun r hr=>by rw[← Nat.add_assoc];exact hE.on i hi r hr);(have hus:∀ r,r<4→M (43+i*22+(18+r)) = .int .i64 (F.used i r):=fun r hr=>by rw[← Nat.add_assoc];exact hE.used i hi r hr);have e:(cellsL M (43+i*22) 22).toArray=#[M (43+i*22),M (43+i*22+(1+0)),M (43+i*22+(1+1)),M (43+i*22+(1+2)),M (43+i*22+(1+3)),M (43+i*22+5),M (43+i*22+6),M (43+i*22+7),M (43+i*22+(8+0)),M (43+i*22+(8+1)),M (43+i*22+(8+2)),M (43+i*22+(8+3)),M (43+i*22+(8+4)),M (43+i*22+(8+5)),M (43+i*22+(8+6)),M (43+i*22+(8+7)),M (43+i*22+16),M (43+i*22+17),M (43+i*22+(18+0)),M (43+i*22+(18+1)),M (43+i*22+(18+2)),M (43+i*22+(18+3))]:=rfl;rw[e,hE.ut i hi,hud 0 (by omega),hud 1 (by omega),hud 2 (by omega),hud 3 (by omega),hE.uw i hi,hE.uc i hi,hE.wait i hi,hon 0 (by omega),hon 1 (by omega),hon 2 (by omega),hon 3 (by omega),hon 4 (by omega),hon 5 (by omega),hon 6 (by omega),hon 7 (by omega),hE.due i hi,hE.rev i hi,hus 0 (by omega),hus 1 (by omega),hus 2 (by omega),hus 3 (by omega)]
end Go.Proofs.YtigokanoflkinabGreatDoor
