/- FlA, FlB, FlC, FlD, FlE, joined. -/
import Derived.Test.YtigokanoflkinabGreatDoorMFleet
import Derived.Test.YtigokanoflkinabGreatDoorLHnd
set_option maxHeartbeats 2000000
set_option maxRecDepth 20000
namespace Go.Proofs.YtigokanoflkinabGreatDoor
set_option linter.unusedSimpArgs false
set_option linter.unusedVariables false
open Go.RowKit Por
abbrev av (a:Nat->Int):Array Value:=#[.int .i64 (a 0),.int .i64 (a 1),.int .i64 (a 2),.int .i64 (a 3)]
def AOk (a:Nat->Int):Prop:=∀ r,r<4->-1000000000000000<=a r/\a r<=1000000000000000
theorem aplus4 (a0 a1 a2 a3 b0 b1 b2 b3:Int)(ha0:-1000000000000000<=a0/\a0<=1000000000000000)(ha1:-1000000000000000<=a1/\a1<=1000000000000000)(ha2:-1000000000000000<=a2/\a2<=1000000000000000)(ha3:-1000000000000000<=a3/\a3<=1000000000000000)(hb0:-1000000000000000<=b0/\b0<=1000000000000000)(hb1:-1000000000000000<=b1/\b1<=1000000000000000)(hb2:-1000000000000000<=b2/\b2<=1000000000000000)(hb3:-1000000000000000<=b3/\b3<=1000000000000000)(w:World):Calls Tryz.prog 87 #[.agg #[.int .i64 a0,.int .i64 a1,.int .i64 a2,.int .i64 a3],.agg #[.int .i64 b0,.int .i64 b1,.int .i64 b2,.int .i64 b3]] w fun e w'=>e = .returned (.agg #[(.int .i64 (a0+b0)),(.int .i64 (a1+b1)),(.int .i64 (a2+b2)),(.int .i64 (a3+b3))])/\Below w.heap.size w w':=by
 obtain ⟨X,J⟩:=ha0;obtain ⟨Y,K⟩:=ha1;obtain ⟨Z,L⟩:=ha2;obtain ⟨aa,M⟩:=ha3;obtain ⟨ab,N⟩:=hb0;obtain ⟨ad,O⟩:=hb1;obtain ⟨ae,P⟩:=hb2;obtain ⟨af,Q⟩:=hb3;have aj:IntKind.i64.wrap (a0+b0)=a0+b0:=Go.IntWalk.i64_in _ ⟨by omega,by omega⟩;have ak:IntKind.i64.wrap (a1+b1)=a1+b1:=Go.IntWalk.i64_in _ ⟨by omega,by omega⟩;have al:IntKind.i64.wrap (a2+b2)=a2+b2:=Go.IntWalk.i64_in _ ⟨by omega,by omega⟩;have am:IntKind.i64.wrap (a3+b3)=a3+b3:=Go.IntWalk.i64_in _ ⟨by omega,by omega⟩;(have S:∀ w:World,(Instr.index 68 (.agg #[.int .i64 b0,.int .i64 b1,.int .i64 b2,.int .i64 b3]) (.int .i64 0)).run Tryz.prog w = .ok (.int .i64 b0) w:=fun _=>by kernel_rfl);(have T:∀ w:World,(Instr.index 68 (.agg #[.int .i64 b0,.int .i64 b1,.int .i64 b2,.int .i64 b3]) (.int .i64 1)).run Tryz.prog w = .ok (.int .i64 b1) w:=fun _=>by kernel_rfl);(have U:∀ w:World,(Instr.index 68 (.agg #[.int .i64 b0,.int .i64 b1,.int .i64 b2,.int .i64 b3]) (.int .i64 2)).run Tryz.prog w = .ok (.int .i64 b2) w:=fun _=>by kernel_rfl);(have W:∀ w:World,(Instr.index 68 (.agg #[.int .i64 b0,.int .i64 b1,.int .i64 b2,.int .i64 b3]) (.int .i64 3)).run Tryz.prog w = .ok (.int .i64 b3) w:=fun _=>by kernel_rfl);have b:=hid (brw w);have s:=hid (jAC w #[.int .i64 a0,.int .i64 a1,.int .i64 a2,.int .i64 a3] 68);have c:Hid (Below w.heap.size w (w.alloc (.cells #[.int .i64 a0,.int .i64 a1,.int .i64 a2,.int .i64 a3] 68))):=b.out.alloc b.out.size (.cells #[.int .i64 a0,.int .i64 a1,.int .i64 a2,.int .i64 a3] 68);have ag:w.heap.size<=w.heap.size:=b.out.size;clear b;have t:=hid (jAB s.out (.cells #[.int .i64 b0,.int .i64 b1,.int .i64 b2,.int .i64 b3] 68));have x:=hid (jAC (w.alloc (.cells #[.int .i64 a0,.int .i64 a1,.int .i64 a2,.int .i64 a3] 68)) #[.int .i64 b0,.int .i64 b1,.int .i64 b2,.int .i64 b3] 68);have d:Hid (Below w.heap.size w ((w.alloc (.cells #[.int .i64 a0,.int .i64 a1,.int .i64 a2,.int .i64 a3] 68)).alloc (.cells #[.int .i64 b0,.int .i64 b1,.int .i64 b2,.int .i64 b3] 68))):=c.out.alloc c.out.size (.cells #[.int .i64 b0,.int .i64 b1,.int .i64 b2,.int .i64 b3] 68);have ah:w.heap.size<=(w.alloc (.cells #[.int .i64 a0,.int .i64 a1,.int .i64 a2,.int .i64 a3] 68)).heap.size:=c.out.size;clear s c;have u:=hid (jAB t.out (.cells #[.int .i64 0,.int .i64 0,.int .i64 0,.int .i64 0] 68));have z:=hid (jAB x.out (.cells #[.int .i64 0,.int .i64 0,.int .i64 0,.int .i64 0] 68));have y:=hid (jAC ((w.alloc (.cells #[.int .i64 a0,.int .i64 a1,.int .i64 a2,.int .i64 a3] 68)).alloc (.cells #[.int .i64 b0,.int .i64 b1,.int .i64 b2,.int .i64 b3] 68)) #[.int .i64 0,.int .i64 0,.int .i64 0,.int .i64 0] 68);have l:Hid (Below w.heap.size w (((w.alloc (.cells #[.int .i64 a0,.int .i64 a1,.int .i64 a2,.int .i64 a3] 68)).alloc (.cells #[.int .i64 b0,.int .i64 b1,.int .i64 b2,.int .i64 b3] 68)).alloc (.cells #[.int .i64 0,.int .i64 0,.int .i64 0,.int .i64 0] 68))):=d.out.alloc d.out.size (.cells #[.int .i64 0,.int .i64 0,.int .i64 0,.int .i64 0] 68);have ai:w.heap.size<=((w.alloc (.cells #[.int .i64 a0,.int .i64 a1,.int .i64 a2,.int .i64 a3] 68)).alloc (.cells #[.int .i64 b0,.int .i64 b1,.int .i64 b2,.int .i64 b3] 68)).heap.size:=d.out.size;clear t x d;go_enter Tryz.func87,Tryz.ntmps87;go_wp2;obtain ⟨V,I⟩:∃ V,V=(((w.alloc (.cells #[.int .i64 a0,.int .i64 a1,.int .i64 a2,.int .i64 a3] 68)).alloc (.cells #[.int .i64 b0,.int .i64 b1,.int .i64 b2,.int .i64 b3] 68)).alloc (.cells #[.int .i64 0,.int .i64 0,.int .i64 0,.int .i64 0] 68)):=⟨_,rfl⟩;rw[<- I] at u z y l ⊢;clear I;have H:=u;have E:=y;simp only[World.size_alloc] at E
 go_loopg[8] 4 (fun gg ix wr=>∃ (k:Nat) (g h i j:Int),gg=4 - k/\k<=4/\ix = .int .i64 k/\g=(if 0<k then a0+b0 else a0)/\h=(if 1<k then a1+b1 else a1)/\i=(if 2<k then a2+b2 else a2)/\j=(if 3<k then a3+b3 else a3)/\Hid (Bx wr w.heap.size #[.int .i64 g,.int .i64 h,.int .i64 i,.int .i64 j] 68)/\Hid (Bx wr (w.heap.size+1+1) #[.int .i64 0,.int .i64 0,.int .i64 0,.int .i64 0] 68)/\Hid (Below w.heap.size w wr))
 case atStart=>exact ⟨0,a0,a1,a2,a3,rfl,by omega,rfl,rfl,rfl,rfl,rfl,H.out,E.out,l.out⟩
 case round=>
  clear H E l;obtain ⟨k,g,h,i,j,R,hk,rfl,m,n,o,q,a,f,A⟩:=hrel;(have F:k=0∨k=1∨k=2∨k=3∨k=4:=by omega);rcases F with rfl | rfl | rfl | rfl | rfl
  ·rw[show g=a0 from m,show h=a1 from n,show i=a2 from o,show j=a3 from q] at a;clear m n o q g h i j;have D:=a.out.cell 0 _ rfl;have G:=a.out.frozen 0;have B:=a.out.lt;go_wp2;go_roundg (4 - (0+1));(case measure=>omega);case rel=>exact ⟨1,(a0+b0),a1,a2,a3,rfl,by omega,rfl,rfl,rfl,rfl,rfl,jAE a.out 0 _,f.out.other _ _ (by show w.heap.size≠w.heap.size+1+1;omega),A.out.setCell (Nat.le_refl _) _⟩
  ·rw[show g=(a0+b0) from m,show h=a1 from n,show i=a2 from o,show j=a3 from q] at a;clear m n o q g h i j;have D:=a.out.cell 1 _ rfl;have G:=a.out.frozen 1;have B:=a.out.lt;go_wp2;go_roundg (4 - (1+1));(case measure=>omega);case rel=>exact ⟨2,(a0+b0),(a1+b1),a2,a3,rfl,by omega,rfl,rfl,rfl,rfl,rfl,jAE a.out 1 _,f.out.other _ _ (by show w.heap.size≠w.heap.size+1+1;omega),A.out.setCell (Nat.le_refl _) _⟩
  ·rw[show g=(a0+b0) from m,show h=(a1+b1) from n,show i=a2 from o,show j=a3 from q] at a;clear m n o q g h i j;have D:=a.out.cell 2 _ rfl;have G:=a.out.frozen 2;have B:=a.out.lt;go_wp2;go_roundg (4 - (2+1));(case measure=>omega);case rel=>exact ⟨3,(a0+b0),(a1+b1),(a2+b2),a3,rfl,by omega,rfl,rfl,rfl,rfl,rfl,jAE a.out 2 _,f.out.other _ _ (by show w.heap.size≠w.heap.size+1+1;omega),A.out.setCell (Nat.le_refl _) _⟩
  ·rw[show g=(a0+b0) from m,show h=(a1+b1) from n,show i=(a2+b2) from o,show j=a3 from q] at a;clear m n o q g h i j;have D:=a.out.cell 3 _ rfl;have G:=a.out.frozen 3;have B:=a.out.lt;go_wp2;go_roundg (4 - (3+1));(case measure=>omega);case rel=>exact ⟨4,(a0+b0),(a1+b1),(a2+b2),(a3+b3),rfl,by omega,rfl,rfl,rfl,rfl,rfl,jAE a.out 3 _,f.out.other _ _ (by show w.heap.size≠w.heap.size+1+1;omega),A.out.setCell (Nat.le_refl _) _⟩
  ·rw[show g=(a0+b0) from m,show h=(a1+b1) from n,show i=(a2+b2) from o,show j=(a3+b3) from q] at a;clear m n o q g h i j;have x0:=a.out.cell 0 _ rfl;have r0:=f.out.cell 0 _ rfl;have q0:=f.out.frozen 0;have x1:=a.out.cell 1 _ rfl;have r1:=f.out.cell 1 _ rfl;have q1:=f.out.frozen 1;have x2:=a.out.cell 2 _ rfl;have r2:=f.out.cell 2 _ rfl;have q2:=f.out.frozen 2;have x3:=a.out.cell 3 _ rfl;have r3:=f.out.cell 3 _ rfl;have q3:=f.out.frozen 3;have B:=a.out.lt;have lr:=f.out.lt;have r:Hid (Bx ((((wr.setCell ⟨w.heap.size+1+1,0,none⟩ (.int .i64 (a0+b0))).setCell ⟨w.heap.size+1+1,1,none⟩ (.int .i64 (a1+b1))).setCell ⟨w.heap.size+1+1,2,none⟩ (.int .i64 (a2+b2))).setCell ⟨w.heap.size+1+1,3,none⟩ (.int .i64 (a3+b3))) (w.heap.size+1+1) #[(.int .i64 (a0+b0)),(.int .i64 (a1+b1)),(.int .i64 (a2+b2)),(.int .i64 (a3+b3))] 68):=(jAE (jAE (jAE (jAE f.out 0 (.int .i64 (a0+b0))) 1 (.int .i64 (a1+b1))) 2 (.int .i64 (a2+b2))) 3 (.int .i64 (a3+b3)));have C:Hid (Below w.heap.size w ((((wr.setCell ⟨w.heap.size+1+1,0,none⟩ (.int .i64 (a0+b0))).setCell ⟨w.heap.size+1+1,1,none⟩ (.int .i64 (a1+b1))).setCell ⟨w.heap.size+1+1,2,none⟩ (.int .i64 (a2+b2))).setCell ⟨w.heap.size+1+1,3,none⟩ (.int .i64 (a3+b3)))):=((((A.out.setCell (p:=⟨w.heap.size+1+1,0,none⟩) (by show w.heap.size<=w.heap.size+1+1;omega) (.int .i64 (a0+b0))).setCell (p:=⟨w.heap.size+1+1,1,none⟩) (by show w.heap.size<=w.heap.size+1+1;omega) (.int .i64 (a1+b1))).setCell (p:=⟨w.heap.size+1+1,2,none⟩) (by show w.heap.size<=w.heap.size+1+1;omega) (.int .i64 (a2+b2))).setCell (p:=⟨w.heap.size+1+1,3,none⟩) (by show w.heap.size<=w.heap.size+1+1;omega) (.int .i64 (a3+b3)));go_wp2;have y0:=r.out.cell 0 _ rfl;have y1:=r.out.cell 1 _ rfl;have y2:=r.out.cell 2 _ rfl;have y3:=r.out.cell 3 _ rfl;refine bodyPost_ret (v:=.agg #[(.int .i64 (a0+b0)),(.int .i64 (a1+b1)),(.int .i64 (a2+b2)),(.int .i64 (a3+b3))]) (by simp[results,Tryz.results87,go_sem,y0,y1,y2,y3]) rfl ⟨rfl,C.out⟩
theorem jDa (a b:Nat->Int) (ha:AOk a) (hb:AOk b) (w:World) :
    Calls Tryz.prog 87 #[.agg (av a),.agg (av b)] w fun e w'=>e = .returned (.agg (av (fun r=>a r+b r)))/\Below w.heap.size w w':=
  aplus4 (a 0) (a 1) (a 2) (a 3) (b 0) (b 1) (b 2) (b 3) (ha 0 (by omega)) (ha 1 (by omega)) (ha 2 (by omega)) (ha 3 (by omega)) (hb 0 (by omega)) (hb 1 (by omega)) (hb 2 (by omega)) (hb 3 (by omega)) w
theorem aminus4 (a0 a1 a2 a3 b0 b1 b2 b3:Int)(ha0:-1000000000000000<=a0/\a0<=1000000000000000)(ha1:-1000000000000000<=a1/\a1<=1000000000000000)(ha2:-1000000000000000<=a2/\a2<=1000000000000000)(ha3:-1000000000000000<=a3/\a3<=1000000000000000)(hb0:-1000000000000000<=b0/\b0<=1000000000000000)(hb1:-1000000000000000<=b1/\b1<=1000000000000000)(hb2:-1000000000000000<=b2/\b2<=1000000000000000)(hb3:-1000000000000000<=b3/\b3<=1000000000000000)(w:World):Calls Tryz.prog 86 #[.agg #[.int .i64 a0,.int .i64 a1,.int .i64 a2,.int .i64 a3],.agg #[.int .i64 b0,.int .i64 b1,.int .i64 b2,.int .i64 b3]] w fun e w'=>e = .returned (.agg #[(.int .i64 (a0 - b0)),(.int .i64 (a1 - b1)),(.int .i64 (a2 - b2)),(.int .i64 (a3 - b3))])/\Below w.heap.size w w':=by
 obtain ⟨X,J⟩:=ha0;obtain ⟨Y,K⟩:=ha1;obtain ⟨Z,L⟩:=ha2;obtain ⟨aa,M⟩:=ha3;obtain ⟨ab,N⟩:=hb0;obtain ⟨ad,O⟩:=hb1;obtain ⟨ae,P⟩:=hb2;obtain ⟨af,Q⟩:=hb3;have aj:IntKind.i64.wrap (a0 - b0)=a0 - b0:=Go.IntWalk.i64_in _ ⟨by omega,by omega⟩;have ak:IntKind.i64.wrap (a1 - b1)=a1 - b1:=Go.IntWalk.i64_in _ ⟨by omega,by omega⟩;have al:IntKind.i64.wrap (a2 - b2)=a2 - b2:=Go.IntWalk.i64_in _ ⟨by omega,by omega⟩;have am:IntKind.i64.wrap (a3 - b3)=a3 - b3:=Go.IntWalk.i64_in _ ⟨by omega,by omega⟩;(have S:∀ w:World,(Instr.index 68 (.agg #[.int .i64 b0,.int .i64 b1,.int .i64 b2,.int .i64 b3]) (.int .i64 0)).run Tryz.prog w = .ok (.int .i64 b0) w:=fun _=>by kernel_rfl);(have T:∀ w:World,(Instr.index 68 (.agg #[.int .i64 b0,.int .i64 b1,.int .i64 b2,.int .i64 b3]) (.int .i64 1)).run Tryz.prog w = .ok (.int .i64 b1) w:=fun _=>by kernel_rfl);(have U:∀ w:World,(Instr.index 68 (.agg #[.int .i64 b0,.int .i64 b1,.int .i64 b2,.int .i64 b3]) (.int .i64 2)).run Tryz.prog w = .ok (.int .i64 b2) w:=fun _=>by kernel_rfl);(have W:∀ w:World,(Instr.index 68 (.agg #[.int .i64 b0,.int .i64 b1,.int .i64 b2,.int .i64 b3]) (.int .i64 3)).run Tryz.prog w = .ok (.int .i64 b3) w:=fun _=>by kernel_rfl);have b:=hid (brw w);have s:=hid (jAC w #[.int .i64 a0,.int .i64 a1,.int .i64 a2,.int .i64 a3] 68);have c:Hid (Below w.heap.size w (w.alloc (.cells #[.int .i64 a0,.int .i64 a1,.int .i64 a2,.int .i64 a3] 68))):=b.out.alloc b.out.size (.cells #[.int .i64 a0,.int .i64 a1,.int .i64 a2,.int .i64 a3] 68);have ag:w.heap.size<=w.heap.size:=b.out.size;clear b;have t:=hid (jAB s.out (.cells #[.int .i64 b0,.int .i64 b1,.int .i64 b2,.int .i64 b3] 68));have x:=hid (jAC (w.alloc (.cells #[.int .i64 a0,.int .i64 a1,.int .i64 a2,.int .i64 a3] 68)) #[.int .i64 b0,.int .i64 b1,.int .i64 b2,.int .i64 b3] 68);have d:Hid (Below w.heap.size w ((w.alloc (.cells #[.int .i64 a0,.int .i64 a1,.int .i64 a2,.int .i64 a3] 68)).alloc (.cells #[.int .i64 b0,.int .i64 b1,.int .i64 b2,.int .i64 b3] 68))):=c.out.alloc c.out.size (.cells #[.int .i64 b0,.int .i64 b1,.int .i64 b2,.int .i64 b3] 68);have ah:w.heap.size<=(w.alloc (.cells #[.int .i64 a0,.int .i64 a1,.int .i64 a2,.int .i64 a3] 68)).heap.size:=c.out.size;clear s c;have u:=hid (jAB t.out (.cells #[.int .i64 0,.int .i64 0,.int .i64 0,.int .i64 0] 68));have z:=hid (jAB x.out (.cells #[.int .i64 0,.int .i64 0,.int .i64 0,.int .i64 0] 68));have y:=hid (jAC ((w.alloc (.cells #[.int .i64 a0,.int .i64 a1,.int .i64 a2,.int .i64 a3] 68)).alloc (.cells #[.int .i64 b0,.int .i64 b1,.int .i64 b2,.int .i64 b3] 68)) #[.int .i64 0,.int .i64 0,.int .i64 0,.int .i64 0] 68);have l:Hid (Below w.heap.size w (((w.alloc (.cells #[.int .i64 a0,.int .i64 a1,.int .i64 a2,.int .i64 a3] 68)).alloc (.cells #[.int .i64 b0,.int .i64 b1,.int .i64 b2,.int .i64 b3] 68)).alloc (.cells #[.int .i64 0,.int .i64 0,.int .i64 0,.int .i64 0] 68))):=d.out.alloc d.out.size (.cells #[.int .i64 0,.int .i64 0,.int .i64 0,.int .i64 0] 68);have ai:w.heap.size<=((w.alloc (.cells #[.int .i64 a0,.int .i64 a1,.int .i64 a2,.int .i64 a3] 68)).alloc (.cells #[.int .i64 b0,.int .i64 b1,.int .i64 b2,.int .i64 b3] 68)).heap.size:=d.out.size;clear t x d;go_enter Tryz.func86,Tryz.ntmps86;go_wp2;obtain ⟨V,I⟩:∃ V,V=(((w.alloc (.cells #[.int .i64 a0,.int .i64 a1,.int .i64 a2,.int .i64 a3] 68)).alloc (.cells #[.int .i64 b0,.int .i64 b1,.int .i64 b2,.int .i64 b3] 68)).alloc (.cells #[.int .i64 0,.int .i64 0,.int .i64 0,.int .i64 0] 68)):=⟨_,rfl⟩;rw[<- I] at u z y l ⊢;clear I;have H:=u;have E:=y;simp only[World.size_alloc] at E
 go_loopg[8] 4 (fun gg ix wr=>∃ (k:Nat) (g h i j:Int),gg=4 - k/\k<=4/\ix = .int .i64 k/\g=(if 0<k then a0 - b0 else a0)/\h=(if 1<k then a1 - b1 else a1)/\i=(if 2<k then a2 - b2 else a2)/\j=(if 3<k then a3 - b3 else a3)/\Hid (Bx wr w.heap.size #[.int .i64 g,.int .i64 h,.int .i64 i,.int .i64 j] 68)/\Hid (Bx wr (w.heap.size+1+1) #[.int .i64 0,.int .i64 0,.int .i64 0,.int .i64 0] 68)/\Hid (Below w.heap.size w wr))
 case atStart=>exact ⟨0,a0,a1,a2,a3,rfl,by omega,rfl,rfl,rfl,rfl,rfl,H.out,E.out,l.out⟩
 case round=>
  clear H E l;obtain ⟨k,g,h,i,j,R,hk,rfl,m,n,o,q,a,f,A⟩:=hrel;(have F:k=0∨k=1∨k=2∨k=3∨k=4:=by omega);rcases F with rfl | rfl | rfl | rfl | rfl
  ·rw[show g=a0 from m,show h=a1 from n,show i=a2 from o,show j=a3 from q] at a;clear m n o q g h i j;have D:=a.out.cell 0 _ rfl;have G:=a.out.frozen 0;have B:=a.out.lt;go_wp2;go_roundg (4 - (0+1));(case measure=>omega);case rel=>exact ⟨1,(a0 - b0),a1,a2,a3,rfl,by omega,rfl,rfl,rfl,rfl,rfl,jAE a.out 0 _,f.out.other _ _ (by show w.heap.size≠w.heap.size+1+1;omega),A.out.setCell (Nat.le_refl _) _⟩
  ·rw[show g=(a0 - b0) from m,show h=a1 from n,show i=a2 from o,show j=a3 from q] at a;clear m n o q g h i j;have D:=a.out.cell 1 _ rfl;have G:=a.out.frozen 1;have B:=a.out.lt;go_wp2;go_roundg (4 - (1+1));(case measure=>omega);case rel=>exact ⟨2,(a0 - b0),(a1 - b1),a2,a3,rfl,by omega,rfl,rfl,rfl,rfl,rfl,jAE a.out 1 _,f.out.other _ _ (by show w.heap.size≠w.heap.size+1+1;omega),A.out.setCell (Nat.le_refl _) _⟩
  ·rw[show g=(a0 - b0) from m,show h=(a1 - b1) from n,show i=a2 from o,show j=a3 from q] at a;clear m n o q g h i j;have D:=a.out.cell 2 _ rfl;have G:=a.out.frozen 2;have B:=a.out.lt;go_wp2;go_roundg (4 - (2+1));(case measure=>omega);case rel=>exact ⟨3,(a0 - b0),(a1 - b1),(a2 - b2),a3,rfl,by omega,rfl,rfl,rfl,rfl,rfl,jAE a.out 2 _,f.out.other _ _ (by show w.heap.size≠w.heap.size+1+1;omega),A.out.setCell (Nat.le_refl _) _⟩
  ·rw[show g=(a0 - b0) from m,show h=(a1 - b1) from n,show i=(a2 - b2) from o,show j=a3 from q] at a;clear m n o q g h i j;have D:=a.out.cell 3 _ rfl;have G:=a.out.frozen 3;have B:=a.out.lt;go_wp2;go_roundg (4 - (3+1));(case measure=>omega);case rel=>exact ⟨4,(a0 - b0),(a1 - b1),(a2 - b2),(a3 - b3),rfl,by omega,rfl,rfl,rfl,rfl,rfl,jAE a.out 3 _,f.out.other _ _ (by show w.heap.size≠w.heap.size+1+1;omega),A.out.setCell (Nat.le_refl _) _⟩
  ·rw[show g=(a0 - b0) from m,show h=(a1 - b1) from n,show i=(a2 - b2) from o,show j=(a3 - b3) from q] at a;clear m n o q g h i j;have x0:=a.out.cell 0 _ rfl;have r0:=f.out.cell 0 _ rfl;have q0:=f.out.frozen 0;have x1:=a.out.cell 1 _ rfl;have r1:=f.out.cell 1 _ rfl;have q1:=f.out.frozen 1;have x2:=a.out.cell 2 _ rfl;have r2:=f.out.cell 2 _ rfl;have q2:=f.out.frozen 2;have x3:=a.out.cell 3 _ rfl;have r3:=f.out.cell 3 _ rfl;have q3:=f.out.frozen 3;have B:=a.out.lt;have lr:=f.out.lt;have r:Hid (Bx ((((wr.setCell ⟨w.heap.size+1+1,0,none⟩ (.int .i64 (a0 - b0))).setCell ⟨w.heap.size+1+1,1,none⟩ (.int .i64 (a1 - b1))).setCell ⟨w.heap.size+1+1,2,none⟩ (.int .i64 (a2 - b2))).setCell ⟨w.heap.size+1+1,3,none⟩ (.int .i64 (a3 - b3))) (w.heap.size+1+1) #[(.int .i64 (a0 - b0)),(.int .i64 (a1 - b1)),(.int .i64 (a2 - b2)),(.int .i64 (a3 - b3))] 68):=(jAE (jAE (jAE (jAE f.out 0 (.int .i64 (a0 - b0))) 1 (.int .i64 (a1 - b1))) 2 (.int .i64 (a2 - b2))) 3 (.int .i64 (a3 - b3)));have C:Hid (Below w.heap.size w ((((wr.setCell ⟨w.heap.size+1+1,0,none⟩ (.int .i64 (a0 - b0))).setCell ⟨w.heap.size+1+1,1,none⟩ (.int .i64 (a1 - b1))).setCell ⟨w.heap.size+1+1,2,none⟩ (.int .i64 (a2 - b2))).setCell ⟨w.heap.size+1+1,3,none⟩ (.int .i64 (a3 - b3)))):=((((A.out.setCell (p:=⟨w.heap.size+1+1,0,none⟩) (by show w.heap.size<=w.heap.size+1+1;omega) (.int .i64 (a0 - b0))).setCell (p:=⟨w.heap.size+1+1,1,none⟩) (by show w.heap.size<=w.heap.size+1+1;omega) (.int .i64 (a1 - b1))).setCell (p:=⟨w.heap.size+1+1,2,none⟩) (by show w.heap.size<=w.heap.size+1+1;omega) (.int .i64 (a2 - b2))).setCell (p:=⟨w.heap.size+1+1,3,none⟩) (by show w.heap.size<=w.heap.size+1+1;omega) (.int .i64 (a3 - b3)));go_wp2;have y0:=r.out.cell 0 _ rfl;have y1:=r.out.cell 1 _ rfl;have y2:=r.out.cell 2 _ rfl;have y3:=r.out.cell 3 _ rfl;refine bodyPost_ret (v:=.agg #[(.int .i64 (a0 - b0)),(.int .i64 (a1 - b1)),(.int .i64 (a2 - b2)),(.int .i64 (a3 - b3))]) (by simp[results,Tryz.results86,go_sem,y0,y1,y2,y3]) rfl ⟨rfl,C.out⟩
theorem jD2 (a b:Nat->Int) (ha:AOk a) (hb:AOk b) (w:World) :
    Calls Tryz.prog 86 #[.agg (av a),.agg (av b)] w fun e w'=>e = .returned (.agg (av (fun r=>a r - b r)))/\Below w.heap.size w w':=
  aminus4 (a 0) (a 1) (a 2) (a 3) (b 0) (b 1) (b 2) (b 3) (ha 0 (by omega)) (ha 1 (by omega)) (ha 2 (by omega)) (ha 3 (by omega)) (hb 0 (by omega)) (hb 1 (by omega)) (hb 2 (by omega)) (hb 3 (by omega)) w
theorem atimes4 (a0 a1 a2 a3 n:Int)(ha0:-1000000000000000<=a0*n/\a0*n<=1000000000000000)(ha1:-1000000000000000<=a1*n/\a1*n<=1000000000000000)(ha2:-1000000000000000<=a2*n/\a2*n<=1000000000000000)(ha3:-1000000000000000<=a3*n/\a3*n<=1000000000000000)(w:World):Calls Tryz.prog 85 #[.agg #[.int .i64 a0,.int .i64 a1,.int .i64 a2,.int .i64 a3],.int .i64 n] w fun e w'=>e = .returned (.agg #[.int .i64 (a0*n),.int .i64 (a1*n),.int .i64 (a2*n),.int .i64 (a3*n)])/\Below w.heap.size w w':=by
 obtain ⟨P,J⟩:=ha0;obtain ⟨Q,K⟩:=ha1;obtain ⟨R,L⟩:=ha2;obtain ⟨S,M⟩:=ha3;obtain ⟨b,y⟩:∃ p,p=a0*n:=⟨_,rfl⟩;obtain ⟨c,z⟩:∃ p,p=a1*n:=⟨_,rfl⟩;obtain ⟨h,A⟩:∃ p,p=a2*n:=⟨_,rfl⟩;obtain ⟨o,B⟩:∃ p,p=a3*n:=⟨_,rfl⟩;rw[<- y] at P J;rw[<- z] at Q K;rw[<- A] at R L;rw[<- B] at S M;have af:IntKind.i64.wrap b=b:=Go.IntWalk.i64_in _ ⟨by omega,by omega⟩;have ag:IntKind.i64.wrap c=c:=Go.IntWalk.i64_in _ ⟨by omega,by omega⟩;have ah:IntKind.i64.wrap h=h:=Go.IntWalk.i64_in _ ⟨by omega,by omega⟩;have ai:IntKind.i64.wrap o=o:=Go.IntWalk.i64_in _ ⟨by omega,by omega⟩;have X:a0*n=b:=y.symm;have Y:a1*n=c:=z.symm;have Z:a2*n=h:=A.symm;have aa:a3*n=o:=B.symm;rw[<- y,<- z,<- A,<- B];clear y z A B;have d:=hid (brw w);have C:=hid (jAC w #[.int .i64 a0,.int .i64 a1,.int .i64 a2,.int .i64 a3] 68);have f:Hid (Below w.heap.size w (w.alloc (.cells #[.int .i64 a0,.int .i64 a1,.int .i64 a2,.int .i64 a3] 68))):=d.out.alloc d.out.size (.cells #[.int .i64 a0,.int .i64 a1,.int .i64 a2,.int .i64 a3] 68);have ad:w.heap.size<=w.heap.size:=d.out.size;clear d;have D:=hid (jAB C.out (.cells #[.int .i64 0,.int .i64 0,.int .i64 0,.int .i64 0] 68));have E:=hid (jAC (w.alloc (.cells #[.int .i64 a0,.int .i64 a1,.int .i64 a2,.int .i64 a3] 68)) #[.int .i64 0,.int .i64 0,.int .i64 0,.int .i64 0] 68);have q:Hid (Below w.heap.size w ((w.alloc (.cells #[.int .i64 a0,.int .i64 a1,.int .i64 a2,.int .i64 a3] 68)).alloc (.cells #[.int .i64 0,.int .i64 0,.int .i64 0,.int .i64 0] 68))):=f.out.alloc f.out.size (.cells #[.int .i64 0,.int .i64 0,.int .i64 0,.int .i64 0] 68);have ae:w.heap.size<=(w.alloc (.cells #[.int .i64 a0,.int .i64 a1,.int .i64 a2,.int .i64 a3] 68)).heap.size:=f.out.size;clear C f;go_enter Tryz.func85,Tryz.ntmps85;go_wp2;obtain ⟨V,W⟩:∃ V,V=((w.alloc (.cells #[.int .i64 a0,.int .i64 a1,.int .i64 a2,.int .i64 a3] 68)).alloc (.cells #[.int .i64 0,.int .i64 0,.int .i64 0,.int .i64 0] 68)):=⟨_,rfl⟩;rw[<- W] at D E q ⊢;clear W;have U:=D;have N:=E;simp only[World.size_alloc] at N
 go_loopg[6] 4 (fun gg ix wr=>∃ (k:Nat) (i j l m:Int),gg=4 - k/\k<=4/\ix = .int .i64 k/\i=(if 0<k then b else a0)/\j=(if 1<k then c else a1)/\l=(if 2<k then h else a2)/\m=(if 3<k then o else a3)/\Hid (Bx wr w.heap.size #[.int .i64 i,.int .i64 j,.int .i64 l,.int .i64 m] 68)/\Hid (Bx wr (w.heap.size+1) #[.int .i64 0,.int .i64 0,.int .i64 0,.int .i64 0] 68)/\Hid (Below w.heap.size w wr))
 case atStart=>exact ⟨0,a0,a1,a2,a3,rfl,by omega,rfl,rfl,rfl,rfl,rfl,U.out,N.out,q.out⟩
 case round=>
  clear U N q;obtain ⟨k,i,j,l,m,ab,hk,rfl,r,s,t,u,a,g,F⟩:=hrel;(have O:k=0∨k=1∨k=2∨k=3∨k=4:=by omega);rcases O with rfl | rfl | rfl | rfl | rfl
  ·rw[show i=a0 from r,show j=a1 from s,show l=a2 from t,show m=a3 from u] at a;clear r s t u i j l m;have I:=a.out.cell 0 _ rfl;have T:=a.out.frozen 0;have G:=a.out.lt;go_wp2;go_roundg (4 - (0+1));(case measure=>omega);case rel=>exact ⟨1,b,a1,a2,a3,rfl,by omega,rfl,rfl,rfl,rfl,rfl,jAE a.out 0 _,g.out.other _ _ (by show w.heap.size≠w.heap.size+1;omega),F.out.setCell (Nat.le_refl _) _⟩
  ·rw[show i=b from r,show j=a1 from s,show l=a2 from t,show m=a3 from u] at a;clear r s t u i j l m;have I:=a.out.cell 1 _ rfl;have T:=a.out.frozen 1;have G:=a.out.lt;go_wp2;go_roundg (4 - (1+1));(case measure=>omega);case rel=>exact ⟨2,b,c,a2,a3,rfl,by omega,rfl,rfl,rfl,rfl,rfl,jAE a.out 1 _,g.out.other _ _ (by show w.heap.size≠w.heap.size+1;omega),F.out.setCell (Nat.le_refl _) _⟩
  ·rw[show i=b from r,show j=c from s,show l=a2 from t,show m=a3 from u] at a;clear r s t u i j l m;have I:=a.out.cell 2 _ rfl;have T:=a.out.frozen 2;have G:=a.out.lt;go_wp2;go_roundg (4 - (2+1));(case measure=>omega);case rel=>exact ⟨3,b,c,h,a3,rfl,by omega,rfl,rfl,rfl,rfl,rfl,jAE a.out 2 _,g.out.other _ _ (by show w.heap.size≠w.heap.size+1;omega),F.out.setCell (Nat.le_refl _) _⟩
  ·rw[show i=b from r,show j=c from s,show l=h from t,show m=a3 from u] at a;clear r s t u i j l m;have I:=a.out.cell 3 _ rfl;have T:=a.out.frozen 3;have G:=a.out.lt;go_wp2;go_roundg (4 - (3+1));(case measure=>omega);case rel=>exact ⟨4,b,c,h,o,rfl,by omega,rfl,rfl,rfl,rfl,rfl,jAE a.out 3 _,g.out.other _ _ (by show w.heap.size≠w.heap.size+1;omega),F.out.setCell (Nat.le_refl _) _⟩
  ·rw[show i=b from r,show j=c from s,show l=h from t,show m=o from u] at a;clear r s t u i j l m;have x0:=a.out.cell 0 _ rfl;have r0:=g.out.cell 0 _ rfl;have q0:=g.out.frozen 0;have x1:=a.out.cell 1 _ rfl;have r1:=g.out.cell 1 _ rfl;have q1:=g.out.frozen 1;have x2:=a.out.cell 2 _ rfl;have r2:=g.out.cell 2 _ rfl;have q2:=g.out.frozen 2;have x3:=a.out.cell 3 _ rfl;have r3:=g.out.cell 3 _ rfl;have q3:=g.out.frozen 3;have G:=a.out.lt;have lr:=g.out.lt;have x:Hid (Bx ((((wr.setCell ⟨w.heap.size+1,0,none⟩ (.int .i64 b)).setCell ⟨w.heap.size+1,1,none⟩ (.int .i64 c)).setCell ⟨w.heap.size+1,2,none⟩ (.int .i64 h)).setCell ⟨w.heap.size+1,3,none⟩ (.int .i64 o)) (w.heap.size+1) #[(.int .i64 b),(.int .i64 c),(.int .i64 h),(.int .i64 o)] 68):=(jAE (jAE (jAE (jAE g.out 0 (.int .i64 b)) 1 (.int .i64 c)) 2 (.int .i64 h)) 3 (.int .i64 o));have H:Hid (Below w.heap.size w ((((wr.setCell ⟨w.heap.size+1,0,none⟩ (.int .i64 b)).setCell ⟨w.heap.size+1,1,none⟩ (.int .i64 c)).setCell ⟨w.heap.size+1,2,none⟩ (.int .i64 h)).setCell ⟨w.heap.size+1,3,none⟩ (.int .i64 o))):=((((F.out.setCell (p:=⟨w.heap.size+1,0,none⟩) (by show w.heap.size<=w.heap.size+1;omega) (.int .i64 b)).setCell (p:=⟨w.heap.size+1,1,none⟩) (by show w.heap.size<=w.heap.size+1;omega) (.int .i64 c)).setCell (p:=⟨w.heap.size+1,2,none⟩) (by show w.heap.size<=w.heap.size+1;omega) (.int .i64 h)).setCell (p:=⟨w.heap.size+1,3,none⟩) (by show w.heap.size<=w.heap.size+1;omega) (.int .i64 o));go_wp2;have y0:=x.out.cell 0 _ rfl;have y1:=x.out.cell 1 _ rfl;have y2:=x.out.cell 2 _ rfl;have y3:=x.out.cell 3 _ rfl;refine bodyPost_ret (v:=.agg #[(.int .i64 b),(.int .i64 c),(.int .i64 h),(.int .i64 o)]) (by simp[results,Tryz.results85,go_sem,y0,y1,y2,y3]) rfl ⟨rfl,H.out⟩
theorem jDH (a:Nat->Int) (n:Int) (ha:AOk (fun r=>a r*n)) (w:World) :
    Calls Tryz.prog 85 #[.agg (av a),.int .i64 n] w fun e w'=>e = .returned (.agg (av (fun r=>a r*n)))/\Below w.heap.size w w':=
  atimes4 (a 0) (a 1) (a 2) (a 3) n (ha 0 (by omega)) (ha 1 (by omega)) (ha 2 (by omega)) (ha 3 (by omega)) w
theorem asum4 (a0 a1 a2 a3:Int)(ha0:-1000000000000000<=a0/\a0<=1000000000000000)(ha1:-1000000000000000<=a1/\a1<=1000000000000000)(ha2:-1000000000000000<=a2/\a2<=1000000000000000)(ha3:-1000000000000000<=a3/\a3<=1000000000000000)(w:World):Calls Tryz.prog 137 #[.agg #[.int .i64 a0,.int .i64 a1,.int .i64 a2,.int .i64 a3]] w fun e w'=>e = .returned (.int .i64 ((((0+a0)+a1)+a2)+a3))/\Below w.heap.size w w':=by
 (have o:∀ w:World,(Instr.index 68 (.agg #[.int .i64 a0,.int .i64 a1,.int .i64 a2,.int .i64 a3]) (.int .i64 0)).run Tryz.prog w = .ok (.int .i64 a0) w:=fun _=>by kernel_rfl);(have p:∀ w:World,(Instr.index 68 (.agg #[.int .i64 a0,.int .i64 a1,.int .i64 a2,.int .i64 a3]) (.int .i64 1)).run Tryz.prog w = .ok (.int .i64 a1) w:=fun _=>by kernel_rfl);(have q:∀ w:World,(Instr.index 68 (.agg #[.int .i64 a0,.int .i64 a1,.int .i64 a2,.int .i64 a3]) (.int .i64 2)).run Tryz.prog w = .ok (.int .i64 a2) w:=fun _=>by kernel_rfl);(have r:∀ w:World,(Instr.index 68 (.agg #[.int .i64 a0,.int .i64 a1,.int .i64 a2,.int .i64 a3]) (.int .i64 3)).run Tryz.prog w = .ok (.int .i64 a3) w:=fun _=>by kernel_rfl);obtain ⟨s,i⟩:=ha0;obtain ⟨t,j⟩:=ha1;obtain ⟨u,l⟩:=ha2;obtain ⟨v,m⟩:=ha3;have y:IntKind.i64.wrap (0+a0)=(0+a0):=Go.IntWalk.i64_in _ ⟨by omega,by omega⟩;have z:IntKind.i64.wrap ((0+a0)+a1)=((0+a0)+a1):=Go.IntWalk.i64_in _ ⟨by omega,by omega⟩;have A:IntKind.i64.wrap (((0+a0)+a1)+a2)=(((0+a0)+a1)+a2):=Go.IntWalk.i64_in _ ⟨by omega,by omega⟩;have B:IntKind.i64.wrap ((((0+a0)+a1)+a2)+a3)=((((0+a0)+a1)+a2)+a3):=Go.IntWalk.i64_in _ ⟨by omega,by omega⟩;have a:=hid (brw w);have d:=hid (jAC w #[.int .i64 a0,.int .i64 a1,.int .i64 a2,.int .i64 a3] 68);have b:Hid (Below w.heap.size w (w.alloc (.cells #[.int .i64 a0,.int .i64 a1,.int .i64 a2,.int .i64 a3] 68))):=a.out.alloc a.out.size (.cells #[.int .i64 a0,.int .i64 a1,.int .i64 a2,.int .i64 a3] 68);have x:w.heap.size<=w.heap.size:=a.out.size;clear a;go_enter Tryz.func137,Tryz.ntmps137;go_wp2;obtain ⟨V,h⟩:∃ V,V=(w.alloc (.cells #[.int .i64 a0,.int .i64 a1,.int .i64 a2,.int .i64 a3] 68)):=⟨_,rfl⟩;rw[<- h] at d b ⊢;clear h
 go_loopg[3,7] 4 (fun gg s3 ix wr=>∃ (k:Nat) (c:Int),gg=4 - k/\k<=4/\ix = .int .i64 k/\s3 = .int .i64 c/\c=(if k=0 then 0 else if k=1 then (0+a0) else if k=2 then ((0+a0)+a1) else if k=3 then (((0+a0)+a1)+a2) else ((((0+a0)+a1)+a2)+a3))/\wr=V)
 case atStart=>exact ⟨0,0,rfl,by omega,rfl,rfl,rfl,rfl⟩
 case round=>
  obtain ⟨k,c,n,C,rfl,rfl,f,rfl⟩:=hrel;(have g:k=0∨k=1∨k=2∨k=3∨k=4:=by omega);rcases g with rfl | rfl | rfl | rfl | rfl
  ·obtain rfl:c=0:=f;go_wp2;go_roundg (4 - (0+1));(case measure=>omega);case rel=>exact ⟨1,(0+a0),rfl,by omega,rfl,by first | rfl | simp,rfl,rfl⟩
  ·obtain rfl:c=(0+a0):=f;go_wp2;go_roundg (4 - (1+1));(case measure=>omega);case rel=>exact ⟨2,((0+a0)+a1),rfl,by omega,rfl,by first | rfl | simp,rfl,rfl⟩
  ·obtain rfl:c=((0+a0)+a1):=f;go_wp2;go_roundg (4 - (2+1));(case measure=>omega);case rel=>exact ⟨3,(((0+a0)+a1)+a2),rfl,by omega,rfl,by first | rfl | simp,rfl,rfl⟩
  ·obtain rfl:c=(((0+a0)+a1)+a2):=f;go_wp2;go_roundg (4 - (3+1));(case measure=>omega);case rel=>exact ⟨4,((((0+a0)+a1)+a2)+a3),rfl,by omega,rfl,by first | rfl | simp,rfl,rfl⟩
  ·obtain rfl:c=((((0+a0)+a1)+a2)+a3):=f;go_wp2;go_ret;exact ⟨rfl,b.out⟩
theorem jLf (a:Nat->Int) (ha:AOk a) (w:World) :
    Calls Tryz.prog 137 #[.agg (av a)] w fun e w'=>e = .returned (.int .i64 (sumI a 4))/\Below w.heap.size w w':=
  asum4 (a 0) (a 1) (a 2) (a 3) (ha 0 (by omega)) (ha 1 (by omega)) (ha 2 (by omega)) (ha 3 (by omega)) w
theorem abears4 (a0 a1 a2 a3 b0 b1 b2 b3:Int)(w:World):Calls Tryz.prog 136 #[.agg #[.int .i64 a0,.int .i64 a1,.int .i64 a2,.int .i64 a3],.agg #[.int .i64 b0,.int .i64 b1,.int .i64 b2,.int .i64 b3]] w fun e w'=>e = .returned (.bool (decide (b0<=a0/\b1<=a1/\b2<=a2/\b3<=a3)))/\Below w.heap.size w w':=by
 (have z:∀ w:World,(Instr.index 68 (.agg #[.int .i64 b0,.int .i64 b1,.int .i64 b2,.int .i64 b3]) (.int .i64 0)).run Tryz.prog w = .ok (.int .i64 b0) w:=fun _=>by kernel_rfl);(have A:∀ w:World,(Instr.index 68 (.agg #[.int .i64 b0,.int .i64 b1,.int .i64 b2,.int .i64 b3]) (.int .i64 1)).run Tryz.prog w = .ok (.int .i64 b1) w:=fun _=>by kernel_rfl);(have B:∀ w:World,(Instr.index 68 (.agg #[.int .i64 b0,.int .i64 b1,.int .i64 b2,.int .i64 b3]) (.int .i64 2)).run Tryz.prog w = .ok (.int .i64 b2) w:=fun _=>by kernel_rfl);(have C:∀ w:World,(Instr.index 68 (.agg #[.int .i64 b0,.int .i64 b1,.int .i64 b2,.int .i64 b3]) (.int .i64 3)).run Tryz.prog w = .ok (.int .i64 b3) w:=fun _=>by kernel_rfl);have f:=hid (brw w);have j:=hid (jAC w #[.int .i64 a0,.int .i64 a1,.int .i64 a2,.int .i64 a3] 68);have g:Hid (Below w.heap.size w (w.alloc (.cells #[.int .i64 a0,.int .i64 a1,.int .i64 a2,.int .i64 a3] 68))):=f.out.alloc f.out.size (.cells #[.int .i64 a0,.int .i64 a1,.int .i64 a2,.int .i64 a3] 68);have D:w.heap.size<=w.heap.size:=f.out.size;clear f;have b:=hid (jAB j.out (.cells #[.int .i64 b0,.int .i64 b1,.int .i64 b2,.int .i64 b3] 68));have m:=hid (jAC (w.alloc (.cells #[.int .i64 a0,.int .i64 a1,.int .i64 a2,.int .i64 a3] 68)) #[.int .i64 b0,.int .i64 b1,.int .i64 b2,.int .i64 b3] 68);have a:Hid (Below w.heap.size w ((w.alloc (.cells #[.int .i64 a0,.int .i64 a1,.int .i64 a2,.int .i64 a3] 68)).alloc (.cells #[.int .i64 b0,.int .i64 b1,.int .i64 b2,.int .i64 b3] 68))):=g.out.alloc g.out.size (.cells #[.int .i64 b0,.int .i64 b1,.int .i64 b2,.int .i64 b3] 68);have E:w.heap.size<=(w.alloc (.cells #[.int .i64 a0,.int .i64 a1,.int .i64 a2,.int .i64 a3] 68)).heap.size:=g.out.size;clear j g;go_enter Tryz.func136,Tryz.ntmps136;go_wp2;obtain ⟨V,r⟩:∃ V,V=((w.alloc (.cells #[.int .i64 a0,.int .i64 a1,.int .i64 a2,.int .i64 a3] 68)).alloc (.cells #[.int .i64 b0,.int .i64 b1,.int .i64 b2,.int .i64 b3] 68)):=⟨_,rfl⟩;rw[<- r] at b m a ⊢;clear r;have s:=b.out.cell 0 _ rfl;have t:=b.out.cell 1 _ rfl;have u:=b.out.cell 2 _ rfl;have v:=b.out.cell 3 _ rfl;have G:=b.out.lt
 go_loopg[8] 4 (fun gg ix wr=>∃ (k:Nat),gg=4 - k/\k<=4/\ix = .int .i64 k/\Hid (0<k->b0<=a0)/\Hid (1<k->b1<=a1)/\Hid (2<k->b2<=a2)/\Hid (3<k->b3<=a3)/\wr=V)
 case atStart=>exact ⟨0,rfl,by omega,rfl,fun h=>by omega,fun h=>by omega,fun h=>by omega,fun h=>by omega,rfl⟩
 case round=>
  obtain ⟨k,y,F,rfl,n,o,q,x,rfl⟩:=hrel;(have p:k=0∨k=1∨k=2∨k=3∨k=4:=by omega);rcases p with rfl | rfl | rfl | rfl | rfl
  ·by_cases c:b0<=a0
   ·(have d:¬ a0<b0:=by omega);have l:=hid c;clear c;go_wp2;go_roundg (4 - (0+1));(case measure=>omega);case rel=>exact ⟨1,rfl,by omega,rfl,fun h=>l.out,fun h=>by omega,fun h=>by omega,fun h=>by omega,rfl⟩
   ·(have d:a0<b0:=by omega);have i:Hid (decide (b0<=a0/\b1<=a1/\b2<=a2/\b3<=a3)=false):=decide_eq_false (fun h=>c (by omega));clear c;go_wp2;go_ret;exact ⟨by rw[i.out];rfl,a.out⟩
  ·by_cases c:b1<=a1
   ·(have d:¬ a1<b1:=by omega);have l:=hid c;clear c;go_wp2;go_roundg (4 - (1+1));(case measure=>omega);case rel=>exact ⟨2,rfl,by omega,rfl,fun h=>n.out (by omega),fun h=>l.out,fun h=>by omega,fun h=>by omega,rfl⟩
   ·(have d:a1<b1:=by omega);have i:Hid (decide (b0<=a0/\b1<=a1/\b2<=a2/\b3<=a3)=false):=decide_eq_false (fun h=>c (by omega));clear c;go_wp2;go_ret;exact ⟨by rw[i.out];rfl,a.out⟩
  ·by_cases c:b2<=a2
   ·(have d:¬ a2<b2:=by omega);have l:=hid c;clear c;go_wp2;go_roundg (4 - (2+1));(case measure=>omega);case rel=>exact ⟨3,rfl,by omega,rfl,fun h=>n.out (by omega),fun h=>o.out (by omega),fun h=>l.out,fun h=>by omega,rfl⟩
   ·(have d:a2<b2:=by omega);have i:Hid (decide (b0<=a0/\b1<=a1/\b2<=a2/\b3<=a3)=false):=decide_eq_false (fun h=>c (by omega));clear c;go_wp2;go_ret;exact ⟨by rw[i.out];rfl,a.out⟩
  ·by_cases c:b3<=a3
   ·(have d:¬ a3<b3:=by omega);have l:=hid c;clear c;go_wp2;go_roundg (4 - (3+1));(case measure=>omega);case rel=>exact ⟨4,rfl,by omega,rfl,fun h=>n.out (by omega),fun h=>o.out (by omega),fun h=>q.out (by omega),fun h=>l.out,rfl⟩
   ·(have d:a3<b3:=by omega);have i:Hid (decide (b0<=a0/\b1<=a1/\b2<=a2/\b3<=a3)=false):=decide_eq_false (fun h=>c (by omega));clear c;go_wp2;go_ret;exact ⟨by rw[i.out];rfl,a.out⟩
  ·have i:Hid (decide (b0<=a0/\b1<=a1/\b2<=a2/\b3<=a3)=true):=decide_eq_true ⟨n.out (by omega),o.out (by omega),q.out (by omega),x.out (by omega)⟩;go_wp2;go_ret;exact ⟨by rw[i.out];rfl,a.out⟩
theorem jGy (a b:Nat->Int):decide (b 0<=a 0/\b 1<=a 1/\b 2<=a 2/\b 3<=a 3)=zN a b 4:=by
 rw[Bool.eq_iff_iff,decide_eq_true_eq,jAz];constructor
 ·rintro ⟨c,d,e,f⟩ r g;(have:r=0∨r=1∨r=2∨r=3:=by omega);rcases this with rfl | rfl | rfl | rfl <;> assumption
 ·exact fun h=>⟨h 0 (by omega),h 1 (by omega),h 2 (by omega),h 3 (by omega)⟩
theorem jD3 (a b:Nat->Int)(w:World):Calls Tryz.prog 136 #[.agg (av a),.agg (av b)] w fun e w'=>e = .returned (.bool (zN a b 4))/\Below w.heap.size w w':=by
 rw[<- jGy];exact abears4 (a 0) (a 1) (a 2) (a 3) (b 0) (b 1) (b 2) (b 3) w
def FBk (w:World)(b:Nat)(M:Nat->Value):Prop:=w.heap[b]? = some (.cells (Array.ofFn (n:=180) fun i=>M i.val) 77 (0,0))
theorem FBk.lt {w:World}{b:Nat}{M:Nat->Value}(h:FBk w b M):b<w.heap.size:=(Array.getElem?_eq_some_iff.1 h).1
theorem FBk.cell {w:World}{b:Nat}{M:Nat->Value}(h:FBk w b M){o:Nat}(ho:o<180):w.cell? ⟨b,o,none⟩=some (M o):=by
 rw[cell_of_row w b o _ _ _ h,Array.getElem?_ofFn,dif_pos ho]
theorem FBk.frozen {w:World}{b:Nat}{M:Nat->Value}(h:FBk w b M)(o:Nat):w.frozen? ⟨b,o,none⟩=false:=frozen_of_row w b o _ _ h
theorem FBk.below {w w':World}{b:Nat}{M:Nat->Value}(h:FBk w b M){B:Nat}(hb:Below B w w')(hB:b<B):FBk w' b M:=(hb.block b hB).trans h
def xM (M:Nat->Value)(o:Nat)(v:Value):Nat->Value:=fun j=>if j=o then v else M j
theorem jAs (M:Nat->Value)(o:Nat)(v:Value):xM M o v o=v:=if_pos rfl
theorem jAA (M:Nat->Value){o j:Nat}(v:Value)(h:j≠o):xM M o v j=M j:=if_neg h
theorem jH6 (n:Nat)(M:Nat->Value)(o:Nat)(v:Value):(Array.ofFn (n:=n) fun i=>M i.val).setIfInBounds o v=Array.ofFn (n:=n) fun i=>xM M o v i.val:=by
 apply Array.ext
 ·simp
 ·intro i a b;simp only[Array.size_setIfInBounds,Array.size_ofFn] at a;rw[Array.getElem_setIfInBounds (by simpa using a)];simp only[Array.getElem_ofFn,xM];by_cases e:o=i
  ·subst e;simp
  ·rw[if_neg e,if_neg (fun h=>e h.symm)]
theorem FBk.set {w:World}{b:Nat}{M:Nat->Value}(h:FBk w b M)(o:Nat)(v:Value):FBk (w.setCell ⟨b,o,none⟩ v) b (xM M o v):=by
 have a:=heap_setCell_same w b o _ _ v h;rw[jH6] at a;exact a
structure Flt where
  k:Nat
  mg:Nat
  ug:Nat
  mt:Nat->Bool
  ms:Nat->Nat->Int
  ut:Nat->Bool
  ud:Nat->Nat->Int
  uw:Nat->Int
  uc:Nat->Int
  m:FM
  due:Nat->ByteArray
  used:Nat->Nat->Int
  ck:Int
  idle:Nat->Int
structure Enc (M:Nat->Value)(F:Flt):Prop where
  k:M 0 = .int .i64 F.k
  mg:M 1 = .int .i64 F.mg
  ug:M 2 = .int .i64 F.ug
  mt:∀ i,i<8->M (3+i*5) = .bool (F.mt i)
  ms:∀ i,i<8->∀ r,r<4->M (3+i*5+1+r) = .int .i64 (F.ms i r)
  ut:∀ u,u<6->M (43+u*22) = .bool (F.ut u)
  ud:∀ u,u<6->∀ r,r<4->M (43+u*22+1+r) = .int .i64 (F.ud u r)
  uw:∀ u,u<6->M (43+u*22+5) = .int .i64 (F.uw u)
  uc:∀ u,u<6->M (43+u*22+6) = .int .i64 (F.uc u)
  wait:∀ u,u<6->M (43+u*22+7) = .int .i64 (F.m.wait u)
  on:∀ u,u<6->∀ m,m<8->M (43+u*22+8+m) = .int .i64 (F.m.on u m)
  due:∀ u,u<6->M (43+u*22+16) = .string (F.due u)
  rev:∀ u,u<6->M (43+u*22+17) = .int .i64 (F.m.rev u)
  used:∀ u,u<6->∀ r,r<4->M (43+u*22+18+r) = .int .i64 (F.used u r)
  ck:M 175 = .int .i64 F.ck
  idle:∀ r,r<4->M (176+r) = .int .i64 (F.idle r)
def FL (w:World)(b:Nat)(F:Flt):Prop:=∃ M,FBk w b M/\Enc M F
theorem FL.lt {w:World}{b:Nat}{F:Flt}(h:FL w b F):b<w.heap.size:=by obtain ⟨M,a,_⟩:=h;exact a.lt
theorem FL.below {w w':World}{b:Nat}{F:Flt}(h:FL w b F)(hb:Below w.heap.size w w'):FL w' b F:=by
 obtain ⟨M,a,c⟩:=h;exact ⟨M,a.below hb a.lt,c⟩
theorem Enc.setWait {M:Nat->Value}{F:Flt}(h:Enc M F){u:Nat}(hu:u<6)(x:Int):Enc (xM M (43+u*22+7) (.int .i64 x)) { F with m:={ F.m with wait:=zF F.m.wait u x } }:=by
 refine ⟨?_,?_,?_,fun i hi=>?_,fun i hi r hr=>?_,fun v hv=>?_,fun v hv r hr=>?_,fun v hv=>?_,fun v hv=>?_,fun v hv=>?_,fun v hv m hm=>?_,fun v hv=>?_,fun v hv=>?_,fun v hv r hr=>?_,?_,fun r hr=>?_⟩
 ·rw[jAA _ _ (by omega)];exact h.k
 ·rw[jAA _ _ (by omega)];exact h.mg
 ·rw[jAA _ _ (by omega)];exact h.ug
 ·rw[jAA _ _ (by omega)];exact h.mt i hi
 ·rw[jAA _ _ (by omega)];exact h.ms i hi r hr
 ·rw[jAA _ _ (by omega)];exact h.ut v hv
 ·rw[jAA _ _ (by omega)];exact h.ud v hv r hr
 ·rw[jAA _ _ (by omega)];exact h.uw v hv
 ·rw[jAA _ _ (by omega)];exact h.uc v hv
 ·by_cases e:v=u
  ·subst e;rw[jAs];show _=Value.int .i64 (zF F.m.wait v x v);rw[jAU]
  ·rw[jAA _ _ (by omega)];show _=Value.int .i64 (zF F.m.wait u x v);rw[jAL _ _ e];exact h.wait v hv
 ·rw[jAA _ _ (by omega)];exact h.on v hv m hm
 ·rw[jAA _ _ (by omega)];exact h.due v hv
 ·rw[jAA _ _ (by omega)];exact h.rev v hv
 ·rw[jAA _ _ (by omega)];exact h.used v hv r hr
 ·rw[jAA _ _ (by omega)];exact h.ck
 ·rw[jAA _ _ (by omega)];exact h.idle r hr
theorem Enc.setOn {M:Nat->Value}{F:Flt}(h:Enc M F){u m:Nat}(hu:u<6)(hm:m<8)(x:Int):Enc (xM M (43+u*22+8+m) (.int .i64 x)) { F with m:={ F.m with on:=yR F.m.on u m x } }:=by
 refine ⟨?_,?_,?_,fun i hi=>?_,fun i hi r hr=>?_,fun v hv=>?_,fun v hv r hr=>?_,fun v hv=>?_,fun v hv=>?_,fun v hv=>?_,fun v hv l hl=>?_,fun v hv=>?_,fun v hv=>?_,fun v hv r hr=>?_,?_,fun r hr=>?_⟩
 ·rw[jAA _ _ (by omega)];exact h.k
 ·rw[jAA _ _ (by omega)];exact h.mg
 ·rw[jAA _ _ (by omega)];exact h.ug
 ·rw[jAA _ _ (by omega)];exact h.mt i hi
 ·rw[jAA _ _ (by omega)];exact h.ms i hi r hr
 ·rw[jAA _ _ (by omega)];exact h.ut v hv
 ·rw[jAA _ _ (by omega)];exact h.ud v hv r hr
 ·rw[jAA _ _ (by omega)];exact h.uw v hv
 ·rw[jAA _ _ (by omega)];exact h.uc v hv
 ·rw[jAA _ _ (by omega)];exact h.wait v hv
 ·show _=Value.int .i64 (yR F.m.on u m x v l);by_cases e:v=u/\l=m
  ·obtain ⟨rfl,rfl⟩:=e;rw[jAs,jCf]
  ·rw[jAA _ _ (by omega),jDj _ _ e];exact h.on v hv l hl
 ·rw[jAA _ _ (by omega)];exact h.due v hv
 ·rw[jAA _ _ (by omega)];exact h.rev v hv
 ·rw[jAA _ _ (by omega)];exact h.used v hv r hr
 ·rw[jAA _ _ (by omega)];exact h.ck
 ·rw[jAA _ _ (by omega)];exact h.idle r hr
theorem Enc.setRev {M:Nat->Value}{F:Flt}(h:Enc M F){u:Nat}(hu:u<6)(x:Int):Enc (xM M (43+u*22+17) (.int .i64 x)) { F with m:={ F.m with rev:=zF F.m.rev u x } }:=by
 refine ⟨?_,?_,?_,fun i hi=>?_,fun i hi r hr=>?_,fun v hv=>?_,fun v hv r hr=>?_,fun v hv=>?_,fun v hv=>?_,fun v hv=>?_,fun v hv m hm=>?_,fun v hv=>?_,fun v hv=>?_,fun v hv r hr=>?_,?_,fun r hr=>?_⟩
 ·rw[jAA _ _ (by omega)];exact h.k
 ·rw[jAA _ _ (by omega)];exact h.mg
 ·rw[jAA _ _ (by omega)];exact h.ug
 ·rw[jAA _ _ (by omega)];exact h.mt i hi
 ·rw[jAA _ _ (by omega)];exact h.ms i hi r hr
 ·rw[jAA _ _ (by omega)];exact h.ut v hv
 ·rw[jAA _ _ (by omega)];exact h.ud v hv r hr
 ·rw[jAA _ _ (by omega)];exact h.uw v hv
 ·rw[jAA _ _ (by omega)];exact h.uc v hv
 ·rw[jAA _ _ (by omega)];exact h.wait v hv
 ·rw[jAA _ _ (by omega)];exact h.on v hv m hm
 ·rw[jAA _ _ (by omega)];exact h.due v hv
 ·by_cases e:v=u
  ·subst e;rw[jAs];show _=Value.int .i64 (zF F.m.rev v x v);rw[jAU]
  ·rw[jAA _ _ (by omega)];show _=Value.int .i64 (zF F.m.rev u x v);rw[jAL _ _ e];exact h.rev v hv
 ·rw[jAA _ _ (by omega)];exact h.used v hv r hr
 ·rw[jAA _ _ (by omega)];exact h.ck
 ·rw[jAA _ _ (by omega)];exact h.idle r hr
def xG (c:Bool)(v z:Value):Value:=if c then .tuple #[v,.int .i64 0] else .tuple #[z,.int .i64 7]
def zJ (F:Flt)(x:Int):Bool:=decide (0<=x) && decide (x<6) && F.ut x.toNat
def zi (F:Flt)(x:Int):Bool:=decide (0<=x) && decide (x<8) && F.mt x.toNat
def zX (F:Flt)(x:Int):Bool:=decide (0<=x) && decide (x<F.ug)
def zh (F:Flt)(x:Int):Bool:=decide (0<=x) && decide (x<F.k)
theorem jBC {F:Flt}{x:Int}(h:zJ F x=true):∃ u:Nat,x=u/\u<6/\F.ut u=true:=by
 unfold zJ at h;simp only[Bool.and_eq_true,decide_eq_true_eq] at h;exact ⟨x.toNat,by omega,by omega,h.2⟩
theorem jC5 {F:Flt}{x:Int}(h:zi F x=true):∃ u:Nat,x=u/\u<8/\F.mt u=true:=by
 unfold zi at h;simp only[Bool.and_eq_true,decide_eq_true_eq] at h;exact ⟨x.toNat,by omega,by omega,h.2⟩
theorem jH7 {F:Flt}{x:Int}(h:zX F x=true):∃ u:Nat,x=u/\u<F.ug:=by
 unfold zX at h;simp only[Bool.and_eq_true,decide_eq_true_eq] at h;exact ⟨x.toNat,by omega,by omega⟩
theorem jHu {F:Flt}{x:Int}(h:zh F x=true):∃ u:Nat,x=u/\u<F.k:=by
 unfold zh at h;simp only[Bool.and_eq_true,decide_eq_true_eq] at h;exact ⟨x.toNat,by omega,by omega⟩
theorem jBA (b:Nat)(F:Flt)(x:Int)(w:World)(hf:FL w b F):Calls Tryz.prog 54 #[.pointer (some ⟨b,0,none⟩),.int .i64 x] w fun e w'=>e = .returned (.bool (zJ F x))/\w'=w:=by
 obtain ⟨M,d,f⟩:=hf;have p:=d.lt;have g:=hid f;have h:=hid d;clear f d;go_enter Tryz.func54,Tryz.ntmps54;by_cases n:x<0
 ·(have a:Hid (zJ F x=false):=by unfold Hid zJ;rw[decide_eq_false (by omega:¬ 0<=x)];rfl);have l:decide ((0:Int)<=x)=false:=decide_eq_false (by omega);(have m:¬ (0:Int)<=x:=by omega);go_wp2;go_ret;exact ⟨by rw[a.out];rfl,rfl⟩
 ·obtain ⟨u,rfl⟩:∃ u:Nat,x=(u:Int):=⟨x.toNat,by omega⟩;by_cases k:u<6
  ·(have c:(u:Int)<6:=by omega);(have a:Hid (zJ F (u:Int)=F.ut u):=by unfold Hid zJ;rw[decide_eq_true (by omega:(0:Int)<=u),decide_eq_true c];simp);have i:=h.out.cell (o:=43+u*22) (by omega);rw[g.out.ut u k] at i;go_wp2;go_ret;exact ⟨by rw[a.out];rfl,rfl⟩
  ·(have c:¬ (u:Int)<6:=by omega);have j:decide ((u:Int)<6)=false:=decide_eq_false c;(have a:Hid (zJ F (u:Int)=false):=by unfold Hid zJ;rw[j];simp);go_wp2;go_ret;exact ⟨by rw[a.out];rfl,rfl⟩
theorem jB6 (b:Nat)(F:Flt)(x:Int)(w:World)(hf:FL w b F):Calls Tryz.prog 55 #[.pointer (some ⟨b,0,none⟩),.int .i64 x] w fun e w'=>e = .returned (.bool (zi F x))/\w'=w:=by
 obtain ⟨M,d,f⟩:=hf;have p:=d.lt;have g:=hid f;have h:=hid d;clear f d;go_enter Tryz.func55,Tryz.ntmps55;by_cases n:x<0
 ·(have a:Hid (zi F x=false):=by unfold Hid zi;rw[decide_eq_false (by omega:¬ 0<=x)];rfl);have l:decide ((0:Int)<=x)=false:=decide_eq_false (by omega);(have m:¬ (0:Int)<=x:=by omega);go_wp2;go_ret;exact ⟨by rw[a.out];rfl,rfl⟩
 ·obtain ⟨u,rfl⟩:∃ u:Nat,x=(u:Int):=⟨x.toNat,by omega⟩;by_cases k:u<8
  ·(have c:(u:Int)<8:=by omega);(have a:Hid (zi F (u:Int)=F.mt u):=by unfold Hid zi;rw[decide_eq_true (by omega:(0:Int)<=u),decide_eq_true c];simp);have i:=h.out.cell (o:=3+u*5) (by omega);rw[g.out.mt u k] at i;go_wp2;go_ret;exact ⟨by rw[a.out];rfl,rfl⟩
  ·(have c:¬ (u:Int)<8:=by omega);have j:decide ((u:Int)<8)=false:=decide_eq_false c;(have a:Hid (zi F (u:Int)=false):=by unfold Hid zi;rw[j];simp);go_wp2;go_ret;exact ⟨by rw[a.out];rfl,rfl⟩
theorem jFI (b:Nat)(F:Flt)(x:Int)(w:World)(hf:FL w b F):Calls Tryz.prog 56 #[.pointer (some ⟨b,0,none⟩),.int .i64 x] w fun e w'=>e = .returned (.bool (zX F x))/\w'=w:=by
 obtain ⟨M,d,f⟩:=hf;have k:=d.lt;have g:=d.cell (o:=2) (by omega);rw[f.ug] at g;clear f d;go_enter Tryz.func56,Tryz.ntmps56;by_cases j:x<0
 ·(have a:Hid (zX F x=false):=by unfold Hid zX;rw[decide_eq_false (by omega:¬ 0<=x)];rfl);have h:decide ((0:Int)<=x)=false:=decide_eq_false (by omega);(have i:¬ (0:Int)<=x:=by omega);go_wp2;go_ret;exact ⟨by rw[a.out];rfl,rfl⟩
 ·(have c:(0:Int)<=x:=by omega);(have a:Hid (zX F x=decide (x<F.ug)):=by unfold Hid zX;rw[decide_eq_true c];rfl);go_wp2;go_ret;exact ⟨by rw[a.out];rfl,rfl⟩
theorem jEx (b:Nat)(F:Flt)(x:Int)(w:World)(hf:FL w b F):Calls Tryz.prog 57 #[.pointer (some ⟨b,0,none⟩),.int .i64 x] w fun e w'=>e = .returned (.bool (zh F x))/\w'=w:=by
 obtain ⟨M,d,f⟩:=hf;have l:=d.lt;have g:=d.cell (o:=0) (by omega);rw[f.k] at g;clear f d;go_enter Tryz.func57,Tryz.ntmps57;by_cases j:x<0
 ·(have a:Hid (zh F x=false):=by unfold Hid zh;rw[decide_eq_false (by omega:¬ 0<=x)];rfl);have h:decide ((0:Int)<=x)=false:=decide_eq_false (by omega);(have i:¬ (0:Int)<=x:=by omega);go_wp2;go_ret;exact ⟨by rw[a.out];rfl,rfl⟩
 ·(have c:(0:Int)<=x:=by omega);(have a:Hid (zh F x=decide (x<F.k)):=by unfold Hid zh;rw[decide_eq_true c];rfl);go_wp2;go_ret;exact ⟨by rw[a.out];rfl,rfl⟩
theorem Running_any (b:Nat)(F:Flt)(x y:Int)(w:World)(hf:FL w b F):Calls Tryz.prog 19 #[.pointer (some ⟨b,0,none⟩),.int .i64 x,.int .i64 y] w fun e w'=>e = .returned (xG (zJ F x && zi F y) (.int .i64 (F.m.on x.toNat y.toNat)) (.int .i64 0))/\w'=w:=by
 have h:=hid hf;clear hf;go_enter Tryz.func19,Tryz.ntmps19;go_wp2_with fail;refine (jBA b F x _ h.out).mono ?_;rintro p q ⟨rfl,rfl⟩;by_cases c:zJ F x=true
 ·have d:=hid c;rw[c];obtain ⟨u,rfl,k,_⟩:=jBC c;clear c;(have t:(u:Int)<6:=by omega);go_wp2_with fail;refine (jB6 b F y _ h.out).mono ?_;rintro p q ⟨rfl,rfl⟩;by_cases a:zi F y=true
  ·have f:=hid a;rw[a];obtain ⟨m,rfl,j,_⟩:=jC5 a;clear a;(have s:(m:Int)<8:=by omega);obtain ⟨M,i,l⟩:=h.out;have r:=i.lt;have n:=i.cell (o:=43+u*22+8+m) (by omega);rw[l.on u k m j] at n;clear l i;go_wp2;go_ret2;exact ⟨by rw[d.out,f.out];rfl,rfl⟩
  ·(have g:zi F y=false:=by simpa using a);have f:=hid g;rw[g];clear a g;go_wp2;go_ret2;exact ⟨by rw[d.out,f.out];rfl,rfl⟩
 ·(have g:zJ F x=false:=by simpa using c);have d:=hid g;rw[g];clear c g;go_wp2;go_ret2;exact ⟨by rw[d.out];rfl,rfl⟩
theorem Waiting_any (b:Nat)(F:Flt)(x:Int)(w:World)(hf:FL w b F):Calls Tryz.prog 21 #[.pointer (some ⟨b,0,none⟩),.int .i64 x] w fun e w'=>e = .returned (xG (zJ F x) (.int .i64 (F.m.wait x.toNat)) (.int .i64 0))/\w'=w:=by
 have h:=hid hf;clear hf;go_enter Tryz.func21,Tryz.ntmps21;go_wp2_with fail;refine (jBA b F x _ h.out).mono ?_;rintro k p ⟨rfl,rfl⟩;by_cases a:zJ F x=true
 ·have c:=hid a;rw[a];obtain ⟨u,rfl,g,_⟩:=jBC a;clear a;(have n:(u:Int)<6:=by omega);obtain ⟨M,f,i⟩:=h.out;have l:=f.lt;have j:=f.cell (o:=43+u*22+7) (by omega);rw[i.wait u g] at j;clear i f;go_wp2;go_ret2;exact ⟨by rw[c.out];rfl,rfl⟩
 ·(have d:zJ F x=false:=by simpa using a);have c:=hid d;rw[d];clear a d;go_wp2;go_ret2;exact ⟨by rw[c.out];rfl,rfl⟩
theorem Due_any (b:Nat)(F:Flt)(x:Int)(w:World)(hf:FL w b F):Calls Tryz.prog 22 #[.pointer (some ⟨b,0,none⟩),.int .i64 x] w fun e w'=>e = .returned (xG (zJ F x) (.string (F.due x.toNat)) (.string ⟨#[]⟩))/\w'=w:=by
 have h:=hid hf;clear hf;go_enter Tryz.func22,Tryz.ntmps22;go_wp2_with fail;refine (jBA b F x _ h.out).mono ?_;rintro k n ⟨rfl,rfl⟩;by_cases a:zJ F x=true
 ·have c:=hid a;rw[a];obtain ⟨u,rfl,g,_⟩:=jBC a;clear a;(have m:(u:Int)<6:=by omega);obtain ⟨M,f,i⟩:=h.out;have l:=f.lt;have j:=f.cell (o:=43+u*22+16) (by omega);rw[i.due u g] at j;clear i f;go_wp2;go_ret2;exact ⟨by rw[c.out];rfl,rfl⟩
 ·(have d:zJ F x=false:=by simpa using a);have c:=hid d;rw[d];clear a d;go_wp2;go_ret2;exact ⟨by rw[c.out];rfl,rfl⟩
theorem Revoked_any (b:Nat)(F:Flt)(x:Int)(w:World)(hf:FL w b F)(hug:F.ug<=6):Calls Tryz.prog 23 #[.pointer (some ⟨b,0,none⟩),.int .i64 x] w fun e w'=>e = .returned (xG (zX F x) (.int .i64 (F.m.rev x.toNat)) (.int .i64 0))/\w'=w:=by
 have g:=hid hf;clear hf;go_enter Tryz.func23,Tryz.ntmps23;go_wp2_with fail;refine (jFI b F x _ g.out).mono ?_;rintro k p ⟨rfl,rfl⟩;by_cases a:zX F x=true
 ·have c:=hid a;rw[a];obtain ⟨u,rfl,j⟩:=jH7 a;clear a;(have n:(u:Int)<F.ug:=by omega);obtain ⟨M,f,h⟩:=g.out;have l:=f.lt;have i:=f.cell (o:=43+u*22+17) (by omega);rw[h.rev u (by omega)] at i;clear h f;go_wp2;go_ret2;exact ⟨by rw[c.out];rfl,rfl⟩
 ·(have d:zX F x=false:=by simpa using a);have c:=hid d;rw[d];clear a d;go_wp2;go_ret2;exact ⟨by rw[c.out];rfl,rfl⟩
theorem Used_any (b:Nat)(F:Flt)(x y:Int)(w:World)(hf:FL w b F)(hug:F.ug<=6)(hk:F.k<=4):Calls Tryz.prog 20 #[.pointer (some ⟨b,0,none⟩),.int .i64 x,.int .i64 y] w fun e w'=>e = .returned (xG (zX F x && zh F y) (.int .i64 (F.used x.toNat y.toNat)) (.int .i64 0))/\w'=w:=by
 have h:=hid hf;clear hf;go_enter Tryz.func20,Tryz.ntmps20;go_wp2_with fail;refine (jFI b F x _ h.out).mono ?_;rintro m q ⟨rfl,rfl⟩;by_cases a:zX F x=true
 ·have d:=hid a;rw[a];obtain ⟨u,rfl,p⟩:=jH7 a;clear a;(have v:(u:Int)<F.ug:=by omega);go_wp2_with fail;refine (jEx b F y _ h.out).mono ?_;rintro m q ⟨rfl,rfl⟩;by_cases c:zh F y=true
  ·have f:=hid c;rw[c];obtain ⟨r,rfl,n⟩:=jHu c;clear c;(have t:(r:Int)<F.k:=by omega);obtain ⟨M,i,j⟩:=h.out;have s:=i.lt;have l:=i.cell (o:=43+u*22+18+r) (by omega);rw[j.used u (by omega) r (by omega)] at l;clear j i;go_wp2;go_ret2;exact ⟨by rw[d.out,f.out];rfl,rfl⟩
  ·(have g:zh F y=false:=by simpa using c);have f:=hid g;rw[g];clear c g;go_wp2;go_ret2;exact ⟨by rw[d.out,f.out];rfl,rfl⟩
 ·(have g:zX F x=false:=by simpa using a);have d:=hid g;rw[g];clear a g;go_wp2;go_ret2;exact ⟨by rw[d.out];rfl,rfl⟩
theorem Idle_any (b:Nat)(F:Flt)(y:Int)(w:World)(hf:FL w b F)(hk:F.k<=4):Calls Tryz.prog 24 #[.pointer (some ⟨b,0,none⟩),.int .i64 y] w fun e w'=>e = .returned (xG (zh F y) (.int .i64 (F.idle y.toNat)) (.int .i64 0))/\w'=w:=by
 have g:=hid hf;clear hf;go_enter Tryz.func24,Tryz.ntmps24;go_wp2_with fail;refine (jEx b F y _ g.out).mono ?_;rintro l p ⟨rfl,rfl⟩;by_cases a:zh F y=true
 ·have c:=hid a;rw[a];obtain ⟨r,rfl,j⟩:=jHu a;clear a;(have n:(r:Int)<F.k:=by omega);obtain ⟨M,f,h⟩:=g.out;have m:=f.lt;have i:=f.cell (o:=176+r) (by omega);rw[h.idle r (by omega)] at i;clear h f;go_wp2;go_ret2;exact ⟨by rw[c.out];rfl,rfl⟩
 ·(have d:zh F y=false:=by simpa using a);have c:=hid d;rw[d];clear a d;go_wp2;go_ret2;exact ⟨by rw[c.out];rfl,rfl⟩
theorem Clock_any (b:Nat)(F:Flt)(w:World)(hf:FL w b F):Calls Tryz.prog 25 #[.pointer (some ⟨b,0,none⟩)] w fun e w'=>e = .returned (.int .i64 F.ck)/\w'=w:=by
 obtain ⟨M,a,c⟩:=hf;have f:=a.lt;have d:=a.cell (o:=175) (by omega);rw[c.ck] at d;clear c a;go_enter Tryz.func25,Tryz.ntmps25;go_wp2;go_ret;exact ⟨rfl,rfl⟩
theorem running8 (pb po:Nat)(o0 o1 o2 o3 o4 o5 o6 o7:Int)(w:World)(lb:pb<w.heap.size)(c0:w.cell? ⟨pb,po+8,none⟩=some (.int .i64 o0))(h0:0<=o0/\o0<=1000000)(c1:w.cell? ⟨pb,po+8+1,none⟩=some (.int .i64 o1))(h1:0<=o1/\o1<=1000000)(c2:w.cell? ⟨pb,po+8+2,none⟩=some (.int .i64 o2))(h2:0<=o2/\o2<=1000000)(c3:w.cell? ⟨pb,po+8+3,none⟩=some (.int .i64 o3))(h3:0<=o3/\o3<=1000000)(c4:w.cell? ⟨pb,po+8+4,none⟩=some (.int .i64 o4))(h4:0<=o4/\o4<=1000000)(c5:w.cell? ⟨pb,po+8+5,none⟩=some (.int .i64 o5))(h5:0<=o5/\o5<=1000000)(c6:w.cell? ⟨pb,po+8+6,none⟩=some (.int .i64 o6))(h6:0<=o6/\o6<=1000000)(c7:w.cell? ⟨pb,po+8+7,none⟩=some (.int .i64 o7))(h7:0<=o7/\o7<=1000000):Calls Tryz.prog 84 #[.pointer (some ⟨pb,po,none⟩)] w fun e w'=>e = .returned (.int .i64 ((((((((0+o0)+o1)+o2)+o3)+o4)+o5)+o6)+o7))/\w'=w:=by
 (have f:∀ w:World,(Instr.index 72 (.agg #[.int .i64 o0,.int .i64 o1,.int .i64 o2,.int .i64 o3,.int .i64 o4,.int .i64 o5,.int .i64 o6,.int .i64 o7]) (.int .i64 0)).run Tryz.prog w = .ok (.int .i64 o0) w:=fun _=>by kernel_rfl);(have g:∀ w:World,(Instr.index 72 (.agg #[.int .i64 o0,.int .i64 o1,.int .i64 o2,.int .i64 o3,.int .i64 o4,.int .i64 o5,.int .i64 o6,.int .i64 o7]) (.int .i64 1)).run Tryz.prog w = .ok (.int .i64 o1) w:=fun _=>by kernel_rfl);(have h:∀ w:World,(Instr.index 72 (.agg #[.int .i64 o0,.int .i64 o1,.int .i64 o2,.int .i64 o3,.int .i64 o4,.int .i64 o5,.int .i64 o6,.int .i64 o7]) (.int .i64 2)).run Tryz.prog w = .ok (.int .i64 o2) w:=fun _=>by kernel_rfl);(have i:∀ w:World,(Instr.index 72 (.agg #[.int .i64 o0,.int .i64 o1,.int .i64 o2,.int .i64 o3,.int .i64 o4,.int .i64 o5,.int .i64 o6,.int .i64 o7]) (.int .i64 3)).run Tryz.prog w = .ok (.int .i64 o3) w:=fun _=>by kernel_rfl);(have j:∀ w:World,(Instr.index 72 (.agg #[.int .i64 o0,.int .i64 o1,.int .i64 o2,.int .i64 o3,.int .i64 o4,.int .i64 o5,.int .i64 o6,.int .i64 o7]) (.int .i64 4)).run Tryz.prog w = .ok (.int .i64 o4) w:=fun _=>by kernel_rfl);(have l:∀ w:World,(Instr.index 72 (.agg #[.int .i64 o0,.int .i64 o1,.int .i64 o2,.int .i64 o3,.int .i64 o4,.int .i64 o5,.int .i64 o6,.int .i64 o7]) (.int .i64 5)).run Tryz.prog w = .ok (.int .i64 o5) w:=fun _=>by kernel_rfl);(have m:∀ w:World,(Instr.index 72 (.agg #[.int .i64 o0,.int .i64 o1,.int .i64 o2,.int .i64 o3,.int .i64 o4,.int .i64 o5,.int .i64 o6,.int .i64 o7]) (.int .i64 6)).run Tryz.prog w = .ok (.int .i64 o6) w:=fun _=>by kernel_rfl);(have n:∀ w:World,(Instr.index 72 (.agg #[.int .i64 o0,.int .i64 o1,.int .i64 o2,.int .i64 o3,.int .i64 o4,.int .i64 o5,.int .i64 o6,.int .i64 o7]) (.int .i64 7)).run Tryz.prog w = .ok (.int .i64 o7) w:=fun _=>by kernel_rfl);have o:IntKind.i64.wrap (0+o0)=(0+o0):=Go.IntWalk.i64_in _ ⟨by omega,by omega⟩;have p:IntKind.i64.wrap ((0+o0)+o1)=((0+o0)+o1):=Go.IntWalk.i64_in _ ⟨by omega,by omega⟩;have q:IntKind.i64.wrap (((0+o0)+o1)+o2)=(((0+o0)+o1)+o2):=Go.IntWalk.i64_in _ ⟨by omega,by omega⟩;have r:IntKind.i64.wrap ((((0+o0)+o1)+o2)+o3)=((((0+o0)+o1)+o2)+o3):=Go.IntWalk.i64_in _ ⟨by omega,by omega⟩;have s:IntKind.i64.wrap (((((0+o0)+o1)+o2)+o3)+o4)=(((((0+o0)+o1)+o2)+o3)+o4):=Go.IntWalk.i64_in _ ⟨by omega,by omega⟩;have t:IntKind.i64.wrap ((((((0+o0)+o1)+o2)+o3)+o4)+o5)=((((((0+o0)+o1)+o2)+o3)+o4)+o5):=Go.IntWalk.i64_in _ ⟨by omega,by omega⟩;have u:IntKind.i64.wrap (((((((0+o0)+o1)+o2)+o3)+o4)+o5)+o6)=(((((((0+o0)+o1)+o2)+o3)+o4)+o5)+o6):=Go.IntWalk.i64_in _ ⟨by omega,by omega⟩;have v:IntKind.i64.wrap ((((((((0+o0)+o1)+o2)+o3)+o4)+o5)+o6)+o7)=((((((((0+o0)+o1)+o2)+o3)+o4)+o5)+o6)+o7):=Go.IntWalk.i64_in _ ⟨by omega,by omega⟩;go_enter Tryz.func84,Tryz.ntmps84;go_wp2
 go_loopg[3,10] 8 (fun gg s3 ix wr=>∃ (k:Nat) (c:Int),gg=8 - k/\k<=8/\ix = .int .i64 k/\s3 = .int .i64 c/\c=(if k=0 then 0 else if k=1 then (0+o0) else if k=2 then ((0+o0)+o1) else if k=3 then (((0+o0)+o1)+o2) else if k=4 then ((((0+o0)+o1)+o2)+o3) else if k=5 then (((((0+o0)+o1)+o2)+o3)+o4) else if k=6 then ((((((0+o0)+o1)+o2)+o3)+o4)+o5) else if k=7 then (((((((0+o0)+o1)+o2)+o3)+o4)+o5)+o6) else ((((((((0+o0)+o1)+o2)+o3)+o4)+o5)+o6)+o7))/\wr=w)
 case atStart=>exact ⟨0,0,rfl,by omega,rfl,rfl,rfl,rfl⟩
 case round=>
  obtain ⟨k,c,d,x,rfl,rfl,a,rfl⟩:=hrel;(have b:k=0∨k=1∨k=2∨k=3∨k=4∨k=5∨k=6∨k=7∨k=8:=by omega);rcases b with rfl | rfl | rfl | rfl | rfl | rfl | rfl | rfl | rfl
  ·obtain rfl:c=0:=a;go_wp2;go_roundg (8 - (0+1));(case measure=>omega);case rel=>exact ⟨1,(0+o0),rfl,by omega,rfl,by first | rfl | simp,rfl,rfl⟩
  ·obtain rfl:c=(0+o0):=a;go_wp2;go_roundg (8 - (1+1));(case measure=>omega);case rel=>exact ⟨2,((0+o0)+o1),rfl,by omega,rfl,by first | rfl | simp,rfl,rfl⟩
  ·obtain rfl:c=((0+o0)+o1):=a;go_wp2;go_roundg (8 - (2+1));(case measure=>omega);case rel=>exact ⟨3,(((0+o0)+o1)+o2),rfl,by omega,rfl,by first | rfl | simp,rfl,rfl⟩
  ·obtain rfl:c=(((0+o0)+o1)+o2):=a;go_wp2;go_roundg (8 - (3+1));(case measure=>omega);case rel=>exact ⟨4,((((0+o0)+o1)+o2)+o3),rfl,by omega,rfl,by first | rfl | simp,rfl,rfl⟩
  ·obtain rfl:c=((((0+o0)+o1)+o2)+o3):=a;go_wp2;go_roundg (8 - (4+1));(case measure=>omega);case rel=>exact ⟨5,(((((0+o0)+o1)+o2)+o3)+o4),rfl,by omega,rfl,by first | rfl | simp,rfl,rfl⟩
  ·obtain rfl:c=(((((0+o0)+o1)+o2)+o3)+o4):=a;go_wp2;go_roundg (8 - (5+1));(case measure=>omega);case rel=>exact ⟨6,((((((0+o0)+o1)+o2)+o3)+o4)+o5),rfl,by omega,rfl,by first | rfl | simp,rfl,rfl⟩
  ·obtain rfl:c=((((((0+o0)+o1)+o2)+o3)+o4)+o5):=a;go_wp2;go_roundg (8 - (6+1));(case measure=>omega);case rel=>exact ⟨7,(((((((0+o0)+o1)+o2)+o3)+o4)+o5)+o6),rfl,by omega,rfl,by first | rfl | simp,rfl,rfl⟩
  ·obtain rfl:c=(((((((0+o0)+o1)+o2)+o3)+o4)+o5)+o6):=a;go_wp2;go_roundg (8 - (7+1));(case measure=>omega);case rel=>exact ⟨8,((((((((0+o0)+o1)+o2)+o3)+o4)+o5)+o6)+o7),rfl,by omega,rfl,by first | rfl | simp,rfl,rfl⟩
  ·obtain rfl:c=((((((((0+o0)+o1)+o2)+o3)+o4)+o5)+o6)+o7):=a;go_wp2;go_ret;exact ⟨rfl,rfl⟩
theorem jCW (pb po:Nat) (on:Nat->Int) (w:World) (lb:pb<w.heap.size) (hc:∀ m,m<8->w.cell? ⟨pb,po+8+m,none⟩=some (.int .i64 (on m))) (h:∀ m,m<8->0<=on m/\on m<=1000000) :
    Calls Tryz.prog 84 #[.pointer (some ⟨pb,po,none⟩)] w fun e w'=>e = .returned (.int .i64 (sumI on 8))/\w'=w:=
  running8 pb po (on 0) (on 1) (on 2) (on 3) (on 4) (on 5) (on 6) (on 7) w lb (hc 0 (by omega)) (h 0 (by omega)) (hc 1 (by omega)) (h 1 (by omega)) (hc 2 (by omega)) (h 2 (by omega)) (hc 3 (by omega)) (h 3 (by omega)) (hc 4 (by omega)) (h 4 (by omega)) (hc 5 (by omega)) (h 5 (by omega)) (hc 6 (by omega)) (h 6 (by omega)) (hc 7 (by omega)) (h 7 (by omega))
theorem jDk (T e:TypeId)(n s k:Nat)(A:Array Value)(d:TypeDesc)(w:World)(hu:Tryz.prog.underlying T=some (.array n e))(he:Tryz.prog.underlying e=some d)(hd:d.isRow=true)(hs:(Tryz.prog.info? e).map (·.size)=some s)(hk:k<n):(Instr.index T (.agg A) (.int .i64 k)).run Tryz.prog w = .ok (.agg (A.extract (k*s) (k*s+s))) w:=by
 have f:(0:Int)<=(k:Int)/\(k:Int)<(n:Int):=by omega
 cases b:Tryz.prog.info? e with
 | none=>simp[b] at hs
 | some i=>
  have c:i.size=s:=by simpa [b] using hs
  have a:(isAgg e).run Tryz.prog w = .ok true w:=by
   unfold isAgg;rw[Sem.run_bind,run_underlying he w]
   cases d <;> simp_all
  simp[Instr.index,Sem.run_bind,asIntOf,run_underlying hu w,sizeOf,typeInfo,b,c,part,a,f];intro h;omega
def yC (M:Nat->Value)(o n:Nat):List Value:=(List.range n).map fun j=>M (o+j)
theorem jBM (M:Nat->Value)(o n:Nat):(yC M o n).length=n:=by simp[yC]
theorem jEq (M:Nat->Value)(o n a m:Nat)(h:a+m<=n):(yC M o n).toArray.extract a (a+m)=(yC M (o+a) m).toArray:=by
 apply Array.ext
 ·simp[yC];omega
 ·intro i c b;simp[yC] at b ⊢;congr 1;omega
theorem FBk.range {w:World}{b:Nat}{M:Nat->Value}(h:FBk w b M)(o n:Nat)(hn:o+n<=180):w.rangeAt b o (yC M o n):=by
 intro j v a;(have c:j<n:=by simpa [yC] using (List.getElem?_eq_some_iff.1 a).1);rw[h.cell (by omega)];unfold yC at a;rw[List.getElem?_map,List.getElem?_range c] at a;exact a
theorem Tryz.uMachs:Tryz.prog.underlying 71=some (.array 8 70):=by kernel_rfl
theorem Tryz.uUsers:Tryz.prog.underlying 75=some (.array 6 74):=by kernel_rfl
theorem Tryz.zMachs:(Tryz.prog.info? 71).map (·.size)=some 40:=by kernel_rfl
theorem Tryz.zUsers:(Tryz.prog.info? 75).map (·.size)=some 132:=by kernel_rfl
theorem Tryz.zMach:(Tryz.prog.info? 70).map (·.size)=some 5:=by kernel_rfl
theorem Tryz.zUser:(Tryz.prog.info? 74).map (·.size)=some 22:=by kernel_rfl
theorem Tryz.uMach:∃ d,Tryz.prog.underlying 70=some d/\d.isRow=true:=by
 have h:(Tryz.prog.underlying 70).map TypeDesc.isRow=some true:=by kernel_rfl
 cases a:Tryz.prog.underlying 70 with
 | none=>rw[a] at h;cases h
 | some d=>rw[a] at h;exact ⟨d,rfl,by simpa using h⟩
theorem Tryz.uUser:∃ d,Tryz.prog.underlying 74=some d/\d.isRow=true:=by
 have h:(Tryz.prog.underlying 74).map TypeDesc.isRow=some true:=by kernel_rfl
 cases a:Tryz.prog.underlying 74 with
 | none=>rw[a] at h;cases h
 | some d=>rw[a] at h;exact ⟨d,rfl,by simpa using h⟩
abbrev mcells (F:Flt)(i:Nat):Array Value:=#[.bool (F.mt i),.int .i64 (F.ms i 0),.int .i64 (F.ms i 1),.int .i64 (F.ms i 2),.int .i64 (F.ms i 3)]
abbrev zE (F:Flt)(u:Nat):Array Value:=#[.bool (F.ut u),.int .i64 (F.ud u 0),.int .i64 (F.ud u 1),.int .i64 (F.ud u 2),.int .i64 (F.ud u 3),.int .i64 (F.uw u),.int .i64 (F.uc u),.int .i64 (F.m.wait u),.int .i64 (F.m.on u 0),.int .i64 (F.m.on u 1),.int .i64 (F.m.on u 2),.int .i64 (F.m.on u 3),.int .i64 (F.m.on u 4),.int .i64 (F.m.on u 5),.int .i64 (F.m.on u 6),.int .i64 (F.m.on u 7),.string (F.due u),.int .i64 (F.m.rev u),.int .i64 (F.used u 0),.int .i64 (F.used u 1),.int .i64 (F.used u 2),.int .i64 (F.used u 3)]
theorem jCQ {M:Nat->Value}{F:Flt}(hE:Enc M F){i:Nat}(hi:i<8)(w:World):(Instr.index 71 (.agg (yC M 3 40).toArray) (.int .i64 i)).run Tryz.prog w = .ok (.agg (mcells F i)) w:=by
 obtain ⟨d,h,j⟩:=Tryz.uMach;rw[jDk _ _ 8 5 i _ d w Tryz.uMachs h j Tryz.zMach hi,jEq M 3 40 (i*5) 5 (by omega)];have e:(yC M (3+i*5) 5).toArray=#[M (3+i*5+0),M (3+i*5+1),M (3+i*5+2),M (3+i*5+3),M (3+i*5+4)]:=rfl;rw[e];have g:=hE.mt i hi;have a:=hE.ms i hi 0 (by omega);have b:=hE.ms i hi 1 (by omega);have c:=hE.ms i hi 2 (by omega);have f:=hE.ms i hi 3 (by omega);rw[show 3+i*5+1+0=3+i*5+1 by omega] at a;rw[show 3+i*5+1+1=3+i*5+2 by omega] at b;rw[show 3+i*5+1+2=3+i*5+3 by omega] at c;rw[show 3+i*5+1+3=3+i*5+4 by omega] at f;rw[show 3+i*5+0=3+i*5 by omega,g,a,b,c,f]
theorem jCK {M:Nat->Value}{F:Flt}(hE:Enc M F){i:Nat}(hi:i<6)(w:World):(Instr.index 75 (.agg (yC M 43 132).toArray) (.int .i64 i)).run Tryz.prog w = .ok (.agg (zE F i)) w:=by
 obtain ⟨d,g,f⟩:=Tryz.uUser;rw[jDk _ _ 6 22 i _ d w Tryz.uUsers g f Tryz.zUser hi,jEq M 43 132 (i*22) 22 (by omega)];(have b:∀ r,r<4->M (43+i*22+(1+r)) = .int .i64 (F.ud i r):=fun r f=>by rw[<- Nat.add_assoc];exact hE.ud i hi r f);(have a:∀ r,r<8->M (43+i*22+(8+r)) = .int .i64 (F.m.on i r):=fun r f=>by rw[<- Nat.add_assoc];exact hE.on i hi r f);(have c:∀ r,r<4->M (43+i*22+(18+r)) = .int .i64 (F.used i r):=fun r f=>by rw[<- Nat.add_assoc];exact hE.used i hi r f);have e:(yC M (43+i*22) 22).toArray=#[M (43+i*22),M (43+i*22+(1+0)),M (43+i*22+(1+1)),M (43+i*22+(1+2)),M (43+i*22+(1+3)),M (43+i*22+5),M (43+i*22+6),M (43+i*22+7),M (43+i*22+(8+0)),M (43+i*22+(8+1)),M (43+i*22+(8+2)),M (43+i*22+(8+3)),M (43+i*22+(8+4)),M (43+i*22+(8+5)),M (43+i*22+(8+6)),M (43+i*22+(8+7)),M (43+i*22+16),M (43+i*22+17),M (43+i*22+(18+0)),M (43+i*22+(18+1)),M (43+i*22+(18+2)),M (43+i*22+(18+3))]:=rfl;rw[e,hE.ut i hi,b 0 (by omega),b 1 (by omega),b 2 (by omega),b 3 (by omega),hE.uw i hi,hE.uc i hi,hE.wait i hi,a 0 (by omega),a 1 (by omega),a 2 (by omega),a 3 (by omega),a 4 (by omega),a 5 (by omega),a 6 (by omega),a 7 (by omega),hE.due i hi,hE.rev i hi,c 0 (by omega),c 1 (by omega),c 2 (by omega),c 3 (by omega)]
end Go.Proofs.YtigokanoflkinabGreatDoor
