/- portionkeep: holds, what Gentle looks at. (Laid by mkbkge.py.) -/
import Derived.Test.YtigokanoflkinabGreatDoorBkDL
import Derived.Test.YtigokanoflkinabGreatDoorBkGw
set_option maxHeartbeats 2000000
set_option maxRecDepth 20000
namespace Go.Proofs.YtigokanoflkinabGreatDoor
set_option linter.unusedSimpArgs false
set_option linter.unusedVariables false
open Go.RowKit Por
theorem jGi:Holds 3:=by
 intro Q b T sb B R F G S sv uv hv lv pv ss ps o n q p I w X Y W hw Z m L hR hs y z ht;obtain ⟨j,g,h,i,O,c⟩:=o;have t:=hid X;have r:=hid Y;have HA:=hid W;have P:=hid hw;have HQ:=hid Z;have H:=hid m;have u:=hid z.tv;have f:=hid ht
 have s:Hid (I=0->GentB F ⟨j,g,h,i,O,c⟩ G):=fun v=>by
  rcases hs with ⟨J,_⟩ | ⟨_,⟨F1,J,h2⟩ | ⟨K,_⟩⟩
  ·exact absurd v J
  ·exact J.gentle m L h2
  ·exact absurd K (y (by decide))
 clear X Y W hw Z m hs z ht y;dsimp only;have d:=hid (brw w);have e:=hid (jAC w #[.int .i64 j,.int .i64 g,.int .i64 h,.int .i64 i,.slice n q p,.bool c] 30);have a:Hid (Below w.heap.size w (w.alloc (.cells #[.int .i64 j,.int .i64 g,.int .i64 h,.int .i64 i,.slice n q p,.bool c] 30))):=d.out.alloc d.out.size (.cells #[.int .i64 j,.int .i64 g,.int .i64 h,.int .i64 i,.slice n q p,.bool c] 30);have M:w.heap.size<=w.heap.size:=d.out.size;clear d;go_enter Tryz.func12,Tryz.ntmps12;(go_upto_region 1 with fail);obtain ⟨V,U⟩:∃ V,V=(w.alloc (.cells #[.int .i64 j,.int .i64 g,.int .i64 h,.int .i64 i,.slice n q p,.bool c] 30)):=⟨_,rfl⟩;rw[<- U] at e a ⊢;clear U;obtain ⟨N,l⟩:∃ N,N=w.heap.size:=⟨_,rfl⟩;(have k:Hid (Bx V N #[.int .i64 j,.int .i64 g,.int .i64 h,.int .i64 i,.slice n q p,.bool c] 30):=by rw[l];exact e);rw[<- l];have HK:=hid (t.out.below a.out);have HF:=hid (r.out.below a.out);have HT:=hid (u.out.below a.out);have E:=hid (f.out.below a.out);have A:=a;clear e a t r u f l M;by_cases v:I=0
 ·have D:Hid (GentB F ⟨j,g,h,i,O,c⟩ G):=s.out v;clear s;subst v;(have XV:Hid (VW V b T G S.sp):=by obtain ⟨s1,s2,s3,s4,s5,s6,s7,s8,s9,ab,_,_,_,_,_,K⟩:=HK.out.vw HF.out HA.out P.out;exact K.vw);have k0:=k.out.cell 0 _ rfl;have k1:=k.out.cell 1 _ rfl;have k2:=k.out.cell 2 _ rfl;have k3:=k.out.cell 3 _ rfl;have k4:=k.out.cell 4 _ rfl;have k5:=k.out.cell 5 _ rfl;have aa:=k.out.lt;go_wp2_with fail;refine (jKc b T sb _ _ F G S.sp ⟨j,g,h,i,O,c⟩ n q p _ XV.out P.out H.out HQ.out E.out HT.out D.out).mono ?_;rintro e1 w1 ⟨rfl,x⟩;have C:Hid (Below w.heap.size w w1):=A.out.trans (x.mono A.out.size);clear x k0 k1 k2 k3 k4 k5;go_wp2;go_ret;exact ⟨rfl,C.out⟩
 ·(have g0:(I == 0)=false:=by rw[beq_eq_false_iff_ne];exact v);go_wp2;go_ret;exact ⟨rfl,A.out⟩
theorem jIY (k:Int)(ao:Option Addr)(n cap:Nat)(os:List OpV)(w:World)(hs:Scr w ao n cap os)(hn:n<=2199023255552)(hll:∀ i,i<n->(og os i).l.length<=17592186044416)(ht:Tab w):Calls Tryz.prog 5 #[.int .i64 k,.slice ao n cap] w fun e w'=>e = .returned (.bool true)/\Below w.heap.size w w':=by
 go_enter Tryz.func5,Tryz.ntmps5;go_wp2_with fail;refine (jB8 k ao n cap os 3 _ hs hn hll ht jGi (by decide)).mono ?_;rintro c d ⟨rfl,a⟩;have b:=hid a;clear a;go_wp2;go_ret;exact ⟨rfl,b.out⟩
end Go.Proofs.YtigokanoflkinabGreatDoor
