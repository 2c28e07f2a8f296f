/- portionkeep: holds, what Packed looks at. (Laid by mkbkh.py.) -/
import Derived.Test.YtigokanoflkinabGreatDoorBkPl
set_option maxHeartbeats 2000000
set_option maxRecDepth 20000
namespace Go.Proofs.YtigokanoflkinabGreatDoor
set_option linter.unusedSimpArgs false
set_option linter.unusedVariables false
open Go.RowKit Por
theorem jGK:Holds 1:=by
 intro base b fb sb B R F G S sv uv hv lv pv ss ps o da dn dc er w hb hf ha hw hr hwF hR0 hR hs hno hto ht;obtain ⟨kd,ax,bx,cx,xs,oth⟩:=o;have HK0:=hid hb;have HF0:=hid hf;have HA:=hid ha;have HW:=hid hw;clear hb hf ha hw hr hwF hs hto ht hno;dsimp only;have HB_0:=hid (Below.refl w.heap.size w);have XO_6:=hid (jAC w #[.int .i64 kd,.int .i64 ax,.int .i64 bx,.int .i64 cx,.slice da dn dc,.bool oth] 30);have HB_6:Hid (Below w.heap.size w (w.alloc (.cells #[.int .i64 kd,.int .i64 ax,.int .i64 bx,.int .i64 cx,.slice da dn dc,.bool oth] 30))):=HB_0.out.alloc HB_0.out.size (.cells #[.int .i64 kd,.int .i64 ax,.int .i64 bx,.int .i64 cx,.slice da dn dc,.bool oth] 30);have leO:w.heap.size≤w.heap.size:=HB_0.out.size;clear HB_0;go_enter Tryz.func12,Tryz.ntmps12;(go_upto_region 1 with fail);obtain ⟨V,hV⟩:∃ V,V=(w.alloc (.cells #[.int .i64 kd,.int .i64 ax,.int .i64 bx,.int .i64 cx,.slice da dn dc,.bool oth] 30)):=⟨_,rfl⟩;rw[← hV] at XO_6 HB_6 ⊢;clear hV;have HK:=hid (HK0.out.below HB_6.out);have HF:=hid (HF0.out.below HB_6.out);have HB:=HB_6;clear XO_6 HB_6 HK0 HF0;(have XV:Hid (VW V b fb G S.sp):=by obtain ⟨s1,s2,s3,s4,s5,s6,s7,s8,s9,s10,_,_,_,_,_,h9⟩:=HK.out.vw HF.out HA.out HW.out;exact h9.vw);go_wp2_with fail;refine (jIU b fb _ G S.sp _ XV.out HW.out).mono ?_;rintro e1 w1 ⟨rfl,hq⟩;obtain rfl:=hq.symm;go_wp2;go_ret;exact ⟨rfl,HB.out⟩
theorem jHp (k:Int)(ao:Option Addr)(n cap:Nat)(os:List OpV)(w:World)(hs:Scr w ao n cap os)(hn:n≤2199023255552)(hll:∀ i,i<n→(og os i).l.length≤17592186044416)(ht:Tab w):Calls Tryz.prog 3 #[.int .i64 k,.slice ao n cap] w fun e w'=>e = .returned (.bool true)∧Below w.heap.size w w':=by
 go_enter Tryz.func3,Tryz.ntmps3;go_wp2_with fail;refine (jIL k ao n cap os 1 _ hs hn hll ht jGK (by decide)).mono ?_;rintro e1 w1 ⟨rfl,hb1⟩;have HB1:=hid hb1;clear hb1;go_wp2;go_ret;exact ⟨rfl,HB1.out⟩
end Go.Proofs.YtigokanoflkinabGreatDoor
