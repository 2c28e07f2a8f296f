/- portionkeep: holds, what Goals looks at. (Laid by mkbkgl.py.) -/
import Derived.Test.YtigokanoflkinabGreatDoorBkDL
import Derived.Test.YtigokanoflkinabGreatDoorBkDr
set_option maxHeartbeats 2000000
set_option maxRecDepth 20000
namespace Go.Proofs.YtigokanoflkinabGreatDoor
set_option linter.unusedSimpArgs false
set_option linter.unusedVariables false
open Go.RowKit Por
theorem jHE:Holds 2:=by
 intro J b C sb B R F G S sv uv hv lv pv ss ps o s u t er w M N L Q O H Y hR hs D E P;obtain ⟨v,p,q,r,xs,e⟩:=o;have l:=hid M;have k:=hid N;have T:=hid L;have z:=hid Q;have I:=hid O;have f:=hid P;clear M N L Q O H hs E P D;dsimp only;have c:=hid (brw w);have h:=hid (jAC w #[.int .i64 v,.int .i64 p,.int .i64 q,.int .i64 r,.slice s u t,.bool e] 30);have a:Hid (Below w.heap.size w (w.alloc (.cells #[.int .i64 v,.int .i64 p,.int .i64 q,.int .i64 r,.slice s u t,.bool e] 30))):=c.out.alloc c.out.size (.cells #[.int .i64 v,.int .i64 p,.int .i64 q,.int .i64 r,.slice s u t,.bool e] 30);have Z:w.heap.size<=w.heap.size:=c.out.size;clear c;go_enter Tryz.func12,Tryz.ntmps12;(go_upto_region 1 with fail);obtain ⟨V,K⟩:∃ V,V=(w.alloc (.cells #[.int .i64 v,.int .i64 p,.int .i64 q,.int .i64 r,.slice s u t,.bool e] 30)):=⟨_,rfl⟩;rw[<- K] at h a ⊢;clear K;have W:=hid (l.out.below a.out);have U:=hid (k.out.below a.out);have j:=hid (f.out.below a.out);have x:=a;clear h a l k f;(have A:Hid (VW V b C G S.sp):=by obtain ⟨s1,s2,s3,s4,s5,s6,s7,s8,s9,aa,_,_,_,_,_,X⟩:=W.out.vw U.out T.out z.out;exact X.vw);go_wp2_with fail;refine (jJF b C _ G S.sp _ A.out z.out I.out j.out).mono ?_;rintro e1 w1 ⟨rfl,d⟩;have m:=hid (A.out.below d);have g:=hid (j.out.below d);have i:Hid (Below w.heap.size w w1):=x.out.trans (d.mono x.out.size);clear d A j x;go_wp2_with fail;refine (jLd b C _ G S.sp _ m.out z.out I.out g.out).mono ?_;rintro e2 w2 ⟨rfl,n⟩;have y:Hid (Below w.heap.size w w2):=i.out.trans (n.mono i.out.size);clear n m g i;go_wp2;go_ret;exact ⟨rfl,y.out⟩
theorem jJx (k:Int)(ao:Option Addr)(n cap:Nat)(os:List OpV)(w:World)(hs:Scr w ao n cap os)(hn:n<=2199023255552)(hll:∀ i,i<n->(og os i).l.length<=17592186044416)(ht:Tab w):Calls Tryz.prog 4 #[.int .i64 k,.slice ao n cap] w fun e w'=>e = .returned (.bool true)/\Below w.heap.size w w':=by
 go_enter Tryz.func4,Tryz.ntmps4;go_wp2_with fail;refine (jB8 k ao n cap os 2 _ hs hn hll ht jHE (by decide)).mono ?_;rintro c d ⟨rfl,a⟩;have b:=hid a;clear a;go_wp2;go_ret;exact ⟨rfl,b.out⟩
end Go.Proofs.YtigokanoflkinabGreatDoor
