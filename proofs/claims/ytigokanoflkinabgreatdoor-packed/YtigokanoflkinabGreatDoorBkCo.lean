/- portionkeep: amounts of sizes, copied, opened. (Laid by mkbkc.py.) -/
import Derived.Test.YtigokanoflkinabGreatDoorBkWX
import Derived.Test.YtigokanoflkinabGreatDoorKKs
set_option maxHeartbeats 4000000
set_option maxRecDepth 20000
namespace Go.Proofs.YtigokanoflkinabGreatDoor
set_option linter.unusedSimpArgs false
set_option linter.unusedVariables false
open Go.RowKit Por
def sizK (xs:List Int)(n k:Nat):Bool:=decide (n=k) && uptsB 1000 xs
theorem jJm (xs:List Int)(n:Nat):sizK xs n n=uptsB 1000 xs:=by unfold sizK;rw[decide_eq_true rfl];rfl
theorem jK5 (xs:List Int){n k:Nat}(h:n≠k):sizK xs n k=false:=by unfold sizK;rw[decide_eq_false h];rfl
theorem jH4 (ao:Option Addr)(n cap k:Nat)(xs:List Int)(w:World)(hr:Arr w 1 ao n cap (ints xs))(hk:k≤maxLen):Calls Tryz.prog 38 #[.slice ao n cap,.int .i64 k,.int .i64 1000] w fun e w'=>e = .returned (.bool (sizK xs n k))∧w'=w:=by
 have hlen:=hr.len;rw[jAG] at hlen;have hle:=hr.le;have hcm:=hr.cm;unfold maxLen at hcm hk;have HR:=hid hr;clear hr;by_cases h0:n=k
 ·subst h0;have HE0:=hid (jJm xs n);go_enter Tryz.func38,Tryz.ntmps38;go_wp2
  go_loop[7] (fun i=>∃ k:Nat,k≤n∧i = .int .i64 k∧Hid ((xs.take k).all (uptB 1000)=true)) (fun i=>n - (intOf i).toNat)
  case atStart=>exact ⟨0,Nat.zero_le _,rfl,rfl⟩
  case round=>
   obtain ⟨k,hk,rfl,hz⟩:=hrel;by_cases hlt:k<n
   ·obtain ⟨b,o,rfl,hb⟩:=HR.out.head (by omega);have hc:=HR.out.int rfl hlt;have hst:=hid (jBi (uptB 1000) xs (i:=k) (by omega));have hget:=hid (jD0 xs (i:=k) (by omega));generalize hx:lm xs k=x at hc;have HX:=hid hx;clear hx;by_cases h0:x<0
    ·have E:uptsB 1000 xs=false:=jAx (uptB 1000) xs (i:=k) (by omega) (by rw[hget.out,HX.out];unfold uptB;rw[decide_eq_false_iff_not];omega);have HE:=hid E;clear E;go_wp2;go_ret;exact ⟨by rw[HE0.out,HE.out];rfl,rfl⟩
    ·by_cases h1:(1000:Int)<x
     ·have E:uptsB 1000 xs=false:=jAx (uptB 1000) xs (i:=k) (by omega) (by rw[hget.out,HX.out];unfold uptB;rw[decide_eq_false_iff_not];omega);have HE:=hid E;clear E;go_wp2;go_ret;exact ⟨by rw[HE0.out,HE.out];rfl,rfl⟩
     ·(have E:uptB 1000 x=true:=by unfold uptB;rw[decide_eq_true_eq];omega);have HE:=hid E;clear E;go_wp2;exact ⟨⟨k+1,by omega,by go_num,by rw[Hid,hst.out,hz.out,hget.out,HX.out,HE.out];rfl⟩,by simp[intOf];omega⟩
   ·obtain rfl:k=n:=by omega
    have E:uptsB 1000 xs=true:=by
     have:=hz.out
     rwa [List.take_of_length_le (by omega)] at this
    have HE:=hid E;clear E;go_wp2;go_ret;exact ⟨by rw[HE0.out,HE.out];rfl,rfl⟩
 ·(have h0':((n:Int) == (k:Int))=false:=by rw[beq_eq_false_iff_ne];omega);have HE0:=hid (jK5 xs h0);go_enter Tryz.func38,Tryz.ntmps38;go_wp2;go_ret;exact ⟨by rw[HE0.out];rfl,rfl⟩
theorem jH1 (ao:Option Addr) (n cap k:Nat) (xs:List Int) (w:World) (hr:Arr w 1 ao n cap (ints xs)) (hk:k≤maxLen) :
    Calls Tryz.prog 38 #[.slice ao n cap,.int .i64 k,.int .i64 1000] w fun e w'=>e = .returned (.bool (sizK xs n k))∧Below w.heap.size w w':=
  (jH4 ao n cap k xs w hr hk).mono (fun e w' ⟨h1,h2⟩=>⟨h1,by subst h2;exact Below.refl _ _⟩)
theorem Blk.li {base:Nat} {w:World} {g:Nat} {xs:List Int} (h:Blk w g xs) (hb:base≤g) (hm:xs.length≤maxLen):Li base w (.slice (some ⟨g,0,none⟩) xs.length xs.length) xs:=
  ⟨by simp,.inr ⟨g,xs.length,_,rfl,hb,h,Nat.le_refl _,hm,by simp,by simp;rw[List.take_of_length_le (by simp)]⟩⟩
theorem jAy (ao:Option Addr)(n cap:Nat)(xs:List Int)(w:World)(ha:Arr w 1 ao n cap (ints xs))(hn:n≤17592186044416):Calls Tryz.prog 40 #[.slice ao n cap] w fun e w'=>∃ g,e = .returned (.slice (some ⟨g,0,none⟩) n n)∧w.heap.size≤g∧Li w.heap.size w' (.slice (some ⟨g,0,none⟩) n n) xs∧Below w.heap.size w w':=by
 have hlen:=ha.len;rw[jAG] at hlen;have HA:=hid ha;clear ha;go_enter Tryz.func40,Tryz.ntmps40;go_wp2_with (at_make;refine jCW _ rfl _ _ rfl _ _ n rfl rfl rfl rfl (by omega) ?_);intro w1 hB1 hb1;have HB1:=hid hB1;have HA1:=hid (HA.out.below hb1);go_wp2_with (refine jDx w _ rfl (.tmp 7) (.tmp 8) rfl w.heap.size n n cap ao (List.replicate n 0) xs rfl rfl HB1.out (by simp) HA1.out (Nat.le_refl _) hb1 (Nat.le_refl _) ?_);intro w2 hB2 hb2;(have HL:Hid (Li w.heap.size w2 (.slice (some ⟨w.heap.size,0,none⟩) n n) xs):=by (have h9:Blk w2 w.heap.size xs:=by have h8:=hB2.out;first | exact h8 | (rw[List.drop_of_length_le (by simp),List.append_nil] at h8;exact h8));subst hlen;exact h9.li (Nat.le_refl _) (by unfold maxLen;omega));have HB2:=hid hb2;clear hB1 hb1 hB2 hb2 HB1 HA1;go_wp2;go_ret;exact ⟨w.heap.size,rfl,Nat.le_refl _,HL.out,HB2.out⟩
def OpenEnd (k:Int)(w w':World)(e:Ending):Prop:=
  if rngB 1 4 k then ∃ b fb S sv uv hv lv pv ss ps,e = .returned (.tuple #[.pointer (some ⟨b,0,none⟩),.bool true])∧w.heap.size≤fb∧BkM w.heap.size w' b fb S sv uv hv lv pv ss ps∧FL w' fb (newF k.toNat)∧Agree S (newF k.toNat)∧Below w.heap.size w w'
  else e = .returned (.tuple #[.pointer none,.bool true])∧Below w.heap.size w w'
theorem jGZ (k:Int)(w:World):Calls Tryz.prog 9 #[.int .i64 k] w fun e w'=>OpenEnd k w w' e:=by
 go_enter Tryz.func9,Tryz.ntmps9;go_wp2_with fail;refine (New_any k _).mono ?_;intro e1 w1 hN;unfold NewEnd at hN
 cases hk:rngB 1 4 k with
 | false=>
  rw[hk] at hN;obtain ⟨rfl,hq⟩:=hN;obtain rfl:=hq.symm;have HK:=hid hk;(have hr:k<1∨4<k:=by unfold rngB at hk;rw[decide_eq_false_iff_not] at hk;omega);clear hk;by_cases h1:k<1
  ·have d1:decide (k<1)=true:=decide_eq_true h1;clear hr;go_wp2;go_ret2;unfold OpenEnd;rw[HK.out];exact ⟨rfl,Below.refl _ _⟩
  ·have d1:decide (k<1)=false:=decide_eq_false h1;(have h4:(4:Int)<k:=by omega);have d4:decide ((4:Int)<k)=true:=decide_eq_true h4;clear hr;go_wp2;go_ret2;unfold OpenEnd;rw[HK.out];exact ⟨rfl,Below.refl _ _⟩
 | true=>rw[hk] at hN;obtain ⟨fb,rfl,hfb,hf1,hb1⟩:=hN;have HK:=hid hk;have HF1:=hid hf1;have HB1:=hid hb1;clear hf1 hb1;(have hr:1≤k∧k≤4:=by unfold rngB at hk;exact of_decide_eq_true hk);clear hk;obtain ⟨n,rfl⟩:∃ n:Nat,k=(n:Int):=⟨k.toNat,by omega⟩;(have h1:¬ (n:Int)<1:=by omega);(have h4:¬ (4:Int)<(n:Int):=by omega);go_wp2_with (at_make;refine jCW _ rfl _ _ rfl _ _ n rfl rfl rfl rfl (by omega) ?_);intro w2 hB2 hb2;have HLE:Hid (w1.heap.size≤w2.heap.size):=hb2.size;have HB2:=hid hB2;have HF2:=hid (HF1.out.below hb2);have XB2:Hid (Below w.heap.size w w2):=HB1.out.trans (hb2.mono HB1.out.size);have hle:w.heap.size≤w1.heap.size:=HB1.out.size;clear hB2 hb2 HF1;have XBk:Hid (Bx (w2.alloc (.cells (bcells fb ⟨n,[],[],[],[],0,List.replicate n 0⟩ (.slice none 0 0) (.slice none 0 0) (.slice none 0 0) (.slice none 0 0) (.slice (some ⟨w1.heap.size,0,none⟩) n n)) 39)) w2.heap.size _ 39):=jAC w2 _ _;have HF3:Hid (FL (w2.alloc (.cells (bcells fb ⟨n,[],[],[],[],0,List.replicate n 0⟩ (.slice none 0 0) (.slice none 0 0) (.slice none 0 0) (.slice none 0 0) (.slice (some ⟨w1.heap.size,0,none⟩) n n)) 39)) fb (newF n)):=HF2.out.below ((Below.refl _ _).alloc (Nat.le_refl _) _);have XB3:Hid (Below w.heap.size w (w2.alloc (.cells (bcells fb ⟨n,[],[],[],[],0,List.replicate n 0⟩ (.slice none 0 0) (.slice none 0 0) (.slice none 0 0) (.slice none 0 0) (.slice (some ⟨w1.heap.size,0,none⟩) n n)) 39))):=XB2.out.alloc XB2.out.size _;(have HL3:Hid (Li w.heap.size (w2.alloc (.cells (bcells fb ⟨n,[],[],[],[],0,List.replicate n 0⟩ (.slice none 0 0) (.slice none 0 0) (.slice none 0 0) (.slice none 0 0) (.slice (some ⟨w1.heap.size,0,none⟩) n n)) 39)) (.slice (some ⟨w1.heap.size,0,none⟩) n n) (List.replicate n 0)):=by have h9:Li w.heap.size w2 (.slice (some ⟨w1.heap.size,0,none⟩) (List.replicate n (0:Int)).length (List.replicate n (0:Int)).length) (List.replicate n 0):=HB2.out.li hle (by simp;unfold maxLen;omega);rw[List.length_replicate] at h9;exact h9.alloc _);have HA3:=hid (Agree.new n (List.replicate n 0) (by simp) (fun r hr=>by rw[List.getElem?_replicate,if_pos hr]));clear HF2 HB2 XB2;go_wp2;go_ret2;unfold OpenEnd;rw[HK.out,if_pos rfl];refine ⟨w2.heap.size,fb,_,_,_,_,_,_,[],[],rfl,hfb,⟨XBk.out,Nat.le_trans HB1.out.size HLE.out,World.ownsRow_nil _ _ _ _,rfl,fun i l h=>by (simp at h),fun i h=>by (simp at h),UOw.nil _ _,rfl,World.ownsRow_nil _ _ _ _,Li.nil _ _,HL3.out,fun g h=>by (cases h),fun v h=>by (cases h),fun p h=>by (cases h),fun v h=>by (cases h),fun p h=>by (cases h)⟩,HF3.out,HA3.out,XB3.out⟩
end Go.Proofs.YtigokanoflkinabGreatDoor
