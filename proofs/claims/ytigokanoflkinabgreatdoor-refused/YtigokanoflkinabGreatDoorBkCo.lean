/- portionkeep: amounts of sizes, copied, opened. (Laid by mkbkc.py.) -/
import Derived.Test.YtigokanoflkinabGreatDoorBkWX
set_option maxHeartbeats 4000000
set_option maxRecDepth 20000
namespace Go.Proofs.YtigokanoflkinabGreatDoor
set_option linter.unusedSimpArgs false
set_option linter.unusedVariables false
open Go.RowKit Por
def sizK (xs:List Int)(n k:Nat):Bool:=decide (n=k) && xZ 1000 xs
theorem jJn (xs:List Int)(n:Nat):sizK xs n n=xZ 1000 xs:=by unfold sizK;rw[decide_eq_true rfl];rfl
theorem jMc (xs:List Int){n k:Nat}(h:n≠k):sizK xs n k=false:=by unfold sizK;rw[decide_eq_false h];rfl
theorem jIU (ao:Option Addr)(n cap k:Nat)(xs:List Int)(w:World)(hr:Arr w 1 ao n cap (zg xs))(hk:k<=maxLen):Calls Tryz.prog 38 #[.slice ao n cap,.int .i64 k,.int .i64 1000] w fun e w'=>e = .returned (.bool (sizK xs n k))/\w'=w:=by
 have f:=hr.len;rw[jAG] at f;have t:=hr.le;have j:=hr.cm;unfold maxLen at j hk;have p:=hid hr;clear hr;by_cases h:n=k
 ·subst h;have a:=hid (jJn xs n);go_enter Tryz.func38,Tryz.ntmps38;go_wp2
  go_loop[7] (fun i=>∃ k:Nat,k<=n/\i = .int .i64 k/\Hid ((xs.take k).all (uptB 1000)=true)) (fun i=>n - (intOf i).toNat)
  case atStart=>exact ⟨0,Nat.zero_le _,rfl,rfl⟩
  case round=>
   obtain ⟨k,hk,rfl,q⟩:=hrel;by_cases l:k<n
   ·obtain ⟨b,o,rfl,v⟩:=p.out.head (by omega);have s:=p.out.int rfl l;have m:=hid (jBm (uptB 1000) xs (i:=k) (by omega));have c:=hid (jEs xs (i:=k) (by omega));generalize hx:lm xs k=x at s;have g:=hid hx;clear hx;by_cases h:x<0
    ·have E:xZ 1000 xs=false:=jA4 (uptB 1000) xs (i:=k) (by omega) (by rw[c.out,g.out];unfold uptB;rw[decide_eq_false_iff_not];omega);have d:=hid E;clear E;go_wp2;go_ret;exact ⟨by rw[a.out,d.out];rfl,rfl⟩
    ·by_cases u:(1000:Int)<x
     ·have E:xZ 1000 xs=false:=jA4 (uptB 1000) xs (i:=k) (by omega) (by rw[c.out,g.out];unfold uptB;rw[decide_eq_false_iff_not];omega);have d:=hid E;clear E;go_wp2;go_ret;exact ⟨by rw[a.out,d.out];rfl,rfl⟩
     ·(have E:uptB 1000 x=true:=by unfold uptB;rw[decide_eq_true_eq];omega);have d:=hid E;clear E;go_wp2;exact ⟨⟨k+1,by omega,by go_num,by rw[Hid,m.out,q.out,c.out,g.out,d.out];rfl⟩,by simp[intOf];omega⟩
   ·obtain rfl:k=n:=by omega
    have E:xZ 1000 xs=true:=by
     have:=q.out
     rwa [List.take_of_length_le (by omega)] at this
    have d:=hid E;clear E;go_wp2;go_ret;exact ⟨by rw[a.out,d.out];rfl,rfl⟩
 ·(have r:((n:Int) == (k:Int))=false:=by rw[beq_eq_false_iff_ne];omega);have a:=hid (jMc xs h);go_enter Tryz.func38,Tryz.ntmps38;go_wp2;go_ret;exact ⟨by rw[a.out];rfl,rfl⟩
theorem jIx (ao:Option Addr) (n cap k:Nat) (xs:List Int) (w:World) (hr:Arr w 1 ao n cap (zg xs)) (hk:k<=maxLen) :
    Calls Tryz.prog 38 #[.slice ao n cap,.int .i64 k,.int .i64 1000] w fun e w'=>e = .returned (.bool (sizK xs n k))/\Below w.heap.size w w':=
  (jIU ao n cap k xs w hr hk).mono (fun e w' ⟨h1,h2⟩=>⟨h1,by subst h2;exact Below.refl _ _⟩)
theorem Blk.li {base:Nat} {w:World} {g:Nat} {xs:List Int} (h:Blk w g xs) (hb:base<=g) (hm:xs.length<=maxLen):Li base w (.slice (some ⟨g,0,none⟩) xs.length xs.length) xs:=
  ⟨by simp,.inr ⟨g,xs.length,_,rfl,hb,h,Nat.le_refl _,hm,by simp,by simp;rw[List.take_of_length_le (by simp)]⟩⟩
theorem jA5 (ao:Option Addr)(n cap:Nat)(xs:List Int)(w:World)(ha:Arr w 1 ao n cap (zg xs))(hn:n<=17592186044416):Calls Tryz.prog 40 #[.slice ao n cap] w fun e w'=>∃ g,e = .returned (.slice (some ⟨g,0,none⟩) n n)/\w.heap.size<=g/\Li w.heap.size w' (.slice (some ⟨g,0,none⟩) n n) xs/\Below w.heap.size w w':=by
 have a:=ha.len;rw[jAG] at a;have m:=hid ha;clear ha;go_enter Tryz.func40,Tryz.ntmps40;go_wp2_with (at_make;refine jBw _ rfl _ _ rfl _ _ n rfl rfl rfl rfl (by omega) ?_);intro q f b;have d:=hid f;have c:=hid (m.out.below b);go_wp2_with (refine jEp w _ rfl (.tmp 7) (.tmp 8) rfl w.heap.size n n cap ao (List.replicate n 0) xs rfl rfl d.out (by simp) c.out (Nat.le_refl _) b (Nat.le_refl _) ?_);intro l h i;(have o:Hid (Li w.heap.size l (.slice (some ⟨w.heap.size,0,none⟩) n n) xs):=by (have p:Blk l w.heap.size xs:=by have k:=h.out;first | exact k | (rw[List.drop_of_length_le (by simp),List.append_nil] at k;exact k));subst a;exact p.li (Nat.le_refl _) (by unfold maxLen;omega));have j:=hid i;clear f b h i d c;go_wp2;go_ret;exact ⟨w.heap.size,rfl,Nat.le_refl _,o.out,j.out⟩
def OpenEnd (k:Int)(w w':World)(e:Ending):Prop:=
  if yt 1 4 k then ∃ b fb S sv uv hv lv pv ss ps,e = .returned (.tuple #[.pointer (some ⟨b,0,none⟩),.bool true])/\w.heap.size<=fb/\BkM w.heap.size w' b fb S sv uv hv lv pv ss ps/\FL w' fb (newF k.toNat)/\Agree S (newF k.toNat)/\Below w.heap.size w w'
  else e = .returned (.tuple #[.pointer none,.bool true])/\Below w.heap.size w w'
theorem jFA (k:Int)(w:World):Calls Tryz.prog 9 #[.int .i64 k] w fun e w'=>OpenEnd k w w' e:=by
 go_enter Tryz.func9,Tryz.ntmps9;go_wp2_with fail;refine (New_any k _).mono ?_;intro P f u;unfold NewEnd at u
 cases a:yt 1 4 k with
 | false=>
  rw[a] at u;obtain ⟨rfl,N⟩:=u;obtain rfl:=N.symm;have A:=hid a;(have z:k<1∨4<k:=by unfold yt at a;rw[decide_eq_false_iff_not] at a;omega);clear a;by_cases H:k<1
  ·have M:decide (k<1)=true:=decide_eq_true H;clear z;go_wp2;go_ret2;unfold OpenEnd;rw[A.out];exact ⟨rfl,Below.refl _ _⟩
  ·have M:decide (k<1)=false:=decide_eq_false H;(have K:(4:Int)<k:=by omega);have O:decide ((4:Int)<k)=true:=decide_eq_true K;clear z;go_wp2;go_ret2;unfold OpenEnd;rw[A.out];exact ⟨rfl,Below.refl _ _⟩
 | true=>rw[a] at u;obtain ⟨m,rfl,I,y,x⟩:=u;have A:=hid a;have q:=hid y;have c:=hid x;clear y x;(have z:1<=k/\k<=4:=by unfold yt at a;exact of_decide_eq_true a);clear a;obtain ⟨n,rfl⟩:∃ n:Nat,k=(n:Int):=⟨k.toNat,by omega⟩;(have H:¬ (n:Int)<1:=by omega);(have K:¬ (4:Int)<(n:Int):=by omega);go_wp2_with (at_make;refine jBw _ rfl _ _ rfl _ _ n rfl rfl rfl rfl (by omega) ?_);intro b t d;have E:Hid (f.heap.size<=b.heap.size):=d.size;have o:=hid t;have s:=hid (q.out.below d);have j:Hid (Below w.heap.size w b):=c.out.trans (d.mono c.out.size);have J:w.heap.size<=f.heap.size:=c.out.size;clear t d q;have G:Hid (Bx (b.alloc (.cells (bcells m ⟨n,[],[],[],[],0,List.replicate n 0⟩ (.slice none 0 0) (.slice none 0 0) (.slice none 0 0) (.slice none 0 0) (.slice (some ⟨f.heap.size,0,none⟩) n n)) 39)) b.heap.size _ 39):=jAC b _ _;have C:Hid (FL (b.alloc (.cells (bcells m ⟨n,[],[],[],[],0,List.replicate n 0⟩ (.slice none 0 0) (.slice none 0 0) (.slice none 0 0) (.slice none 0 0) (.slice (some ⟨f.heap.size,0,none⟩) n n)) 39)) m (newF n)):=s.out.below (brf.alloc (Nat.le_refl _) _);have F:Hid (Below w.heap.size w (b.alloc (.cells (bcells m ⟨n,[],[],[],[],0,List.replicate n 0⟩ (.slice none 0 0) (.slice none 0 0) (.slice none 0 0) (.slice none 0 0) (.slice (some ⟨f.heap.size,0,none⟩) n n)) 39))):=j.out.alloc j.out.size _;(have D:Hid (Li w.heap.size (b.alloc (.cells (bcells m ⟨n,[],[],[],[],0,List.replicate n 0⟩ (.slice none 0 0) (.slice none 0 0) (.slice none 0 0) (.slice none 0 0) (.slice (some ⟨f.heap.size,0,none⟩) n n)) 39)) (.slice (some ⟨f.heap.size,0,none⟩) n n) (List.replicate n 0)):=by have L:Li w.heap.size b (.slice (some ⟨f.heap.size,0,none⟩) (List.replicate n (0:Int)).length (List.replicate n (0:Int)).length) (List.replicate n 0):=o.out.li J (by simp;unfold maxLen;omega);rw[List.length_replicate] at L;exact L.alloc _);have B:=hid (Agree.new n (List.replicate n 0) (by simp) (fun r z=>by rw[List.getElem?_replicate,if_pos z]));clear s o j;go_wp2;go_ret2;unfold OpenEnd;rw[A.out,if_pos rfl];refine ⟨b.heap.size,m,_,_,_,_,_,_,[],[],rfl,I,⟨G.out,Nat.le_trans c.out.size E.out,World.ownsRow_nil _ _ _ _,rfl,fun i l h=>by (simp at h),fun i h=>by (simp at h),UOw.nil _ _,rfl,World.ownsRow_nil _ _ _ _,Li.nil _ _,D.out,fun g h=>by (cases h),fun v h=>by (cases h),fun p h=>by (cases h),fun v h=>by (cases h),fun p h=>by (cases h)⟩,C.out,B.out,F.out⟩
end Go.Proofs.YtigokanoflkinabGreatDoor
