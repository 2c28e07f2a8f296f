/- BkW, BkX, BkE, joined. -/
import Derived.Test.YtigokanoflkinabGreatDoorBkTV
set_option maxHeartbeats 8000000
set_option maxRecDepth 20000
namespace Go.Proofs.YtigokanoflkinabGreatDoor
set_option linter.unusedSimpArgs false
set_option linter.unusedVariables false
open Go.RowKit Por
theorem jIm {F:Flt}{u:Nat}(hu:u<6)(ht:F.ut u=true):hasU F (u:Int)=true:=by
 unfold hasU;rw[decide_eq_true (show (0:Int)≤(u:Int) by omega),decide_eq_true (show ((u:Nat):Int)<6 by omega),show ((u:Nat):Int).toNat=u from rfl,ht];rfl
theorem jLB {F:Flt}{m:Nat}(hm:m<8)(ht:F.mt m=true):hasM F (m:Int)=true:=by
 unfold hasM;rw[decide_eq_true (show (0:Int)≤(m:Int) by omega),decide_eq_true (show ((m:Nat):Int)<8 by omega),show ((m:Nat):Int).toNat=m from rfl,ht];rfl
theorem jLY {R:Int}{F:Flt}(h:FWf R F){m:Nat}(hm:m<F.mg):hasM F (m:Int)=F.mt m:=by
 have:=h.mg;unfold hasM;rw[decide_eq_true (show (0:Int)≤(m:Int) by omega),decide_eq_true (show ((m:Nat):Int)<8 by omega),show ((m:Nat):Int).toNat=m from rfl];rfl
theorem jKa {R:Int}{F:Flt}(h:FWf R F){m:Nat}(hm:¬ m<F.mg):hasM F (m:Int)=false:=by
 unfold hasM;by_cases h8:m<8
 ·have:F.mt m=false:=by
   cases e:F.mt m with
   | false=>rfl
   | true=>exact absurd (h.mt m h8 e) hm
  rw[show ((m:Nat):Int).toNat=m from rfl,this];simp
 ·rw[decide_eq_false (show ¬ ((m:Nat):Int)<8 by omega)];simp
theorem jLX {R:Int}{F:Flt}(h:FWf R F){m:Nat}(hm:m<F.ug):hasU F (m:Int)=F.ut m:=by
 have:=h.ug;unfold hasU;rw[decide_eq_true (show (0:Int)≤(m:Int) by omega),decide_eq_true (show ((m:Nat):Int)<6 by omega),show ((m:Nat):Int).toNat=m from rfl];rfl
theorem jKO {R:Int}{F:Flt}(h:FWf R F){m:Nat}(hm:¬ m<F.ug):hasU F (m:Int)=false:=by
 unfold hasU;by_cases h8:m<6
 ·have:F.ut m=false:=by
   cases e:F.ut m with
   | false=>rfl
   | true=>exact absurd (h.ut m h8 e) hm
  rw[show ((m:Nat):Int).toNat=m from rfl,this];simp
 ·rw[decide_eq_false (show ¬ ((m:Nat):Int)<6 by omega)];simp
theorem jKv (F:Flt){x:Int}(h:x<0):hasM F x=false∧hasU F x=false:=by
 unfold hasM hasU;rw[decide_eq_false (show ¬ 0≤x by omega)];exact ⟨rfl,rfl⟩
theorem FWf.part {R:Int}{F:Flt}(h:FWf R F){u k:Nat}(hu:u<6)(hk:k≤8):0≤Por.sumI (F.m.on u) k∧Por.sumI (F.m.on u) k≤40:=by
 refine ⟨jAL (fun i hi=>h.on u hu i (by omega)),?_⟩
 have h1:∀ j,k+j≤8→Por.sumI (F.m.on u) k≤Por.sumI (F.m.on u) (k+j):=fun j=>by
  induction j with
  | zero=>intro _;exact Int.le_refl _
  | succ j ih=>intro hj;have:=ih (by omega);have h2:=h.on u hu (k+j) (by omega);show _≤Por.sumI (F.m.on u) (k+j)+F.m.on u (k+j);omega
 have h2:=h1 (8 - k) (by omega);rw[show k+(8 - k)=8 by omega] at h2;have h3:=h.tot u hu;have h4:=h.wait u hu;unfold runs at h3;omega
theorem jK4 {R:Int} {F:Flt} (h:FWf R F) {u:Nat} (hu:u<6):runs F.m u=Por.sumI (F.m.on u) F.mg:=jEW h.mg (fun i h1 h2=>by
  have:F.mt i=false:=by
    cases e:F.mt i with
    | false=>rfl
    | true=>have:=h.mt i h2 e;omega
  exact h.gone i h2 this u hu)
def roomP (F:Flt)(m r k:Nat):Int:=F.ms m r - Por.sumI (fun v=>F.ud v r*F.m.on v m) k
abbrev roomK (F:Flt)(m r:Nat):Int:=roomP F m r 6
theorem FWf.rmP {R:Int}{F:Flt}(h:FWf R F){m r k:Nat}(hm:m<8)(hr:r<4)(hk:k≤6):0≤roomP F m r k∧roomP F m r k≤1000:=by
 have h1:∀ j,k+j≤6→Por.sumI (fun v=>F.ud v r*F.m.on v m) k≤Por.sumI (fun v=>F.ud v r*F.m.on v m) (k+j):=fun j=>by
  induction j with
  | zero=>intro _;exact Int.le_refl _
  | succ j ih=>intro hj;have:=ih (by omega);have h2:=Int.mul_nonneg (h.ud (k+j) (by omega) r hr).1 (h.on (k+j) (by omega) m hm);show _≤Por.sumI (fun v=>F.ud v r*F.m.on v m) (k+j)+F.ud (k+j) r*F.m.on (k+j) m;omega
 have h2:=h1 (6 - k) (by omega);rw[show k+(6 - k)=6 by omega] at h2;have h3:=h.room m hm r hr;have h4:=h.ms m hm r hr;have h5:0≤Por.sumI (fun v=>F.ud v r*F.m.on v m) k:=jAL (fun v hv=>Int.mul_nonneg (h.ud v (by omega) r hr).1 (h.on v (by omega) m hm));show 0≤F.ms m r - _∧F.ms m r - _≤1000;omega
theorem jIA {R:Int}{F:Flt}(h:FWf R F){m r u:Nat}(hu:u<6)(hm:m<8)(ht:F.ut u=false):Go.Proofs.YtigokanoflkinabGreatDoor.roomP F m r (u+1)=Go.Proofs.YtigokanoflkinabGreatDoor.roomP F m r u:=by
 have h1:=h.none u hu ht;have h2:=h.wait u hu;have h3:=h.runs0 hu;have h4:=jCB (f:=F.m.on u) (n:=8) (fun j hj=>h.on u hu j hj) hm;have h5:=h.on u hu m hm;unfold runs at h1 h3;show F.ms m r - (Por.sumI (fun v=>F.ud v r*F.m.on v m) u+F.ud u r*F.m.on u m)=F.ms m r - Por.sumI (fun v=>F.ud v r*F.m.on v m) u;rw[show F.m.on u m=0 by omega,Int.mul_zero];omega
theorem jKY {R:Int}{F:Flt}(h:FWf R F){m r:Nat}(hm:m<8):Go.Proofs.YtigokanoflkinabGreatDoor.roomP F m r F.ug=Go.Proofs.YtigokanoflkinabGreatDoor.roomP F m r 6:=by
 show F.ms m r - _=F.ms m r - _;rw[jEW h.ug (fun i h1 h2=>?_)]
 have ht:F.ut i=false:=by
  cases e:F.ut i with
  | false=>rfl
  | true=>have:=h.ut i h2 e;omega
 have h3:=h.none i h2 ht;have h4:=h.wait i h2;have h5:=h.runs0 h2;have h6:=jCB (f:=F.m.on i) (n:=8) (fun j hj=>h.on i h2 j hj) hm;have h7:=h.on i h2 m hm;unfold runs at h3 h5;rw[show F.m.on i m=0 by omega,Int.mul_zero]
theorem jKh {a c:Nat→Int}{k r:Nat}(hr:r<k)(h:a r<c r):bearsB a c k=false:=by
 cases e:bearsB a c k with
 | false=>rfl
 | true=>have:=jA8.1 e r hr;omega
theorem jDk (b fb:Nat)(R:Int)(F:Flt)(sp:List Int)(x:Int)(w:World)(hv:VW w b fb F sp)(hw:FWf R F):Calls Tryz.prog 43 #[.pointer (some ⟨b,0,none⟩),.int .i64 x] w fun e w'=>e = .returned (.bool (hasM F x))∧w'=w:=by
 obtain ⟨so,sc,uo,uc,ho,hc,lo,lc,po,pc,hv⟩:=hv;have lb:=hv.box.lt;have HV:=hid hv;have HW:=hid hw;clear hv hw;have hmg:F.mg≤8:=HW.out.mg;go_enter Tryz.func43,Tryz.ntmps43;by_cases h0:x<0
 ·have HR:Hid (hasM F x=false):=(jKv F h0).1;have d0:decide ((0:Int)≤x)=false:=decide_eq_false (by omega);(have d1:¬ (0:Int)≤x:=by omega);go_wp2;go_ret;exact ⟨by rw[HR.out];rfl,rfl⟩
 ·obtain ⟨u,rfl⟩:∃ u:Nat,x=(u:Int):=⟨x.toNat,by omega⟩;have c2:=HV.out.box.cell 2 _ rfl;have c3:=HV.out.box.cell 3 _ rfl;have c4:=HV.out.box.cell 4 _ rfl;by_cases h1:u<F.mg
  ·(have h2:(u:Int)<(F.mg:Int):=by omega);have HR:Hid (hasM F (u:Int)=F.mt u):=jLY HW.out h1
   cases ht:F.mt u with
   | true=>obtain ⟨g,o,d,e,dc,rfl,hg,c5,hd,_⟩:=HV.out.up u h1 ht;(have hnq:∀ w,(binOp .neq 28 (.slice (some ⟨d,e,none⟩) F.k dc) (.slice none 0 0)).run Tryz.prog w = .ok (.bool true) w:=fun w=>run_neq_slice_nil_any w 28 3 _ _ _ 0 0 Tryz.underlying28);rw[ht] at HR;go_wp2;go_ret;exact ⟨by rw[HR.out];rfl,rfl⟩
   | false=>obtain ⟨g,o,rfl,hg,c5⟩:=HV.out.down u h1 ht;(have hnq:∀ w,(binOp .neq 28 (.slice none 0 0) (.slice none 0 0)).run Tryz.prog w = .ok (.bool false) w:=fun w=>run_neq_slice_nil_any w 28 3 _ _ _ 0 0 Tryz.underlying28);rw[ht] at HR;go_wp2;go_ret;exact ⟨by rw[HR.out];rfl,rfl⟩
  ·(have h2:¬ (u:Int)<(F.mg:Int):=by omega);have d2:decide ((u:Int)<(F.mg:Int))=false:=decide_eq_false h2;have HR:Hid (hasM F (u:Int)=false):=jKa HW.out h1;go_wp2;go_ret;exact ⟨by rw[HR.out];rfl,rfl⟩
theorem jE7 (b fb:Nat)(R:Int)(F:Flt)(sp:List Int)(x:Int)(w:World)(hv:VW w b fb F sp)(hw:FWf R F):Calls Tryz.prog 45 #[.pointer (some ⟨b,0,none⟩),.int .i64 x] w fun e w'=>e = .returned (.bool (hasU F x))∧w'=w:=by
 obtain ⟨so,sc,uo,uc,ho,hc,lo,lc,po,pc,hv⟩:=hv;have lb:=hv.box.lt;have HV:=hid hv;have HW:=hid hw;clear hv hw;have hmg:F.ug≤6:=HW.out.ug;go_enter Tryz.func45,Tryz.ntmps45;by_cases h0:x<0
 ·have HR:Hid (hasU F x=false):=(jKv F h0).2;have d0:decide ((0:Int)≤x)=false:=decide_eq_false (by omega);(have d1:¬ (0:Int)≤x:=by omega);go_wp2;go_ret;exact ⟨by rw[HR.out];rfl,rfl⟩
 ·obtain ⟨u,rfl⟩:∃ u:Nat,x=(u:Int):=⟨x.toNat,by omega⟩;have c2:=HV.out.box.cell 2 _ rfl;have c3:=HV.out.box.cell 3 _ rfl;have c4:=HV.out.box.cell 4 _ rfl;by_cases h1:u<F.ug
  ·(have h2:(u:Int)<(F.ug:Int):=by omega);have HR:Hid (hasU F (u:Int)=F.ut u):=jLX HW.out h1;obtain ⟨g,o,rfl,hg,c5⟩:=HV.out.here u h1;go_wp2;go_ret;exact ⟨by rw[HR.out];rfl,rfl⟩
  ·(have h2:¬ (u:Int)<(F.ug:Int):=by omega);have d2:decide ((u:Int)<(F.ug:Int))=false:=decide_eq_false h2;have HR:Hid (hasU F (u:Int)=false):=jKO HW.out h1;go_wp2;go_ret;exact ⟨by rw[HR.out];rfl,rfl⟩
theorem jEO (b fb:Nat)(R:Int)(F:Flt)(sp:List Int)(u m:Nat)(w:World)(hv:VW w b fb F sp)(hw:FWf R F)(hu:u<6)(ht:F.ut u=true)(hm:m<8)(hmt:F.mt m=true):Calls Tryz.prog 48 #[.pointer (some ⟨b,0,none⟩),.int .i64 u,.int .i64 m] w fun e w'=>e = .returned (.int .i64 (F.m.on u m))∧w'=w:=by
 obtain ⟨so,sc,uo,uc,ho,hc,lo,lc,po,pc,hv⟩:=hv;have lb:=hv.box.lt;have HV:=hid hv;have HW:=hid hw;clear hv hw;(have HG:Hid (getV (hasU F (u:Int) && hasM F (m:Int)) (.int .i64 (F.m.on (u:Int).toNat (m:Int).toNat)) (.int .i64 0) = .tuple #[.int .i64 (F.m.on u m),.int .i64 0]):=by unfold Hid;rw[jIm hu ht,jLB hm hmt];rfl);have hn:=HW.out.on u hu m hm;(have hn2:¬ F.m.on u m<0:=by omega);have hn3:decide (F.m.on u m<0)=false:=decide_eq_false hn2;go_enter Tryz.func48,Tryz.ntmps48;have c0:=HV.out.box.cell 0 _ rfl;go_wp2_with fail;refine (Running_any fb F (u:Int) (m:Int) _ HV.out.fl).mono ?_;rintro e1 w1 ⟨he,hq⟩;obtain rfl:=hq.symm;rw[HG.out] at he;subst he;go_wp2;go_ret;exact ⟨rfl,rfl⟩
theorem jDV (b fb:Nat)(R:Int)(F:Flt)(sp:List Int)(u:Nat)(w:World)(hv:VW w b fb F sp)(hw:FWf R F)(hu:u<6)(ht:F.ut u=true):Calls Tryz.prog 33 #[.pointer (some ⟨b,0,none⟩),.int .i64 u] w fun e w'=>e = .returned (.int .i64 (F.m.wait u))∧w'=w:=by
 obtain ⟨so,sc,uo,uc,ho,hc,lo,lc,po,pc,hv⟩:=hv;have lb:=hv.box.lt;have HV:=hid hv;have HW:=hid hw;clear hv hw;(have HG:Hid (getV (hasU F (u:Int)) (.int .i64 (F.m.wait (u:Int).toNat)) (.int .i64 0) = .tuple #[.int .i64 (F.m.wait u),.int .i64 0]):=by unfold Hid;rw[jIm hu ht];rfl);have hn:=HW.out.wait u hu;(have hn2:¬ F.m.wait u<0:=by omega);have hn3:decide (F.m.wait u<0)=false:=decide_eq_false hn2;go_enter Tryz.func33,Tryz.ntmps33;have c0:=HV.out.box.cell 0 _ rfl;go_wp2_with fail;refine (Waiting_any fb F (u:Int) _ HV.out.fl).mono ?_;rintro e1 w1 ⟨he,hq⟩;obtain rfl:=hq.symm;rw[HG.out] at he;subst he;go_wp2;go_ret;exact ⟨rfl,rfl⟩
theorem jEw (b fb:Nat)(R:Int)(F:Flt)(sp:List Int)(u:Nat)(w:World)(hv:VW w b fb F sp)(hw:FWf R F)(hu:u<6)(ht:F.ut u=true):Calls Tryz.prog 34 #[.pointer (some ⟨b,0,none⟩),.int .i64 u] w fun e w'=>e = .returned (.int .i64 (runs F.m u))∧w'=w:=by
 obtain ⟨so,sc,uo,uc,ho,hc,lo,lc,po,pc,hv⟩:=hv;have lb:=hv.box.lt;have HV:=hid hv;have HW:=hid hw;clear hv hw;have HMG:Hid (F.mg≤8):=HW.out.mg;go_enter Tryz.func34,Tryz.ntmps34;go_wp2
 go_loopg[5,6] F.mg (fun gg s5 ix wr=>∃ k:Nat,gg=F.mg - k∧k≤F.mg∧ix = .int .i64 k∧s5 = .int .i64 (Por.sumI (F.m.on u) k)∧wr=w)
 case atStart=>exact ⟨0,rfl,Nat.zero_le _,rfl,rfl,rfl⟩
 case round=>
  obtain ⟨k,hgk,hk,rfl,rfl,hwr⟩:=hrel;subst hwr;have c2:=HV.out.box.cell 2 _ rfl;have hmg:=HMG.out;by_cases hlt:k<F.mg
  ·have hki:(k:Int)<(F.mg:Int):=by omega
   cases hmt:F.mt k with
   | true=>obtain ⟨g,o,d,e,dc,rfl,hg,c5,hd,_⟩:=HV.out.up k hlt hmt;(have hnq:∀ w,(binOp .neq 28 (.slice (some ⟨d,e,none⟩) F.k dc) (.slice none 0 0)).run Tryz.prog w = .ok (.bool true) w:=fun w=>run_neq_slice_nil_any w 28 3 _ _ _ 0 0 Tryz.underlying28);go_wp2_with fail;refine (jEO b fb R F sp u k _ HV.out.vw HW.out hu ht (by omega) hmt).mono ?_;rintro e1 w1 ⟨rfl,hq⟩;obtain rfl:=hq.symm;have p1:=HW.out.part hu (show k≤8 by omega);have p2:=HW.out.on40 (m:=k) hu (by omega);go_wp2;go_roundg (F.mg - (k+1));(case measure=>omega);case rel=>exact ⟨k+1,rfl,by omega,by go_num,rfl,rfl⟩
   | false=>obtain ⟨g,o,rfl,hg,c5⟩:=HV.out.down k hlt hmt;(have hnq:∀ w,(binOp .neq 28 (.slice none 0 0) (.slice none 0 0)).run Tryz.prog w = .ok (.bool false) w:=fun w=>run_neq_slice_nil_any w 28 3 _ _ _ 0 0 Tryz.underlying28);(have HS:Hid (Por.sumI (F.m.on u) (k+1)=Por.sumI (F.m.on u) k):=by unfold Hid;show Por.sumI (F.m.on u) k+F.m.on u k=_;rw[HW.out.gone k (by omega) hmt u hu,Int.add_zero]);go_wp2;go_roundg (F.mg - (k+1));(case measure=>omega);case rel=>exact ⟨k+1,rfl,by omega,by go_num,by rw[HS.out],rfl⟩
  ·(obtain rfl:k=F.mg:=by omega);(have hki:¬ (F.mg:Int)<(F.mg:Int):=by omega);go_wp2;go_ret;exact ⟨by rw[jK4 HW.out hu];(first | done | rfl),rfl⟩
theorem jF7 (b fb:Nat)(R:Int)(F:Flt)(sp:List Int)(m r:Nat)(w:World)(hv:VW w b fb F sp)(hw:FWf R F)(hm:m<8)(hmt:F.mt m=true)(hr:r<F.k):Calls Tryz.prog 58 #[.pointer (some ⟨b,0,none⟩),.int .i64 m,.int .i64 r] w fun e w'=>e = .returned (.int .i64 (roomK F m r))∧w'=w:=by
 obtain ⟨so,sc,uo,uc,ho,hc,lo,lc,po,pc,hv⟩:=hv;have lb:=hv.box.lt;have HV:=hid hv;have HW:=hid hw;clear hv hw;have HUG:Hid (F.ug≤6):=HW.out.ug;have HK4:Hid (F.k≤4):=HW.out.k4;have hmg:m<F.mg:=HW.out.mt m hm hmt;go_enter Tryz.func58,Tryz.ntmps58;have c2:=HV.out.box.cell 2 _ rfl;obtain ⟨g,o,d,e,dc,rfl,hg,c5,hd,c6⟩:=HV.out.up m hmg hmt;have c7:=c6 r hr;clear c6;(have hmi:(m:Int)<(F.mg:Int):=by omega);(have hri:(r:Int)<(F.k:Int):=by omega);go_wp2
 go_loopg[7,8] F.ug (fun gg s7 ix wr=>∃ k:Nat,gg=F.ug - k∧k≤F.ug∧ix = .int .i64 k∧s7 = .int .i64 (roomP F m r k)∧wr=w)
 case atStart=>exact ⟨0,rfl,Nat.zero_le _,rfl,by show _=Value.int .i64 (F.ms m r - 0);rw[Int.sub_zero],rfl⟩
 case round=>
  obtain ⟨k,hgk,hk,rfl,rfl,hwr⟩:=hrel;subst hwr;clear c5 c7 hmi c2;have c3:=HV.out.box.cell 3 _ rfl;have c4:=HV.out.box.cell 4 _ rfl;have hug:=HUG.out;have hk4:=HK4.out;by_cases hlt:k<F.ug
  ·(have hki:(k:Int)<(F.ug:Int):=by omega);obtain ⟨g1,o1,rfl,hg1,c5⟩:=HV.out.here k hlt
   cases ht:F.ut k with
   | true=>rw[ht] at c5;go_wp2_with fail;refine (jEO b fb R F sp k m _ HV.out.vw HW.out (by omega) ht hm hmt).mono ?_;rintro e1 w1 ⟨rfl,hq⟩;obtain rfl:=hq.symm;obtain ⟨g2,o2,d2,e2,dc2,rfl,hg2,c6,hd2,c7,_⟩:=HV.out.user k hlt;obtain ⟨x,c8,hx0,hx1,hx2⟩:=c7 r hr;have hx3:=hx2 ht;subst hx3;clear c7 hx2;obtain ⟨P,hP⟩:∃ P,F.m.on k m*F.ud k r=P:=⟨_,rfl⟩;have p1:=HW.out.rmP (m:=m) (r:=r) (k:=k) hm (by omega) (by omega);have p2:=HW.out.rmP (m:=m) (r:=r) (k:=k+1) hm (by omega) (by omega);(have HS:Hid (roomP F m r (k+1)=roomP F m r k - P):=by unfold Hid roomP;show F.ms m r - (Por.sumI (fun v=>F.ud v r*F.m.on v m) k+F.ud k r*F.m.on k m)=_;rw[Int.mul_comm (F.ud k r),hP];omega);rw[HS.out] at p2;(have hP0:0≤P:=by rw[← hP];exact Int.mul_nonneg (HW.out.on k (by omega) m hm) hx0);(have hP1:P≤1000:=by omega);go_wp2;go_roundg (F.ug - (k+1));(case measure=>omega);case rel=>exact ⟨k+1,rfl,by omega,by go_num,by rw[HS.out],rfl⟩
   | false=>rw[ht] at c5;have HS:Hid (roomP F m r (k+1)=roomP F m r k):=jIA HW.out (by omega) hm ht;go_wp2;go_roundg (F.ug - (k+1));(case measure=>omega);case rel=>exact ⟨k+1,rfl,by omega,by go_num,by rw[HS.out],rfl⟩
  ·(obtain rfl:k=F.ug:=by omega);(have hki:¬ (F.ug:Int)<(F.ug:Int):=by omega);go_wp2;go_ret;exact ⟨by rw[show roomK F m r=roomP F m r F.ug from (jKY HW.out hm).symm];(first | done | rfl),rfl⟩
theorem jGo (b fb:Nat)(R:Int)(F:Flt)(sp:List Int)(u:Nat)(rm:Nat→Int)(ao:Option Addr)(cap:Nat)(w:World)(hv:VW w b fb F sp)(hw:FWf R F)(hu:u<6)(ht:F.ut u=true)(ha:Arr w 1 ao F.k cap (ints (lst rm F.k))):Calls Tryz.prog 36 #[.pointer (some ⟨b,0,none⟩),.int .i64 u,.slice ao F.k cap] w fun e w'=>e = .returned (.bool (bearsB rm (F.ud u) F.k))∧Below w.heap.size w w':=by
 obtain ⟨so,sc,uo,uc,ho,hc,lo,lc,po,pc,hv⟩:=hv;have lb:=hv.box.lt;have HV:=hid hv;have HW:=hid hw;clear hv hw;have hug:u<F.ug:=HW.out.ut u hu ht;have hlen:=ha.len;rw[jAG,jBd] at hlen;have HA:=hid ha;have HK4:Hid (F.k≤4):=HW.out.k4;clear ha;have HUG:Hid (F.ug≤6):=HW.out.ug;go_enter Tryz.func36,Tryz.ntmps36;go_wp2
 go_loopg[7] F.k (fun gg ix wr=>∃ k:Nat,gg=F.k - k∧k≤F.k∧ix = .int .i64 k∧Hid (∀ r,r<k→F.ud u r≤rm r)∧Hid (Below w.heap.size w wr))
 case atStart=>exact ⟨0,rfl,Nat.zero_le _,rfl,fun r hr=>absurd hr (Nat.not_lt_zero r),Below.refl _ _⟩
 case round=>
  obtain ⟨k,hgk,hk,rfl,XQ,XB⟩:=hrel;have hk4:=HK4.out;by_cases hlt:k<F.k
  ·(have hki:(k:Int)<(F.k:Int):=by omega);(have hui:(u:Int)<(F.ug:Int):=by omega);have HV1:=hid (HV.out.below XB.out);have HA1:=hid (HA.out.below XB.out);have lb1:=HV1.out.box.lt;have c3:=HV1.out.box.cell 3 _ rfl;obtain ⟨g2,o2,d2,e2,dc2,rfl,hg2,c6,hd2,c7,_⟩:=HV1.out.user u hug;obtain ⟨x,c8,hx0,hx1,hx2⟩:=c7 k hlt;have hx3:=hx2 ht;subst hx3;clear c7 hx2;obtain ⟨bb,oo,rfl,hbb⟩:=HA1.out.head (by omega);have c9:=HA1.out.int rfl hlt;rw[jL5 (jHc rm hlt)] at c9;by_cases hgt:rm k<F.ud u k
   ·have HR:Hid (bearsB rm (F.ud u) F.k=false):=jKh hlt hgt;(go_upto_region 4 with fail);go_quiet (fail);go_wp2;go_ret;exact ⟨by rw[HR.out];(first | done | rfl),below_drewN XB.out _⟩
   ·have HQ:Hid (∀ r,r<k+1→F.ud u r≤rm r):=fun r hr=>by
     by_cases e:r=k
     ·subst e;omega
     ·exact XQ.out r (by omega)
    (have hgt2:F.ud u k≤rm k:=by omega);(go_upto_region 4 with fail);go_quiet (fail);go_wp2;go_roundg (F.k - (k+1));(case measure=>omega);case rel=>exact ⟨k+1,rfl,by omega,by go_num,HQ.out,below_drewN XB.out _⟩
  ·(obtain rfl:k=F.k:=by omega);have HR:Hid (bearsB rm (F.ud u) F.k=true):=jA8.2 XQ.out;(have hki:¬ (F.k:Int)<(F.k:Int):=by omega);go_wp2;go_ret;exact ⟨by rw[HR.out];(first | done | rfl),XB.out⟩
theorem jID (b fb:Nat)(R:Int)(F:Flt)(sp:List Int)(m:Nat)(w:World)(hv:VW w b fb F sp)(hw:FWf R F)(hm:m<8)(hmt:F.mt m=true):Calls Tryz.prog 35 #[.pointer (some ⟨b,0,none⟩),.int .i64 m] w fun e w'=>∃ v,e = .returned v∧Li w.heap.size w' v (lst (roomK F m) F.k)∧Below w.heap.size w w':=by
 obtain ⟨so,sc,uo,uc,ho,hc,lo,lc,po,pc,hv⟩:=hv;have lb:=hv.box.lt;have HV:=hid hv;have HW:=hid hw;clear hv hw;have HK4:Hid (F.k≤4):=HW.out.k4;go_enter Tryz.func35,Tryz.ntmps35;go_wp2
 go_loopg[5,6] F.k (fun gg s5 ix wr=>∃ (k:Nat) (va:Value),gg=F.k - k∧k≤F.k∧ix = .int .i64 k∧va=s5∧Hid (Li w.heap.size wr va (lst (roomK F m) k))∧Hid (Below w.heap.size w wr))
 case atStart=>exact ⟨0,.slice none 0 0,rfl,Nat.zero_le _,rfl,rfl,Li.nil _ _,Below.refl _ _⟩
 case round=>
  obtain ⟨k,va,hgk,hk,rfl,rfl,XL,XB⟩:=hrel;have hk4:=HK4.out;have HV1:=hid (HV.out.below XB.out);have lb1:=HV1.out.box.lt;have c1:=HV1.out.box.cell 1 _ rfl;by_cases hlt:k<F.k
  ·(have hki:(k:Int)<(F.k:Int):=by omega);go_wp2_with fail;refine (jF7 b fb R F sp m k _ HV1.out.vw HW.out hm hmt hlt).mono ?_;rintro e1 w1 ⟨rfl,hq⟩;obtain rfl:=hq.symm;have hsz:w.heap.size≤wr.heap.size:=XB.out.size;go_wp2_with (at_builtin;refine jA5 _ rfl _ _ rfl w.heap.size _ (lst (roomK F m) k) ⟨wr.heap.size,0,none⟩ 1 (roomK F m k) rfl rfl (XL.out.alloc _) ((jAC wr #[.int .i64 (roomK F m k)] 3).cell 0 _ rfl) (by rw[jBd];omega) (by simp only[World.size_alloc];omega) ?_);intro v8 w8 hO8 hT8 hB8;have XB8:Hid (Below w.heap.size w w8):=(XB.out.alloc XB.out.size _).trans (hB8.mono (Nat.le_refl _));(have XL8:Hid (Li w.heap.size w8 v8 (lst (roomK F m) (k+1))):=by unfold Hid;rw[jHQ];exact hO8);clear hO8 hT8 hB8;go_wp2;go_roundg (F.k - (k+1));(case measure=>omega);case rel=>exact ⟨k+1,v8,rfl,by omega,by go_num,rfl,XL8.out,XB8.out⟩
  ·(obtain rfl:k=F.k:=by omega);(have hki:¬ (F.k:Int)<(F.k:Int):=by omega);go_wp2;go_ret;exact ⟨va,rfl,XL.out,XB.out⟩
theorem jFo (b fb:Nat)(R:Int)(F:Flt)(sp:List Int)(w:World)(hv:VW w b fb F sp)(hw:FWf R F)(hq:Rest F):Calls Tryz.prog 13 #[.pointer (some ⟨b,0,none⟩)] w fun e w'=>e = .returned (.bool true)∧Below w.heap.size w w':=by
 obtain ⟨so,sc,uo,uc,ho,hc,lo,lc,po,pc,hv⟩:=hv;have lb:=hv.box.lt;have HV:=hid hv;have HW:=hid hw;clear hv hw;have HQ:=hid hq;clear hq;have HUG:Hid (F.ug≤6):=HW.out.ug;have HMG:Hid (F.mg≤8):=HW.out.mg;go_enter Tryz.func13,Tryz.ntmps13;go_wp2
 go_loopg[3] F.ug (fun gg ix wr=>∃ k:Nat,gg=F.ug - k∧k≤F.ug∧ix = .int .i64 k∧Hid (Below w.heap.size w wr))
 case atStart=>exact ⟨0,rfl,Nat.zero_le _,rfl,Below.refl _ _⟩
 case round=>
  obtain ⟨k,hgk,hk,rfl,XB⟩:=hrel;have hug:=HUG.out;have HV1:=hid (HV.out.below XB.out);have lb1:=HV1.out.box.lt;have c3:=HV1.out.box.cell 3 _ rfl;have c4:=HV1.out.box.cell 4 _ rfl;by_cases hlt:k<F.ug
  ·(have hki:(k:Int)<(F.ug:Int):=by omega);obtain ⟨g1,o1,rfl,hg1,c5⟩:=HV1.out.here k hlt
   cases ht:F.ut k with
   | false=>rw[ht] at c5;go_wp2;go_roundg (F.ug - (k+1));(case measure=>omega);case rel=>exact ⟨k+1,rfl,by omega,by go_num,XB.out⟩
   | true=>
    rw[ht] at c5;go_wp2_with fail;refine (jDV b fb R F sp k _ HV1.out.vw HW.out (by omega) ht).mono ?_;rintro e1 w1 ⟨rfl,hq⟩;obtain rfl:=hq.symm;go_wp2_with fail;refine (jEw b fb R F sp k _ HV1.out.vw HW.out (by omega) ht).mono ?_;rintro e2 w2 ⟨rfl,hq⟩;obtain rfl:=hq.symm;obtain ⟨g2,o2,d2,e2,dc2,rfl,hg2,c6,hd2,_,c7⟩:=HV1.out.user k hlt;have c8:=(c7 ht).2;clear c7;by_cases hw0:F.m.wait k=0
    ·(have hb0:(F.m.wait k == 0)=true:=by rw[hw0];rfl);go_wp2;go_roundg (F.ug - (k+1));(case measure=>omega);case rel=>exact ⟨k+1,rfl,by omega,by go_num,XB.out⟩
    ·(have hb0:(F.m.wait k == 0)=false:=by rw[beq_eq_false_iff_ne];exact hw0);(have hwp:0<F.m.wait k:=by have:=HW.out.wait k (by omega);omega);by_cases hcap:F.uc k≤runs F.m k
     ·have hcd:decide (F.uc k≤runs F.m k)=true:=decide_eq_true hcap;go_wp2;go_roundg (F.ug - (k+1));(case measure=>omega);case rel=>exact ⟨k+1,rfl,by omega,by go_num,XB.out⟩
     ·have hcd:decide (F.uc k≤runs F.m k)=false:=decide_eq_false hcap;(have hcl:runs F.m k<F.uc k:=by omega);(have HFN:Hid (∀ m,m<8→F.mt m=true→bearsB (roomK F m) (F.ud k) F.k=false):=fun m hm hmt=>HQ.out.fill k (by omega) ht hwp hcl m hm hmt);go_wp2;clear c3 c4 c5 c6 c8 hb0 hcd
      go_loopg[6] F.mg (fun gg ix wq=>∃ m:Nat,gg=F.mg - m∧m≤F.mg∧ix = .int .i64 m∧Hid (Below w.heap.size w wq))
      case atStart=>exact ⟨0,rfl,Nat.zero_le _,rfl,XB.out⟩
      case round=>
       clear HV1 lb1 XB hg1 hg2 hd2;obtain ⟨m,hgm,hm,rfl,XB⟩:=hrel;have hmg:=HMG.out;have HV1:=hid (HV.out.below XB.out);have lb1:=HV1.out.box.lt;have c2:=HV1.out.box.cell 2 _ rfl;by_cases hltm:m<F.mg
       ·have hmi:(m:Int)<(F.mg:Int):=by omega
        cases hmt:F.mt m with
        | false=>obtain ⟨g3,o3,rfl,hg3,c5⟩:=HV1.out.down m hltm hmt;(have hnq:∀ w,(binOp .neq 28 (.slice none 0 0) (.slice none 0 0)).run Tryz.prog w = .ok (.bool false) w:=fun w=>run_neq_slice_nil_any w 28 3 _ _ _ 0 0 Tryz.underlying28);go_wp2;go_roundg (F.mg - (m+1));(case measure=>omega);case rel=>exact ⟨m+1,rfl,by omega,by go_num,XB.out⟩
        | true=>obtain ⟨g3,o3,d3,e3,dc3,rfl,hg3,c5,hd3,_⟩:=HV1.out.up m hltm hmt;(have hnq:∀ w,(binOp .neq 28 (.slice (some ⟨d3,e3,none⟩) F.k dc3) (.slice none 0 0)).run Tryz.prog w = .ok (.bool true) w:=fun w=>run_neq_slice_nil_any w 28 3 _ _ _ 0 0 Tryz.underlying28);go_wp2_with fail;refine (jID b fb R F sp m _ HV1.out.vw HW.out (by omega) hmt).mono ?_;rintro e4 w4 ⟨v4,rfl,hl4,hb4⟩;obtain ⟨ao,cap,hv4,ha4⟩:=hl4.arr;rw[jBd] at hv4 ha4;subst hv4;have HA4:=hid ha4;have XB4:Hid (Below w.heap.size w w4):=XB.out.trans (hb4.mono XB.out.size);clear hl4 ha4 hb4 c2 c5 hnq;go_wp2_with fail;refine (jGo b fb R F sp k (roomK F m) ao cap _ (HV.out.below XB4.out).vw HW.out (by omega) ht HA4.out).mono ?_;rintro e5 w5 ⟨rfl,hb5⟩;rw[HFN.out m (by omega) hmt];have XB5:Hid (Below w.heap.size w w5):=XB4.out.trans (hb5.mono XB4.out.size);clear hb5;go_wp2;go_roundg (F.mg - (m+1));(case measure=>omega);case rel=>exact ⟨m+1,rfl,by omega,by go_num,XB5.out⟩
       ·(obtain rfl:m=F.mg:=by omega);(have hmi:¬ (F.mg:Int)<(F.mg:Int):=by omega);go_wp2;go_roundg (F.ug - (k+1));(case measure=>omega);case rel=>exact ⟨k+1,rfl,by omega,by go_num,XB.out⟩
  ·(obtain rfl:k=F.ug:=by omega);(have hki:¬ (F.ug:Int)<(F.ug:Int):=by omega);go_wp2;go_ret;exact ⟨rfl,XB.out⟩
theorem jIU (b fb:Nat)(R:Int)(F:Flt)(sp:List Int)(w:World)(hv:VW w b fb F sp)(hw:FWf R F):Calls Tryz.prog 26 #[.pointer (some ⟨b,0,none⟩)] w fun e w'=>e = .returned (.bool true)∧w'=w:=by
 obtain ⟨so,sc,uo,uc,ho,hc,lo,lc,po,pc,hv⟩:=hv;have lb:=hv.box.lt;have HV:=hid hv;have HW:=hid hw;clear hv hw;have HUG:Hid (F.ug≤6):=HW.out.ug;have HMG:Hid (F.mg≤8):=HW.out.mg;have HK4:Hid (F.k≤4):=HW.out.k4;go_enter Tryz.func26,Tryz.ntmps26;go_wp2
 go_loopg[3] F.ug (fun gg ix wr=>∃ k:Nat,gg=F.ug - k∧k≤F.ug∧ix = .int .i64 k∧wr=w)
 case atStart=>exact ⟨0,rfl,Nat.zero_le _,rfl,rfl⟩
 case round=>
  obtain ⟨k,hgk,hk,rfl,hwr⟩:=hrel;subst hwr;have hug:=HUG.out;have c3:=HV.out.box.cell 3 _ rfl;have c4:=HV.out.box.cell 4 _ rfl;by_cases hlt:k<F.ug
  ·(have hki:(k:Int)<(F.ug:Int):=by omega);obtain ⟨g1,o1,rfl,hg1,c5⟩:=HV.out.here k hlt
   cases ht:F.ut k with
   | false=>rw[ht] at c5;go_wp2;go_roundg (F.ug - (k+1));(case measure=>omega);case rel=>exact ⟨k+1,rfl,by omega,by go_num,rfl⟩
   | true=>rw[ht] at c5;go_wp2_with fail;refine (jEw b fb R F sp k _ HV.out.vw HW.out (by omega) ht).mono ?_;rintro e1 w1 ⟨rfl,hq⟩;obtain rfl:=hq.symm;go_wp2_with fail;refine (jDV b fb R F sp k _ HV.out.vw HW.out (by omega) ht).mono ?_;rintro e2 w2 ⟨rfl,hq⟩;obtain rfl:=hq.symm;have c6:=HV.out.box.cell 5 _ rfl;obtain ⟨g2,o2,rfl,hg2,c7⟩:=HV.out.live k hlt ht;rw[Int.add_comm] at c7;have p1:=HW.out.runs0 (u:=k) (by omega);have p2:=HW.out.wait40 (u:=k) (by omega);have p3:=HW.out.tot k (by omega);go_wp2;go_roundg (F.ug - (k+1));(case measure=>omega);case rel=>exact ⟨k+1,rfl,by omega,by go_num,rfl⟩
  ·(obtain rfl:k=F.ug:=by omega);(have hki:¬ (F.ug:Int)<(F.ug:Int):=by omega);go_wp2;clear c3 c4
   go_loopg[6] F.mg (fun gg ix wq=>∃ m:Nat,gg=F.mg - m∧m≤F.mg∧ix = .int .i64 m∧wq=wr)
   case atStart=>exact ⟨0,rfl,Nat.zero_le _,rfl,rfl⟩
   case round=>
    obtain ⟨m,hgm,hm,rfl,hwr⟩:=hrel;subst hwr;have hmg:=HMG.out;have c2:=HV.out.box.cell 2 _ rfl;by_cases hltm:m<F.mg
    ·have hmi:(m:Int)<(F.mg:Int):=by omega
     cases hmt:F.mt m with
     | false=>
      go_wp2;clear c2
      go_loopg[7] 0 (fun gg ix wz=>∃ r:Nat,gg=0 - r∧r≤0∧ix = .int .i64 r∧wz=wr)
      (case atStart=>exact ⟨0,rfl,Nat.zero_le _,rfl,rfl⟩);case round=>obtain ⟨r,hgr,hr,rfl,hwr⟩:=hrel;subst hwr;have c2:=HV.out.box.cell 2 _ rfl;obtain ⟨g3,o3,rfl,hg3,c5⟩:=HV.out.down m hltm hmt;(obtain rfl:r=0:=by omega);go_wp2;go_roundg (F.mg - (m+1));(case measure=>omega);case rel=>exact ⟨m+1,rfl,by omega,by go_num,rfl⟩
     | true=>
      go_wp2;clear c2
      go_loopg[7] F.k (fun gg ix wz=>∃ r:Nat,gg=F.k - r∧r≤F.k∧ix = .int .i64 r∧wz=wr)
      case atStart=>exact ⟨0,rfl,Nat.zero_le _,rfl,rfl⟩
      case round=>
       obtain ⟨r,hgr,hr,rfl,hwr⟩:=hrel;subst hwr;have c2:=HV.out.box.cell 2 _ rfl;obtain ⟨g3,o3,d3,e3,dc3,rfl,hg3,c5,hd3,_⟩:=HV.out.up m hltm hmt;have hk4:=HK4.out;by_cases hltr:r<F.k
       ·(have hri:(r:Int)<(F.k:Int):=by omega);go_wp2_with fail;refine (jF7 b fb R F sp m r _ HV.out.vw HW.out (by omega) hmt hltr).mono ?_;rintro e1 w1 ⟨rfl,hq⟩;obtain rfl:=hq.symm;have p1:=HW.out.rmP (m:=m) (r:=r) (k:=6) (by omega) (by omega) (by omega);(have p2:¬ roomK F m r<0:=by show ¬ roomP F m r 6<0;omega);have p3:decide (roomK F m r<0)=false:=decide_eq_false p2;go_wp2;go_roundg (F.k - (r+1));(case measure=>omega);case rel=>exact ⟨r+1,rfl,by omega,by go_num,rfl⟩
       ·(obtain rfl:r=F.k:=by omega);(have hri:¬ (F.k:Int)<(F.k:Int):=by omega);go_wp2;go_roundg (F.mg - (m+1));(case measure=>omega);case rel=>exact ⟨m+1,rfl,by omega,by go_num,rfl⟩
    ·(obtain rfl:m=F.mg:=by omega);(have hmi:¬ (F.mg:Int)<(F.mg:Int):=by omega);go_wp2;go_ret;exact ⟨rfl,rfl⟩
structure Chg (P:Nat→Prop)(w w':World):Prop where
  os:w'.os=w.os
  tape:w'.tape=w.tape
  output:w'.output=w.output
  size:w.heap.size≤w'.heap.size
  block:∀ k,k<w.heap.size→¬ P k→w'.heap[k]? = w.heap[k]?
theorem Chg.refl (P:Nat→Prop)(w:World):Chg P w w:=⟨rfl,rfl,rfl,Nat.le_refl _,fun _ _ _=>rfl⟩
theorem Chg.trans {P:Nat→Prop}{x y z:World}(h:Chg P x y)(k:Chg P y z):Chg P x z:=⟨k.os.trans h.os,k.tape.trans h.tape,k.output.trans h.output,Nat.le_trans h.size k.size,fun i hi hn=>(k.block i (Nat.lt_of_lt_of_le hi h.size) hn).trans (h.block i hi hn)⟩
theorem Chg.of_below (P:Nat→Prop){w w':World}(h:Below w.heap.size w w'):Chg P w w':=⟨h.os,h.tape,h.output,h.size,fun k hk _=>h.block k hk⟩
theorem Chg.of_only {P:Nat→Prop}{b:Nat}{w w':World}(h:Only w.heap.size b w w')(hb:P b):Chg P w w':=⟨h.os,h.tape,h.output,h.size,fun k hk hn=>h.block k hk (fun e=>hn (e ▸ hb))⟩
theorem Chg.of_grown {P:Nat→Prop}{row:Option Nat}{w w':World}(h:w.grownBy w' row)(hr:∀ g,row=some g→P g):Chg P w w':=⟨h.os,h.tape,h.output,h.size,fun k hk hn=>h.block k hk (fun e=>hn (hr k e.symm))⟩
theorem Chg.set {P:Nat→Prop}{w:World}{g:Nat}(hg:P g)(o:Nat)(v:Value):Chg P w (w.setCell ⟨g,o,none⟩ v):=Chg.of_grown (jAc w g o v) (fun k e=>by injection e with e;exact e ▸ hg)
theorem Chg.below {P:Nat→Prop}{base:Nat}{w w':World}(h:Chg P w w')(hP:∀ k,P k→base≤k)(hb:base≤w.heap.size):Below base w w':=⟨h.os,h.tape,h.output,h.size,fun k hk=>h.block k (Nat.lt_of_lt_of_le hk hb) (fun e=>by have:=hP k e;omega)⟩
def Own5 (b fb:Nat)(sv uv hv lv pv:Value)(k:Nat):Prop:=k=b∨k=fb∨sv.ownBlock=some k∨uv.ownBlock=some k∨hv.ownBlock=some k∨lv.ownBlock=some k∨pv.ownBlock=some k
theorem BkM.own5 {base:Nat} {w:World} {b fb:Nat} {S:Bk} {sv uv hv lv pv:Value} {ss:List Value} {ps:List (Value×Usr)} (h:BkM base w b fb S sv uv hv lv pv ss ps) (hfb:base≤fb) {F:Flt} (hf:FL w fb F):∀ k,Own5 b fb sv uv hv lv pv k→base≤k∧k<w.heap.size:=fun k hk=>by
  rcases hk with e | e | e | e | e | e | e
  · subst e;exact ⟨h.low,h.box.lt⟩
  · subst e;exact ⟨hfb,hf.lt⟩
  · exact World.ownsRow.lt h.size k e
  · exact World.ownsRow.lt h.users.1 k e
  · exact World.ownsRow.lt h.here k e
  · exact World.ownsRow.lt h.live k e
  · exact World.ownsRow.lt h.sp k e
structure DoneM (base b fb:Nat)(R:Int)(P:Nat→Prop)(F:Flt)(o:OpV)(er:Int)(w w':World)(G:Flt)(S:Bk)(sv uv hv lv pv:Value)(ss:List Value)(ps:List (Value×Usr)):Prop where
  bk:BkM base w' b fb S sv uv hv lv pv ss ps
  fl:FL w' fb G
  ag:Agree S G
  wf:FWf (R+9600) G
  step:Step F o er G
  chg:Chg P w w'
def Done (base b fb:Nat)(R:Int)(P:Nat→Prop)(F:Flt)(o:OpV)(er:Int)(w w':World):Prop:=∃ G S sv uv hv lv pv ss ps,DoneM base b fb R P F o er w w' G S sv uv hv lv pv ss ps
theorem Done.from {base b fb:Nat}{R:Int}{P:Nat→Prop}{F:Flt}{o:OpV}{er:Int}{w v w':World}(h:Done base b fb R P F o er v w')(hc:Chg P w v):Done base b fb R P F o er w w':=by
 obtain ⟨G,S,sv,uv,hv,lv,pv,ss,ps,h⟩:=h;exact ⟨G,S,sv,uv,hv,lv,pv,ss,ps,{ h with chg:=hc.trans h.chg }⟩
theorem Done.drew {base b fb:Nat}{R:Int}{P:Nat→Prop}{F:Flt}{o:OpV}{er:Int}{w w':World}(h:Done base b fb R P F o er w w'):Done base b fb R P F o er w w'.drew:=by
 obtain ⟨G,S,sv,uv,hv,lv,pv,ss,ps,h⟩:=h;have hd:=(Below.refl w'.heap.size w').drew;exact ⟨G,S,sv,uv,hv,lv,pv,ss,ps,⟨h.bk.below hd,h.fl.below hd,h.ag,h.wf,h.step,h.chg.trans (Chg.of_below _ hd)⟩⟩
section
variable {base b fb:Nat} {R:Int} {F:Flt} {o:OpV} {w:World} {S:Bk} {sv uv hv lv pv:Value} {ss:List Value} {ps:List (Value×Usr)}
theorem Done.refused {F1:Flt}{er:Int}{w':World}(hb:BkM base w b fb S sv uv hv lv pv ss ps)(hf:FL w fb F)(ha:Agree S F)(he:Ends fb R F F1 er w w')(h0:er≠0):Done base b fb R (Own5 b fb sv uv hv lv pv) F o er w w':=by
 obtain ⟨G,h1,h2,h3,h4,h5⟩:=he;rcases h5 with ⟨e,_⟩ | ⟨_,e⟩
 ·exact absurd e h0
 ·subst e;exact ⟨G,S,sv,uv,hv,lv,pv,ss,ps,⟨hb.only hf h4 (Nat.le_refl _),h1,ha,h2,.inl ⟨h0,rfl⟩,Chg.of_only h4 (.inr (.inl rfl))⟩⟩
theorem Ends.okay {F1:Flt}{er:Int}{w':World}(hb:BkM base w b fb S sv uv hv lv pv ss ps)(hf:FL w fb F)(he:Ends fb R F F1 er w w')(h0:er=0):∃ G,BkM base w' b fb S sv uv hv lv pv ss ps∧FL w' fb G∧FWf (R+9600) G∧Settled F1 G∧Chg (Own5 b fb sv uv hv lv pv) w w':=by
 obtain ⟨G,h1,h2,h3,h4,h5⟩:=he;rcases h5 with ⟨_,e⟩ | ⟨e,_⟩
 ·exact ⟨G,hb.only hf h4 (Nat.le_refl _),h1,h2,e,Chg.of_only h4 (.inr (.inl rfl))⟩
 ·exact absurd h0 e
theorem Done.okay {F1 G:Flt} {S':Bk} {w1 w2:World} {sv' uv' hv' lv' pv':Value} {ss':List Value} {ps':List (Value×Usr)} {P:Nat→Prop} (hb:BkM base w2 b fb S' sv' uv' hv' lv' pv' ss' ps') (hf:FL w2 fb G) (ha:Agree S' F1) (hw1:FWf R F1) (hw:FWf (R+9600) G) (hs:Settled F1 G) (hc:Acts F o F1) (h1:Chg P w w1) (h2:Chg P w1 w2):Done base b fb R P F o 0 w w2:=
  ⟨G,S',sv',uv',hv',lv',pv',ss',ps',⟨hb,hf,ha.settled hw1 hs,hw,.inr ⟨rfl,.inl ⟨F1,hc,hs⟩⟩,h1.trans h2⟩⟩
end
theorem jBs {base T size n i:Nat}{w:World}{v:Value}{xs:List Value}(h:w.ownsRow base T size v n xs)(hi:i<n*size):∃ g cap,v = .slice (some ⟨g,0,none⟩) n cap∧base≤g∧g<w.heap.size∧w.cell? ⟨g,0+i,none⟩=xs[i]?∧w.frozen? ⟨g,0+i,none⟩=false:=by
 rcases h.2 with ⟨rfl,h0⟩ | ⟨g,cap,cur,rfl,h2,h3,h4,h5,h6,h7⟩
 ·subst h0;omega
 ·refine ⟨g,cap,rfl,h2,(Array.getElem?_eq_some_iff.1 h3).1,?_,?_⟩
  ·rw[Nat.zero_add,cell_of_row w g i _ _ _ h3,← Array.getElem?_toList,← h7,List.getElem?_take,if_pos hi]
  ·rw[Nat.zero_add];exact frozen_of_row w g i _ _ h3
theorem Only.cellq {B b g o:Nat}{w w':World}{v:Value}(h:Only B b w w')(hg:g<B)(hn:g≠b)(hc:w.cell? ⟨g,o,none⟩=some v):w'.cell? ⟨g,o,none⟩=some v:=(World.cell?_of_block (a:=⟨g,o,none⟩) (h.block g hg hn)).trans hc
section
variable {base b fb:Nat} {F:Flt} {w:World} {S:Bk} {sv uv hv lv pv:Value} {ss:List Value} {ps:List (Value×Usr)}
theorem jAa {a c:Option Addr}{n m k l:Nat}(h:Value.slice a n k=Value.slice c m l):a=c∧n=m∧k=l:=by injection h with h1 h2 h3;exact ⟨h1,h2,h3⟩
theorem BkM.liveSpot {lo:Option Addr}{n lc u:Nat}(h:BkM base w b fb S sv uv hv (.slice lo n lc) pv ss ps)(a:Agree S F)(hu:u<F.ug)(ht:F.ut u=true):∃ g z,z=0∧lo=some ⟨g,z,none⟩∧g<w.heap.size∧w.cell? ⟨g,z+u,none⟩=some (.int .i64 (F.m.wait u+runs F.m u))∧w.frozen? ⟨g,z+u,none⟩=false:=by
 obtain ⟨g,cap,e,h1,h2,h3,h4⟩:=jBs h.live (i:=u) (by rw[Nat.mul_one,a.ll];exact hu);obtain ⟨e1,e2,e3⟩:=jAa e;rw[List.getElem?_map,a.live u hu ht] at h3;exact ⟨g,0,rfl,e1,h2,h3,h4⟩
theorem BkM.hereSpot {lo:Option Addr}{n lc u:Nat}(h:BkM base w b fb S sv uv (.slice lo n lc) lv pv ss ps)(a:Agree S F)(hu:u<F.ug):∃ g z,z=0∧lo=some ⟨g,z,none⟩∧g<w.heap.size∧w.cell? ⟨g,z+u,none⟩=some (.bool (F.ut u))∧w.frozen? ⟨g,z+u,none⟩=false:=by
 obtain ⟨g,cap,e,h1,h2,h3,h4⟩:=jBs h.here (i:=u) (by rw[Nat.mul_one,a.hl];exact hu);obtain ⟨e1,e2,e3⟩:=jAa e;rw[List.getElem?_map,a.here u hu] at h3;exact ⟨g,0,rfl,e1,h2,h3,h4⟩
theorem BkM.sizeSpot {lo:Option Addr}{n lc i:Nat}(h:BkM base w b fb S (.slice lo n lc) uv hv lv pv ss ps)(a:Agree S F)(hi:i<F.mg):∃ g z v,z=0∧lo=some ⟨g,z,none⟩∧g<w.heap.size∧w.cell? ⟨g,z+i,none⟩=some v∧w.frozen? ⟨g,z+i,none⟩=false:=by
 (have hl:i<ss.length:=by rw[h.sl,a.szl];exact hi);obtain ⟨g,cap,e,h1,h2,h3,h4⟩:=jBs h.size (i:=i) (by rw[Nat.mul_one];exact hl);obtain ⟨e1,e2,e3⟩:=jAa e;rw[List.getElem?_eq_getElem hl] at h3;exact ⟨g,0,_,rfl,e1,h2,h3,h4⟩
theorem BkM.userSpot {lo:Option Addr}{n lc u:Nat}(h:BkM base w b fb S sv (.slice lo n lc) hv lv pv ss ps)(a:Agree S F)(hu:u<F.ug):∃ g z p x y,z=0∧lo=some ⟨g,z,none⟩∧g<w.heap.size∧ps[u]? = some p∧w.cell? ⟨g,z+u*3+1,none⟩=some (.int .i64 x)∧w.frozen? ⟨g,z+u*3+1,none⟩=false∧w.cell? ⟨g,z+u*3+2,none⟩=some (.int .i64 y)∧w.frozen? ⟨g,z+u*3+2,none⟩=false:=by
  have hl : u < ps.length := by have := h.us; have e : ps.length = S.us.length := by rw [← h.us, List.length_map]
                                rw [e, a.usl]; exact hu
  obtain ⟨q0,q1,q2⟩:=jFC ps hl;obtain ⟨g,cap,e,h1,h2,h3,h4⟩:=jBs h.users.1 (i:=u*3+1) (by omega);obtain ⟨g',cap',e',h1',h2',h3',h4'⟩:=jBs h.users.1 (i:=u*3+2) (by omega);obtain ⟨e1,e2,e3⟩:=jAa e;obtain ⟨e1',e2',e3'⟩:=jAa e';(rw[e1] at e1';injection e1' with e1';injection e1' with e1';subst e1');rw[q1] at h3;rw[q2] at h3';rw[← Nat.add_assoc] at h3 h4 h3' h4';exact ⟨g,0,ps[u],_,_,rfl,e1,h2,List.getElem?_eq_getElem hl,h3,h4,h3',h4'⟩
theorem BkM.liveAt {g z n lc u:Nat}(h:BkM base w b fb S sv uv hv (.slice (some ⟨g,z,none⟩) n lc) pv ss ps)(a:Agree S F)(hu:u<F.ug)(ht:F.ut u=true):w.cell? ⟨g,z+u,none⟩=some (.int .i64 (F.m.wait u+runs F.m u))∧w.frozen? ⟨g,z+u,none⟩=false∧g<w.heap.size:=by
 obtain ⟨g',z',h0,h1,h2,h3,h4⟩:=h.liveSpot a hu ht;(injection h1 with h1;injection h1 with e1 e2;subst e1;subst e2);exact ⟨h3,h4,h2⟩
theorem BkM.userAt {g z n lc u:Nat}(h:BkM base w b fb S sv (.slice (some ⟨g,z,none⟩) n lc) hv lv pv ss ps)(hu:u<ps.length):∃ p x y,ps[u]? = some p∧w.cell? ⟨g,z+u*3+1,none⟩=some (.int .i64 x)∧w.frozen? ⟨g,z+u*3+1,none⟩=false∧w.cell? ⟨g,z+u*3+2,none⟩=some (.int .i64 y)∧w.frozen? ⟨g,z+u*3+2,none⟩=false∧g<w.heap.size:=by
 obtain ⟨q0,q1,q2⟩:=jFC ps hu;obtain ⟨g',cap,e,h1,h2,h3,h4⟩:=jBs h.users.1 (i:=u*3+1) (by omega);obtain ⟨g'',cap',e',h1',h2',h3',h4'⟩:=jBs h.users.1 (i:=u*3+2) (by omega);obtain ⟨e1,e2,e3⟩:=jAa e;obtain ⟨e1',e2',e3'⟩:=jAa e';(injection e1 with e1;injection e1 with x1 x2;subst x1;subst x2);(injection e1' with e1';injection e1' with x1;subst x1);rw[q1] at h3;rw[q2] at h3';rw[← Nat.add_assoc] at h3 h4 h3' h4';exact ⟨ps[u],_,_,List.getElem?_eq_getElem hu,h3,h4,h3',h4',h2⟩
theorem BkM.liveAny {lo:Option Addr}{n lc u:Nat}(h:BkM base w b fb S sv uv hv (.slice lo n lc) pv ss ps)(hu:u<S.live.length):∃ g z v,z=0∧lo=some ⟨g,z,none⟩∧g<w.heap.size∧w.cell? ⟨g,z+u,none⟩=some v∧w.frozen? ⟨g,z+u,none⟩=false:=by
 obtain ⟨g,cap,e,h1,h2,h3,h4⟩:=jBs h.live (i:=u) (by rw[Nat.mul_one];exact hu);obtain ⟨e1,e2,e3⟩:=jAa e;rw[List.getElem?_map,jLv hu] at h3;exact ⟨g,0,_,rfl,e1,h2,h3,h4⟩
theorem jLg (S:Bk)(u:Nat)(d e:List Int)(a c x y:Int):bChg (bChg S u d a c) u e x y=bChg S u e x y:=by
 unfold bChg;simp only[List.set_set]
end
end Go.Proofs.YtigokanoflkinabGreatDoor
