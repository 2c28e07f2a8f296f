/- BkW, BkX, BkE, joined. -/
import Derived.Test.YtigokanoflkinabGreatDoorBkTV
set_option maxHeartbeats 8000000
set_option maxRecDepth 20000
namespace Go.Proofs.YtigokanoflkinabGreatDoor
set_option linter.unusedSimpArgs false
set_option linter.unusedVariables false
open Go.RowKit Por
theorem jFo {F:Flt}{u:Nat}(hu:u<6)(ht:F.ut u=true):zJ F (u:Int)=true:=by
 unfold zJ;rw[decide_eq_true (show (0:Int)<=(u:Int) by omega),decide_eq_true (show ((u:Nat):Int)<6 by omega),show ((u:Nat):Int).toNat=u from rfl,ht];rfl
theorem jMI {F:Flt}{m:Nat}(hm:m<8)(ht:F.mt m=true):zi F (m:Int)=true:=by
 unfold zi;rw[decide_eq_true (show (0:Int)<=(m:Int) by omega),decide_eq_true (show ((m:Nat):Int)<8 by omega),show ((m:Nat):Int).toNat=m from rfl,ht];rfl
theorem jMT {R:Int}{F:Flt}(h:FWf R F){m:Nat}(hm:m<F.mg):zi F (m:Int)=F.mt m:=by
 have:=h.mg;unfold zi;rw[decide_eq_true (show (0:Int)<=(m:Int) by omega),decide_eq_true (show ((m:Nat):Int)<8 by omega),show ((m:Nat):Int).toNat=m from rfl];rfl
theorem jLJ {R:Int}{F:Flt}(h:FWf R F){m:Nat}(hm:¬ m<F.mg):zi F (m:Int)=false:=by
 unfold zi;by_cases a:m<8
 ·have:F.mt m=false:=by
   cases e:F.mt m with
   | false=>rfl
   | true=>exact absurd (h.mt m a e) hm
  rw[show ((m:Nat):Int).toNat=m from rfl,this];simp
 ·rw[decide_eq_false (show ¬ ((m:Nat):Int)<8 by omega)];simp
theorem jMR {R:Int}{F:Flt}(h:FWf R F){m:Nat}(hm:m<F.ug):zJ F (m:Int)=F.ut m:=by
 have:=h.ug;unfold zJ;rw[decide_eq_true (show (0:Int)<=(m:Int) by omega),decide_eq_true (show ((m:Nat):Int)<6 by omega),show ((m:Nat):Int).toNat=m from rfl];rfl
theorem jKv {R:Int}{F:Flt}(h:FWf R F){m:Nat}(hm:¬ m<F.ug):zJ F (m:Int)=false:=by
 unfold zJ;by_cases a:m<6
 ·have:F.ut m=false:=by
   cases e:F.ut m with
   | false=>rfl
   | true=>exact absurd (h.ut m a e) hm
  rw[show ((m:Nat):Int).toNat=m from rfl,this];simp
 ·rw[decide_eq_false (show ¬ ((m:Nat):Int)<6 by omega)];simp
theorem jLq (F:Flt){x:Int}(h:x<0):zi F x=false/\zJ F x=false:=by
 unfold zi zJ;rw[decide_eq_false (show ¬ 0<=x by omega)];exact ⟨rfl,rfl⟩
theorem FWf.part {R:Int}{F:Flt}(h:FWf R F){u k:Nat}(hu:u<6)(hk:k<=8):0<=Por.sumI (F.m.on u) k/\Por.sumI (F.m.on u) k<=40:=by
 refine ⟨jAK (fun i hi=>h.on u hu i (by omega)),?_⟩
 have b:∀ j,k+j<=8->Por.sumI (F.m.on u) k<=Por.sumI (F.m.on u) (k+j):=fun j=>by
  induction j with
  | zero=>intro _;exact Int.le_refl _
  | succ j ih=>intro e;have:=ih (by omega);have a:=h.on u hu (k+j) (by omega);show _<=Por.sumI (F.m.on u) (k+j)+F.m.on u (k+j);omega
 have a:=b (8 - k) (by omega);rw[show k+(8 - k)=8 by omega] at a;have c:=h.tot u hu;have d:=h.wait u hu;unfold runs at c;omega
theorem jMC {R:Int} {F:Flt} (h:FWf R F) {u:Nat} (hu:u<6):runs F.m u=Por.sumI (F.m.on u) F.mg:=jCq h.mg (fun i h1 h2=>by
  have:F.mt i=false:=by
    cases e:F.mt i with
    | false=>rfl
    | true=>have:=h.mt i h2 e;omega
  exact h.gone i h2 this u hu)
def roomP (F:Flt)(m r k:Nat):Int:=F.ms m r - Por.sumI (fun v=>F.ud v r*F.m.on v m) k
abbrev yV (F:Flt)(m r:Nat):Int:=roomP F m r 6
theorem FWf.rmP {R:Int}{F:Flt}(h:FWf R F){m r k:Nat}(hm:m<8)(hr:r<4)(hk:k<=6):0<=roomP F m r k/\roomP F m r k<=1000:=by
 have b:∀ j,k+j<=6->Por.sumI (fun v=>F.ud v r*F.m.on v m) k<=Por.sumI (fun v=>F.ud v r*F.m.on v m) (k+j):=fun j=>by
  induction j with
  | zero=>intro _;exact Int.le_refl _
  | succ j ih=>intro f;have:=ih (by omega);have a:=Int.mul_nonneg (h.ud (k+j) (by omega) r hr).1 (h.on (k+j) (by omega) m hm);show _<=Por.sumI (fun v=>F.ud v r*F.m.on v m) (k+j)+F.ud (k+j) r*F.m.on (k+j) m;omega
 have a:=b (6 - k) (by omega);rw[show k+(6 - k)=6 by omega] at a;have c:=h.room m hm r hr;have d:=h.ms m hm r hr;have e:0<=Por.sumI (fun v=>F.ud v r*F.m.on v m) k:=jAK (fun v hv=>Int.mul_nonneg (h.ud v (by omega) r hr).1 (h.on v (by omega) m hm));show 0<=F.ms m r - _/\F.ms m r - _<=1000;omega
theorem jIL {R:Int}{F:Flt}(h:FWf R F){m r u:Nat}(hu:u<6)(hm:m<8)(ht:F.ut u=false):Go.Proofs.YtigokanoflkinabGreatDoor.roomP F m r (u+1)=Go.Proofs.YtigokanoflkinabGreatDoor.roomP F m r u:=by
 have a:=h.none u hu ht;have c:=h.wait u hu;have b:=h.runs0 hu;have d:=jBu (f:=F.m.on u) (n:=8) (fun j hj=>h.on u hu j hj) hm;have e:=h.on u hu m hm;unfold runs at a b;show F.ms m r - (Por.sumI (fun v=>F.ud v r*F.m.on v m) u+F.ud u r*F.m.on u m)=F.ms m r - Por.sumI (fun v=>F.ud v r*F.m.on v m) u;rw[show F.m.on u m=0 by omega,Int.mul_zero];omega
theorem jLe {R:Int}{F:Flt}(h:FWf R F){m r:Nat}(hm:m<8):Go.Proofs.YtigokanoflkinabGreatDoor.roomP F m r F.ug=Go.Proofs.YtigokanoflkinabGreatDoor.roomP F m r 6:=by
 show F.ms m r - _=F.ms m r - _;rw[jCq h.ug (fun i h1 h2=>?_)]
 have c:F.ut i=false:=by
  cases e:F.ut i with
  | false=>rfl
  | true=>have:=h.ut i h2 e;omega
 have a:=h.none i h2 c;have d:=h.wait i h2;have b:=h.runs0 h2;have g:=jBu (f:=F.m.on i) (n:=8) (fun j hj=>h.on i h2 j hj) hm;have k:=h.on i h2 m hm;unfold runs at a b;rw[show F.m.on i m=0 by omega,Int.mul_zero]
theorem jLM {a c:Nat->Int}{k r:Nat}(hr:r<k)(h:a r<c r):zN a c k=false:=by
 cases e:zN a c k with
 | false=>rfl
 | true=>have:=jAz.1 e r hr;omega
theorem jCn (b fb:Nat)(R:Int)(F:Flt)(sp:List Int)(x:Int)(w:World)(hv:VW w b fb F sp)(hw:FWf R F):Calls Tryz.prog 43 #[.pointer (some ⟨b,0,none⟩),.int .i64 x] w fun e w'=>e = .returned (.bool (zi F x))/\w'=w:=by
 obtain ⟨K,J,M,L,D,B,H,G,I,pc,hv⟩:=hv;have E:=hv.box.lt;have c:=hid hv;have i:=hid hw;clear hv hw;have r:F.mg<=8:=i.out.mg;go_enter Tryz.func43,Tryz.ntmps43;by_cases p:x<0
 ·have a:Hid (zi F x=false):=(jLq F p).1;have y:decide ((0:Int)<=x)=false:=decide_eq_false (by omega);(have z:¬ (0:Int)<=x:=by omega);go_wp2;go_ret;exact ⟨by rw[a.out];rfl,rfl⟩
 ·obtain ⟨u,rfl⟩:∃ u:Nat,x=(u:Int):=⟨x.toNat,by omega⟩;have s:=c.out.box.cell 2 _ rfl;have t:=c.out.box.cell 3 _ rfl;have v:=c.out.box.cell 4 _ rfl;by_cases f:u<F.mg
  ·(have l:(u:Int)<(F.mg:Int):=by omega);have a:Hid (zi F (u:Int)=F.mt u):=jMT i.out f
   cases h:F.mt u with
   | true=>obtain ⟨g,o,d,e,n,rfl,q,m,C,_⟩:=c.out.up u f h;(have j:∀ w,(binOp .neq 28 (.slice (some ⟨d,e,none⟩) F.k n) (.slice none 0 0)).run Tryz.prog w = .ok (.bool true) w:=fun w=>run_neq_slice_nil_any w 28 3 _ _ _ 0 0 Tryz.underlying28);rw[h] at a;go_wp2;go_ret;exact ⟨by rw[a.out];rfl,rfl⟩
   | false=>obtain ⟨g,o,rfl,q,m⟩:=c.out.down u f h;(have j:∀ w,(binOp .neq 28 (.slice none 0 0) (.slice none 0 0)).run Tryz.prog w = .ok (.bool false) w:=fun w=>run_neq_slice_nil_any w 28 3 _ _ _ 0 0 Tryz.underlying28);rw[h] at a;go_wp2;go_ret;exact ⟨by rw[a.out];rfl,rfl⟩
  ·(have l:¬ (u:Int)<(F.mg:Int):=by omega);have A:decide ((u:Int)<(F.mg:Int))=false:=decide_eq_false l;have a:Hid (zi F (u:Int)=false):=jLJ i.out f;go_wp2;go_ret;exact ⟨by rw[a.out];rfl,rfl⟩
theorem jDx (b fb:Nat)(R:Int)(F:Flt)(sp:List Int)(x:Int)(w:World)(hv:VW w b fb F sp)(hw:FWf R F):Calls Tryz.prog 45 #[.pointer (some ⟨b,0,none⟩),.int .i64 x] w fun e w'=>e = .returned (.bool (zJ F x))/\w'=w:=by
 obtain ⟨D,C,G,E,v,s,A,z,B,pc,hv⟩:=hv;have y:=hv.box.lt;have c:=hid hv;have d:=hid hw;clear hv hw;have j:F.ug<=6:=d.out.ug;go_enter Tryz.func45,Tryz.ntmps45;by_cases i:x<0
 ·have a:Hid (zJ F x=false):=(jLq F i).2;have p:decide ((0:Int)<=x)=false:=decide_eq_false (by omega);(have q:¬ (0:Int)<=x:=by omega);go_wp2;go_ret;exact ⟨by rw[a.out];rfl,rfl⟩
 ·obtain ⟨u,rfl⟩:∃ u:Nat,x=(u:Int):=⟨x.toNat,by omega⟩;have k:=c.out.box.cell 2 _ rfl;have l:=c.out.box.cell 3 _ rfl;have m:=c.out.box.cell 4 _ rfl;by_cases f:u<F.ug
  ·(have h:(u:Int)<(F.ug:Int):=by omega);have a:Hid (zJ F (u:Int)=F.ut u):=jMR d.out f;obtain ⟨g,o,rfl,t,n⟩:=c.out.here u f;go_wp2;go_ret;exact ⟨by rw[a.out];rfl,rfl⟩
  ·(have h:¬ (u:Int)<(F.ug:Int):=by omega);have r:decide ((u:Int)<(F.ug:Int))=false:=decide_eq_false h;have a:Hid (zJ F (u:Int)=false):=jKv d.out f;go_wp2;go_ret;exact ⟨by rw[a.out];rfl,rfl⟩
theorem jDq (b fb:Nat)(R:Int)(F:Flt)(sp:List Int)(u m:Nat)(w:World)(hv:VW w b fb F sp)(hw:FWf R F)(hu:u<6)(ht:F.ut u=true)(hm:m<8)(hmt:F.mt m=true):Calls Tryz.prog 48 #[.pointer (some ⟨b,0,none⟩),.int .i64 u,.int .i64 m] w fun e w'=>e = .returned (.int .i64 (F.m.on u m))/\w'=w:=by
 obtain ⟨v,t,y,x,o,l,r,q,s,pc,hv⟩:=hv;have p:=hv.box.lt;have c:=hid hv;have g:=hid hw;clear hv hw;(have f:Hid (xG (zJ F (u:Int) && zi F (m:Int)) (.int .i64 (F.m.on (u:Int).toNat (m:Int).toNat)) (.int .i64 0) = .tuple #[.int .i64 (F.m.on u m),.int .i64 0]):=by unfold Hid;rw[jFo hu ht,jMI hm hmt];rfl);have n:=g.out.on u hu m hm;(have a:¬ F.m.on u m<0:=by omega);have h:decide (F.m.on u m<0)=false:=decide_eq_false a;go_enter Tryz.func48,Tryz.ntmps48;have j:=c.out.box.cell 0 _ rfl;go_wp2_with fail;refine (Running_any fb F (u:Int) (m:Int) _ c.out.fl).mono ?_;rintro k z ⟨d,i⟩;obtain rfl:=i.symm;rw[f.out] at d;subst d;go_wp2;go_ret;exact ⟨rfl,rfl⟩
theorem jFW (b fb:Nat)(R:Int)(F:Flt)(sp:List Int)(u:Nat)(w:World)(hv:VW w b fb F sp)(hw:FWf R F)(hu:u<6)(ht:F.ut u=true):Calls Tryz.prog 33 #[.pointer (some ⟨b,0,none⟩),.int .i64 u] w fun e w'=>e = .returned (.int .i64 (F.m.wait u))/\w'=w:=by
 obtain ⟨v,t,y,x,o,l,r,q,s,pc,hv⟩:=hv;have p:=hv.box.lt;have c:=hid hv;have g:=hid hw;clear hv hw;(have f:Hid (xG (zJ F (u:Int)) (.int .i64 (F.m.wait (u:Int).toNat)) (.int .i64 0) = .tuple #[.int .i64 (F.m.wait u),.int .i64 0]):=by unfold Hid;rw[jFo hu ht];rfl);have n:=g.out.wait u hu;(have a:¬ F.m.wait u<0:=by omega);have h:decide (F.m.wait u<0)=false:=decide_eq_false a;go_enter Tryz.func33,Tryz.ntmps33;have j:=c.out.box.cell 0 _ rfl;go_wp2_with fail;refine (Waiting_any fb F (u:Int) _ c.out.fl).mono ?_;rintro k z ⟨d,i⟩;obtain rfl:=i.symm;rw[f.out] at d;subst d;go_wp2;go_ret;exact ⟨rfl,rfl⟩
theorem jCJ (b fb:Nat)(R:Int)(F:Flt)(sp:List Int)(u:Nat)(w:World)(hv:VW w b fb F sp)(hw:FWf R F)(hu:u<6)(ht:F.ut u=true):Calls Tryz.prog 34 #[.pointer (some ⟨b,0,none⟩),.int .i64 u] w fun e w'=>e = .returned (.int .i64 (runs F.m u))/\w'=w:=by
 obtain ⟨M,L,O,N,D,A,H,G,K,pc,hv⟩:=hv;have E:=hv.box.lt;have h:=hid hv;have c:=hid hw;clear hv hw;have i:Hid (F.mg<=8):=c.out.mg;go_enter Tryz.func34,Tryz.ntmps34;go_wp2
 go_loopg[5,6] F.mg (fun gg s5 ix wr=>∃ k:Nat,gg=F.mg - k/\k<=F.mg/\ix = .int .i64 k/\s5 = .int .i64 (Por.sumI (F.m.on u) k)/\wr=w)
 case atStart=>exact ⟨0,rfl,Nat.zero_le _,rfl,rfl,rfl⟩
 case round=>
  obtain ⟨k,t,C,rfl,rfl,n⟩:=hrel;subst n;have y:=h.out.box.cell 2 _ rfl;have v:=i.out;by_cases f:k<F.mg
  ·have j:(k:Int)<(F.mg:Int):=by omega
   cases a:F.mt k with
   | true=>obtain ⟨g,o,d,e,r,rfl,s,q,B,_⟩:=h.out.up k f a;(have l:∀ w,(binOp .neq 28 (.slice (some ⟨d,e,none⟩) F.k r) (.slice none 0 0)).run Tryz.prog w = .ok (.bool true) w:=fun w=>run_neq_slice_nil_any w 28 3 _ _ _ 0 0 Tryz.underlying28);go_wp2_with fail;refine (jDq b fb R F sp u k _ h.out.vw c.out hu ht (by omega) a).mono ?_;rintro z P ⟨rfl,x⟩;obtain rfl:=x.symm;have I:=c.out.part hu (show k<=8 by omega);have J:=c.out.on40 (m:=k) hu (by omega);go_wp2;go_roundg (F.mg - (k+1));(case measure=>omega);case rel=>exact ⟨k+1,rfl,by omega,by go_num,rfl,rfl⟩
   | false=>obtain ⟨g,o,rfl,s,q⟩:=h.out.down k f a;(have l:∀ w,(binOp .neq 28 (.slice none 0 0) (.slice none 0 0)).run Tryz.prog w = .ok (.bool false) w:=fun w=>run_neq_slice_nil_any w 28 3 _ _ _ 0 0 Tryz.underlying28);(have p:Hid (Por.sumI (F.m.on u) (k+1)=Por.sumI (F.m.on u) k):=by unfold Hid;show Por.sumI (F.m.on u) k+F.m.on u k=_;rw[c.out.gone k (by omega) a u hu,Int.add_zero]);go_wp2;go_roundg (F.mg - (k+1));(case measure=>omega);case rel=>exact ⟨k+1,rfl,by omega,by go_num,by rw[p.out],rfl⟩
  ·(obtain rfl:k=F.mg:=by omega);(have j:¬ (F.mg:Int)<(F.mg:Int):=by omega);go_wp2;go_ret;exact ⟨by rw[jMC c.out hu];(first | done | rfl),rfl⟩
theorem jJr (b fb:Nat)(R:Int)(F:Flt)(sp:List Int)(m r:Nat)(w:World)(hv:VW w b fb F sp)(hw:FWf R F)(hm:m<8)(hmt:F.mt m=true)(hr:r<F.k):Calls Tryz.prog 58 #[.pointer (some ⟨b,0,none⟩),.int .i64 m,.int .i64 r] w fun e w'=>e = .returned (.int .i64 (yV F m r))/\w'=w:=by
 obtain ⟨so,sc,uo,uc,ho,hc,lo,lc,po,pc,hv⟩:=hv;have lb:=hv.box.lt;have c:=hid hv;have a:=hid hw;clear hv hw;have q:Hid (F.ug<=6):=a.out.ug;have p:Hid (F.k<=4):=a.out.k4;have u:m<F.mg:=a.out.mt m hm hmt;go_enter Tryz.func58,Tryz.ntmps58;have D:=c.out.box.cell 2 _ rfl;obtain ⟨g,o,d,e,Y,rfl,hg,l,hd,s⟩:=c.out.up m u hmt;have n:=s r hr;clear s;(have y:(m:Int)<(F.mg:Int):=by omega);(have O:(r:Int)<(F.k:Int):=by omega);go_wp2
 go_loopg[7,8] F.ug (fun gg s7 ix wr=>∃ k:Nat,gg=F.ug - k/\k<=F.ug/\ix = .int .i64 k/\s7 = .int .i64 (roomP F m r k)/\wr=w)
 case atStart=>exact ⟨0,rfl,Nat.zero_le _,rfl,by show _=Value.int .i64 (F.ms m r - 0);rw[Int.sub_zero],rfl⟩
 case round=>
  obtain ⟨k,L,hk,rfl,rfl,z⟩:=hrel;subst z;clear l n y D;have U:=c.out.box.cell 3 _ rfl;have V:=c.out.box.cell 4 _ rfl;have Q:=q.out;have M:=p.out;by_cases f:k<F.ug
  ·(have t:(k:Int)<(F.ug:Int):=by omega);obtain ⟨g1,o1,rfl,J,l⟩:=c.out.here k f
   cases h:F.ut k with
   | true=>rw[h] at l;go_wp2_with fail;refine (jDq b fb R F sp k m _ c.out.vw a.out (by omega) h hm hmt).mono ?_;rintro Z w1 ⟨rfl,N⟩;obtain rfl:=N.symm;obtain ⟨g2,o2,X,e2,E,rfl,K,s,I,n,_⟩:=c.out.user k f;obtain ⟨x,W,A,S,i⟩:=n r hr;have B:=i h;subst B;clear n i;obtain ⟨P,C⟩:∃ P,F.m.on k m*F.ud k r=P:=⟨_,rfl⟩;have p1:=a.out.rmP (m:=m) (r:=r) (k:=k) hm (by omega) (by omega);have T:=a.out.rmP (m:=m) (r:=r) (k:=k+1) hm (by omega) (by omega);(have j:Hid (roomP F m r (k+1)=roomP F m r k - P):=by unfold Hid roomP;show F.ms m r - (Por.sumI (fun v=>F.ud v r*F.m.on v m) k+F.ud k r*F.m.on k m)=_;rw[Int.mul_comm (F.ud k r),C];omega);rw[j.out] at T;(have G:0<=P:=by rw[<- C];exact Int.mul_nonneg (a.out.on k (by omega) m hm) A);(have H:P<=1000:=by omega);go_wp2;go_roundg (F.ug - (k+1));(case measure=>omega);case rel=>exact ⟨k+1,rfl,by omega,by go_num,by rw[j.out],rfl⟩
   | false=>rw[h] at l;have j:Hid (roomP F m r (k+1)=roomP F m r k):=jIL a.out (by omega) hm h;go_wp2;go_roundg (F.ug - (k+1));(case measure=>omega);case rel=>exact ⟨k+1,rfl,by omega,by go_num,by rw[j.out],rfl⟩
  ·(obtain rfl:k=F.ug:=by omega);(have t:¬ (F.ug:Int)<(F.ug:Int):=by omega);go_wp2;go_ret;exact ⟨by rw[show yV F m r=roomP F m r F.ug from (jLe a.out hm).symm];(first | done | rfl),rfl⟩
theorem jE9 (b fb:Nat)(R:Int)(F:Flt)(sp:List Int)(u:Nat)(rm:Nat->Int)(ao:Option Addr)(cap:Nat)(w:World)(hv:VW w b fb F sp)(hw:FWf R F)(hu:u<6)(ht:F.ut u=true)(ha:Arr w 1 ao F.k cap (zg (zj rm F.k))):Calls Tryz.prog 36 #[.pointer (some ⟨b,0,none⟩),.int .i64 u,.slice ao F.k cap] w fun e w'=>e = .returned (.bool (zN rm (F.ud u) F.k))/\Below w.heap.size w w':=by
 obtain ⟨so,sc,uo,uc,X,V,lo,Z,po,pc,hv⟩:=hv;have Y:=hv.box.lt;have A:=hid hv;have l:=hid hw;clear hv hw;have o:u<F.ug:=l.out.ut u hu ht;have g:=ha.len;rw[jAG,jAS] at g;have v:=hid ha;have i:Hid (F.k<=4):=l.out.k4;clear ha;have z:Hid (F.ug<=6):=l.out.ug;go_enter Tryz.func36,Tryz.ntmps36;go_wp2
 go_loopg[7] F.k (fun gg ix wr=>∃ k:Nat,gg=F.k - k/\k<=F.k/\ix = .int .i64 k/\Hid (∀ r,r<k->F.ud u r<=rm r)/\Hid (Below w.heap.size w wr))
 case atStart=>exact ⟨0,rfl,Nat.zero_le _,rfl,fun r hr=>absurd hr (Nat.not_lt_zero r),Below.refl _ _⟩
 case round=>
  obtain ⟨k,H,W,rfl,q,f⟩:=hrel;have I:=i.out;by_cases a:k<F.k
  ·(have n:(k:Int)<(F.k:Int):=by omega);(have J:(u:Int)<(F.ug:Int):=by omega);have c:=hid (A.out.below f.out);have d:=hid (v.out.below f.out);have M:=c.out.box.lt;have O:=c.out.box.cell 3 _ rfl;obtain ⟨U,o2,S,T,C,rfl,G,P,E,s,_⟩:=c.out.user u o;obtain ⟨x,Q,K,L,h⟩:=s k a;have p:=h ht;subst p;clear s h;obtain ⟨N,oo,rfl,D⟩:=d.out.head (by omega);have B:=d.out.int rfl a;rw[jHD (jCe rm a)] at B;by_cases m:rm k<F.ud u k
   ·have j:Hid (zN rm (F.ud u) F.k=false):=jLM a m;(go_upto_region 4 with fail);go_quiet (fail);go_wp2;go_ret;exact ⟨by rw[j.out];(first | done | rfl),below_drewN f.out _⟩
   ·have y:Hid (∀ r,r<k+1->F.ud u r<=rm r):=fun r hr=>by
     by_cases e:r=k
     ·subst e;omega
     ·exact q.out r (by omega)
    (have t:F.ud u k<=rm k:=by omega);(go_upto_region 4 with fail);go_quiet (fail);go_wp2;go_roundg (F.k - (k+1));(case measure=>omega);case rel=>exact ⟨k+1,rfl,by omega,by go_num,y.out,below_drewN f.out _⟩
  ·(obtain rfl:k=F.k:=by omega);have j:Hid (zN rm (F.ud u) F.k=true):=jAz.2 q.out;(have n:¬ (F.k:Int)<(F.k:Int):=by omega);go_wp2;go_ret;exact ⟨by rw[j.out];(first | done | rfl),f.out⟩
theorem jFZ (b fb:Nat)(R:Int)(F:Flt)(sp:List Int)(m:Nat)(w:World)(hv:VW w b fb F sp)(hw:FWf R F)(hm:m<8)(hmt:F.mt m=true):Calls Tryz.prog 35 #[.pointer (some ⟨b,0,none⟩),.int .i64 m] w fun e w'=>∃ v,e = .returned v/\Li w.heap.size w' v (zj (yV F m) F.k)/\Below w.heap.size w w':=by
 obtain ⟨M,L,O,N,G,D,J,I,K,pc,hv⟩:=hv;have H:=hv.box.lt;have t:=hid hv;have p:=hid hw;clear hv hw;have h:Hid (F.k<=4):=p.out.k4;go_enter Tryz.func35,Tryz.ntmps35;go_wp2
 go_loopg[5,6] F.k (fun gg s5 ix wr=>∃ (k:Nat) (g:Value),gg=F.k - k/\k<=F.k/\ix = .int .i64 k/\g=s5/\Hid (Li w.heap.size wr g (zj (yV F m) k))/\Hid (Below w.heap.size w wr))
 case atStart=>exact ⟨0,.slice none 0 0,rfl,Nat.zero_le _,rfl,rfl,Li.nil _ _,Below.refl _ _⟩
 case round=>
  obtain ⟨k,g,u,E,rfl,rfl,q,c⟩:=hrel;have x:=h.out;have a:=hid (t.out.below c.out);have A:=a.out.box.lt;have B:=a.out.box.cell 1 _ rfl;by_cases o:k<F.k
  ·(have n:(k:Int)<(F.k:Int):=by omega);go_wp2_with fail;refine (jJr b fb R F sp m k _ a.out.vw p.out hm hmt o).mono ?_;rintro C P ⟨rfl,y⟩;obtain rfl:=y.symm;have z:w.heap.size<=wr.heap.size:=c.out.size;go_wp2_with (at_builtin;refine jBH _ rfl _ _ rfl w.heap.size _ (zj (yV F m) k) ⟨wr.heap.size,0,none⟩ 1 (yV F m k) rfl rfl (q.out.alloc _) ((jAC wr #[.int .i64 (yV F m k)] 3).cell 0 _ rfl) (by rw[jAS];omega) (by simp only[World.size_alloc];omega) ?_);intro r s f l d;have i:Hid (Below w.heap.size w s):=(c.out.alloc c.out.size _).trans (d.mono (Nat.le_refl _));(have j:Hid (Li w.heap.size s r (zj (yV F m) (k+1))):=by unfold Hid;rw[jH4];exact f);clear f l d;go_wp2;go_roundg (F.k - (k+1));(case measure=>omega);case rel=>exact ⟨k+1,r,rfl,by omega,by go_num,rfl,j.out,i.out⟩
  ·(obtain rfl:k=F.k:=by omega);(have n:¬ (F.k:Int)<(F.k:Int):=by omega);go_wp2;go_ret;exact ⟨g,rfl,q.out,c.out⟩
theorem jCr (b fb:Nat)(R:Int)(F:Flt)(sp:List Int)(w:World)(hv:VW w b fb F sp)(hw:FWf R F)(hq:Rest F):Calls Tryz.prog 13 #[.pointer (some ⟨b,0,none⟩)] w fun e w'=>e = .returned (.bool true)/\Below w.heap.size w w':=by
 obtain ⟨so,sc,uo,uc,ho,hc,lo,lc,po,pc,hv⟩:=hv;have lb:=hv.box.lt;have D:=hid hv;have h:=hid hw;clear hv hw;have T:=hid hq;clear hq;have C:Hid (F.ug<=6):=h.out.ug;have B:Hid (F.mg<=8):=h.out.mg;go_enter Tryz.func13,Tryz.ntmps13;go_wp2
 go_loopg[3] F.ug (fun gg ix wr=>∃ k:Nat,gg=F.ug - k/\k<=F.ug/\ix = .int .i64 k/\Hid (Below w.heap.size w wr))
 case atStart=>exact ⟨0,rfl,Nat.zero_le _,rfl,Below.refl _ _⟩
 case round=>
  obtain ⟨k,ad,hk,rfl,c⟩:=hrel;have ag:=C.out;have a:=hid (D.out.below c.out);have y:=a.out.box.lt;have W:=a.out.box.cell 3 _ rfl;have X:=a.out.box.cell 4 _ rfl;by_cases t:k<F.ug
  ·(have N:(k:Int)<(F.ug:Int):=by omega);obtain ⟨g1,o1,rfl,K,n⟩:=a.out.here k t
   cases l:F.ut k with
   | false=>rw[l] at n;go_wp2;go_roundg (F.ug - (k+1));(case measure=>omega);case rel=>exact ⟨k+1,rfl,by omega,by go_num,c.out⟩
   | true=>
    rw[l] at n;go_wp2_with fail;refine (jFW b fb R F sp k _ a.out.vw h.out (by omega) l).mono ?_;rintro e1 w1 ⟨rfl,hq⟩;obtain rfl:=hq.symm;go_wp2_with fail;refine (jCJ b fb R F sp k _ a.out.vw h.out (by omega) l).mono ?_;rintro e2 w2 ⟨rfl,hq⟩;obtain rfl:=hq.symm;obtain ⟨g2,o2,d2,e2,aa,rfl,L,Y,J,_,Q⟩:=a.out.user k t;have Z:=(Q l).2;clear Q;by_cases x:F.m.wait k=0
    ·(have o:(F.m.wait k == 0)=true:=by rw[x];rfl);go_wp2;go_roundg (F.ug - (k+1));(case measure=>omega);case rel=>exact ⟨k+1,rfl,by omega,by go_num,c.out⟩
    ·(have o:(F.m.wait k == 0)=false:=by rw[beq_eq_false_iff_ne];exact x);(have P:0<F.m.wait k:=by have:=h.out.wait k (by omega);omega);by_cases f:F.uc k<=runs F.m k
     ·have r:decide (F.uc k<=runs F.m k)=true:=decide_eq_true f;go_wp2;go_roundg (F.ug - (k+1));(case measure=>omega);case rel=>exact ⟨k+1,rfl,by omega,by go_num,c.out⟩
     ·have r:decide (F.uc k<=runs F.m k)=false:=decide_eq_false f;(have I:runs F.m k<F.uc k:=by omega);(have A:Hid (∀ m,m<8->F.mt m=true->zN (yV F m) (F.ud k) F.k=false):=fun m S d=>T.out.fill k (by omega) l P I m S d);go_wp2;clear W X n Y Z o r
      go_loopg[6] F.mg (fun gg ix wq=>∃ m:Nat,gg=F.mg - m/\m<=F.mg/\ix = .int .i64 m/\Hid (Below w.heap.size w wq))
      case atStart=>exact ⟨0,rfl,Nat.zero_le _,rfl,c.out⟩
      case round=>
       clear a y c K L J;obtain ⟨m,ae,S,rfl,c⟩:=hrel;have af:=B.out;have a:=hid (D.out.below c.out);have y:=a.out.box.lt;have V:=a.out.box.cell 2 _ rfl;by_cases g:m<F.mg
       ·have O:(m:Int)<(F.mg:Int):=by omega
        cases d:F.mt m with
        | false=>obtain ⟨g3,o3,rfl,M,n⟩:=a.out.down m g d;(have u:∀ w,(binOp .neq 28 (.slice none 0 0) (.slice none 0 0)).run Tryz.prog w = .ok (.bool false) w:=fun w=>run_neq_slice_nil_any w 28 3 _ _ _ 0 0 Tryz.underlying28);go_wp2;go_roundg (F.mg - (m+1));(case measure=>omega);case rel=>exact ⟨m+1,rfl,by omega,by go_num,c.out⟩
        | true=>obtain ⟨g3,o3,d3,e3,H,rfl,M,n,ab,_⟩:=a.out.up m g d;(have u:∀ w,(binOp .neq 28 (.slice (some ⟨d3,e3,none⟩) F.k H) (.slice none 0 0)).run Tryz.prog w = .ok (.bool true) w:=fun w=>run_neq_slice_nil_any w 28 3 _ _ _ 0 0 Tryz.underlying28);go_wp2_with fail;refine (jFZ b fb R F sp m _ a.out.vw h.out (by omega) d).mono ?_;rintro e4 w4 ⟨v4,rfl,s,p⟩;obtain ⟨U,G,v,j⟩:=s.arr;rw[jAS] at v j;subst v;have z:=hid j;have i:Hid (Below w.heap.size w w4):=c.out.trans (p.mono c.out.size);clear s j p V n u;go_wp2_with fail;refine (jE9 b fb R F sp k (yV F m) U G _ (D.out.below i.out).vw h.out (by omega) l z.out).mono ?_;rintro e5 w5 ⟨rfl,q⟩;rw[A.out m (by omega) d];have E:Hid (Below w.heap.size w w5):=i.out.trans (q.mono i.out.size);clear q;go_wp2;go_roundg (F.mg - (m+1));(case measure=>omega);case rel=>exact ⟨m+1,rfl,by omega,by go_num,E.out⟩
       ·(obtain rfl:m=F.mg:=by omega);(have O:¬ (F.mg:Int)<(F.mg:Int):=by omega);go_wp2;go_roundg (F.ug - (k+1));(case measure=>omega);case rel=>exact ⟨k+1,rfl,by omega,by go_num,c.out⟩
  ·(obtain rfl:k=F.ug:=by omega);(have N:¬ (F.ug:Int)<(F.ug:Int):=by omega);go_wp2;go_ret;exact ⟨rfl,c.out⟩
structure Chg (P:Nat->Prop)(w w':World):Prop where
  os:w'.os=w.os
  tape:w'.tape=w.tape
  output:w'.output=w.output
  size:w.heap.size<=w'.heap.size
  block:∀ k,k<w.heap.size->¬ P k->w'.heap[k]? = w.heap[k]?
theorem Chg.refl (P:Nat->Prop)(w:World):Chg P w w:=⟨rfl,rfl,rfl,Nat.le_refl _,fun _ _ _=>rfl⟩
theorem Chg.trans {P:Nat->Prop}{x y z:World}(h:Chg P x y)(k:Chg P y z):Chg P x z:=⟨k.os.trans h.os,k.tape.trans h.tape,k.output.trans h.output,Nat.le_trans h.size k.size,fun i hi hn=>(k.block i (Nat.lt_of_lt_of_le hi h.size) hn).trans (h.block i hi hn)⟩
theorem Chg.of_below (P:Nat->Prop){w w':World}(h:Below w.heap.size w w'):Chg P w w':=⟨h.os,h.tape,h.output,h.size,fun k hk _=>h.block k hk⟩
theorem Chg.of_only {P:Nat->Prop}{b:Nat}{w w':World}(h:Only w.heap.size b w w')(hb:P b):Chg P w w':=⟨h.os,h.tape,h.output,h.size,fun k hk hn=>h.block k hk (fun e=>hn (e ▸ hb))⟩
theorem Chg.of_grown {P:Nat->Prop}{row:Option Nat}{w w':World}(h:w.grownBy w' row)(hr:∀ g,row=some g->P g):Chg P w w':=⟨h.os,h.tape,h.output,h.size,fun k hk hn=>h.block k hk (fun e=>hn (hr k e.symm))⟩
theorem Chg.set {P:Nat->Prop}{w:World}{g:Nat}(hg:P g)(o:Nat)(v:Value):Chg P w (w.setCell ⟨g,o,none⟩ v):=Chg.of_grown (jAR w g o v) (fun k e=>by injection e with e;exact e ▸ hg)
theorem Chg.below {P:Nat->Prop}{base:Nat}{w w':World}(h:Chg P w w')(hP:∀ k,P k->base<=k)(hb:base<=w.heap.size):Below base w w':=⟨h.os,h.tape,h.output,h.size,fun k hk=>h.block k (Nat.lt_of_lt_of_le hk hb) (fun e=>by have:=hP k e;omega)⟩
def zU (b fb:Nat)(sv uv hv lv pv:Value)(k:Nat):Prop:=k=b∨k=fb∨sv.ownBlock=some k∨uv.ownBlock=some k∨hv.ownBlock=some k∨lv.ownBlock=some k∨pv.ownBlock=some k
theorem BkM.own5 {base:Nat} {w:World} {b fb:Nat} {S:Bk} {sv uv hv lv pv:Value} {ss:List Value} {ps:List (Value×Usr)} (h:BkM base w b fb S sv uv hv lv pv ss ps) (hfb:base<=fb) {F:Flt} (hf:FL w fb F):∀ k,zU b fb sv uv hv lv pv k->base<=k/\k<w.heap.size:=fun k hk=>by
  rcases hk with e | e | e | e | e | e | e
  · subst e;exact ⟨h.low,h.box.lt⟩
  · subst e;exact ⟨hfb,hf.lt⟩
  · exact World.ownsRow.lt h.size k e
  · exact World.ownsRow.lt h.users.1 k e
  · exact World.ownsRow.lt h.here k e
  · exact World.ownsRow.lt h.live k e
  · exact World.ownsRow.lt h.sp k e
structure DoneM (base b fb:Nat)(R:Int)(P:Nat->Prop)(F:Flt)(o:OpV)(er:Int)(w w':World)(G:Flt)(S:Bk)(sv uv hv lv pv:Value)(ss:List Value)(ps:List (Value×Usr)):Prop where
  bk:BkM base w' b fb S sv uv hv lv pv ss ps
  fl:FL w' fb G
  ag:Agree S G
  wf:FWf (R+9600) G
  step:Step F o er G
  chg:Chg P w w'
def Done (base b fb:Nat)(R:Int)(P:Nat->Prop)(F:Flt)(o:OpV)(er:Int)(w w':World):Prop:=∃ G S sv uv hv lv pv ss ps,DoneM base b fb R P F o er w w' G S sv uv hv lv pv ss ps
theorem Done.from {base b fb:Nat}{R:Int}{P:Nat->Prop}{F:Flt}{o:OpV}{er:Int}{w v w':World}(h:Done base b fb R P F o er v w')(hc:Chg P w v):Done base b fb R P F o er w w':=by
 obtain ⟨G,S,sv,g,a,c,e,f,d,h⟩:=h;exact ⟨G,S,sv,g,a,c,e,f,d,{ h with chg:=hc.trans h.chg }⟩
theorem Done.drew {base b fb:Nat}{R:Int}{P:Nat->Prop}{F:Flt}{o:OpV}{er:Int}{w w':World}(h:Done base b fb R P F o er w w'):Done base b fb R P F o er w w'.drew:=by
 obtain ⟨G,S,sv,i,c,d,f,g,e,h⟩:=h;have a:=(brw w').drew;exact ⟨G,S,sv,i,c,d,f,g,e,⟨h.bk.below a,h.fl.below a,h.ag,h.wf,h.step,h.chg.trans (Chg.of_below _ a)⟩⟩
section
variable {base b fb:Nat} {R:Int} {F:Flt} {o:OpV} {w:World} {S:Bk} {sv uv hv lv pv:Value} {ss:List Value} {ps:List (Value×Usr)}
theorem Done.refused {F1:Flt}{er:Int}{w':World}(hb:BkM base w b fb S sv uv hv lv pv ss ps)(hf:FL w fb F)(ha:Agree S F)(he:Ends fb R F F1 er w w')(h0:er≠0):Done base b fb R (zU b fb sv uv hv lv pv) F o er w w':=by
 obtain ⟨G,c,d,g,a,f⟩:=he;rcases f with ⟨e,_⟩ | ⟨_,e⟩
 ·exact absurd e h0
 ·subst e;exact ⟨G,S,sv,uv,hv,lv,pv,ss,ps,⟨hb.only hf a (Nat.le_refl _),c,ha,d,.inl ⟨h0,rfl⟩,Chg.of_only a (.inr (.inl rfl))⟩⟩
theorem Ends.okay {F1:Flt}{er:Int}{w':World}(hb:BkM base w b fb S sv uv hv lv pv ss ps)(hf:FL w fb F)(he:Ends fb R F F1 er w w')(h0:er=0):∃ G,BkM base w' b fb S sv uv hv lv pv ss ps/\FL w' fb G/\FWf (R+9600) G/\Settled F1 G/\Chg (zU b fb sv uv hv lv pv) w w':=by
 obtain ⟨G,c,d,g,a,f⟩:=he;rcases f with ⟨_,e⟩ | ⟨e,_⟩
 ·exact ⟨G,hb.only hf a (Nat.le_refl _),c,d,e,Chg.of_only a (.inr (.inl rfl))⟩
 ·exact absurd h0 e
theorem Done.okay {F1 G:Flt} {S':Bk} {w1 w2:World} {sv' uv' hv' lv' pv':Value} {ss':List Value} {ps':List (Value×Usr)} {P:Nat->Prop} (hb:BkM base w2 b fb S' sv' uv' hv' lv' pv' ss' ps') (hf:FL w2 fb G) (ha:Agree S' F1) (hw1:FWf R F1) (hw:FWf (R+9600) G) (hs:Settled F1 G) (hc:Acts F o F1) (h1:Chg P w w1) (h2:Chg P w1 w2):Done base b fb R P F o 0 w w2:=
  ⟨G,S',sv',uv',hv',lv',pv',ss',ps',⟨hb,hf,ha.settled hw1 hs,hw,.inr ⟨rfl,.inl ⟨F1,hc,hs⟩⟩,h1.trans h2⟩⟩
end
theorem jBJ {base T size n i:Nat}{w:World}{v:Value}{xs:List Value}(h:w.ownsRow base T size v n xs)(hi:i<n*size):∃ g cap,v = .slice (some ⟨g,0,none⟩) n cap/\base<=g/\g<w.heap.size/\w.cell? ⟨g,0+i,none⟩=xs[i]?/\w.frozen? ⟨g,0+i,none⟩=false:=by
 rcases h.2 with ⟨rfl,c⟩ | ⟨g,cap,b,rfl,d,a,f,j,k,e⟩
 ·subst c;omega
 ·refine ⟨g,cap,rfl,d,(Array.getElem?_eq_some_iff.1 a).1,?_,?_⟩
  ·rw[Nat.zero_add,cell_of_row w g i _ _ _ a,<- Array.getElem?_toList,<- e,List.getElem?_take,if_pos hi]
  ·rw[Nat.zero_add];exact frozen_of_row w g i _ _ a
theorem Only.cellq {B b g o:Nat}{w w':World}{v:Value}(h:Only B b w w')(hg:g<B)(hn:g≠b)(hc:w.cell? ⟨g,o,none⟩=some v):w'.cell? ⟨g,o,none⟩=some v:=(World.cell?_of_block (a:=⟨g,o,none⟩) (h.block g hg hn)).trans hc
section
variable {base b fb:Nat} {F:Flt} {w:World} {S:Bk} {sv uv hv lv pv:Value} {ss:List Value} {ps:List (Value×Usr)}
theorem jAQ {a c:Option Addr}{n m k l:Nat}(h:Value.slice a n k=Value.slice c m l):a=c/\n=m/\k=l:=by injection h with b d e;exact ⟨b,d,e⟩
theorem BkM.liveSpot {lo:Option Addr}{n lc u:Nat}(h:BkM base w b fb S sv uv hv (.slice lo n lc) pv ss ps)(a:Agree S F)(hu:u<F.ug)(ht:F.ut u=true):∃ g z,z=0/\lo=some ⟨g,z,none⟩/\g<w.heap.size/\w.cell? ⟨g,z+u,none⟩=some (.int .i64 (F.m.wait u+runs F.m u))/\w.frozen? ⟨g,z+u,none⟩=false:=by
 obtain ⟨g,d,e,p,j,c,k⟩:=jBJ h.live (i:=u) (by rw[Nat.mul_one,a.ll];exact hu);obtain ⟨f,l,o⟩:=jAQ e;rw[List.getElem?_map,a.live u hu ht] at c;exact ⟨g,0,rfl,f,j,c,k⟩
theorem BkM.hereSpot {lo:Option Addr}{n lc u:Nat}(h:BkM base w b fb S sv uv (.slice lo n lc) lv pv ss ps)(a:Agree S F)(hu:u<F.ug):∃ g z,z=0/\lo=some ⟨g,z,none⟩/\g<w.heap.size/\w.cell? ⟨g,z+u,none⟩=some (.bool (F.ut u))/\w.frozen? ⟨g,z+u,none⟩=false:=by
 obtain ⟨g,d,e,o,j,c,k⟩:=jBJ h.here (i:=u) (by rw[Nat.mul_one,a.hl];exact hu);obtain ⟨f,l,m⟩:=jAQ e;rw[List.getElem?_map,a.here u hu] at c;exact ⟨g,0,rfl,f,j,c,k⟩
theorem BkM.sizeSpot {lo:Option Addr}{n lc i:Nat}(h:BkM base w b fb S (.slice lo n lc) uv hv lv pv ss ps)(a:Agree S F)(hi:i<F.mg):∃ g z v,z=0/\lo=some ⟨g,z,none⟩/\g<w.heap.size/\w.cell? ⟨g,z+i,none⟩=some v/\w.frozen? ⟨g,z+i,none⟩=false:=by
 (have d:i<ss.length:=by rw[h.sl,a.szl];exact hi);obtain ⟨g,f,e,p,k,c,l⟩:=jBJ h.size (i:=i) (by rw[Nat.mul_one];exact d);obtain ⟨j,m,o⟩:=jAQ e;rw[List.getElem?_eq_getElem d] at c;exact ⟨g,0,_,rfl,j,k,c,l⟩
theorem BkM.userSpot {lo:Option Addr}{n lc u:Nat}(h:BkM base w b fb S sv (.slice lo n lc) hv lv pv ss ps)(a:Agree S F)(hu:u<F.ug):∃ g z p x y,z=0/\lo=some ⟨g,z,none⟩/\g<w.heap.size/\ps[u]? = some p/\w.cell? ⟨g,z+u*3+1,none⟩=some (.int .i64 x)/\w.frozen? ⟨g,z+u*3+1,none⟩=false/\w.cell? ⟨g,z+u*3+2,none⟩=some (.int .i64 y)/\w.frozen? ⟨g,z+u*3+2,none⟩=false:=by
  have hl : u < ps.length := by have := h.us; have e : ps.length = S.us.length := by rw [<- h.us, List.length_map]
                                rw [e, a.usl]; exact hu
  obtain ⟨q0,q1,q2⟩:=jD1 ps hl;obtain ⟨g,cap,e,h1,h2,h3,h4⟩:=jBJ h.users.1 (i:=u*3+1) (by omega);obtain ⟨g',cap',e',h1',h2',h3',h4'⟩:=jBJ h.users.1 (i:=u*3+2) (by omega);obtain ⟨e1,e2,e3⟩:=jAQ e;obtain ⟨e1',e2',e3'⟩:=jAQ e';(rw[e1] at e1';injection e1' with e1';injection e1' with e1';subst e1');rw[q1] at h3;rw[q2] at h3';rw[<- Nat.add_assoc] at h3 h4 h3' h4';exact ⟨g,0,ps[u],_,_,rfl,e1,h2,List.getElem?_eq_getElem hl,h3,h4,h3',h4'⟩
theorem BkM.liveAt {g z n lc u:Nat}(h:BkM base w b fb S sv uv hv (.slice (some ⟨g,z,none⟩) n lc) pv ss ps)(a:Agree S F)(hu:u<F.ug)(ht:F.ut u=true):w.cell? ⟨g,z+u,none⟩=some (.int .i64 (F.m.wait u+runs F.m u))/\w.frozen? ⟨g,z+u,none⟩=false/\g<w.heap.size:=by
 obtain ⟨k,o,l,c,f,i,j⟩:=h.liveSpot a hu ht;(injection c with c;injection c with d e;subst d;subst e);exact ⟨i,j,f⟩
theorem BkM.userAt {g z n lc u:Nat}(h:BkM base w b fb S sv (.slice (some ⟨g,z,none⟩) n lc) hv lv pv ss ps)(hu:u<ps.length):∃ p x y,ps[u]? = some p/\w.cell? ⟨g,z+u*3+1,none⟩=some (.int .i64 x)/\w.frozen? ⟨g,z+u*3+1,none⟩=false/\w.cell? ⟨g,z+u*3+2,none⟩=some (.int .i64 y)/\w.frozen? ⟨g,z+u*3+2,none⟩=false/\g<w.heap.size:=by
 obtain ⟨J,C,D⟩:=jD1 ps hu;obtain ⟨H,o,e,I,A,j,m⟩:=jBJ h.users.1 (i:=u*3+1) (by omega);obtain ⟨t,l,q,v,B,c,d⟩:=jBJ h.users.1 (i:=u*3+2) (by omega);obtain ⟨f,F,G⟩:=jAQ e;obtain ⟨a,r,s⟩:=jAQ q;(injection f with f;injection f with k E;subst k;subst E);(injection a with a;injection a with k;subst k);rw[C] at j;rw[D] at c;rw[<- Nat.add_assoc] at j m c d;exact ⟨ps[u],_,_,List.getElem?_eq_getElem hu,j,m,c,d,A⟩
theorem BkM.liveAny {lo:Option Addr}{n lc u:Nat}(h:BkM base w b fb S sv uv hv (.slice lo n lc) pv ss ps)(hu:u<S.live.length):∃ g z v,z=0/\lo=some ⟨g,z,none⟩/\g<w.heap.size/\w.cell? ⟨g,z+u,none⟩=some v/\w.frozen? ⟨g,z+u,none⟩=false:=by
 obtain ⟨g,c,e,m,f,a,j⟩:=jBJ h.live (i:=u) (by rw[Nat.mul_one];exact hu);obtain ⟨d,k,l⟩:=jAQ e;rw[List.getElem?_map,jLb hu] at a;exact ⟨g,0,_,rfl,d,f,a,j⟩
theorem jMP (S:Bk)(u:Nat)(d e:List Int)(a c x y:Int):bChg (bChg S u d a c) u e x y=bChg S u e x y:=by
 unfold bChg;simp only[List.set_set]
end
end Go.Proofs.YtigokanoflkinabGreatDoor
