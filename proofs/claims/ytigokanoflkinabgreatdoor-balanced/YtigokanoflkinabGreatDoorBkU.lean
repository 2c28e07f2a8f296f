/- What a step adds to the accounts. -/
import Derived.Test.YtigokanoflkinabGreatDoorBkTV
namespace Go.Proofs.YtigokanoflkinabGreatDoor
set_option linter.unusedSimpArgs false
set_option linter.unusedVariables false
open Go.RowKit Por
def nT (o:OpV)(er:Int):Int:=if o.kind=9/\er=0 then o.a else 0
theorem jBG {F:Flt}{u r:Nat}(hu:u<F.ug)(hr:r<F.k):yK F u r=F.used u r:=by
 unfold yK zX zh;rw[decide_eq_true (show (0:Int)<=(u:Int) by omega),decide_eq_true (show ((u:Nat):Int)<F.ug by omega),decide_eq_true (show (0:Int)<=(r:Int) by omega),decide_eq_true (show ((r:Nat):Int)<F.k by omega)];rfl
theorem Acts.keep {F F1:Flt}{o:OpV}(h:Acts F o F1):F1.k=F.k/\F1.ck=F.ck/\F1.idle=F.idle/\o.kind≠9:=by
 cases h with
 | mach h _ _=>exact ⟨rfl,rfl,rfl,by omega⟩
 | brk h _ _ _ _=>exact ⟨rfl,rfl,rfl,by omega⟩
 | user h _ _=>exact ⟨rfl,rfl,rfl,by omega⟩
 | leave h _ _ _ _=>exact ⟨rfl,rfl,rfl,by omega⟩
 | chg h _ _ _ _ _ _=>exact ⟨rfl,rfl,rfl,by omega⟩
 | sub h _ _ _ _ _ _=>exact ⟨rfl,rfl,rfl,by omega⟩
 | can h _ _ _ _ _ _=>exact ⟨rfl,rfl,rfl,by omega⟩
 | fin h _ _ _ _ _ _ _ _=>exact ⟨rfl,rfl,rfl,by omega⟩
theorem Acts.used {F F1:Flt}{o:OpV}(h:Acts F o F1){u r:Nat}(hu:u<F1.ug)(hr:r<F.k):F1.used u r=yK F u r:=by
 cases h with
 | user h _ _=>
  have hu:u<F.ug+1:=hu;show yI F.used F.ug (fun _=>0) u r=_;by_cases e:u=F.ug
  ·subst e;rw[jA6];unfold yK zX;rw[decide_eq_false (show ¬ ((F.ug:Nat):Int)<F.ug by omega)];simp
  ·rw[jAV _ _ e,jBG (by omega) hr]
 | mach h _ _=>exact (jBG hu hr).symm
 | brk h _ _ _ _=>exact (jBG hu hr).symm
 | leave h _ _ _ _=>exact (jBG hu hr).symm
 | chg h _ _ _ _ _ _=>exact (jBG hu hr).symm
 | sub h _ _ _ _ _ _=>exact (jBG hu hr).symm
 | can h _ _ _ _ _ _=>exact (jBG hu hr).symm
 | fin h _ _ _ _ _ _ _ _=>exact (jBG hu hr).symm
theorem Step.clock {F G:Flt}{o:OpV}{er:Int}(h:Step F o er G):G.ck=F.ck+nT o er/\G.k=F.k:=by
 rcases h with ⟨a,rfl⟩ | ⟨a,⟨g,e,z,rfl,_⟩ | ⟨f,_,_,_,rfl⟩⟩
 ·unfold nT;rw[if_neg (fun h=>a h.2),Int.add_zero];exact ⟨rfl,rfl⟩
 ·obtain ⟨b,c,_,d⟩:=e.keep;unfold nT;rw[if_neg (fun h=>d h.1),Int.add_zero];exact ⟨c,b⟩
 ·unfold nT;rw[if_pos ⟨f,a⟩];exact ⟨rfl,rfl⟩
def rnT (G:Flt)(u:Nat)(n:Int):Int:=if G.ut u && decide (0<n) then runs G.m u else 0
theorem Step.used {R:Int}{F G:Flt}{o:OpV}{er:Int}(h:Step F o er G)(hw:FWf R F){u r:Nat}(hu:u<G.ug)(hr:r<G.k){x:Int}(hx:G.ut u=true->x=G.ud u r):G.used u r=yK F u r+nT o er*rnT G u (nT o er)*x:=by
 rcases h with ⟨c,rfl⟩ | ⟨c,⟨n,d,z,rfl,_⟩ | ⟨l,j,_,_,rfl⟩⟩
 ·unfold nT;rw[if_neg (fun h=>c h.2),Int.zero_mul,Int.zero_mul,Int.add_zero,jBG hu hr]
 ·obtain ⟨g,_,_,i⟩:=d.keep;unfold nT;rw[if_neg (fun h=>i h.1),Int.zero_mul,Int.zero_mul,Int.add_zero];exact d.used hu (by rw[<- g];exact hr)
 ·(have e:nT o er=o.a:=by unfold nT;rw[if_pos ⟨l,c⟩]);rw[e];have hu:u<F.ug:=hu;have hr:r<F.k:=hr;show F.used u r+F.ud u r*runs F.m u*o.a=_;rw[jBG hu hr];unfold rnT;show _=_+o.a*(if F.ut u && decide (0<o.a) then runs F.m u else 0)*x;rw[decide_eq_true (show 0<o.a by omega),Bool.and_true];have hx:F.ut u=true->x=F.ud u r:=hx;have b:u<6:=by have:=hw.ug;omega
  cases f:F.ut u with
  | true=>rw[if_pos rfl,hx f];congr 1;rw[Int.mul_comm (F.ud u r*runs F.m u),Int.mul_comm (F.ud u r),Int.mul_assoc]
  | false=>have d:=hw.none u b f;have p:=hw.wait u b;have q:=hw.runs0 b;rw[show runs F.m u=0 by omega];simp
end Go.Proofs.YtigokanoflkinabGreatDoor
