/- portionkeep: goalsMet. (Laid by mkbkgm.py.) -/
import Derived.Test.YtigokanoflkinabGreatDoorBkGG
import Derived.Test.YtigokanoflkinabGreatDoorBkPo
set_option maxHeartbeats 8000000
set_option maxRecDepth 20000
namespace Go.Proofs.YtigokanoflkinabGreatDoor
set_option linter.unusedSimpArgs false
set_option linter.unusedVariables false
open Go.RowKit Por
def cntM (F:Flt):Nat->Nat
  | 0=>0
  | m+1=>cntM F m+if F.mt m then 1 else 0
theorem jGn (F:Flt){i j:Nat}(h:i<=j):cntM F i<=cntM F j:=by
 induction j with
 | zero=>(have e:i=0:=by omega);subst e;exact Nat.le_refl _
 | succ j ih=>
  by_cases e:i=j+1
  ·subst e;exact Nat.le_refl _
  ·have:=ih (by omega);simp only[cntM];omega
theorem jMp (F:Flt)(m:Nat):cntM F m<=m:=by
 induction m with
 | zero=>exact Nat.le_refl _
 | succ m ih=>simp only[cntM];split <;> omega
theorem jK6 {F:Flt}{i j n:Nat}(h1:i<j)(h2:j<n)(hi:F.mt i=true)(hj:F.mt j=true):2<=cntM F n:=by
 have a:=jGn F (i:=i+1) (j:=j) (by omega);have c:=jGn F (i:=j+1) (j:=n) (by omega);simp only[cntM] at a c;rw[hi] at a;rw[hj] at c;simp at a c;omega
noncomputable def yO (F:Flt)(u m j r:Nat):Int:=yV F m r+Por.sumI (fun i=>xV F u m i*F.ud i r) j
noncomputable def helpS (F:Flt)(u m j r q:Nat):Int:=if q<r then yO F u m (j+1) q else yO F u m j q
theorem jL2 {R:Int}{F:Flt}(h:FWf R F){u m j:Nat}(hj:j<6)(hm:m<8):0<=xV F u m j/\xV F u m j<=40:=by
 have a:=h.on40 hj hm;unfold xV;split <;> omega
theorem jLw {R:Int}{F:Flt}(h:FWf R F){u m j:Nat}(hj:j<6)(hm:m<8)(ht:F.ut j=false):xV F u m j=0:=by
 have a:=h.none j hj ht;have c:=h.wait j hj;have b:=h.runs0 hj;have d:=jBu (f:=F.m.on j) (n:=8) (fun i hi=>h.on j hj i hi) hm;have e:=h.on j hj m hm;unfold runs at a b;unfold xV;split
 ·rfl
 ·omega
theorem jFP {F:Flt}{u m j:Nat}(h:xV F u m j=0)(r:Nat):yO F u m (j+1) r=yO F u m j r:=by
 show yV F m r+(Por.sumI (fun i=>xV F u m i*F.ud i r) j+xV F u m j*F.ud j r)=yV F m r+Por.sumI (fun i=>xV F u m i*F.ud i r) j;rw[h,Int.zero_mul,Int.add_zero]
theorem jKT {R:Int}{F:Flt}(h:FWf R F){u m r:Nat}(hm:m<8)(hr:r<4):∀ {j:Nat},j<=6->0<=yO F u m j r/\yO F u m j r<=1000+400000*(j:Int):=by
 intro j
 induction j with
 | zero=>intro _;have:=h.rmP (m:=m) (r:=r) (k:=6) hm hr (Nat.le_refl 6);show 0<=yV F m r+0/\yV F m r+0<=_;show 0<=roomP F m r 6+0/\roomP F m r 6+0<=_;omega
 | succ j ih=>intro f;have c:=ih (by omega);have a:=jL2 h (u:=u) (m:=m) (j:=j) (by omega) hm;have b:=h.ud j (by omega) r hr;have d:=jGB a b;show 0<=yV F m r+(Por.sumI (fun i=>xV F u m i*F.ud i r) j+xV F u m j*F.ud j r)/\yV F m r+(Por.sumI (fun i=>xV F u m i*F.ud i r) j+xV F u m j*F.ud j r)<=_;have e:yO F u m j r=yV F m r+Por.sumI (fun i=>xV F u m i*F.ud i r) j:=rfl;omega
theorem jJO {R:Int}{F:Flt}(h:FWf R F){u m:Nat}(hm:m<8)(r:Nat):yO F u m F.ug r=helpR F u m r:=by
 show yV F m r + _=yV F m r + _;rw[jCq (k:=6) h.ug (fun i h1 h2=>?_)]
 have a:F.ut i=false:=by
  cases e:F.ut i with
  | false=>rfl
  | true=>have:=h.ut i h2 e;omega
 rw[jLw h h2 hm a,Int.zero_mul]
theorem jLd (b fb:Nat)(R:Int)(F:Flt)(sp:List Int)(w:World)(hv:VW w b fb F sp)(hw:FWf R F)(hq:Rest F)(htb:Tab w):Calls Tryz.prog 28 #[.pointer (some ⟨b,0,none⟩)] w fun e w'=>e = .returned (.bool true)/\Below w.heap.size w w':=by
 obtain ⟨so,sc,uo,uc,ho,hc,lo,lc,po,pc,hv⟩:=hv;have lb:=hv.box.lt;have HV:=hid hv;have l:=hid hw;have HQ:=hid hq;have HT:=hid htb;clear hv hw hq htb;have an:Hid (F.ug<=6):=l.out.ug;have ak:Hid (F.mg<=8):=l.out.mg;have aj:Hid (F.k<=4):=l.out.k4;go_enter Tryz.func28,Tryz.ntmps28;go_wp2
 go_loopg[3] F.ug (fun gg ix wr=>∃ k:Nat,gg=F.ug - k/\k<=F.ug/\ix = .int .i64 k/\Hid (Below w.heap.size w wr))
 case atStart=>exact ⟨0,rfl,Nat.zero_le _,rfl,Below.refl _ _⟩
 case round=>
  obtain ⟨k,aW,hk,rfl,c⟩:=hrel;have a3:=an.out;have a:=hid (HV.out.below c.out);have s:=a.out.box.lt;have K:=a.out.box.cell 3 _ rfl;have c4:=a.out.box.cell 4 _ rfl;by_cases aH:k<F.ug
  ·(have aG:(k:Int)<(F.ug:Int):=by omega);obtain ⟨g1,o1,rfl,aC,L⟩:=a.out.here k aH
   cases N:F.ut k with
   | false=>rw[N] at L;go_wp2;go_roundg (F.ug - (k+1));(case measure=>omega);case rel=>exact ⟨k+1,rfl,by omega,by go_num,c.out⟩
   | true=>
    rw[N] at L;have D:=hid N;go_wp2_with fail;refine (jCJ b fb R F sp k _ a.out.vw l.out (by omega) N).mono ?_;rintro e1 w1 ⟨rfl,aJ⟩;obtain rfl:=aJ.symm;go_wp2_with fail;refine (jE3 b fb R F sp k _ a.out.vw l.out HQ.out (HT.out.below c.out) (by omega) N).mono ?_;rintro V w2 ⟨rfl,W⟩;have o:Hid (Below w.heap.size w w2):=c.out.trans (W.mono c.out.size);clear W N K c4 L a s c aC;by_cases ab:zG F (zB F 8) k<=runs F.m k
    ·have aa:decide (zG F (zB F 8) k<=runs F.m k)=true:=decide_eq_true ab;go_wp2;go_roundg (F.ug - (k+1));(case measure=>omega);case rel=>exact ⟨k+1,rfl,by omega,by go_num,o.out⟩
    ·have aa:decide (zG F (zB F 8) k<=runs F.m k)=false:=decide_eq_false ab;(have O:Hid (runs F.m k<zG F (zB F 8) k):=by unfold Hid;omega);(have al:Hid (∀ m,m<8->F.mt m=true->zN (helpR F k m) (F.ud k) F.k=false):=fun m hm h=>jJT l.out HQ.out (by omega) D.out O.out hm h);(have am:Hid (2<=cntM F F.mg):=by obtain ⟨i,j,h1,h2,h3,h4⟩:=jNJ l.out HQ.out (by omega) D.out O.out;exact jK6 h1 (l.out.mt j h2 h4) h3 h4);go_wp2;clear aa
     go_loopg[6,7] F.mg (fun gg s6 ix wq=>∃ m:Nat,gg=F.mg - m/\m<=F.mg/\ix = .int .i64 m/\s6 = .int .i64 (cntM F m:Nat)/\Hid (Below w.heap.size w wq))
     case atStart=>exact ⟨0,rfl,Nat.zero_le _,rfl,rfl,o.out⟩
     case round=>
      clear o;obtain ⟨m,aX,hm,rfl,rfl,c⟩:=hrel;have a1:=ak.out;have aS:=jMp F m;have a:=hid (HV.out.below c.out);have s:=a.out.box.lt;have c2:=a.out.box.cell 2 _ rfl;by_cases A:m<F.mg
      ·have aI:(m:Int)<(F.mg:Int):=by omega
       cases h:F.mt m with
       | false=>obtain ⟨g3,o3,rfl,Z,L⟩:=a.out.down m A h;(have af:∀ w,(binOp .eql 28 (.slice none 0 0) (.slice none 0 0)).run Tryz.prog w = .ok (.bool true) w:=fun w=>Lib.run_eql_slice_nil w 28 3 _ _ _ 0 0 Tryz.underlying28);(have B:Hid (cntM F (m+1)=cntM F m):=by unfold Hid;simp only[cntM];rw[h];simp);go_wp2;go_roundg (F.mg - (m+1));(case measure=>omega);case rel=>exact ⟨m+1,rfl,by omega,by go_num,by rw[B.out],c.out⟩
       | true=>
        obtain ⟨g3,o3,d3,e3,ar,rfl,Z,L,aB,_⟩:=a.out.up m A h;(have af:∀ w,(binOp .eql 28 (.slice (some ⟨d3,e3,none⟩) F.k ar) (.slice none 0 0)).run Tryz.prog w = .ok (.bool false) w:=fun w=>Lib.run_eql_slice_nil w 28 3 _ _ _ 0 0 Tryz.underlying28);(have B:Hid (cntM F (m+1)=cntM F m+1):=by unfold Hid;simp only[cntM];rw[h];simp);have C:=hid h;clear h;go_wp2_with fail;refine (jFZ b fb R F sp m _ a.out.vw l.out (by omega) C.out).mono ?_;rintro e4 w4 ⟨v4,rfl,ae,X⟩;have S:Hid (Below w.heap.size w w4):=c.out.trans (X.mono c.out.size);have E:Hid (Li w.heap.size w4 v4 (zj (yV F m) F.k)):=ae.mono c.out.size;obtain ⟨g,f,M,ad,_,_,_⟩:=jBJ E.out (i:=0) (by rw[Nat.mul_one,jAS];have:=l.out.k1;omega);rw[jAS] at M;obtain ⟨z,hz⟩:∃ z,z=(0:Nat):=⟨_,rfl⟩;rw[<- hz] at M;have HZ:=hid hz;have HG:Hid (w.heap.size<=g):=ad;subst M;clear hz ae X c2 L af ad a s c Z aB;go_wp2
        go_loopg[9] F.ug (fun gg ix wz=>∃ j:Nat,gg=F.ug - j/\j<=F.ug/\ix = .int .i64 j/\Hid (Li w.heap.size wz (.slice (some ⟨g,z,none⟩) F.k f) (zj (yO F k m j) F.k))/\Hid (Below w.heap.size w wz))
        case atStart=>exact ⟨0,rfl,Nat.zero_le _,rfl,(by rw[show zj (yO F k m 0) F.k=zj (yV F m) F.k from jAn (fun r _=>Int.add_zero _)];exact E.out),S.out⟩
        case round=>
         clear E S;obtain ⟨j,aV,hj,rfl,v,c⟩:=hrel;have a:=hid (HV.out.below c.out);have s:=a.out.box.lt;have K:=a.out.box.cell 3 _ rfl;have c4:=a.out.box.cell 4 _ rfl;by_cases y:j<F.ug
         ·(have aF:(j:Int)<(F.ug:Int):=by omega);by_cases I:j=k
          ·(have aE:((j:Int) == (k:Int))=true:=by rw[I];simp);(have d:Hid (Li w.heap.size wr (.slice (some ⟨g,z,none⟩) F.k f) (zj (yO F k m (j+1)) F.k)):=by unfold Hid;rw[show zj (yO F k m (j+1)) F.k=zj (yO F k m j) F.k from jAn (fun r _=>jFP (if_pos I) r)];exact v.out);go_wp2;go_roundg (F.ug - (j+1));(case measure=>omega);case rel=>exact ⟨j+1,rfl,by omega,by go_num,d.out,c.out⟩
          ·(have aE:((j:Int) == (k:Int))=false:=by rw[beq_eq_false_iff_ne];omega);obtain ⟨g5,o5,J,aD,c6⟩:=a.out.here j y;(injection J with J);(injection J with ag ah);subst ag;subst ah
           cases t:F.ut j with
           | false=>rw[t] at c6;(have d:Hid (Li w.heap.size wr (.slice (some ⟨g,z,none⟩) F.k f) (zj (yO F k m (j+1)) F.k)):=by unfold Hid;rw[show zj (yO F k m (j+1)) F.k=zj (yO F k m j) F.k from jAn (fun r _=>jFP (jLw l.out (by omega) (by omega) t) r)];exact v.out);go_wp2;go_roundg (F.ug - (j+1));(case measure=>omega);case rel=>exact ⟨j+1,rfl,by omega,by go_num,d.out,c.out⟩
           | true=>
            rw[t] at c6;have Q:=hid t;clear t;go_wp2_with fail;refine (jIc b fb R F sp j m _ a.out.vw l.out HQ.out (HT.out.below c.out) (by omega) Q.out (by omega) C.out).mono ?_;rintro e6 w6 ⟨rfl,H⟩;have ao:Hid (abV F j m=xV F k m j):=(if_neg I).symm;rw[ao.out];have T:Hid (Below w.heap.size w w6):=c.out.trans (H.mono c.out.size);have U:=hid (v.out.below H);clear H K c4 c6 a s c v aD;go_wp2
            go_loopg[11] F.k (fun gg ix wy=>∃ r:Nat,gg=F.k - r/\r<=F.k/\ix = .int .i64 r/\Hid (Li w.heap.size wy (.slice (some ⟨g,z,none⟩) F.k f) (zj (helpS F k m j r) F.k))/\Hid (Below w.heap.size w wy))
            case atStart=>exact ⟨0,rfl,Nat.zero_le _,rfl,(by rw[show zj (helpS F k m j 0) F.k=zj (yO F k m j) F.k from jAn (fun r _=>if_neg (Nat.not_lt_zero r))];exact U.out),T.out⟩
            case round=>
             clear U T;obtain ⟨r,aY,hr,rfl,v,c⟩:=hrel;have aZ:=aj.out;have a:=hid (HV.out.below c.out);have s:=a.out.box.lt;have c1:=a.out.box.cell 1 _ rfl;by_cases n:r<F.k
             ·(have aK:(r:Int)<(F.k:Int):=by omega);have K:=a.out.box.cell 3 _ rfl;obtain ⟨g7,o7,d7,e7,aP,rfl,aU,c7,aT,c8,_⟩:=a.out.user j y;obtain ⟨x,c9,aL,aM,ai⟩:=c8 r n;have aN:=ai Q.out;subst aN;clear c8 ai;obtain ⟨P,hP⟩:∃ P,xV F k m j*F.ud j r=P:=⟨_,rfl⟩;(have aR:0<=P/\P<=400000:=by rw[<- hP];have:=jGB (jL2 l.out (u:=k) (m:=m) (j:=j) (by omega) (by omega)) (show 0<=F.ud j r/\F.ud j r<=10000 from ⟨aL,aM⟩);omega);have p1:=jKT l.out (u:=k) (m:=m) (r:=r) (by omega) (by omega) (show j<=6 by omega);obtain ⟨g9,aO,M,aA,lg,cp,fp⟩:=jBJ v.out (i:=r) (by rw[Nat.mul_one,jAS];exact n);obtain ⟨G,au,aw⟩:=jAQ M;(injection G with G);(injection G with ax ay);subst ax;rw[<- HZ.out] at cp fp;rw[List.getElem?_map,jCe _ n] at cp;(have aq:wr.cell? ⟨g,z+r,none⟩=some (.int .i64 (yO F k m j r)):=by rw[cp];show some (Value.int .i64 (helpS F k m j r r))=_;unfold helpS;rw[if_neg (Nat.lt_irrefl r)]);clear cp M aA au aw ay;(go_upto_region 23 with fail);go_region;clear aq fp c7 c9 K c1;(have d:Hid (Li w.heap.size (wr.setCell ⟨g,z+r,none⟩ (.int .i64 (yO F k m j r+P))) (.slice (some ⟨g,z,none⟩) F.k f) (zj (helpS F k m j (r+1)) F.k)):=by have h9:=HZ.out;subst h9;have h8:=v.out.put (i:=r) (by rw[jAS];exact n) (by rw[jAS]) (yO F k m j r+P);rw[jJc] at h8;unfold Hid;rw[Nat.zero_add,show zj (helpS F k m j (r+1)) F.k=zj (fun q=>if q=r then (yO F k m j r+P) else helpS F k m j r q) F.k from jAn (fun q _=>by unfold helpS;by_cases e:q=r;(subst e;rw[if_pos (Nat.lt_succ_self _),if_pos rfl,<- hP];exact (Int.add_assoc _ _ _).symm);(rw[if_neg e];by_cases V:q<r;(rw[if_pos V,if_pos (by omega)]);(rw[if_neg V,if_neg (by omega)])))];exact h8);have o:Hid (Below w.heap.size w (wr.setCell ⟨g,z+r,none⟩ (.int .i64 (yO F k m j r+P)))):=c.out.setCell (p:=⟨g,z+r,none⟩) HG.out _;go_wp2;go_roundg (F.k - (r+1));(case measure=>omega);case rel=>exact ⟨r+1,rfl,by omega,by go_num,by first | exact d.out | exact d.out.below brf.drew,by first | exact o.out | exact o.out.drew⟩
             ·(obtain rfl:r=F.k:=by omega);(have aK:¬ (F.k:Int)<(F.k:Int):=by omega);(have d:Hid (Li w.heap.size wr (.slice (some ⟨g,z,none⟩) F.k f) (zj (yO F k m (j+1)) F.k)):=by unfold Hid;rw[show zj (yO F k m (j+1)) F.k=zj (helpS F k m j F.k) F.k from jAn (fun q hq=>(if_pos hq).symm)];exact v.out);go_wp2;go_roundg (F.ug - (j+1));(case measure=>omega);case rel=>exact ⟨j+1,rfl,by omega,by go_num,d.out,c.out⟩
         ·(obtain rfl:j=F.ug:=by omega);(have aF:¬ (F.ug:Int)<(F.ug:Int):=by omega);(have XA:Hid (Arr wr 1 (some ⟨g,z,none⟩) F.k f (zg (zj (helpR F k m) F.k))):=by unfold Hid;obtain ⟨a0,c0,e0,h0⟩:=v.out.arr;rw[jAS] at e0 h0;obtain ⟨e1,_,V⟩:=jAQ e0;subst e1;subst V;rw[show zj (helpR F k m) F.k=zj (yO F k m F.ug) F.k from jAn (fun r _=>(jJO l.out (by omega) r).symm)];exact h0);go_wp2_with fail;clear K c4;refine (jE9 b fb R F sp k (helpR F k m) (some ⟨g,z,none⟩) f _ a.out.vw l.out (by omega) D.out XA.out).mono ?_;rintro e5 w5 ⟨rfl,Y⟩;rw[al.out m (by omega) C.out];have ap:Hid (Below w.heap.size w w5):=c.out.trans (Y.mono c.out.size);clear Y;go_wp2;go_roundg (F.mg - (m+1));(case measure=>omega);case rel=>exact ⟨m+1,rfl,by omega,by go_num,by rw[B.out];go_num,ap.out⟩
      ·(obtain rfl:m=F.mg:=by omega);(have aI:¬ (F.mg:Int)<(F.mg:Int):=by omega);have a2:=am.out;(have az:¬ ((cntM F F.mg:Nat):Int)<2:=by omega);have aQ:decide (((cntM F F.mg:Nat):Int)<2)=false:=decide_eq_false az;go_wp2;go_roundg (F.ug - (k+1));(case measure=>omega);case rel=>exact ⟨k+1,rfl,by omega,by go_num,c.out⟩
  ·(obtain rfl:k=F.ug:=by omega);(have aG:¬ (F.ug:Int)<(F.ug:Int):=by omega);go_wp2;go_ret;exact ⟨rfl,c.out⟩
end Go.Proofs.YtigokanoflkinabGreatDoor
