/- KAskA, KAsk, KBun, KConA, joined. -/
import Derived.Test.YtigokanoflkinabGreatDoorFSml
import Derived.Test.YtigokanoflkinabGreatDoorWRate
import Derived.Test.YtigokanoflkinabGreatDoorWFeas
import Derived.Test.YtigokanoflkinabGreatDoorWLeast
import Derived.Test.YtigokanoflkinabGreatDoorWEx
set_option maxHeartbeats 2000000
set_option maxRecDepth 20000
namespace Go.Proofs.YtigokanoflkinabGreatDoor
set_option linter.unusedSimpArgs false
set_option linter.unusedVariables false
open Go.RowKit Por
def amtK (xs:List Int)(n k:Nat):Bool:=decide (n=k) && amtsB xs
theorem jIS (xs:List Int)(n:Nat):amtK xs n n=amtsB xs:=by unfold amtK;rw[decide_eq_true rfl];rfl
theorem jLl (xs:List Int){n k:Nat}(h:n≠k):amtK xs n k=false:=by unfold amtK;rw[decide_eq_false h];rfl
theorem jBA (ao:Option Addr)(n cap k:Nat)(xs:List Int)(w:World)(hr:Arr w 1 ao n cap (ints xs))(hk:k≤maxLen):Calls Tryz.prog 38 #[.slice ao n cap,.int .i64 k,.int .i64 10000] w fun e w'=>e = .returned (.bool (amtK xs n k))∧w'=w:=by
 have hlen:=hr.len;rw[jAG] at hlen;have hle:=hr.le;have hcm:=hr.cm;unfold maxLen at hcm hk;have HR:=hid hr;clear hr;by_cases h0:n=k
 ·subst h0;have HE0:=hid (jIS xs n);go_enter Tryz.func38,Tryz.ntmps38;go_wp2
  go_loop[7] (fun i=>∃ k:Nat,k≤n∧i = .int .i64 k∧Hid ((xs.take k).all amtB=true)) (fun i=>n - (intOf i).toNat)
  case atStart=>exact ⟨0,Nat.zero_le _,rfl,rfl⟩
  case round=>
   obtain ⟨k,hk,rfl,hz⟩:=hrel;by_cases hlt:k<n
   ·obtain ⟨b,o,rfl,hb⟩:=HR.out.head (by omega);have hc:=HR.out.int rfl hlt;have hst:=hid (jBi amtB xs (i:=k) (by omega));have hget:=hid (jD0 xs (i:=k) (by omega));generalize hx:lm xs k=x at hc;have HX:=hid hx;clear hx;by_cases h0:x<0
    ·have E:amtsB xs=false:=jAx amtB xs (i:=k) (by omega) (by rw[hget.out,HX.out];unfold amtB;rw[decide_eq_false_iff_not];omega);have HE:=hid E;clear E;go_wp2;go_ret;exact ⟨by rw[HE0.out,HE.out];rfl,rfl⟩
    ·by_cases h1:(10000:Int)<x
     ·have E:amtsB xs=false:=jAx amtB xs (i:=k) (by omega) (by rw[hget.out,HX.out];unfold amtB;rw[decide_eq_false_iff_not];omega);have HE:=hid E;clear E;go_wp2;go_ret;exact ⟨by rw[HE0.out,HE.out];rfl,rfl⟩
     ·(have E:amtB x=true:=by unfold amtB;rw[decide_eq_true_eq];omega);have HE:=hid E;clear E;go_wp2;exact ⟨⟨k+1,by omega,by go_num,by rw[Hid,hst.out,hz.out,hget.out,HX.out,HE.out];rfl⟩,by simp[intOf];omega⟩
   ·obtain rfl:k=n:=by omega
    have E:amtsB xs=true:=by
     have:=hz.out
     rwa [List.take_of_length_le (by omega)] at this
    have HE:=hid E;clear E;go_wp2;go_ret;exact ⟨by rw[HE0.out,HE.out];rfl,rfl⟩
 ·(have h0':((n:Int) == (k:Int))=false:=by rw[beq_eq_false_iff_ne];omega);have HE0:=hid (jLl xs h0);go_enter Tryz.func38,Tryz.ntmps38;go_wp2;go_ret;exact ⟨by rw[HE0.out];rfl,rfl⟩
def sumI (xs:List Int):Nat→Int
  | 0=>0
  | k+1=>sumI xs k+lm xs k
theorem jFB {xs:List Int}(h:∀ i,amtB (lm xs i)=true):∀ k,0≤sumI xs k∧sumI xs k≤10000*k:=by
 intro k
 induction k with
 | zero=>exact ⟨Int.le_refl _,Int.le_refl _⟩
 | succ k ih=>have:=jBI (h k);simp only[sumI];omega
theorem jKg {xs:List Int}(h:∀ i,amtB (lm xs i)=true):∀ k,0<sumI xs k↔∃ r,r<k∧0<lm xs r:=by
 intro k
 induction k with
 | zero=>simp[sumI]
 | succ k ih=>
  have h1:=jBI (h k);have h2:=(jFB h k).1;simp only[sumI];constructor
  ·intro hs;by_cases e:0<sumI xs k
   ·obtain ⟨r,hr,hp⟩:=ih.1 e;exact ⟨r,by omega,hp⟩
   ·exact ⟨k,by omega,by omega⟩
  ·rintro ⟨r,hr,hp⟩;by_cases e:r=k
   ·subst e;omega
   ·have:=ih.2 ⟨r,by omega,hp⟩;omega
theorem jIv {xs:List Int}(h:∀ i,amtB (lm xs i)=true):wantsB xs=decide (0<sumI xs xs.length):=by
 rw[Bool.eq_iff_iff,decide_eq_true_eq,jKg h];unfold wantsB;rw[List.any_eq_true];constructor
 ·rintro ⟨x,hx,hp⟩;obtain ⟨r,hr,rfl⟩:=List.getElem_of_mem hx;refine ⟨r,hr,?_⟩;rw[← jD0 _ hr];simpa using hp
 ·rintro ⟨r,hr,hp⟩;refine ⟨xs[r],List.getElem_mem hr,?_⟩;rw[jD0 _ hr];simpa using hp
theorem jJX (ao:Option Addr)(n cap k:Nat)(u:Usr)(w:World)(hr:Arr w 1 ao n cap (ints u.dem))(hk:k≤4):Calls Tryz.prog 41 #[.agg #[.slice ao n cap,.int .i64 u.wt,.int .i64 u.cap],.int .i64 k] w fun e w'=>e = .returned (.bool (usrB k u))∧Below w.heap.size w w':=by
 have hlen:=hr.len;rw[jAG] at hlen;have hle:=hr.le;have hcm:=hr.cm;unfold maxLen at hcm;have hB:=(Below.refl _ w).alloc (Nat.le_refl _) (.cells #[.slice ao n cap,.int .i64 u.wt,.int .i64 u.cap] 63);have HR:=hid (hr.below hB);have HB:=hid hB;clear hr hB
 cases hd:amtK u.dem n k with
 | false=>
  have E:usrB k u=false:=by
   unfold usrB;rw[hlen];unfold amtK at hd
   cases h1:decide (n=k) with
   | false=>simp
   | true=>rw[h1] at hd;(have:amtsB u.dem=false:=by simpa using hd);rw[this];simp
  have HE:=hid E;have HD:=hid hd;clear E hd;go_enter Tryz.func41,Tryz.ntmps41;go_wp2_with fail;refine (jBA ao n cap k u.dem _ HR.out (by unfold maxLen;omega)).mono ?_;rintro e w1 ⟨rfl,rfl⟩;rw[HD.out];go_wp2;go_ret;exact ⟨by rw[HE.out];rfl,HB.out⟩
 | true=>
  have hd2:=hd;unfold amtK at hd2;rw[Bool.and_eq_true,decide_eq_true_eq] at hd2;obtain ⟨rfl,hamt⟩:=hd2;have hda:=jFr hamt;have HD:=hid hd;have HA:=hid hamt;have HDA:=hid hda;clear hd hamt hda;have hdn:decide (u.dem.length=n)=true:=decide_eq_true hlen;have HDN:=hid hdn;clear hdn;by_cases h1:1≤u.wt∧u.wt≤100∧0≤u.cap∧u.cap≤1000
  ·(have g1:¬ u.wt<1:=by omega);(have g2:¬ (100:Int)<u.wt:=by omega);(have g3:¬ u.cap<0:=by omega);(have g4:¬ (1000:Int)<u.cap:=by omega);(have E:usrB n u=decide (0<sumI u.dem n):=by unfold usrB;rw[HDN.out,decide_eq_true h1,HA.out,jIv HDA.out,hlen];rfl);have HE:=hid E;clear E;go_enter Tryz.func41,Tryz.ntmps41;go_wp2_with fail;refine (jBA ao n cap n u.dem _ HR.out (by unfold maxLen;omega)).mono ?_;rintro e w1 ⟨rfl,rfl⟩;rw[HD.out];go_wp2
   go_loop[6,7] (fun sm i=>∃ k:Nat,k≤n∧i = .int .i64 k∧sm = .int .i64 (sumI u.dem k)) (fun _ i=>n - (intOf i).toNat)
   case atStart=>exact ⟨0,Nat.zero_le _,rfl,rfl⟩
   case round=>
    obtain ⟨k,hk,rfl,rfl⟩:=hrel;by_cases hlt:k<n
    ·obtain ⟨b,o,rfl,hb⟩:=HR.out.head (by omega);have hc:=HR.out.int rfl hlt;have hrg:=jFB HDA.out k;have hrx:=jBI (HDA.out k);have hstep:sumI u.dem (k+1)=sumI u.dem k+lm u.dem k:=rfl;have HST:=hid hstep;clear hstep;generalize hx:lm u.dem k=x at hc hrx;have HX:=hid hx;clear hx;generalize hs:sumI u.dem k=t at hrg;have HT:=hid hs;clear hs;go_wp2;exact ⟨⟨k+1,by omega,by go_num,by rw[HST.out,HX.out,HT.out]⟩,by simp[intOf];omega⟩
    ·(obtain rfl:k=n:=by omega);have hrg:=jFB HDA.out k;go_wp2;go_ret;exact ⟨by rw[HE.out];rfl,HB.out⟩
  ·(have E:usrB n u=false:=by unfold usrB;rw[HDN.out,decide_eq_false h1];rfl);have HE:=hid E;clear E;by_cases g1:u.wt<1
   ·go_enter Tryz.func41,Tryz.ntmps41;go_wp2_with fail;refine (jBA ao n cap n u.dem _ HR.out (by unfold maxLen;omega)).mono ?_;rintro e w1 ⟨rfl,rfl⟩;rw[HD.out];go_wp2;go_ret;exact ⟨by rw[HE.out];rfl,HB.out⟩
   ·by_cases g2:(100:Int)<u.wt
    ·go_enter Tryz.func41,Tryz.ntmps41;go_wp2_with fail;refine (jBA ao n cap n u.dem _ HR.out (by unfold maxLen;omega)).mono ?_;rintro e w1 ⟨rfl,rfl⟩;rw[HD.out];go_wp2;go_ret;exact ⟨by rw[HE.out];rfl,HB.out⟩
    ·by_cases g3:u.cap<0
     ·go_enter Tryz.func41,Tryz.ntmps41;go_wp2_with fail;refine (jBA ao n cap n u.dem _ HR.out (by unfold maxLen;omega)).mono ?_;rintro e w1 ⟨rfl,rfl⟩;rw[HD.out];go_wp2;go_ret;exact ⟨by rw[HE.out];rfl,HB.out⟩
     ·(have g4:(1000:Int)<u.cap:=by omega);go_enter Tryz.func41,Tryz.ntmps41;go_wp2_with fail;refine (jBA ao n cap n u.dem _ HR.out (by unfold maxLen;omega)).mono ?_;rintro e w1 ⟨rfl,rfl⟩;rw[HD.out];go_wp2;go_ret;exact ⟨by rw[HE.out];rfl,HB.out⟩
theorem ShB.cells {w:World}{g n k i:Nat}{ts lv:Nat→Rat}{st:Nat→Int}(h:ShB w g n k ts lv st)(hi:i<k):w.cell? ⟨g,i*3,none⟩=some (.string ⟨(txt (ts i)).toArray⟩)∧w.cell? ⟨g,i*3+1,none⟩=some (.string ⟨(txt (lv i)).toArray⟩)∧w.cell? ⟨g,i*3+2,none⟩=some (.int .i64 (st i)):=by
 obtain ⟨arr,h1,h2,h3⟩:=h;obtain ⟨c0,c1,c2⟩:=h3 i hi;exact ⟨(cell_of_row w g _ _ _ _ h1).trans c0,(cell_of_row w g _ _ _ _ h1).trans c1,(cell_of_row w g _ _ _ _ h1).trans c2⟩
theorem Solved.later {w w1 w':World}{pool:List Int}{us:List Usr}{g:Nat}{d:FD}(h:Solved w1 w' pool us g d)(hb:Below w.heap.size w w1):Solved w w' pool us g d:=⟨h.of,Nat.le_trans hb.size h.low,h.sh,hb.trans (h.bel.mono hb.size)⟩
def tb (q:Rat):ByteArray:=⟨(txt q).toArray⟩
def TO (base:Nat)(w:World)(v:Value)(l:List Rat):Prop:=w.ownsRow base 9 1 v l.length (l.map (fun q=>Value.string ⟨(txt q).toArray⟩))
theorem TO.nil (base:Nat)(w:World):TO base w (.slice none 0 0) []:=World.ownsRow_nil _ _ _ _
theorem TO.below {base:Nat}{w w':World}{v:Value}{l:List Rat}(h:TO base w v l)(hb:Below w.heap.size w w'):TO base w' v l:=by
 obtain ⟨h0,h⟩:=h;refine ⟨h0,?_⟩;rcases h with h | ⟨g,cap,cur,h1,h2,h3,h4⟩
 ·exact .inl h
 ·exact .inr ⟨g,cap,cur,h1,h2,(hb.block g (Array.getElem?_eq_some_iff.1 h3).1).trans h3,h4⟩
theorem TO.alloc {base:Nat}{w:World}{v:Value}{l:List Rat}(h:TO base w v l)(o:Obj):TO base (w.alloc o) v l:=h.below ((Below.refl _ _).alloc (Nat.le_refl _) o)
theorem TO.arr {base:Nat}{w:World}{v:Value}{l:List Rat}(h:TO base w v l):∃ ao cap,v = .slice ao l.length cap∧Arr w 1 ao l.length cap (strs (l.map tb)):=by
 obtain ⟨h0,h⟩:=h;rcases h with ⟨rfl,h⟩ | ⟨g,cap,cur,rfl,hb,h3,h4,h5,h6,h7⟩
 ·obtain rfl:l = []:=List.length_eq_zero_iff.1 h;exact ⟨none,0,rfl,Arr.nil _ _⟩
 ·refine ⟨_,_,rfl,⟨by simp[strs],h4,h5,fun _=>⟨g,0,rfl,(Array.getElem?_eq_some_iff.1 h3).1⟩,?_⟩⟩;intro b o e i v hv j u hu
  cases e
  (have hi:i<l.length:=by simpa [strs] using (List.getElem?_eq_some_iff.1 hv).1);unfold strs at hv;rw[List.map_map,List.getElem?_map,List.getElem?_eq_getElem hi] at hv
  cases hv
  match j with
  | 0=>rw[Nat.zero_add,cell_of_row w g _ _ _ _ h3];(have e1:cur.toList[i*1+0]? = (cur.toList.take (l.length*1))[i*1+0]?:=by rw[List.getElem?_take,if_pos (by omega)]);rw[← Array.getElem?_toList,e1,h7,List.getElem?_map,Nat.mul_one,Nat.add_zero,List.getElem?_eq_getElem hi];exact hu
  | j+1=>simp[Value.cells] at hu
theorem Dg.amt {n:Int}(h:amtB n=true):Dg (n:Rat) 5:=by
 have e1:(n:Rat).num=n:=Rat.num_intCast n;have e2:(n:Rat).den=1:=Rat.den_intCast n;have:=jBI h;unfold Dg;rw[e1,e2];exact ⟨by omega,by omega⟩
theorem jH9:(10000 ^ 6*6000000) ^ 4*1000<10 ^ 128:=by decide
theorem jHq {G m:Nat}(hG:0<G)(h:G≤10000 ^ 6)(hm:m≤4):(G*6000000) ^ m≤(10000 ^ 6*6000000) ^ 4:=by
 have h1:(G*6000000) ^ m≤(G*6000000) ^ 4:=Nat.pow_le_pow_right (by omega) hm;have h2:(G*6000000) ^ 4≤(10000 ^ 6*6000000) ^ 4:=Nat.pow_le_pow_left (Nat.mul_le_mul_right _ h) 4;exact Nat.le_trans h1 h2
theorem jLw {pool:List Int}{us:List Usr}(hg:Good us pool.length)(hpa:∀ i,amtB (lm pool i)=true)(hn:us.length≤6)(hk:pool.length≤4){i:Nat}(hi:i<us.length):Dg ((endS pool us).ts i) 128:=by
 obtain ⟨G,hG0,hGb,hGi,_⟩:=jGO hg hn;have hf:=(jGC hg hpa).1;obtain ⟨Q,hQ0,hQb,hQi⟩:=jLr (jFw hg hpa) (jC0 hg hpa) hf (fun i hi=>⟨_,rfl⟩) (fun i r hi hr=>⟨_,rfl⟩) (fun r hr=>⟨_,rfl⟩) G 6000000 hG0 (by decide) hGi (fun r hr=>jJd hg hpa hn hr);have hc:=hg.cap (i:=i) hi;obtain ⟨h1,h2⟩:=jJF (M:=1000) hQ0 (hQi i hi) (hf.low i hi) (Rat.le_trans (hf.cap i hi) ((jDh (b:=1000)).2 hc.2));have hb:=jH9;have hQB:=Nat.le_trans hQb (jHq (m:=(prb pool us).k) hG0 hGb hk);generalize (10000 ^ 6*6000000) ^ 4=B at hQB hb;have h4:Q*1000≤B*1000:=Nat.mul_le_mul_right _ hQB;have h5:B≤B*1000:=Nat.le_mul_of_pos_right B (by decide);exact ⟨by omega,by omega⟩
end Go.Proofs.YtigokanoflkinabGreatDoor
