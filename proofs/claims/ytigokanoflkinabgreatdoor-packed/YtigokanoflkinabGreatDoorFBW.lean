/- FBase, WLim, FFrac, FVals, WNeg, WChk, WCaps, joined. -/
import Derived.Test.YtigokanoflkinabGreatDoorWEx
import Derived.Test.YtigokanoflkinabGreatDoorMMath
import Derived.Laws.AppendOwn
import Derived.Laws.AppendOwnNone
import Derived.Laws.OwnMore
import Derived.Test.YtigokanoflkinabGreatDoorWRat
import Derived.Deep.RegionHeld3
set_option maxHeartbeats 1000000
set_option maxRecDepth 20000
namespace Go.Proofs.YtigokanoflkinabGreatDoor
set_option linter.unusedSimpArgs false
set_option linter.unusedVariables false
open Go.RowKit Por
structure Arr (w:World)(k:Nat)(ao:Option Addr)(n cap:Nat)(vs:List Value):Prop where
  len:vs.length=n
  le:n≤cap
  cm:cap≤maxLen
  head:0<n→∃ b o,ao=some ⟨b,o,none⟩∧b<w.heap.size
  cell:∀ b o,ao=some ⟨b,o,none⟩→∀ i v,vs[i]? = some v→∀ j u,v.cells[j]? = some u→w.cell? ⟨b,o+(i*k+j),none⟩=some u
theorem Arr.below {w w':World}{k:Nat}{ao:Option Addr}{n cap:Nat}{vs:List Value}(h:Arr w k ao n cap vs)(hb:Below w.heap.size w w'):Arr w' k ao n cap vs:=by
 refine ⟨h.len,h.le,h.cm,fun hn=>?_,fun b o e i v hv j u hu=>?_⟩
 ·obtain ⟨b,o,e,hlt⟩:=h.head hn;exact ⟨b,o,e,Nat.lt_of_lt_of_le hlt hb.size⟩
 ·have hi:i<vs.length:=(List.getElem?_eq_some_iff.1 hv).1;have hlen:=h.len;obtain ⟨b',o',e',hlt⟩:=h.head (by omega);rw[e] at e';cases e';exact (hb.cell (p:=⟨b,o+(i*k+j),none⟩) hlt).trans (h.cell b o e i v hv j u hu)
theorem Arr.nil (w:World)(k:Nat):Arr w k none 0 0 []:=⟨rfl,Nat.le_refl _,Nat.zero_le _,fun h=>by omega,fun b o e=>(by cases e)⟩
def ints (xs:List Int):List Value:=xs.map (Value.int .i64)
theorem jC1 (xs:List Int){i:Nat}(h:i<xs.length):(ints xs)[i]? = some (.int .i64 (lm xs i)):=by
 unfold ints lm;rw[List.getElem?_map,List.getElem?_eq_getElem h,List.getD_eq_getElem?_getD,List.getElem?_eq_getElem h];rfl
theorem jAG (xs:List Int):(ints xs).length=xs.length:=by simp[ints]
theorem Arr.int {w:World}{ao:Option Addr}{n cap:Nat}{xs:List Int}(h:Arr w 1 ao n cap (ints xs)){b o:Nat}(e:ao=some ⟨b,o,none⟩){i:Nat}(hi:i<n):w.cell? ⟨b,o+i,none⟩=some (.int .i64 (lm xs i)):=by
 have hl:=h.len;rw[jAG] at hl;have:=h.cell b o e i _ (jC1 xs (by omega)) 0 (.int .i64 (lm xs i)) rfl
 simpa using this
structure Usr where
  dem:List Int
  wt:Int
  cap:Int
def UsrV (w:World)(v:Value)(u:Usr):Prop:=∃ ao n cap,v = .agg #[.slice ao n cap,.int .i64 u.wt,.int .i64 u.cap]∧Arr w 1 ao n cap (ints u.dem)
theorem UsrV.below {w w':World}{v:Value}{u:Usr}(h:UsrV w v u)(hb:Below w.heap.size w w'):UsrV w' v u:=by
 obtain ⟨ao,n,cap,e,h⟩:=h;exact ⟨ao,n,cap,e,h.below hb⟩
def ug (us:List Usr)(i:Nat):Usr:=us.getD i ⟨[],0,0⟩
def Users (w:World)(ao:Option Addr)(n cap:Nat)(us:List Usr):Prop:=us.length=n∧∃ vs,Arr w 3 ao n cap vs∧∀ i v,vs[i]? = some v→UsrV w v (ug us i)
theorem Users.below {w w':World}{ao:Option Addr}{n cap:Nat}{us:List Usr}(h:Users w ao n cap us)(hb:Below w.heap.size w w'):Users w' ao n cap us:=by
 obtain ⟨h0,vs,h1,h2⟩:=h;exact ⟨h0,vs,h1.below hb,fun i v hv=>(h2 i v hv).below hb⟩
theorem Users.get {w:World}{ao:Option Addr}{n cap:Nat}{us:List Usr}(h:Users w ao n cap us){i:Nat}(hi:i<n):∃ b o da dn dc,ao=some ⟨b,o,none⟩∧b<w.heap.size∧w.cell? ⟨b,o+i*3,none⟩=some (.slice da dn dc)∧w.cell? ⟨b,o+i*3+1,none⟩=some (.int .i64 (ug us i).wt)∧w.cell? ⟨b,o+i*3+2,none⟩=some (.int .i64 (ug us i).cap)∧Arr w 1 da dn dc (ints (ug us i).dem):=by
 obtain ⟨h0,vs,h1,h2⟩:=h;have hl:=h1.len;obtain ⟨b,o,e,hlt⟩:=h1.head (by omega);have hv:vs[i]? = some vs[i]:=List.getElem?_eq_getElem (by omega);obtain ⟨da,dn,dc,ev,ha⟩:=h2 i _ hv;refine ⟨b,o,da,dn,dc,e,hlt,?_,?_,?_,ha⟩
 ·have:=h1.cell b o e i _ hv 0 (.slice da dn dc) (by rw[ev];rfl)
  simpa using this
 ·have:=h1.cell b o e i _ hv 1 (.int .i64 (ug us i).wt) (by rw[ev];rfl)
  rwa [← Nat.add_assoc] at this
 ·have:=h1.cell b o e i _ hv 2 (.int .i64 (ug us i).cap) (by rw[ev];rfl)
  rwa [← Nat.add_assoc] at this
def amtB (x:Int):Bool:=decide (0≤x∧x≤10000)
def amtsB (xs:List Int):Bool:=xs.all amtB
def poolB (xs:List Int):Bool:=decide (1≤xs.length∧xs.length≤4) && amtsB xs
def wantsB (xs:List Int):Bool:=xs.any (fun x=>decide (0<x))
def usrB (k:Nat)(u:Usr):Bool:=decide (u.dem.length=k) && decide (1≤u.wt∧u.wt≤100∧0≤u.cap∧u.cap≤1000) && amtsB u.dem && wantsB u.dem
def errOf (pool:List Int)(us:List Usr):Int:=if poolB pool=false then 3 else if 6<us.length then 4 else if us.all (usrB pool.length)=false then 4 else 0
theorem jBi {α:Type}(p:α→Bool)(xs:List α){i:Nat}(h:i<xs.length):(xs.take (i+1)).all p=((xs.take i).all p && p xs[i]):=by
 rw[List.take_succ_eq_append_getElem h,List.all_append];simp
theorem jFK {α:Type}(p:α→Bool)(xs:List α){i:Nat}(h:i<xs.length):(xs.take (i+1)).any p=((xs.take i).any p || p xs[i]):=by
 rw[List.take_succ_eq_append_getElem h,List.any_append];simp
theorem jD0 (xs:List Int){i:Nat}(h:i<xs.length):xs[i]=lm xs i:=by
 unfold lm;rw[List.getD_eq_getElem?_getD,List.getElem?_eq_getElem h];rfl
theorem jKu (us:List Usr){i:Nat}(h:i<us.length):us[i]=ug us i:=by
 unfold ug;rw[List.getD_eq_getElem?_getD,List.getElem?_eq_getElem h];rfl
theorem jAx {α:Type}(p:α→Bool)(xs:List α){i:Nat}(h:i<xs.length)(hp:p xs[i]=false):xs.all p=false:=by
 rw[List.all_eq_false];exact ⟨xs[i],List.getElem_mem h,by simp[hp]⟩
theorem jGv {α:Type}(p:α→Bool)(xs:List α){i:Nat}(h:i<xs.length)(hp:p xs[i]=true):xs.any p=true:=by
 rw[List.any_eq_true];exact ⟨xs[i],List.getElem_mem h,hp⟩
def uptB (m x:Int):Bool:=decide (0≤x∧x≤m)
def rngB (lo hi k:Int):Bool:=decide (lo≤k∧k≤hi)
theorem jB9 {lo hi k:Int}(h:lo≤k∧k≤hi):rngB lo hi k=true:=decide_eq_true h
theorem jCK {lo hi k:Int}(h:¬ (lo≤k∧k≤hi)):rngB lo hi k=false:=decide_eq_false h
def uptsB (m:Int)(xs:List Int):Bool:=xs.all (uptB m)
theorem jFh (xs:List Int):uptsB 10000 xs=amtsB xs:=rfl
theorem jCv (ao:Option Addr)(n cap:Nat)(xs:List Int)(m:Int)(w:World)(hr:Arr w 1 ao n cap (ints xs)):Calls Tryz.prog 78 #[.slice ao n cap,.int .i64 m] w fun e w'=>e = .returned (.bool (uptsB m xs))∧w'=w:=by
 have hlen:=hr.len;rw[jAG] at hlen;have hle:=hr.le;have hcm:=hr.cm;unfold maxLen at hcm;have HR:=hid hr;clear hr;go_enter Tryz.func78,Tryz.ntmps78;go_wp2
 go_loop[9] (fun i=>∃ k:Nat,k≤n∧i = .int .i64 k∧Hid ((xs.take k).all (uptB m)=true)) (fun i=>n - (intOf i).toNat)
 case atStart=>exact ⟨0,Nat.zero_le _,rfl,rfl⟩
 case round=>
  obtain ⟨k,hk,rfl,hz⟩:=hrel;by_cases hlt:k<n
  ·obtain ⟨b,o,rfl,hb⟩:=HR.out.head (by omega);have hc:=HR.out.int rfl hlt;have hst:=hid (jBi (uptB m) xs (i:=k) (by omega));have hget:=hid (jD0 xs (i:=k) (by omega));generalize hx:lm xs k=x at hc;have HX:=hid hx;clear hx;by_cases h0:x<0
   ·have E:uptsB m xs=false:=jAx (uptB m) xs (i:=k) (by omega) (by rw[hget.out,HX.out];unfold uptB;rw[decide_eq_false_iff_not];omega);have HE:=hid E;clear E;go_wp2;go_ret;exact ⟨by rw[HE.out];rfl,rfl⟩
   ·by_cases h1:m<x
    ·have E:uptsB m xs=false:=jAx (uptB m) xs (i:=k) (by omega) (by rw[hget.out,HX.out];unfold uptB;rw[decide_eq_false_iff_not];omega);have HE:=hid E;clear E;go_wp2;go_ret;exact ⟨by rw[HE.out];rfl,rfl⟩
    ·(have E:uptB m x=true:=by unfold uptB;rw[decide_eq_true_eq];omega);have HE:=hid E;clear E;go_wp2;exact ⟨⟨k+1,by omega,by go_num,by rw[Hid,hst.out,hz.out,hget.out,HX.out,HE.out];rfl⟩,by simp[intOf];omega⟩
  ·obtain rfl:k=n:=by omega
   have E:uptsB m xs=true:=by
    have:=hz.out
    rwa [List.take_of_length_le (by omega)] at this
   have HE:=hid E;clear E;go_wp2;go_ret;exact ⟨by rw[HE.out];rfl,rfl⟩
theorem jFA (ao:Option Addr)(n cap:Nat)(u:Usr)(w:World)(hr:Arr w 1 ao n cap (ints u.dem)):Calls Tryz.prog 83 #[.agg #[.slice ao n cap,.int .i64 u.wt,.int .i64 u.cap]] w fun e w'=>e = .returned (.bool (wantsB u.dem))∧Below w.heap.size w w':=by
 have hlen:=hr.len;rw[jAG] at hlen;have hle:=hr.le;have hcm:=hr.cm;unfold maxLen at hcm;have hB:=(Below.refl _ w).alloc (Nat.le_refl _) (.cells #[.slice ao n cap,.int .i64 u.wt,.int .i64 u.cap] 63);have HR:=hid (hr.below hB);have HB:=hid hB;clear hr hB;go_enter Tryz.func83,Tryz.ntmps83;go_wp2
 go_loop[8] (fun i=>∃ k:Nat,k≤n∧i = .int .i64 k∧Hid ((u.dem.take k).any (fun x=>decide (0<x))=false)) (fun i=>n - (intOf i).toNat)
 case atStart=>exact ⟨0,Nat.zero_le _,rfl,rfl⟩
 case round=>
  obtain ⟨k,hk,rfl,hz⟩:=hrel;by_cases hlt:k<n
  ·obtain ⟨b,o,rfl,hb⟩:=HR.out.head (by omega);have hc:=HR.out.int rfl hlt;have hst:=hid (jFK (fun x=>decide (0<x)) u.dem (i:=k) (by omega));have hget:=hid (jD0 u.dem (i:=k) (by omega));generalize hx:lm u.dem k=x at hc;have HX:=hid hx;clear hx;by_cases h0:0<x
   ·have E:wantsB u.dem=true:=jGv _ u.dem (i:=k) (by omega) (by rw[hget.out,HX.out];exact decide_eq_true h0);have HE:=hid E;clear E;go_wp2;go_ret;exact ⟨by rw[HE.out];rfl,HB.out⟩
   ·have E:decide (0<x)=false:=decide_eq_false h0;have HE:=hid E;clear E;go_wp2;exact ⟨⟨k+1,by omega,by go_num,by rw[Hid,hst.out,hz.out,hget.out,HX.out,HE.out];rfl⟩,by simp[intOf];omega⟩
  ·obtain rfl:k=n:=by omega
   have E:wantsB u.dem=false:=by
    have:=hz.out
    rwa [List.take_of_length_le (by omega)] at this
   have HE:=hid E;clear E;go_wp2;go_ret;exact ⟨by rw[HE.out];rfl,HB.out⟩
theorem jEf (k:Int)(w:World):Calls Tryz.prog 37 #[.int .i64 k] w fun e w'=>e = .returned (.bool (rngB 1 4 k))∧w'=w:=by
 by_cases h1:1≤k
 ·by_cases h2:k≤4
  ·have E:=hid (jB9 (lo:=1) (hi:=4) (k:=k) ⟨h1,h2⟩);go_enter Tryz.func37,Tryz.ntmps37;go_wp2;go_ret;exact ⟨by rw[E.out];rfl,rfl⟩
  ·have E:=hid (jCK (lo:=1) (hi:=4) (k:=k) (by omega));go_enter Tryz.func37,Tryz.ntmps37;go_wp2;go_ret;exact ⟨by rw[E.out];rfl,rfl⟩
 ·have E:=hid (jCK (lo:=1) (hi:=4) (k:=k) (by omega));go_enter Tryz.func37,Tryz.ntmps37;go_wp2;go_ret;exact ⟨by rw[E.out];rfl,rfl⟩
theorem jBu (k:Int)(w:World):Calls Tryz.prog 69 #[.int .i64 k] w fun e w'=>e = .returned (.bool (rngB 1 100 k))∧w'=w:=by
 by_cases h1:1≤k
 ·by_cases h2:k≤100
  ·have E:=hid (jB9 (lo:=1) (hi:=100) (k:=k) ⟨h1,h2⟩);go_enter Tryz.func69,Tryz.ntmps69;go_wp2;go_ret;exact ⟨by rw[E.out];rfl,rfl⟩
  ·have E:=hid (jCK (lo:=1) (hi:=100) (k:=k) (by omega));go_enter Tryz.func69,Tryz.ntmps69;go_wp2;go_ret;exact ⟨by rw[E.out];rfl,rfl⟩
 ·have E:=hid (jCK (lo:=1) (hi:=100) (k:=k) (by omega));go_enter Tryz.func69,Tryz.ntmps69;go_wp2;go_ret;exact ⟨by rw[E.out];rfl,rfl⟩
theorem jES (k:Int)(w:World):Calls Tryz.prog 70 #[.int .i64 k] w fun e w'=>e = .returned (.bool (rngB 0 1000 k))∧w'=w:=by
 by_cases h1:0≤k
 ·by_cases h2:k≤1000
  ·have E:=hid (jB9 (lo:=0) (hi:=1000) (k:=k) ⟨h1,h2⟩);go_enter Tryz.func70,Tryz.ntmps70;go_wp2;go_ret;exact ⟨by rw[E.out];rfl,rfl⟩
  ·have E:=hid (jCK (lo:=0) (hi:=1000) (k:=k) (by omega));go_enter Tryz.func70,Tryz.ntmps70;go_wp2;go_ret;exact ⟨by rw[E.out];rfl,rfl⟩
 ·have E:=hid (jCK (lo:=0) (hi:=1000) (k:=k) (by omega));go_enter Tryz.func70,Tryz.ntmps70;go_wp2;go_ret;exact ⟨by rw[E.out];rfl,rfl⟩
theorem jGm {xs:List Int}(h:xs.length<1∨4<xs.length):poolB xs=false:=by
 unfold poolB;have:decide (1≤xs.length∧xs.length≤4)=false:=decide_eq_false (by omega);rw[this];rfl
theorem jIo {xs:List Int}(h:1≤xs.length)(h2:xs.length≤4):poolB xs=amtsB xs:=by
 unfold poolB;have:decide (1≤xs.length∧xs.length≤4)=true:=decide_eq_true ⟨h,h2⟩;rw[this];rfl
theorem jH3 (ao:Option Addr)(n cap:Nat)(xs:List Int)(w:World)(hr:Arr w 1 ao n cap (ints xs)):Calls Tryz.prog 88 #[.slice ao n cap] w fun e w'=>e = .returned (.bool (poolB xs))∧w'=w:=by
 have hlen:=hr.len;rw[jAG] at hlen;have hle:=hr.le;have hcm:=hr.cm;unfold maxLen at hcm;have HR:=hid hr;clear hr;go_enter Tryz.func88,Tryz.ntmps88;go_wp2_with fail;refine (jEf (n:Int) _).mono ?_;rintro e w1 ⟨rfl,rfl⟩;by_cases h:1≤(n:Int)∧(n:Int)≤4
 ·rw[jB9 h];have E:=hid (jIo (xs:=xs) (by omega) (by omega));go_wp2_with fail;refine (jCv ao n cap xs 10000 _ HR.out).mono ?_;rintro e w2 ⟨rfl,rfl⟩;go_wp2;go_ret;exact ⟨by rw[E.out,jFh];rfl,rfl⟩
 ·rw[jCK h];have E:=hid (jGm (xs:=xs) (by omega));go_wp2;go_ret;exact ⟨by rw[E.out];rfl,rfl⟩
theorem jFZ (k:Nat)(u:Usr)(a b c d:Bool)(h1:decide (u.dem.length=k)=a)(h2:decide (1≤u.wt∧u.wt≤100∧0≤u.cap∧u.cap≤1000)=b)(h3:amtsB u.dem=c)(h4:wantsB u.dem=d):usrB k u=(a && b && c && d):=by
 unfold usrB;rw[h1,h2,h3,h4]
theorem jE4 (ao:Option Addr)(n cap k:Nat)(u:Usr)(w:World)(hr:Arr w 1 ao n cap (ints u.dem))(hk:k≤maxLen):Calls Tryz.prog 68 #[.agg #[.slice ao n cap,.int .i64 u.wt,.int .i64 u.cap],.int .i64 k] w fun e w'=>e = .returned (.bool (usrB k u))∧Below w.heap.size w w':=by
 have hlen:=hr.len;rw[jAG] at hlen;have hle:=hr.le;have hcm:=hr.cm;unfold maxLen at hcm hk;have hB:=(Below.refl _ w).alloc (Nat.le_refl _) (.cells #[.slice ao n cap,.int .i64 u.wt,.int .i64 u.cap] 63);have HR:=hid (hr.below hB);have HB:=hid hB;clear hr hB;by_cases h0:n=k
 ·subst h0;by_cases h1:1≤u.wt∧u.wt≤100
  ·by_cases h2:0≤u.cap∧u.cap≤1000
   ·have E:=hid (jFZ n u true true _ _ (by rw[hlen];exact decide_eq_true rfl) (decide_eq_true ⟨h1.1,h1.2,h2.1,h2.2⟩) rfl rfl);go_enter Tryz.func68,Tryz.ntmps68;go_wp2_with fail;refine (jBu u.wt _).mono ?_;rintro e w1 ⟨rfl,rfl⟩;rw[jB9 h1];go_wp2_with fail;refine (jES u.cap _).mono ?_;rintro e w1 ⟨rfl,rfl⟩;rw[jB9 h2];go_wp2_with fail;refine (jCv ao n cap u.dem 10000 _ HR.out).mono ?_;rintro e w1 ⟨rfl,rfl⟩;rw[jFh]
    cases h3:amtsB u.dem with
    | false=>have H2:=hid h3;go_wp2;go_ret;exact ⟨by rw[E.out,H2.out];rfl,HB.out⟩
    | true=>have H2:=hid h3;go_wp2_with fail;refine (jFA ao n cap u _ HR.out).mono ?_;rintro e w2 ⟨rfl,hb2⟩;have HB2:=hid (HB.out.trans (hb2.mono HB.out.size));clear hb2;go_wp2;go_ret;exact ⟨by rw[E.out,H2.out];rfl,HB2.out⟩
   ·have E:=hid (jFZ n u true false _ _ (by rw[hlen];exact decide_eq_true rfl) (decide_eq_false (by omega)) rfl rfl);go_enter Tryz.func68,Tryz.ntmps68;go_wp2_with fail;refine (jBu u.wt _).mono ?_;rintro e w1 ⟨rfl,rfl⟩;rw[jB9 h1];go_wp2_with fail;refine (jES u.cap _).mono ?_;rintro e w1 ⟨rfl,rfl⟩;rw[jCK h2];go_wp2;go_ret;exact ⟨by rw[E.out];rfl,HB.out⟩
  ·have E:=hid (jFZ n u true false _ _ (by rw[hlen];exact decide_eq_true rfl) (decide_eq_false (by omega)) rfl rfl);go_enter Tryz.func68,Tryz.ntmps68;go_wp2_with fail;refine (jBu u.wt _).mono ?_;rintro e w1 ⟨rfl,rfl⟩;rw[jCK h1];go_wp2;go_ret;exact ⟨by rw[E.out];rfl,HB.out⟩
 ·(have h0':((n:Int) == (k:Int))=false:=by rw[beq_eq_false_iff_ne];omega);have E:=hid (jFZ k u false _ _ _ (by rw[hlen];exact decide_eq_false h0) rfl rfl rfl);go_enter Tryz.func68,Tryz.ntmps68;go_wp2;go_ret;exact ⟨by rw[E.out];rfl,HB.out⟩
def Frs (w:World)(ao:Option Addr)(n cap:Nat)(f:Nat→Rat):Prop:=∃ vs,Arr w 3 ao n cap vs∧∀ i v,vs[i]? = some v→Frac w v (f i)
theorem Frs.below {w w':World}{ao:Option Addr}{n cap:Nat}{f:Nat→Rat}(h:Frs w ao n cap f)(hb:Below w.heap.size w w'):Frs w' ao n cap f:=by
 obtain ⟨vs,h1,h2⟩:=h;exact ⟨vs,h1.below hb,fun i v hv=>(h2 i v hv).below hb⟩
theorem Frs.congr {w:World}{ao:Option Addr}{n cap:Nat}{f g:Nat→Rat}(h:Frs w ao n cap f)(e:∀ i,i<n→f i=g i):Frs w ao n cap g:=by
 obtain ⟨vs,h1,h2⟩:=h;refine ⟨vs,h1,fun i v hv=>?_⟩;have:=(List.getElem?_eq_some_iff.1 hv).1;rw[← e i (by have:=h1.len;omega)];exact h2 i v hv
theorem Frs.le {w:World}{ao:Option Addr}{n cap:Nat}{f:Nat→Rat}(h:Frs w ao n cap f):n≤maxLen:=by
 obtain ⟨vs,h1,h2⟩:=h;exact Nat.le_trans h1.le h1.cm
theorem Frs.get {w:World}{ao:Option Addr}{n cap:Nat}{f:Nat→Rat}(h:Frs w ao n cap f){i:Nat}(hi:i<n):∃ b o uo un uc yo yn yc,ao=some ⟨b,o,none⟩∧b<w.heap.size∧w.cell? ⟨b,o+i*3,none⟩=some (.bool (negB (f i)))∧w.cell? ⟨b,o+i*3+1,none⟩=some (.slice uo un uc)∧w.cell? ⟨b,o+i*3+2,none⟩=some (.slice yo yn yc)∧Row w uo un uc (limbs (f i).num.natAbs)∧Row w yo yn yc (limbs (f i).den):=by
 obtain ⟨vs,h1,h2⟩:=h;have hl:=h1.len;obtain ⟨b,o,e,hlt⟩:=h1.head (by omega);have hv:vs[i]? = some vs[i]:=List.getElem?_eq_getElem (by omega);obtain ⟨uo,un,uc,yo,yn,yc,ev,hr1,hr2⟩:=h2 i _ hv;refine ⟨b,o,uo,un,uc,yo,yn,yc,e,hlt,?_,?_,?_,hr1,hr2⟩
 ·have:=h1.cell b o e i _ hv 0 (.bool (negB (f i))) (by rw[ev];rfl)
  simpa using this
 ·have:=h1.cell b o e i _ hv 1 (.slice uo un uc) (by rw[ev];rfl)
  rwa [← Nat.add_assoc] at this
 ·have:=h1.cell b o e i _ hv 2 (.slice yo yn yc) (by rw[ev];rfl)
  rwa [← Nat.add_assoc] at this
def FB (w:World)(g n k:Nat)(f:Nat→Rat):Prop:=∃ arr,w.heap[g]? = some (.cells arr 118 (0,0))∧arr.size=n*3∧∀ i,i<k→∃ uo un uc yo yn yc,arr[i*3]? = some (.bool (negB (f i)))∧arr[i*3+1]? = some (.slice uo un uc)∧arr[i*3+2]? = some (.slice yo yn yc)∧Row w uo un uc (limbs (f i).num.natAbs)∧Row w yo yn yc (limbs (f i).den)
theorem FB.lt {w:World}{g n k:Nat}{f:Nat→Rat}(h:FB w g n k f):g<w.heap.size:=by
 obtain ⟨arr,h1,_⟩:=h;exact (Array.getElem?_eq_some_iff.1 h1).1
theorem FB.below {w w':World}{g n k:Nat}{f:Nat→Rat}(h:FB w g n k f)(hb:Below w.heap.size w w'):FB w' g n k f:=by
 obtain ⟨arr,h1,h2,h3⟩:=h;refine ⟨arr,(hb.block g (Array.getElem?_eq_some_iff.1 h1).1).trans h1,h2,fun i hi=>?_⟩;obtain ⟨uo,un,uc,yo,yn,yc,c0,c1,c2,r1,r2⟩:=h3 i hi;exact ⟨uo,un,uc,yo,yn,yc,c0,c1,c2,r1.below hb,r2.below hb⟩
theorem FB.congr {w:World}{g n k:Nat}{f f':Nat→Rat}(h:FB w g n k f)(e:∀ i,i<k→f i=f' i):FB w g n k f':=by
 obtain ⟨arr,h1,h2,h3⟩:=h;exact ⟨arr,h1,h2,fun i hi=>by rw[← e i hi];exact h3 i hi⟩
theorem FB.frs {w:World}{g n:Nat}{f:Nat→Rat}(h:FB w g n n f)(hn:n≤maxLen):Frs w (some ⟨g,0,none⟩) n n f:=by
 obtain ⟨arr,h1,h2,h3⟩:=h;(have key:∀ i,i<n→∃ a b c:Value,arr[i*3]? = some a∧arr[i*3+1]? = some b∧arr[i*3+2]? = some c∧Frac w (.agg #[a,b,c]) (f i):=fun i hi=>by obtain ⟨uo,un,uc,yo,yn,yc,c0,c1,c2,r1,r2⟩:=h3 i hi;exact ⟨_,_,_,c0,c1,c2,uo,un,uc,yo,yn,yc,rfl,r1,r2⟩);refine ⟨(List.range n).map (fun i=>.agg #[arr.getD (i*3) (.bool false),arr.getD (i*3+1) (.bool false),arr.getD (i*3+2) (.bool false)]),⟨by simp,Nat.le_refl _,hn,fun _=>⟨g,0,rfl,(Array.getElem?_eq_some_iff.1 h1).1⟩,?_⟩,?_⟩
 ·intro b o e i v hv j u hu
  cases e
  (have hi:i<n:=by simpa using (List.getElem?_eq_some_iff.1 hv).1);obtain ⟨a,b,c,c0,c1,c2,_⟩:=key i hi;rw[List.getElem?_map,List.getElem?_range hi] at hv
  cases hv
  rw[Nat.zero_add,cell_of_row w g _ _ _ _ h1]
  match j with
  | 0=>rw[Nat.add_zero,c0,← hu];simp[Value.cells,c0,Array.getD_eq_getD_getElem?]
  | 1=>rw[c1,← hu];simp[Value.cells,c1,Array.getD_eq_getD_getElem?]
  | 2=>rw[c2,← hu];simp[Value.cells,c2,Array.getD_eq_getD_getElem?]
  | j+3=>simp[Value.cells] at hu
 ·intro i v hv;(have hi:i<n:=by simpa using (List.getElem?_eq_some_iff.1 hv).1);obtain ⟨a,b,c,c0,c1,c2,hF⟩:=key i hi;rw[List.getElem?_map,List.getElem?_range hi] at hv
  cases hv
  simp only[Array.getD_eq_getD_getElem?,c0,c1,c2,Option.getD_some];exact hF
def wputA (w:World)(g o:Nat)(u0 u1 u2:Value):World:=((w.setCell ⟨g,o,none⟩ u0).setCell ⟨g,o+1,none⟩ u1).setCell ⟨g,o+2,none⟩ u2
theorem Row.otherB {w:World}{ao:Option Addr}{n cap:Nat}{xs:List Int}(h:Row w ao n cap xs)(b i:Nat)(v:Value){arr:Array Value}{T:TypeId}{fz:Nat×Nat}(hx:w.heap[b]? = some (.cells arr T fz))(hT:T≠3):Row (w.setCell ⟨b,i,none⟩ v) ao n cap xs:=by
 (have key:∀ b' o,ao=some ⟨b',o,none⟩→0<n→b'≠b:=by intro b' o e hn hc;subst hc;obtain ⟨arr,fz,hh⟩:=h.ib b' o e hn;rw[hx] at hh;cases hh;exact hT rfl);refine ⟨h.len,h.le,h.cm,fun hn=>?_,fun b' o e hn=>?_,fun b' o e j hj=>?_⟩
 ·obtain ⟨b,o,e,hlt⟩:=h.head hn;exact ⟨b,o,e,by simpa [World.setCell] using hlt⟩
 ·obtain ⟨arr,fz,hh⟩:=h.ib b' o e hn;exact ⟨arr,fz,(Below.heap_setCell w _ v b' (key b' o e hn)).trans hh⟩
 ·rw[← h.cell b' o e j hj];exact World.cell?_of_block (Below.heap_setCell w _ v b' (key b' o e (by omega)))
theorem jCy {w:World}{g o:Nat}{u0 u1 u2:Value}{arr:Array Value}{T:TypeId}(h:w.heap[g]? = some (.cells arr T (0,0))):(wputA w g o u0 u1 u2).heap[g]? = some (.cells (((arr.set! o u0).set! (o+1) u1).set! (o+2) u2) T (0,0)):=by
 unfold wputA;have h1:=heap_setCell_same w g o _ _ u0 h;have h2:=heap_setCell_same _ g (o+1) _ _ u1 h1;exact heap_setCell_same _ g (o+2) _ _ u2 h2
theorem Row.putA {w:World}{ao:Option Addr}{n cap:Nat}{xs:List Int}(h:Row w ao n cap xs){g o:Nat}{u0 u1 u2:Value}{arr:Array Value}{T:TypeId}(hx:w.heap[g]? = some (.cells arr T (0,0)))(hT:T≠3):Row (wputA w g o u0 u1 u2) ao n cap xs:=by
 have h1:=heap_setCell_same w g o _ _ u0 hx;have h2:=heap_setCell_same _ g (o+1) _ _ u1 h1;exact ((h.otherB g o u0 hx hT).otherB g (o+1) u1 h1 hT).otherB g (o+2) u2 h2 hT
theorem jA2 {B:Nat}{a w:World}(h:Below B a w){g o:Nat}(hb:B≤g)(u0 u1 u2:Value):Below B a (wputA w g o u0 u1 u2):=((h.setCell hb u0).setCell hb u1).setCell hb u2
theorem Bx.putA_other {w:World} {b g o:Nat} {cs:Array Value} {T:TypeId} (h:Bx w b cs T) (u0 u1 u2:Value) (hne:g≠b):Bx (wputA w g o u0 u1 u2) b cs T:=
  ((Bx.other h ⟨g,o,none⟩ u0 hne).other ⟨g,o+1,none⟩ u1 hne).other ⟨g,o+2,none⟩ u2 hne
def upd (f:Nat→Rat)(i:Nat)(q:Rat):Nat→Rat:=fun j=>if j=i then q else f j
theorem jBv (f:Nat→Rat)(i:Nat)(q:Rat):upd f i q i=q:=if_pos rfl
theorem jBV (f:Nat→Rat){i j:Nat}(q:Rat)(h:j≠i):upd f i q j=f j:=if_neg h
theorem jKJ {arr:Array Value}{n i:Nat}(hs:arr.size=n*3)(hi:i<n)(u0 u1 u2:Value):(((arr.set! (i*3) u0).set! (i*3+1) u1).set! (i*3+2) u2)[i*3]? = some u0∧(((arr.set! (i*3) u0).set! (i*3+1) u1).set! (i*3+2) u2)[i*3+1]? = some u1∧(((arr.set! (i*3) u0).set! (i*3+1) u1).set! (i*3+2) u2)[i*3+2]? = some u2∧∀ j,(j<i*3∨i*3+2<j)→(((arr.set! (i*3) u0).set! (i*3+1) u1).set! (i*3+2) u2)[j]? = arr[j]?:=by
 (have h1:i*3<arr.size:=by omega);(have h2:i*3+1<arr.size:=by omega);(have h3:i*3+2<arr.size:=by omega);simp only[Array.set!_eq_setIfInBounds];refine ⟨?_,?_,?_,?_⟩
 ·rw[Array.getElem?_setIfInBounds_ne (by omega),Array.getElem?_setIfInBounds_ne (by omega),Array.getElem?_setIfInBounds_self_of_lt h1]
 ·rw[Array.getElem?_setIfInBounds_ne (by omega),Array.getElem?_setIfInBounds_self_of_lt (by simpa using h2)]
 ·rw[Array.getElem?_setIfInBounds_self_of_lt (by simpa using h3)]
 ·intro j hj;rw[Array.getElem?_setIfInBounds_ne (by omega),Array.getElem?_setIfInBounds_ne (by omega),Array.getElem?_setIfInBounds_ne (by omega)]
theorem FB.put {w:World}{g n k i:Nat}{f:Nat→Rat}(h:FB w g n k f)(hi:i<n)(hk:i≤k)(q:Rat){uo yo:Option Addr}{un uc yn yc:Nat}(r1:Row w uo un uc (limbs q.num.natAbs))(r2:Row w yo yn yc (limbs q.den)):FB (wputA w g (i*3) (.bool (negB q)) (.slice uo un uc) (.slice yo yn yc)) g n (if i=k then k+1 else k) (upd f i q):=by
 obtain ⟨arr,h1,h2,h3⟩:=h;obtain ⟨e0,e1,e2,e3⟩:=jKJ (arr:=arr) h2 hi (.bool (negB q)) (.slice uo un uc) (.slice yo yn yc);refine ⟨_,jCy h1,by simp[h2],fun j hj=>?_⟩;by_cases e:j=i
 ·subst e;rw[jBv];exact ⟨uo,un,uc,yo,yn,yc,e0,e1,e2,r1.putA h1 (by decide),r2.putA h1 (by decide)⟩
 ·rw[jBV _ _ e];(have hjk:j<k:=by split at hj <;> omega);obtain ⟨ao,an,ac,bo,bn,bc,c0,c1,c2,s1,s2⟩:=h3 j hjk;refine ⟨ao,an,ac,bo,bn,bc,?_,?_,?_,s1.putA h1 (by decide),s2.putA h1 (by decide)⟩
  ·rw[e3 _ (by omega)];exact c0
  ·rw[e3 _ (by omega)];exact c1
  ·rw[e3 _ (by omega)];exact c2
theorem FB.cells {w:World}{g n k i:Nat}{f:Nat→Rat}(h:FB w g n k f)(hi:i<k):∃ uo un uc yo yn yc,w.cell? ⟨g,i*3,none⟩=some (.bool (negB (f i)))∧w.cell? ⟨g,i*3+1,none⟩=some (.slice uo un uc)∧w.cell? ⟨g,i*3+2,none⟩=some (.slice yo yn yc)∧Row w uo un uc (limbs (f i).num.natAbs)∧Row w yo yn yc (limbs (f i).den):=by
 obtain ⟨arr,h1,h2,h3⟩:=h;obtain ⟨uo,un,uc,yo,yn,yc,c0,c1,c2,r1,r2⟩:=h3 i hi;exact ⟨uo,un,uc,yo,yn,yc,(cell_of_row w g _ _ _ _ h1).trans c0,(cell_of_row w g _ _ _ _ h1).trans c1,(cell_of_row w g _ _ _ _ h1).trans c2,r1,r2⟩
theorem FB.frozen {w:World}{g n k:Nat}{f:Nat→Rat}(h:FB w g n k f)(j:Nat):w.frozen? ⟨g,j,none⟩=false:=by
 obtain ⟨arr,h1,_⟩:=h;exact frozen_of_row w g j _ _ h1
theorem FB.has {w:World}{g n k:Nat}{f:Nat→Rat}(h:FB w g n k f){j:Nat}(hj:j<n*3):∃ x,w.cell? ⟨g,j,none⟩=some x:=by
 obtain ⟨arr,h1,h2,_⟩:=h;exact ⟨arr[j]'(by omega),(cell_of_row w g j _ _ _ h1).trans (Array.getElem?_eq_getElem (by omega))⟩
theorem FB.other {w:World}{g n k:Nat}{f:Nat→Rat}(h:FB w g n k f){b i:Nat}{v:Value}{arr:Array Value}{T:TypeId}{fz:Nat×Nat}(hx:w.heap[b]? = some (.cells arr T fz))(hT:T≠3)(hne:b≠g):FB (w.setCell ⟨b,i,none⟩ v) g n k f:=by
 obtain ⟨arr',h1,h2,h3⟩:=h;refine ⟨arr',(heap_setCell_other w ⟨b,i,none⟩ g v (fun e=>hne e.symm)).trans h1,h2,fun j hj=>?_⟩;obtain ⟨uo,un,uc,yo,yn,yc,c0,c1,c2,r1,r2⟩:=h3 j hj;exact ⟨uo,un,uc,yo,yn,yc,c0,c1,c2,r1.otherB b i v hx hT,r2.otherB b i v hx hT⟩
theorem FB.putA_other {w:World}{g n k:Nat}{f:Nat→Rat}(h:FB w g n k f){b o:Nat}{u0 u1 u2:Value}{arr:Array Value}{T:TypeId}(hx:w.heap[b]? = some (.cells arr T (0,0)))(hT:T≠3)(hne:b≠g):FB (wputA w b o u0 u1 u2) g n k f:=by
 have h1:=heap_setCell_same w b o _ _ u0 hx;have h2:=heap_setCell_same _ b (o+1) _ _ u1 h1;exact ((h.other hx hT hne).other h1 hT hne).other h2 hT hne
theorem Tryz.infoFra:(Tryz.prog.info? 118).map (fun i=>(i.zero,i.size,i.bytes))=some (some (.agg #[.bool false,.slice none 0 0,.slice none 0 0]),3,56):=by kernel_rfl
theorem jBc (w:World){ops:Array Oper}{rest:List Oper}{o:Oper}{a:Act}{Q:Exit→Act→World→Prop}(hg:o.guard=none)(l c:Operand)(hop:o.op=Op.makeSlice 114 l c)(L C:Int)(n:Nat)(hl:a.eval l = .int .i64 L)(hc:a.eval c = .int .i64 C)(hL:L=(n:Int))(hC:C=(n:Int))(hn:n≤1000000)(hK:∀ w',(∀ f,FB w' w.heap.size n 0 f)→Below w.heap.size w w'→w.heap.size<w'.heap.size→wpList Tryz.prog ops Q rest (a.put o.dst (.slice (some ⟨w.heap.size,0,none⟩) n n)) w'):wpList Tryz.prog ops Q (o :: rest) a w:=by
 obtain ⟨i,hi,hz0,hz1,hz2⟩:=info_parts Tryz.infoFra;refine wpList_make_full w hg l c 114 hop w.heap.size 118 i (.agg #[.bool false,.slice none 0 0,.slice none 0 0]) 3 Tryz.underlying114 hi hz0 hz1 .i64 .i64 L C n hl hc hL hC (by rw[hz2];omega) (by unfold maxLen;omega) (Nat.le_refl _) ?_;intro w' ho hgr;have hb:Below w.heap.size w w':=(Below.refl _ _).grown hgr (Nat.le_refl _) (fun k e=>by cases e);rcases ho.2 with ⟨h',_⟩ | ⟨g,cap,cur,h',_,hh,h1,h2,h3,h4⟩
 ·cases h'
 ·simp only[Value.slice.injEq,Option.some.injEq,Addr.mk.injEq,and_true,true_and] at h';obtain ⟨rfl,rfl⟩:=h';exact hK w' (fun f=>⟨cur,hh,h3,fun i hi=>by omega⟩) hb (Array.getElem?_eq_some_iff.1 hh).1
def FO (base:Nat)(w:World)(v:Value)(l:List Rat):Prop:=∃ xs,w.ownsRow base 118 3 v l.length xs∧∀ i,i<l.length→∃ uo un uc yo yn yc,xs[i*3]? = some (.bool (negB (rq l i)))∧xs[i*3+1]? = some (.slice uo un uc)∧xs[i*3+2]? = some (.slice yo yn yc)∧Row w uo un uc (limbs (rq l i).num.natAbs)∧Row w yo yn yc (limbs (rq l i).den)
theorem FO.nil (base:Nat)(w:World):FO base w (.slice none 0 0) []:=⟨[],World.ownsRow_nil _ _ _ _,fun i hi=>by simp at hi⟩
theorem FO.below {base:Nat}{w w':World}{v:Value}{l:List Rat}(h:FO base w v l)(hb:Below w.heap.size w w'):FO base w' v l:=by
 obtain ⟨xs,⟨h0,h⟩,h2⟩:=h;refine ⟨xs,⟨h0,?_⟩,fun i hi=>?_⟩
 ·rcases h with h | ⟨g,cap,cur,h1,h2,h3,h4⟩
  ·exact .inl h
  ·exact .inr ⟨g,cap,cur,h1,h2,(hb.block g (Array.getElem?_eq_some_iff.1 h3).1).trans h3,h4⟩
 ·obtain ⟨uo,un,uc,yo,yn,yc,c0,c1,c2,r1,r2⟩:=h2 i hi;exact ⟨uo,un,uc,yo,yn,yc,c0,c1,c2,r1.below hb,r2.below hb⟩
theorem FO.frs {base:Nat}{w:World}{v:Value}{l:List Rat}(h:FO base w v l):∃ ao cap,v = .slice ao l.length cap∧Frs w ao l.length cap (rq l):=by
 obtain ⟨xs,⟨h0,h⟩,h2⟩:=h;rcases h with ⟨rfl,h⟩ | ⟨g,cap,cur,rfl,hb,h3,h4,h5,h6,h7⟩
 ·obtain rfl:l = []:=List.length_eq_zero_iff.1 h;exact ⟨none,0,rfl,[],Arr.nil _ _,fun i v hv=>by simp at hv⟩
 ·refine ⟨_,_,rfl,?_⟩;(have hcur:∀ j,j<l.length*3→cur[j]? = xs[j]?:=fun j hj=>by rw[← h7,← Array.getElem?_toList,List.getElem?_take,if_pos hj]);refine ⟨(List.range l.length).map (fun i=>.agg #[cur.getD (i*3) (.bool false),cur.getD (i*3+1) (.bool false),cur.getD (i*3+2) (.bool false)]),⟨by simp,h4,h5,fun _=>⟨g,0,rfl,(Array.getElem?_eq_some_iff.1 h3).1⟩,?_⟩,?_⟩
  ·intro b o e i v hv j u hu
   cases e
   (have hi:i<l.length:=by simpa using (List.getElem?_eq_some_iff.1 hv).1);obtain ⟨uo,un,uc,yo,yn,yc,c0,c1,c2,r1,r2⟩:=h2 i hi;rw[← hcur _ (by omega)] at c0 c1 c2;rw[List.getElem?_map,List.getElem?_range hi] at hv
   cases hv
   rw[Nat.zero_add,cell_of_row w g _ _ _ _ h3]
   match j with
   | 0=>rw[Nat.add_zero,c0,← hu];simp[Value.cells,c0,Array.getD_eq_getD_getElem?]
   | 1=>rw[c1,← hu];simp[Value.cells,c1,Array.getD_eq_getD_getElem?]
   | 2=>rw[c2,← hu];simp[Value.cells,c2,Array.getD_eq_getD_getElem?]
   | j+3=>simp[Value.cells] at hu
  ·intro i v hv;(have hi:i<l.length:=by simpa using (List.getElem?_eq_some_iff.1 hv).1);obtain ⟨uo,un,uc,yo,yn,yc,c0,c1,c2,r1,r2⟩:=h2 i hi;rw[← hcur _ (by omega)] at c0 c1 c2;rw[List.getElem?_map,List.getElem?_range hi] at hv
   cases hv
   simp only[Array.getD_eq_getD_getElem?,c0,c1,c2,Option.getD_some];exact ⟨uo,un,uc,yo,yn,yc,rfl,r1,r2⟩
theorem jBP (w:World){ops:Array Oper}{rest:List Oper}{o:Oper}{a:Act}{Q:Exit→Act→World→Prop}(hgd:o.guard=none)(s x:Operand)(hop:o.op=Op.call { callee:=Callee.builtin Builtin.append,args:=#[s,x],argTypes:=#[114,114] })(base:Nat)(v:Value)(l:List Rat)(ad:Addr)(c:Nat)(q:Rat)(uo:Option Addr)(un uc:Nat)(yo:Option Addr)(yn yc:Nat)(hs:a.eval s=v)(hx:a.eval x = .slice (some ad) 1 c)(hown:FO base w v l)(h0:w.cell? (ad.add 0)=some (.bool (negB q)))(h1:w.cell? (ad.add 1)=some (.slice uo un uc))(h2:w.cell? (ad.add 2)=some (.slice yo yn yc))(r1:Row w uo un uc (limbs q.num.natAbs))(r2:Row w yo yn yc (limbs q.den))(hle:l.length≤100000)(hb:base≤w.heap.size)(h:∀ v' w',FO base w' v' (l ++ [q])→Below base w w'→wpList Tryz.prog ops Q rest (a.put o.dst v') w'):wpList Tryz.prog ops Q (o :: rest) a w:=by
 obtain ⟨i,hi,hz0,hz1,hz2⟩:=info_parts Tryz.infoFra;obtain ⟨xs,hO,hC⟩:=hown
 have hob:∀ k,v.ownBlock=some k→base≤k:=by
  intro k hk;rcases hO.2 with ⟨rfl,_⟩ | ⟨g,cap,cur,rfl,h2,_⟩
  ·cases hk
  ·cases hk;exact h2
 refine wpList_append_own w hgd s x _ hop base 118 i (.agg #[.bool false,.slice none 0 0,.slice none 0 0]) 3 56 Tryz.underlying114 hi hz0 hz1 hz2 rfl (by decide) v l.length _ hs hO ad 1 c [.bool (negB q),.slice uo un uc,.slice yo yn yc] hx (by simp) ?_ ?_ (by unfold maxLen;omega) (by omega) hb ?_
 ·intro j u hj
  match j with
  | 0=>rw[h0];simpa using hj
  | 1=>rw[h1];simpa using hj
  | 2=>rw[h2];simpa using hj
  | j+3=>simp at hj
 ·intro u hu;simp at hu;rcases hu with rfl | rfl | rfl <;> rfl
 ·intro v' w' g1 g2 _
  have hkeep:∀ ao n cap xs,Row w ao n cap xs→Row w' ao n cap xs:=by
   intro ao n cap ys hr
   have key:∀ b o,ao=some ⟨b,o,none⟩→0<n→b<w.heap.size∧w'.heap[b]? = w.heap[b]?:=by
    intro b o e hn;obtain ⟨arr,fz,hh⟩:=hr.ib b o e hn;have hlt:=(Array.getElem?_eq_some_iff.1 hh).1;refine ⟨hlt,g2.block b hlt (fun hc=>?_)⟩;rcases hO.2 with ⟨rfl,_⟩ | ⟨g,cap,cur,rfl,_,h3,_⟩
    ·cases hc
    ·cases hc;rw[h3] at hh;cases hh
   refine ⟨hr.len,hr.le,hr.cm,fun hn=>?_,fun b o e hn=>?_,fun b o e j hj=>?_⟩
   ·obtain ⟨b,o,e,hlt⟩:=hr.head hn;exact ⟨b,o,e,Nat.lt_of_lt_of_le hlt g2.size⟩
   ·obtain ⟨arr,fz,hh⟩:=hr.ib b o e hn;exact ⟨arr,fz,(key b o e hn).2.trans hh⟩
   ·rw[← hr.cell b o e j hj];exact World.cell?_of_block (key b o e (by omega)).2
  have hxl:xs.length=l.length*3:=hO.1;refine h v' w' ⟨xs ++ [.bool (negB q),.slice uo un uc,.slice yo yn yc],by rw[List.length_append];exact g1,fun i hi=>?_⟩ ((Below.refl base w).grown g2 hb hob);rw[List.length_append,List.length_singleton] at hi;by_cases e:i<l.length
  ·(have hq:rq (l ++ [q]) i=rq l i:=by unfold rq;rw[List.getD_eq_getElem?_getD,List.getD_eq_getElem?_getD,List.getElem?_append_left e]);obtain ⟨ao,an,ac,bo,bn,bc,c0,c1,c2,s1,s2⟩:=hC i e;rw[hq];exact ⟨ao,an,ac,bo,bn,bc,by rw[List.getElem?_append_left (by omega)];exact c0,by rw[List.getElem?_append_left (by omega)];exact c1,by rw[List.getElem?_append_left (by omega)];exact c2,hkeep _ _ _ _ s1,hkeep _ _ _ _ s2⟩
  ·(obtain rfl:i=l.length:=by omega);(have hq:rq (l ++ [q]) l.length=q:=by unfold rq;rw[List.getD_eq_getElem?_getD,List.getElem?_append_right (Nat.le_refl _)];simp);rw[hq];refine ⟨uo,un,uc,yo,yn,yc,?_,?_,?_,hkeep _ _ _ _ r1,hkeep _ _ _ _ r2⟩
   ·rw[List.getElem?_append_right (by omega),hxl];simp
   ·rw[List.getElem?_append_right (by omega),hxl];simp
   ·rw[List.getElem?_append_right (by omega),hxl];simp
theorem Arr.alloc {w:World}{k:Nat}{ao:Option Addr}{n cap:Nat}{vs:List Value}(h:Arr w k ao n cap vs)(o:Obj):Arr (w.alloc o) k ao n cap vs:=h.below ((Below.refl _ _).alloc (Nat.le_refl _) o)
theorem Users.alloc {w:World}{ao:Option Addr}{n cap:Nat}{us:List Usr}(h:Users w ao n cap us)(o:Obj):Users (w.alloc o) ao n cap us:=h.below ((Below.refl _ _).alloc (Nat.le_refl _) o)
theorem Frs.alloc {w:World}{ao:Option Addr}{n cap:Nat}{f:Nat→Rat}(h:Frs w ao n cap f)(o:Obj):Frs (w.alloc o) ao n cap f:=h.below ((Below.refl _ _).alloc (Nat.le_refl _) o)
theorem FB.alloc {w:World}{g n k:Nat}{f:Nat→Rat}(h:FB w g n k f)(o:Obj):FB (w.alloc o) g n k f:=h.below ((Below.refl _ _).alloc (Nat.le_refl _) o)
theorem FO.alloc {base:Nat}{w:World}{v:Value}{l:List Rat}(h:FO base w v l)(o:Obj):FO base (w.alloc o) v l:=h.below ((Below.refl _ _).alloc (Nat.le_refl _) o)
theorem Arr.drew {w:World}{k:Nat}{ao:Option Addr}{n cap:Nat}{vs:List Value}(h:Arr w k ao n cap vs):Arr w.drew k ao n cap vs:=h.below (Below.refl _ _).drew
theorem Users.drew {w:World}{ao:Option Addr}{n cap:Nat}{us:List Usr}(h:Users w ao n cap us):Users w.drew ao n cap us:=h.below (Below.refl _ _).drew
theorem Frs.drew {w:World}{ao:Option Addr}{n cap:Nat}{f:Nat→Rat}(h:Frs w ao n cap f):Frs w.drew ao n cap f:=h.below (Below.refl _ _).drew
theorem FB.drew {w:World}{g n k:Nat}{f:Nat→Rat}(h:FB w g n k f):FB w.drew g n k f:=h.below (Below.refl _ _).drew
theorem FO.drew {base:Nat}{w:World}{v:Value}{l:List Rat}(h:FO base w v l):FO base w.drew v l:=h.below (Below.refl _ _).drew
theorem Tab.drew {w:World}(h:Tab w):Tab w.drew:=h.below (Below.refl _ _).drew
theorem Tab.of {w w':World}(h:Tab w)(hb:Below w.heap.size w w'):Tab w':=h.below hb
theorem Row.sm1 {w:World}{ao:Option Addr}{n cap:Nat}{q:Rat}{L:Nat}(h:Row w ao n cap (limbs q.num.natAbs))(hq:Sm q L):n≤L:=by rw[← h.len];exact hq.1
theorem Row.sm2 {w:World}{ao:Option Addr}{n cap:Nat}{q:Rat}{L:Nat}(h:Row w ao n cap (limbs q.den))(hq:Sm q L):n≤L:=by rw[← h.len];exact hq.2
theorem jK1 {x y:Rat}:cmpQ x y<0↔x<y:=by
 unfold cmpQ;split
 ·rename_i h;simp[h]
 ·rename_i h;split <;> simp[h]
theorem jKs {x y:Rat}:0<cmpQ x y↔y<x:=by
 unfold cmpQ;split
 ·rename_i h;simp;grind
 ·rename_i h;split
  ·rename_i e;simp;grind
  ·rename_i e;simp;grind
theorem jE2 {x y:Rat}:cmpQ x y=0↔x=y:=by
 unfold cmpQ;split
 ·rename_i h;simp;grind
 ·rename_i h;split
  ·rename_i e;simp[e]
  ·rename_i e;simp[e]
theorem Sm.int {n:Int}(h0:-100000000000000000000<n)(h1:n<100000000000000000000):Sm (n:Rat) 5:=by
 have e1:(n:Rat).num=n:=Rat.num_intCast n;have e2:(n:Rat).den=1:=Rat.den_intCast n;unfold Sm;rw[e1,e2];exact ⟨jAM (by omega),jAM (by omega)⟩
theorem Sm.amt {n:Int}(h:amtB n=true):Sm (n:Rat) 2:=by
 have e1:(n:Rat).num=n:=Rat.num_intCast n;have e2:(n:Rat).den=1:=Rat.den_intCast n;unfold amtB at h;rw[decide_eq_true_eq] at h;unfold Sm;rw[e1,e2];exact ⟨jAM (by omega),jAM (by omega)⟩
theorem jJG (po:Option Addr)(pn pc:Nat)(pool:List Int)(ao:Option Addr)(n cap:Nat)(us:List Usr)(w:World)(hp:Arr w 1 po pn pc (ints pool))(hu:Users w ao n cap us):Calls Tryz.prog 73 #[.slice po pn pc,.slice ao n cap] w fun e w'=>e = .returned (.int .i64 (errOf pool us))∧Below w.heap.size w w':=by
 have hpl:=hp.len;rw[jAG] at hpl;have hpm:pn≤maxLen:=Nat.le_trans hp.le hp.cm;have hul:=hu.1;(have hum:n≤maxLen:=by obtain ⟨_,vs,h1,_⟩:=hu;exact Nat.le_trans h1.le h1.cm);have HM:=hid hpm;unfold maxLen at hpm hum;have HP:=hid hp;have HU:=hid hu;clear hp hu;go_enter Tryz.func73,Tryz.ntmps73;go_wp2_with fail;refine (jH3 po pn pc pool _ HP.out).mono ?_;rintro e0 w0 ⟨rfl,rfl⟩
 cases h0:poolB pool with
 | false=>(have E:errOf pool us=3:=by unfold errOf;rw[if_pos h0]);have HE:=hid E;clear E;go_wp2;go_ret;exact ⟨by rw[HE.out];rfl,Below.refl _ _⟩
 | true=>
  by_cases h1:6<n
  ·(have E:errOf pool us=4:=by unfold errOf;rw[if_neg (by rw[h0];simp),if_pos (by omega)]);have HE:=hid E;clear E;(have h1':(6:Int)<n:=by omega);go_wp2;go_ret;exact ⟨by rw[HE.out];rfl,Below.refl _ _⟩
  ·(have h1':¬ (6:Int)<n:=by omega);have H0:=hid h0;go_wp2
   go_loopw [15] (fun i wr=>∃ k:Nat,k≤n∧i = .int .i64 k∧Hid ((us.take k).all (usrB pn)=true)∧Hid (Below w0.heap.size w0 wr)) (fun i _=>n - (intOf i).toNat)
   case atStart=>exact ⟨0,Nat.zero_le _,rfl,rfl,Below.refl _ _⟩
   case round=>
    obtain ⟨k,hk,rfl,hz,hB⟩:=hrel;by_cases hlt:k<n
    ·obtain ⟨b,o,da,dn,dc,rfl,hb,c0,c1,c2,hd⟩:=(HU.out.below hB.out).get hlt;have hst:=hid (jBi (usrB pn) us (i:=k) (by omega));have hget:=hid (jKu us (i:=k) (by omega));have hA:=(Below.refl _ wr).alloc (Nat.le_refl _) (.cells #[.slice da dn dc,.int .i64 (ug us k).wt,.int .i64 (ug us k).cap] 63);have HD:=hid (hd.below hA);have HB2:Hid (Below w0.heap.size w0 _):=hB.out.trans (hA.mono hB.out.size);clear hd hA;go_wp2_with fail;refine (jE4 da dn dc pn (ug us k) _ HD.out HM.out).mono ?_;rintro e1 w1 ⟨rfl,hb1⟩;have HB3:Hid (Below w0.heap.size w0 w1):=HB2.out.trans (hb1.mono HB2.out.size);clear hb1
     cases h2:usrB pn (ug us k) with
     | false=>(have E:errOf pool us=4:=by unfold errOf;rw[if_neg (by rw[h0];simp),if_neg (by omega),if_pos (jAx _ us (i:=k) (by omega) (by rw[hget.out,hpl];exact h2))]);have HE:=hid E;clear E;go_wp2;go_ret;exact ⟨by rw[HE.out];rfl,HB3.out⟩
     | true=>
      have H2:=hid h2;go_wp2
      go_roundw
      (case rel=>exact ⟨k+1,by omega,by go_num,by rw[Hid,hst.out,hz.out,hget.out,H2.out];rfl,HB3.out⟩);case measure=>simp[intOf];omega
    ·(obtain rfl:k=n:=by omega);(have E:errOf pool us=0:=by have:=hz.out;rw[List.take_of_length_le (by omega)] at this;unfold errOf;rw[if_neg (by rw[h0];simp),if_neg (by omega),if_neg (by rw[hpl,this];simp)]);have HE:=hid E;clear E;go_wp2;go_ret;exact ⟨by rw[HE.out];rfl,hB.out⟩
def Good (us:List Usr)(k:Nat):Prop:=∀ i,i<us.length→usrB k (ug us i)=true
theorem Good.cap {us:List Usr}{k i:Nat}(h:Good us k)(hi:i<us.length):0≤(ug us i).cap∧(ug us i).cap≤1000:=by
 have:=h i hi;unfold usrB at this;simp only[Bool.and_eq_true,decide_eq_true_eq] at this;exact ⟨this.1.1.2.2.2.1,this.1.1.2.2.2.2⟩
theorem Good.wt {us:List Usr}{k i:Nat}(h:Good us k)(hi:i<us.length):1≤(ug us i).wt∧(ug us i).wt≤100:=by
 have:=h i hi;unfold usrB at this;simp only[Bool.and_eq_true,decide_eq_true_eq] at this;exact ⟨this.1.1.2.1,this.1.1.2.2.1⟩
theorem Good.len {us:List Usr}{k i:Nat}(h:Good us k)(hi:i<us.length):(ug us i).dem.length=k:=by
 have:=h i hi;unfold usrB at this;simp only[Bool.and_eq_true,decide_eq_true_eq] at this;exact this.1.1.1
theorem jFr {xs:List Int}(h:amtsB xs=true)(r:Nat):amtB (lm xs r)=true:=by
 unfold lm;rw[List.getD_eq_getElem?_getD];by_cases hr:r<xs.length
 ·rw[List.getElem?_eq_getElem hr];unfold amtsB at h;rw[List.all_eq_true] at h;exact h _ (List.getElem_mem hr)
 ·rw[List.getElem?_eq_none (by omega)];decide
theorem jBI {x:Int}(h:amtB x=true):0≤x∧x≤10000:=by unfold amtB at h;simpa using h
theorem Good.dem {us:List Usr}{k i:Nat}(h:Good us k)(hi:i<us.length)(r:Nat):amtB (lm (ug us i).dem r)=true:=by
 have:=h i hi;unfold usrB at this;simp only[Bool.and_eq_true] at this;exact jFr this.1.2 r
theorem Good.some {us:List Usr}{k i:Nat}(h:Good us k)(hi:i<us.length):∃ r,r<k∧0<lm (ug us i).dem r:=by
 have h1:=h i hi;have h2:=h.len hi;unfold usrB at h1;simp only[Bool.and_eq_true] at h1;have h3:=h1.2;unfold wantsB at h3;rw[List.any_eq_true] at h3;obtain ⟨x,hx,hp⟩:=h3;obtain ⟨r,hr,rfl⟩:=List.getElem_of_mem hx;refine ⟨r,by omega,?_⟩;rw[← jD0 _ hr];simpa using hp
end Go.Proofs.YtigokanoflkinabGreatDoor
