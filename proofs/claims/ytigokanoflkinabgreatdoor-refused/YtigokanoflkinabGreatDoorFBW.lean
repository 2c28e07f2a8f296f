/- FBase, WLim, FFrac, FVals, WNeg, WChk, WCaps, joined. -/
import Derived.Test.YtigokanoflkinabGreatDoorWEx
import Derived.Test.YtigokanoflkinabGreatDoorMMath
import Derived.Laws.AppendOwnNone
set_option maxHeartbeats 1000000
set_option maxRecDepth 20000
namespace Go.Proofs.YtigokanoflkinabGreatDoor
set_option linter.unusedSimpArgs false
set_option linter.unusedVariables false
open Go.RowKit Por
structure Arr (w:World)(k:Nat)(ao:Option Addr)(n cap:Nat)(vs:List Value):Prop where
  len:vs.length=n
  le:n<=cap
  cm:cap<=maxLen
  head:0<n->∃ b o,ao=some ⟨b,o,none⟩/\b<w.heap.size
  cell:∀ b o,ao=some ⟨b,o,none⟩->∀ i v,vs[i]? = some v->∀ j u,v.cells[j]? = some u->w.cell? ⟨b,o+(i*k+j),none⟩=some u
theorem Arr.below {w w':World}{k:Nat}{ao:Option Addr}{n cap:Nat}{vs:List Value}(h:Arr w k ao n cap vs)(hb:Below w.heap.size w w'):Arr w' k ao n cap vs:=by
 refine ⟨h.len,h.le,h.cm,fun hn=>?_,fun b o e i v hv j u hu=>?_⟩
 ·obtain ⟨b,o,e,a⟩:=h.head hn;exact ⟨b,o,e,Nat.lt_of_lt_of_le a hb.size⟩
 ·have g:i<vs.length:=(List.getElem?_eq_some_iff.1 hv).1;have d:=h.len;obtain ⟨f,l,c,a⟩:=h.head (by omega);rw[e] at c;cases c;exact (hb.cell (p:=⟨b,o+(i*k+j),none⟩) a).trans (h.cell b o e i v hv j u hu)
theorem Arr.nil (w:World)(k:Nat):Arr w k none 0 0 []:=⟨rfl,Nat.le_refl _,Nat.zero_le _,fun h=>by omega,fun b o e=>(by cases e)⟩
def zg (xs:List Int):List Value:=xs.map (Value.int .i64)
theorem jDG (xs:List Int){i:Nat}(h:i<xs.length):(zg xs)[i]? = some (.int .i64 (lm xs i)):=by
 unfold zg lm;rw[List.getElem?_map,List.getElem?_eq_getElem h,List.getD_eq_getElem?_getD,List.getElem?_eq_getElem h];rfl
theorem jAG (xs:List Int):(zg xs).length=xs.length:=by simp[zg]
theorem Arr.int {w:World}{ao:Option Addr}{n cap:Nat}{xs:List Int}(h:Arr w 1 ao n cap (zg xs)){b o:Nat}(e:ao=some ⟨b,o,none⟩){i:Nat}(hi:i<n):w.cell? ⟨b,o+i,none⟩=some (.int .i64 (lm xs i)):=by
 have a:=h.len;rw[jAG] at a;have:=h.cell b o e i _ (jDG xs (by omega)) 0 (.int .i64 (lm xs i)) rfl
 simpa using this
structure Usr where
  dem:List Int
  wt:Int
  cap:Int
def UsrV (w:World)(v:Value)(u:Usr):Prop:=∃ ao n cap,v = .agg #[.slice ao n cap,.int .i64 u.wt,.int .i64 u.cap]/\Arr w 1 ao n cap (zg u.dem)
theorem UsrV.below {w w':World}{v:Value}{u:Usr}(h:UsrV w v u)(hb:Below w.heap.size w w'):UsrV w' v u:=by
 obtain ⟨b,n,a,e,h⟩:=h;exact ⟨b,n,a,e,h.below hb⟩
def ug (us:List Usr)(i:Nat):Usr:=us.getD i ⟨[],0,0⟩
def Users (w:World)(ao:Option Addr)(n cap:Nat)(us:List Usr):Prop:=us.length=n/\∃ vs,Arr w 3 ao n cap vs/\∀ i v,vs[i]? = some v->UsrV w v (ug us i)
theorem Users.below {w w':World}{ao:Option Addr}{n cap:Nat}{us:List Usr}(h:Users w ao n cap us)(hb:Below w.heap.size w w'):Users w' ao n cap us:=by
 obtain ⟨a,d,b,c⟩:=h;exact ⟨a,d,b.below hb,fun i v hv=>(c i v hv).below hb⟩
theorem Users.get {w:World}{ao:Option Addr}{n cap:Nat}{us:List Usr}(h:Users w ao n cap us){i:Nat}(hi:i<n):∃ b o da dn dc,ao=some ⟨b,o,none⟩/\b<w.heap.size/\w.cell? ⟨b,o+i*3,none⟩=some (.slice da dn dc)/\w.cell? ⟨b,o+i*3+1,none⟩=some (.int .i64 (ug us i).wt)/\w.cell? ⟨b,o+i*3+2,none⟩=some (.int .i64 (ug us i).cap)/\Arr w 1 da dn dc (zg (ug us i).dem):=by
 obtain ⟨l,g,a,j⟩:=h;have m:=a.len;obtain ⟨b,o,e,f⟩:=a.head (by omega);have c:g[i]? = some g[i]:=List.getElem?_eq_getElem (by omega);obtain ⟨da,dn,dc,d,k⟩:=j i _ c;refine ⟨b,o,da,dn,dc,e,f,?_,?_,?_,k⟩
 ·have:=a.cell b o e i _ c 0 (.slice da dn dc) (by rw[d];rfl)
  simpa using this
 ·have:=a.cell b o e i _ c 1 (.int .i64 (ug us i).wt) (by rw[d];rfl)
  rwa [<- Nat.add_assoc] at this
 ·have:=a.cell b o e i _ c 2 (.int .i64 (ug us i).cap) (by rw[d];rfl)
  rwa [<- Nat.add_assoc] at this
def yE (x:Int):Bool:=decide (0<=x/\x<=10000)
def xC (xs:List Int):Bool:=xs.all yE
def poolB (xs:List Int):Bool:=decide (1<=xs.length/\xs.length<=4) && xC xs
def xN (xs:List Int):Bool:=xs.any (fun x=>decide (0<x))
def yN (k:Nat)(u:Usr):Bool:=decide (u.dem.length=k) && decide (1<=u.wt/\u.wt<=100/\0<=u.cap/\u.cap<=1000) && xC u.dem && xN u.dem
def yF (pool:List Int)(us:List Usr):Int:=if poolB pool=false then 3 else if 6<us.length then 4 else if us.all (yN pool.length)=false then 4 else 0
theorem jBm {α:Type}(p:α->Bool)(xs:List α){i:Nat}(h:i<xs.length):(xs.take (i+1)).all p=((xs.take i).all p && p xs[i]):=by
 rw[List.take_succ_eq_append_getElem h,List.all_append];simp
theorem jFs {α:Type}(p:α->Bool)(xs:List α){i:Nat}(h:i<xs.length):(xs.take (i+1)).any p=((xs.take i).any p || p xs[i]):=by
 rw[List.take_succ_eq_append_getElem h,List.any_append];simp
theorem jEs (xs:List Int){i:Nat}(h:i<xs.length):xs[i]=lm xs i:=by
 unfold lm;rw[List.getD_eq_getElem?_getD,List.getElem?_eq_getElem h];rfl
theorem jLy (us:List Usr){i:Nat}(h:i<us.length):us[i]=ug us i:=by
 unfold ug;rw[List.getD_eq_getElem?_getD,List.getElem?_eq_getElem h];rfl
theorem jA4 {α:Type}(p:α->Bool)(xs:List α){i:Nat}(h:i<xs.length)(hp:p xs[i]=false):xs.all p=false:=by
 rw[List.all_eq_false];exact ⟨xs[i],List.getElem_mem h,by simp[hp]⟩
theorem jHK {α:Type}(p:α->Bool)(xs:List α){i:Nat}(h:i<xs.length)(hp:p xs[i]=true):xs.any p=true:=by
 rw[List.any_eq_true];exact ⟨xs[i],List.getElem_mem h,hp⟩
def uptB (m x:Int):Bool:=decide (0<=x/\x<=m)
def yt (lo hi k:Int):Bool:=decide (lo<=k/\k<=hi)
theorem jCT {lo hi k:Int}(h:lo<=k/\k<=hi):yt lo hi k=true:=decide_eq_true h
theorem jCZ {lo hi k:Int}(h:¬ (lo<=k/\k<=hi)):yt lo hi k=false:=decide_eq_false h
def xZ (m:Int)(xs:List Int):Bool:=xs.all (uptB m)
theorem jGt (xs:List Int):xZ 10000 xs=xC xs:=rfl
theorem jDM (ao:Option Addr)(n cap:Nat)(xs:List Int)(m:Int)(w:World)(hr:Arr w 1 ao n cap (zg xs)):Calls Tryz.prog 78 #[.slice ao n cap,.int .i64 m] w fun e w'=>e = .returned (.bool (xZ m xs))/\w'=w:=by
 have d:=hr.len;rw[jAG] at d;have r:=hr.le;have g:=hr.cm;unfold maxLen at g;have l:=hid hr;clear hr;go_enter Tryz.func78,Tryz.ntmps78;go_wp2
 go_loop[9] (fun i=>∃ k:Nat,k<=n/\i = .int .i64 k/\Hid ((xs.take k).all (uptB m)=true)) (fun i=>n - (intOf i).toNat)
 case atStart=>exact ⟨0,Nat.zero_le _,rfl,rfl⟩
 case round=>
  obtain ⟨k,v,rfl,p⟩:=hrel;by_cases h:k<n
  ·obtain ⟨b,o,rfl,u⟩:=l.out.head (by omega);have q:=l.out.int rfl h;have j:=hid (jBm (uptB m) xs (i:=k) (by omega));have a:=hid (jEs xs (i:=k) (by omega));generalize hx:lm xs k=x at q;have f:=hid hx;clear hx;by_cases s:x<0
   ·have E:xZ m xs=false:=jA4 (uptB m) xs (i:=k) (by omega) (by rw[a.out,f.out];unfold uptB;rw[decide_eq_false_iff_not];omega);have c:=hid E;clear E;go_wp2;go_ret;exact ⟨by rw[c.out];rfl,rfl⟩
   ·by_cases t:m<x
    ·have E:xZ m xs=false:=jA4 (uptB m) xs (i:=k) (by omega) (by rw[a.out,f.out];unfold uptB;rw[decide_eq_false_iff_not];omega);have c:=hid E;clear E;go_wp2;go_ret;exact ⟨by rw[c.out];rfl,rfl⟩
    ·(have E:uptB m x=true:=by unfold uptB;rw[decide_eq_true_eq];omega);have c:=hid E;clear E;go_wp2;exact ⟨⟨k+1,by omega,by go_num,by rw[Hid,j.out,p.out,a.out,f.out,c.out];rfl⟩,by simp[intOf];omega⟩
  ·obtain rfl:k=n:=by omega
   have E:xZ m xs=true:=by
    have:=p.out
    rwa [List.take_of_length_le (by omega)] at this
   have c:=hid E;clear E;go_wp2;go_ret;exact ⟨by rw[c.out];rfl,rfl⟩
theorem jFx (ao:Option Addr)(n cap:Nat)(u:Usr)(w:World)(hr:Arr w 1 ao n cap (zg u.dem)):Calls Tryz.prog 83 #[.agg #[.slice ao n cap,.int .i64 u.wt,.int .i64 u.cap]] w fun e w'=>e = .returned (.bool (xN u.dem))/\Below w.heap.size w w':=by
 have d:=hr.len;rw[jAG] at d;have t:=hr.le;have g:=hr.cm;unfold maxLen at g;have f:=(Below.refl _ w).alloc (Nat.le_refl _) (.cells #[.slice ao n cap,.int .i64 u.wt,.int .i64 u.cap] 63);have m:=hid (hr.below f);have l:=hid f;clear hr f;go_enter Tryz.func83,Tryz.ntmps83;go_wp2
 go_loop[8] (fun i=>∃ k:Nat,k<=n/\i = .int .i64 k/\Hid ((u.dem.take k).any (fun x=>decide (0<x))=false)) (fun i=>n - (intOf i).toNat)
 case atStart=>exact ⟨0,Nat.zero_le _,rfl,rfl⟩
 case round=>
  obtain ⟨k,y,rfl,r⟩:=hrel;by_cases h:k<n
  ·obtain ⟨b,o,rfl,v⟩:=m.out.head (by omega);have s:=m.out.int rfl h;have j:=hid (jFs (fun x=>decide (0<x)) u.dem (i:=k) (by omega));have a:=hid (jEs u.dem (i:=k) (by omega));generalize hx:lm u.dem k=x at s;have p:=hid hx;clear hx;by_cases q:0<x
   ·have E:xN u.dem=true:=jHK _ u.dem (i:=k) (by omega) (by rw[a.out,p.out];exact decide_eq_true q);have c:=hid E;clear E;go_wp2;go_ret;exact ⟨by rw[c.out];rfl,l.out⟩
   ·have E:decide (0<x)=false:=decide_eq_false q;have c:=hid E;clear E;go_wp2;exact ⟨⟨k+1,by omega,by go_num,by rw[Hid,j.out,r.out,a.out,p.out,c.out];rfl⟩,by simp[intOf];omega⟩
  ·obtain rfl:k=n:=by omega
   have E:xN u.dem=false:=by
    have:=r.out
    rwa [List.take_of_length_le (by omega)] at this
   have c:=hid E;clear E;go_wp2;go_ret;exact ⟨by rw[c.out];rfl,l.out⟩
theorem jE1 (k:Int)(w:World):Calls Tryz.prog 37 #[.int .i64 k] w fun e w'=>e = .returned (.bool (yt 1 4 k))/\w'=w:=by
 by_cases a:1<=k
 ·by_cases b:k<=4
  ·have E:=hid (jCT (lo:=1) (hi:=4) (k:=k) ⟨a,b⟩);go_enter Tryz.func37,Tryz.ntmps37;go_wp2;go_ret;exact ⟨by rw[E.out];rfl,rfl⟩
  ·have E:=hid (jCZ (lo:=1) (hi:=4) (k:=k) (by omega));go_enter Tryz.func37,Tryz.ntmps37;go_wp2;go_ret;exact ⟨by rw[E.out];rfl,rfl⟩
 ·have E:=hid (jCZ (lo:=1) (hi:=4) (k:=k) (by omega));go_enter Tryz.func37,Tryz.ntmps37;go_wp2;go_ret;exact ⟨by rw[E.out];rfl,rfl⟩
theorem jB2 (k:Int)(w:World):Calls Tryz.prog 69 #[.int .i64 k] w fun e w'=>e = .returned (.bool (yt 1 100 k))/\w'=w:=by
 by_cases a:1<=k
 ·by_cases b:k<=100
  ·have E:=hid (jCT (lo:=1) (hi:=100) (k:=k) ⟨a,b⟩);go_enter Tryz.func69,Tryz.ntmps69;go_wp2;go_ret;exact ⟨by rw[E.out];rfl,rfl⟩
  ·have E:=hid (jCZ (lo:=1) (hi:=100) (k:=k) (by omega));go_enter Tryz.func69,Tryz.ntmps69;go_wp2;go_ret;exact ⟨by rw[E.out];rfl,rfl⟩
 ·have E:=hid (jCZ (lo:=1) (hi:=100) (k:=k) (by omega));go_enter Tryz.func69,Tryz.ntmps69;go_wp2;go_ret;exact ⟨by rw[E.out];rfl,rfl⟩
theorem jE4 (k:Int)(w:World):Calls Tryz.prog 70 #[.int .i64 k] w fun e w'=>e = .returned (.bool (yt 0 1000 k))/\w'=w:=by
 by_cases a:0<=k
 ·by_cases b:k<=1000
  ·have E:=hid (jCT (lo:=0) (hi:=1000) (k:=k) ⟨a,b⟩);go_enter Tryz.func70,Tryz.ntmps70;go_wp2;go_ret;exact ⟨by rw[E.out];rfl,rfl⟩
  ·have E:=hid (jCZ (lo:=0) (hi:=1000) (k:=k) (by omega));go_enter Tryz.func70,Tryz.ntmps70;go_wp2;go_ret;exact ⟨by rw[E.out];rfl,rfl⟩
 ·have E:=hid (jCZ (lo:=0) (hi:=1000) (k:=k) (by omega));go_enter Tryz.func70,Tryz.ntmps70;go_wp2;go_ret;exact ⟨by rw[E.out];rfl,rfl⟩
theorem jG2 {xs:List Int}(h:xs.length<1∨4<xs.length):poolB xs=false:=by
 unfold poolB;have:decide (1<=xs.length/\xs.length<=4)=false:=decide_eq_false (by omega);rw[this];rfl
theorem jJ7 {xs:List Int}(h:1<=xs.length)(h2:xs.length<=4):poolB xs=xC xs:=by
 unfold poolB;have:decide (1<=xs.length/\xs.length<=4)=true:=decide_eq_true ⟨h,h2⟩;rw[this];rfl
theorem jId (ao:Option Addr)(n cap:Nat)(xs:List Int)(w:World)(hr:Arr w 1 ao n cap (zg xs)):Calls Tryz.prog 88 #[.slice ao n cap] w fun e w'=>e = .returned (.bool (poolB xs))/\w'=w:=by
 have a:=hr.len;rw[jAG] at a;have d:=hr.le;have b:=hr.cm;unfold maxLen at b;have c:=hid hr;clear hr;go_enter Tryz.func88,Tryz.ntmps88;go_wp2_with fail;refine (jE1 (n:Int) _).mono ?_;rintro e f ⟨rfl,rfl⟩;by_cases h:1<=(n:Int)/\(n:Int)<=4
 ·rw[jCT h];have E:=hid (jJ7 (xs:=xs) (by omega) (by omega));go_wp2_with fail;refine (jDM ao n cap xs 10000 _ c.out).mono ?_;rintro e g ⟨rfl,rfl⟩;go_wp2;go_ret;exact ⟨by rw[E.out,jGt];rfl,rfl⟩
 ·rw[jCZ h];have E:=hid (jG2 (xs:=xs) (by omega));go_wp2;go_ret;exact ⟨by rw[E.out];rfl,rfl⟩
theorem jF8 (k:Nat)(u:Usr)(a b c d:Bool)(h1:decide (u.dem.length=k)=a)(h2:decide (1<=u.wt/\u.wt<=100/\0<=u.cap/\u.cap<=1000)=b)(h3:xC u.dem=c)(h4:xN u.dem=d):yN k u=(a && b && c && d):=by
 unfold yN;rw[h1,h2,h3,h4]
theorem jFV (ao:Option Addr)(n cap k:Nat)(u:Usr)(w:World)(hr:Arr w 1 ao n cap (zg u.dem))(hk:k<=maxLen):Calls Tryz.prog 68 #[.agg #[.slice ao n cap,.int .i64 u.wt,.int .i64 u.cap],.int .i64 k] w fun e w'=>e = .returned (.bool (yN k u))/\Below w.heap.size w w':=by
 have a:=hr.len;rw[jAG] at a;have r:=hr.le;have l:=hr.cm;unfold maxLen at l hk;have j:=(Below.refl _ w).alloc (Nat.le_refl _) (.cells #[.slice ao n cap,.int .i64 u.wt,.int .i64 u.cap] 63);have m:=hid (hr.below j);have b:=hid j;clear hr j;by_cases o:n=k
 ·subst o;by_cases c:1<=u.wt/\u.wt<=100
  ·by_cases g:0<=u.cap/\u.cap<=1000
   ·have E:=hid (jF8 n u true true _ _ (by rw[a];exact decide_eq_true rfl) (decide_eq_true ⟨c.1,c.2,g.1,g.2⟩) rfl rfl);go_enter Tryz.func68,Tryz.ntmps68;go_wp2_with fail;refine (jB2 u.wt _).mono ?_;rintro e f ⟨rfl,rfl⟩;rw[jCT c];go_wp2_with fail;refine (jE4 u.cap _).mono ?_;rintro e f ⟨rfl,rfl⟩;rw[jCT g];go_wp2_with fail;refine (jDM ao n cap u.dem 10000 _ m.out).mono ?_;rintro e f ⟨rfl,rfl⟩;rw[jGt]
    cases p:xC u.dem with
    | false=>have h:=hid p;go_wp2;go_ret;exact ⟨by rw[E.out,h.out];rfl,b.out⟩
    | true=>have h:=hid p;go_wp2_with fail;refine (jFx ao n cap u _ m.out).mono ?_;rintro e s ⟨rfl,d⟩;have i:=hid (b.out.trans (d.mono b.out.size));clear d;go_wp2;go_ret;exact ⟨by rw[E.out,h.out];rfl,i.out⟩
   ·have E:=hid (jF8 n u true false _ _ (by rw[a];exact decide_eq_true rfl) (decide_eq_false (by omega)) rfl rfl);go_enter Tryz.func68,Tryz.ntmps68;go_wp2_with fail;refine (jB2 u.wt _).mono ?_;rintro e f ⟨rfl,rfl⟩;rw[jCT c];go_wp2_with fail;refine (jE4 u.cap _).mono ?_;rintro e f ⟨rfl,rfl⟩;rw[jCZ g];go_wp2;go_ret;exact ⟨by rw[E.out];rfl,b.out⟩
  ·have E:=hid (jF8 n u true false _ _ (by rw[a];exact decide_eq_true rfl) (decide_eq_false (by omega)) rfl rfl);go_enter Tryz.func68,Tryz.ntmps68;go_wp2_with fail;refine (jB2 u.wt _).mono ?_;rintro e f ⟨rfl,rfl⟩;rw[jCZ c];go_wp2;go_ret;exact ⟨by rw[E.out];rfl,b.out⟩
 ·(have q:((n:Int) == (k:Int))=false:=by rw[beq_eq_false_iff_ne];omega);have E:=hid (jF8 k u false _ _ _ (by rw[a];exact decide_eq_false o) rfl rfl rfl);go_enter Tryz.func68,Tryz.ntmps68;go_wp2;go_ret;exact ⟨by rw[E.out];rfl,b.out⟩
def Frs (w:World)(ao:Option Addr)(n cap:Nat)(f:Nat->Rat):Prop:=∃ vs,Arr w 3 ao n cap vs/\∀ i v,vs[i]? = some v->Frac w v (f i)
theorem Frs.below {w w':World}{ao:Option Addr}{n cap:Nat}{f:Nat->Rat}(h:Frs w ao n cap f)(hb:Below w.heap.size w w'):Frs w' ao n cap f:=by
 obtain ⟨c,a,b⟩:=h;exact ⟨c,a.below hb,fun i v hv=>(b i v hv).below hb⟩
theorem Frs.congr {w:World}{ao:Option Addr}{n cap:Nat}{f g:Nat->Rat}(h:Frs w ao n cap f)(e:∀ i,i<n->f i=g i):Frs w ao n cap g:=by
 obtain ⟨c,a,b⟩:=h;refine ⟨c,a,fun i v hv=>?_⟩;have:=(List.getElem?_eq_some_iff.1 hv).1;rw[<- e i (by have:=a.len;omega)];exact b i v hv
theorem Frs.le {w:World}{ao:Option Addr}{n cap:Nat}{f:Nat->Rat}(h:Frs w ao n cap f):n<=maxLen:=by
 obtain ⟨c,a,b⟩:=h;exact Nat.le_trans a.le a.cm
theorem Frs.get {w:World}{ao:Option Addr}{n cap:Nat}{f:Nat->Rat}(h:Frs w ao n cap f){i:Nat}(hi:i<n):∃ b o uo un uc yo yn yc,ao=some ⟨b,o,none⟩/\b<w.heap.size/\w.cell? ⟨b,o+i*3,none⟩=some (.bool (negB (f i)))/\w.cell? ⟨b,o+i*3+1,none⟩=some (.slice uo un uc)/\w.cell? ⟨b,o+i*3+2,none⟩=some (.slice yo yn yc)/\Row w uo un uc (zA (f i).num.natAbs)/\Row w yo yn yc (zA (f i).den):=by
 obtain ⟨l,a,m⟩:=h;have p:=a.len;obtain ⟨b,o,e,g⟩:=a.head (by omega);have c:l[i]? = some l[i]:=List.getElem?_eq_getElem (by omega);obtain ⟨uo,un,uc,yo,yn,yc,d,j,k⟩:=m i _ c;refine ⟨b,o,uo,un,uc,yo,yn,yc,e,g,?_,?_,?_,j,k⟩
 ·have:=a.cell b o e i _ c 0 (.bool (negB (f i))) (by rw[d];rfl)
  simpa using this
 ·have:=a.cell b o e i _ c 1 (.slice uo un uc) (by rw[d];rfl)
  rwa [<- Nat.add_assoc] at this
 ·have:=a.cell b o e i _ c 2 (.slice yo yn yc) (by rw[d];rfl)
  rwa [<- Nat.add_assoc] at this
def FB (w:World)(g n k:Nat)(f:Nat->Rat):Prop:=∃ arr,w.heap[g]? = some (.cells arr 118 (0,0))/\arr.size=n*3/\∀ i,i<k->∃ uo un uc yo yn yc,arr[i*3]? = some (.bool (negB (f i)))/\arr[i*3+1]? = some (.slice uo un uc)/\arr[i*3+2]? = some (.slice yo yn yc)/\Row w uo un uc (zA (f i).num.natAbs)/\Row w yo yn yc (zA (f i).den)
theorem FB.lt {w:World}{g n k:Nat}{f:Nat->Rat}(h:FB w g n k f):g<w.heap.size:=by
 obtain ⟨a,b,_⟩:=h;exact (Array.getElem?_eq_some_iff.1 b).1
theorem FB.below {w w':World}{g n k:Nat}{f:Nat->Rat}(h:FB w g n k f)(hb:Below w.heap.size w w'):FB w' g n k f:=by
 obtain ⟨a,b,j,l⟩:=h;refine ⟨a,(hb.block g (Array.getElem?_eq_some_iff.1 b).1).trans b,j,fun i hi=>?_⟩;obtain ⟨r,q,p,u,t,s,c,d,e,m,o⟩:=l i hi;exact ⟨r,q,p,u,t,s,c,d,e,m.below hb,o.below hb⟩
theorem FB.congr {w:World}{g n k:Nat}{f f':Nat->Rat}(h:FB w g n k f)(e:∀ i,i<k->f i=f' i):FB w g n k f':=by
 obtain ⟨a,b,c,d⟩:=h;exact ⟨a,b,c,fun i hi=>by rw[<- e i hi];exact d i hi⟩
theorem FB.frs {w:World}{g n:Nat}{f:Nat->Rat}(h:FB w g n n f)(hn:n<=maxLen):Frs w (some ⟨g,0,none⟩) n n f:=by
 obtain ⟨d,t,H,x⟩:=h;(have r:∀ i,i<n->∃ a b c:Value,d[i*3]? = some a/\d[i*3+1]? = some b/\d[i*3+2]? = some c/\Frac w (.agg #[a,b,c]) (f i):=fun i k=>by obtain ⟨D,C,B,G,F,E,m,p,q,z,A⟩:=x i k;exact ⟨_,_,_,m,p,q,D,C,B,G,F,E,rfl,z,A⟩);refine ⟨(List.range n).map (fun i=>.agg #[d.getD (i*3) (.bool false),d.getD (i*3+1) (.bool false),d.getD (i*3+2) (.bool false)]),⟨by simp,Nat.le_refl _,hn,fun _=>⟨g,0,rfl,(Array.getElem?_eq_some_iff.1 t).1⟩,?_⟩,?_⟩
 ·intro b o e i v l j u s
  cases e
  (have k:i<n:=by simpa using (List.getElem?_eq_some_iff.1 l).1);obtain ⟨a,b,c,m,p,q,_⟩:=r i k;rw[List.getElem?_map,List.getElem?_range k] at l
  cases l
  rw[Nat.zero_add,cell_of_row w g _ _ _ _ t]
  match j with
  | 0=>rw[Nat.add_zero,m,<- s];simp[Value.cells,m,Array.getD_eq_getD_getElem?]
  | 1=>rw[p,<- s];simp[Value.cells,p,Array.getD_eq_getD_getElem?]
  | 2=>rw[q,<- s];simp[Value.cells,q,Array.getD_eq_getD_getElem?]
  | j+3=>simp[Value.cells] at s
 ·intro i v l;(have k:i<n:=by simpa using (List.getElem?_eq_some_iff.1 l).1);obtain ⟨a,b,c,m,p,q,y⟩:=r i k;rw[List.getElem?_map,List.getElem?_range k] at l
  cases l
  simp only[Array.getD_eq_getD_getElem?,m,p,q,Option.getD_some];exact y
def yd (w:World)(g o:Nat)(u0 u1 u2:Value):World:=((w.setCell ⟨g,o,none⟩ u0).setCell ⟨g,o+1,none⟩ u1).setCell ⟨g,o+2,none⟩ u2
theorem Row.otherB {w:World}{ao:Option Addr}{n cap:Nat}{xs:List Int}(h:Row w ao n cap xs)(b i:Nat)(v:Value){arr:Array Value}{T:TypeId}{fz:Nat×Nat}(hx:w.heap[b]? = some (.cells arr T fz))(hT:T≠3):Row (w.setCell ⟨b,i,none⟩ v) ao n cap xs:=by
 (have d:∀ a o,ao=some ⟨a,o,none⟩->0<n->a≠b:=by intro a o e c k;subst k;obtain ⟨arr,fz,f⟩:=h.ib a o e c;rw[hx] at f;cases f;exact hT rfl);refine ⟨h.len,h.le,h.cm,fun c=>?_,fun a o e c=>?_,fun a o e j hj=>?_⟩
 ·obtain ⟨b,o,e,g⟩:=h.head c;exact ⟨b,o,e,by simpa [World.setCell] using g⟩
 ·obtain ⟨arr,fz,f⟩:=h.ib a o e c;exact ⟨arr,fz,(Below.heap_setCell w _ v a (d a o e c)).trans f⟩
 ·rw[<- h.cell a o e j hj];exact World.cell?_of_block (Below.heap_setCell w _ v a (d a o e (by omega)))
theorem jDr {w:World}{g o:Nat}{u0 u1 u2:Value}{arr:Array Value}{T:TypeId}(h:w.heap[g]? = some (.cells arr T (0,0))):(yd w g o u0 u1 u2).heap[g]? = some (.cells (((arr.set! o u0).set! (o+1) u1).set! (o+2) u2) T (0,0)):=by
 unfold yd;have a:=heap_setCell_same w g o _ _ u0 h;have b:=heap_setCell_same _ g (o+1) _ _ u1 a;exact heap_setCell_same _ g (o+2) _ _ u2 b
theorem Row.putA {w:World}{ao:Option Addr}{n cap:Nat}{xs:List Int}(h:Row w ao n cap xs){g o:Nat}{u0 u1 u2:Value}{arr:Array Value}{T:TypeId}(hx:w.heap[g]? = some (.cells arr T (0,0)))(hT:T≠3):Row (yd w g o u0 u1 u2) ao n cap xs:=by
 have a:=heap_setCell_same w g o _ _ u0 hx;have b:=heap_setCell_same _ g (o+1) _ _ u1 a;exact ((h.otherB g o u0 hx hT).otherB g (o+1) u1 a hT).otherB g (o+2) u2 b hT
theorem jBD {B:Nat}{a w:World}(h:Below B a w){g o:Nat}(hb:B<=g)(u0 u1 u2:Value):Below B a (yd w g o u0 u1 u2):=((h.setCell hb u0).setCell hb u1).setCell hb u2
theorem Bx.putA_other {w:World} {b g o:Nat} {cs:Array Value} {T:TypeId} (h:Bx w b cs T) (u0 u1 u2:Value) (hne:g≠b):Bx (yd w g o u0 u1 u2) b cs T:=
  ((Bx.other h ⟨g,o,none⟩ u0 hne).other ⟨g,o+1,none⟩ u1 hne).other ⟨g,o+2,none⟩ u2 hne
def upd (f:Nat->Rat)(i:Nat)(q:Rat):Nat->Rat:=fun j=>if j=i then q else f j
theorem jB3 (f:Nat->Rat)(i:Nat)(q:Rat):upd f i q i=q:=if_pos rfl
theorem jBh (f:Nat->Rat){i j:Nat}(q:Rat)(h:j≠i):upd f i q j=f j:=if_neg h
theorem jKk {arr:Array Value}{n i:Nat}(hs:arr.size=n*3)(hi:i<n)(u0 u1 u2:Value):(((arr.set! (i*3) u0).set! (i*3+1) u1).set! (i*3+2) u2)[i*3]? = some u0/\(((arr.set! (i*3) u0).set! (i*3+1) u1).set! (i*3+2) u2)[i*3+1]? = some u1/\(((arr.set! (i*3) u0).set! (i*3+1) u1).set! (i*3+2) u2)[i*3+2]? = some u2/\∀ j,(j<i*3∨i*3+2<j)->(((arr.set! (i*3) u0).set! (i*3+1) u1).set! (i*3+2) u2)[j]? = arr[j]?:=by
 (have a:i*3<arr.size:=by omega);(have b:i*3+1<arr.size:=by omega);(have c:i*3+2<arr.size:=by omega);simp only[Array.set!_eq_setIfInBounds];refine ⟨?_,?_,?_,?_⟩
 ·rw[Array.getElem?_setIfInBounds_ne (by omega),Array.getElem?_setIfInBounds_ne (by omega),Array.getElem?_setIfInBounds_self_of_lt a]
 ·rw[Array.getElem?_setIfInBounds_ne (by omega),Array.getElem?_setIfInBounds_self_of_lt (by simpa using b)]
 ·rw[Array.getElem?_setIfInBounds_self_of_lt (by simpa using c)]
 ·intro j d;rw[Array.getElem?_setIfInBounds_ne (by omega),Array.getElem?_setIfInBounds_ne (by omega),Array.getElem?_setIfInBounds_ne (by omega)]
theorem FB.put {w:World}{g n k i:Nat}{f:Nat->Rat}(h:FB w g n k f)(hi:i<n)(hk:i<=k)(q:Rat){uo yo:Option Addr}{un uc yn yc:Nat}(r1:Row w uo un uc (zA q.num.natAbs))(r2:Row w yo yn yc (zA q.den)):FB (yd w g (i*3) (.bool (negB q)) (.slice uo un uc) (.slice yo yn yc)) g n (if i=k then k+1 else k) (upd f i q):=by
 obtain ⟨arr,a,d,A⟩:=h;obtain ⟨x,y,z,b⟩:=jKk (arr:=arr) d hi (.bool (negB q)) (.slice uo un uc) (.slice yo yn yc);refine ⟨_,jDr a,by simp[d],fun j hj=>?_⟩;by_cases e:j=i
 ·subst e;rw[jB3];exact ⟨uo,un,uc,yo,yn,yc,x,y,z,r1.putA a (by decide),r2.putA a (by decide)⟩
 ·rw[jBh _ _ e];(have c:j<k:=by split at hj <;> omega);obtain ⟨o,m,l,s,r,p,t,u,v,B,C⟩:=A j c;refine ⟨o,m,l,s,r,p,?_,?_,?_,B.putA a (by decide),C.putA a (by decide)⟩
  ·rw[b _ (by omega)];exact t
  ·rw[b _ (by omega)];exact u
  ·rw[b _ (by omega)];exact v
theorem FB.cells {w:World}{g n k i:Nat}{f:Nat->Rat}(h:FB w g n k f)(hi:i<k):∃ uo un uc yo yn yc,w.cell? ⟨g,i*3,none⟩=some (.bool (negB (f i)))/\w.cell? ⟨g,i*3+1,none⟩=some (.slice uo un uc)/\w.cell? ⟨g,i*3+2,none⟩=some (.slice yo yn yc)/\Row w uo un uc (zA (f i).num.natAbs)/\Row w yo yn yc (zA (f i).den):=by
 obtain ⟨b,a,o,j⟩:=h;obtain ⟨uo,un,uc,yo,yn,yc,c,d,e,l,m⟩:=j i hi;exact ⟨uo,un,uc,yo,yn,yc,(cell_of_row w g _ _ _ _ a).trans c,(cell_of_row w g _ _ _ _ a).trans d,(cell_of_row w g _ _ _ _ a).trans e,l,m⟩
theorem FB.frozen {w:World}{g n k:Nat}{f:Nat->Rat}(h:FB w g n k f)(j:Nat):w.frozen? ⟨g,j,none⟩=false:=by
 obtain ⟨a,b,_⟩:=h;exact frozen_of_row w g j _ _ b
theorem FB.has {w:World}{g n k:Nat}{f:Nat->Rat}(h:FB w g n k f){j:Nat}(hj:j<n*3):∃ x,w.cell? ⟨g,j,none⟩=some x:=by
 obtain ⟨a,b,c,_⟩:=h;exact ⟨a[j]'(by omega),(cell_of_row w g j _ _ _ b).trans (Array.getElem?_eq_getElem (by omega))⟩
theorem FB.other {w:World}{g n k:Nat}{f:Nat->Rat}(h:FB w g n k f){b i:Nat}{v:Value}{arr:Array Value}{T:TypeId}{fz:Nat×Nat}(hx:w.heap[b]? = some (.cells arr T fz))(hT:T≠3)(hne:b≠g):FB (w.setCell ⟨b,i,none⟩ v) g n k f:=by
 obtain ⟨a,m,o,p⟩:=h;refine ⟨a,(heap_setCell_other w ⟨b,i,none⟩ g v (fun e=>hne e.symm)).trans m,o,fun j hj=>?_⟩;obtain ⟨u,t,s,z,y,x,c,d,l,q,r⟩:=p j hj;exact ⟨u,t,s,z,y,x,c,d,l,q.otherB b i v hx hT,r.otherB b i v hx hT⟩
theorem FB.putA_other {w:World}{g n k:Nat}{f:Nat->Rat}(h:FB w g n k f){b o:Nat}{u0 u1 u2:Value}{arr:Array Value}{T:TypeId}(hx:w.heap[b]? = some (.cells arr T (0,0)))(hT:T≠3)(hne:b≠g):FB (yd w b o u0 u1 u2) g n k f:=by
 have a:=heap_setCell_same w b o _ _ u0 hx;have c:=heap_setCell_same _ b (o+1) _ _ u1 a;exact ((h.other hx hT hne).other a hT hne).other c hT hne
theorem Tryz.infoFra:(Tryz.prog.info? 118).map (fun i=>(i.zero,i.size,i.bytes))=some (some (.agg #[.bool false,.slice none 0 0,.slice none 0 0]),3,56):=by kernel_rfl
theorem jBl (w:World){ops:Array Oper}{rest:List Oper}{o:Oper}{a:Act}{Q:Exit->Act->World->Prop}(hg:o.guard=none)(l c:Operand)(hop:o.op=Op.makeSlice 114 l c)(L C:Int)(n:Nat)(hl:a.eval l = .int .i64 L)(hc:a.eval c = .int .i64 C)(hL:L=(n:Int))(hC:C=(n:Int))(hn:n<=1000000)(hK:∀ w',(∀ f,FB w' w.heap.size n 0 f)->Below w.heap.size w w'->w.heap.size<w'.heap.size->wpList Tryz.prog ops Q rest (a.put o.dst (.slice (some ⟨w.heap.size,0,none⟩) n n)) w'):wpList Tryz.prog ops Q (o :: rest) a w:=by
 obtain ⟨i,r,j,m,p⟩:=info_parts Tryz.infoFra;refine wpList_make_full w hg l c 114 hop w.heap.size 118 i (.agg #[.bool false,.slice none 0 0,.slice none 0 0]) 3 Tryz.underlying114 r j m .i64 .i64 L C n hl hc hL hC (by rw[p];omega) (by unfold maxLen;omega) (Nat.le_refl _) ?_;intro w' v h;have u:Below w.heap.size w w':=brf.grown h (Nat.le_refl _) (fun k e=>by cases e);rcases v.2 with ⟨b,_⟩ | ⟨g,s,d,b,_,q,x,y,t,z⟩
 ·cases b
 ·simp only[Value.slice.injEq,Option.some.injEq,Addr.mk.injEq,and_true,true_and] at b;obtain ⟨rfl,rfl⟩:=b;exact hK w' (fun f=>⟨d,q,t,fun i r=>by omega⟩) u (Array.getElem?_eq_some_iff.1 q).1
def FO (base:Nat)(w:World)(v:Value)(l:List Rat):Prop:=∃ xs,w.ownsRow base 118 3 v l.length xs/\∀ i,i<l.length->∃ uo un uc yo yn yc,xs[i*3]? = some (.bool (negB (rq l i)))/\xs[i*3+1]? = some (.slice uo un uc)/\xs[i*3+2]? = some (.slice yo yn yc)/\Row w uo un uc (zA (rq l i).num.natAbs)/\Row w yo yn yc (zA (rq l i).den)
theorem FO.nil (base:Nat)(w:World):FO base w (.slice none 0 0) []:=⟨[],World.ownsRow_nil _ _ _ _,fun i hi=>by simp at hi⟩
theorem FO.below {base:Nat}{w w':World}{v:Value}{l:List Rat}(h:FO base w v l)(hb:Below w.heap.size w w'):FO base w' v l:=by
 obtain ⟨t,⟨k,h⟩,c⟩:=h;refine ⟨t,⟨k,?_⟩,fun i hi=>?_⟩
 ·rcases h with h | ⟨g,a,b,m,c,d,n⟩
  ·exact .inl h
  ·exact .inr ⟨g,a,b,m,c,(hb.block g (Array.getElem?_eq_some_iff.1 d).1).trans d,n⟩
 ·obtain ⟨s,r,q,y,x,u,e,f,j,o,p⟩:=c i hi;exact ⟨s,r,q,y,x,u,e,f,j,o.below hb,p.below hb⟩
theorem FO.frs {base:Nat}{w:World}{v:Value}{l:List Rat}(h:FO base w v l):∃ ao cap,v = .slice ao l.length cap/\Frs w ao l.length cap (rq l):=by
 obtain ⟨G,⟨H,h⟩,q⟩:=h;rcases h with ⟨rfl,h⟩ | ⟨g,cap,a,rfl,J,r,D,E,I,F⟩
 ·obtain rfl:l = []:=List.length_eq_zero_iff.1 h;exact ⟨none,0,rfl,[],Arr.nil _ _,fun i v c=>by simp at c⟩
 ·refine ⟨_,_,rfl,?_⟩;(have d:∀ j,j<l.length*3->a[j]? = G[j]?:=fun j hj=>by rw[<- F,<- Array.getElem?_toList,List.getElem?_take,if_pos hj]);refine ⟨(List.range l.length).map (fun i=>.agg #[a.getD (i*3) (.bool false),a.getD (i*3+1) (.bool false),a.getD (i*3+2) (.bool false)]),⟨by simp,D,E,fun _=>⟨g,0,rfl,(Array.getElem?_eq_some_iff.1 r).1⟩,?_⟩,?_⟩
  ·intro b o e i v c j u p
   cases e
   (have n:i<l.length:=by simpa using (List.getElem?_eq_some_iff.1 c).1);obtain ⟨z,y,x,C,B,A,f,k,m,s,t⟩:=q i n;rw[<- d _ (by omega)] at f k m;rw[List.getElem?_map,List.getElem?_range n] at c
   cases c
   rw[Nat.zero_add,cell_of_row w g _ _ _ _ r]
   match j with
   | 0=>rw[Nat.add_zero,f,<- p];simp[Value.cells,f,Array.getD_eq_getD_getElem?]
   | 1=>rw[k,<- p];simp[Value.cells,k,Array.getD_eq_getD_getElem?]
   | 2=>rw[m,<- p];simp[Value.cells,m,Array.getD_eq_getD_getElem?]
   | j+3=>simp[Value.cells] at p
  ·intro i v c;(have n:i<l.length:=by simpa using (List.getElem?_eq_some_iff.1 c).1);obtain ⟨z,y,x,C,B,A,f,k,m,s,t⟩:=q i n;rw[<- d _ (by omega)] at f k m;rw[List.getElem?_map,List.getElem?_range n] at c
   cases c
   simp only[Array.getD_eq_getD_getElem?,f,k,m,Option.getD_some];exact ⟨z,y,x,C,B,A,rfl,s,t⟩
theorem jBY (w:World){ops:Array Oper}{rest:List Oper}{o:Oper}{a:Act}{Q:Exit->Act->World->Prop}(hgd:o.guard=none)(s x:Operand)(hop:o.op=Op.call { callee:=Callee.builtin Builtin.append,args:=#[s,x],argTypes:=#[114,114] })(base:Nat)(v:Value)(l:List Rat)(ad:Addr)(c:Nat)(q:Rat)(uo:Option Addr)(un uc:Nat)(yo:Option Addr)(yn yc:Nat)(hs:a.eval s=v)(hx:a.eval x = .slice (some ad) 1 c)(hown:FO base w v l)(h0:w.cell? (ad.add 0)=some (.bool (negB q)))(h1:w.cell? (ad.add 1)=some (.slice uo un uc))(h2:w.cell? (ad.add 2)=some (.slice yo yn yc))(r1:Row w uo un uc (zA q.num.natAbs))(r2:Row w yo yn yc (zA q.den))(hle:l.length<=100000)(hb:base<=w.heap.size)(h:∀ v' w',FO base w' v' (l ++ [q])->Below base w w'->wpList Tryz.prog ops Q rest (a.put o.dst v') w'):wpList Tryz.prog ops Q (o :: rest) a w:=by
 obtain ⟨i,H,K,L,M⟩:=info_parts Tryz.infoFra;obtain ⟨D,E,hC⟩:=hown
 have I:∀ k,v.ownBlock=some k->base<=k:=by
  intro k O;rcases E.2 with ⟨rfl,_⟩ | ⟨g,f,F,rfl,h2,_⟩
  ·cases O
  ·cases O;exact h2
 refine wpList_append_own w hgd s x _ hop base 118 i (.agg #[.bool false,.slice none 0 0,.slice none 0 0]) 3 56 Tryz.underlying114 H K L M rfl (by decide) v l.length _ hs E ad 1 c [.bool (negB q),.slice uo un uc,.slice yo yn yc] hx (by simp) ?_ ?_ (by unfold maxLen;omega) (by omega) hb ?_
 ·intro j u y
  match j with
  | 0=>rw[h0];simpa using y
  | 1=>rw[h1];simpa using y
  | 2=>rw[h2];simpa using y
  | j+3=>simp at y
 ·intro u P;simp at P;rcases P with rfl | rfl | rfl <;> rfl
 ·intro v' w' Z G _
  have d:∀ t n f D,Row w t n f D->Row w' t n f D:=by
   intro t n f ys p
   have C:∀ b o,t=some ⟨b,o,none⟩->0<n->b<w.heap.size/\w'.heap[b]? = w.heap[b]?:=by
    intro b o e z;obtain ⟨A,N,B⟩:=p.ib b o e z;have m:=(Array.getElem?_eq_some_iff.1 B).1;refine ⟨m,G.block b m (fun hc=>?_)⟩;rcases E.2 with ⟨rfl,_⟩ | ⟨g,f,F,rfl,_,h3,_⟩
    ·cases hc
    ·cases hc;rw[h3] at B;cases B
   refine ⟨p.len,p.le,p.cm,fun z=>?_,fun b o e z=>?_,fun b o e j y=>?_⟩
   ·obtain ⟨b,o,e,m⟩:=p.head z;exact ⟨b,o,e,Nat.lt_of_lt_of_le m G.size⟩
   ·obtain ⟨A,N,B⟩:=p.ib b o e z;exact ⟨A,N,(C b o e z).2.trans B⟩
   ·rw[<- p.cell b o e j y];exact World.cell?_of_block (C b o e (by omega)).2
  have r:D.length=l.length*3:=E.1;refine h v' w' ⟨D ++ [.bool (negB q),.slice uo un uc,.slice yo yn yc],by rw[List.length_append];exact Z,fun i H=>?_⟩ ((Below.refl base w).grown G hb I);rw[List.length_append,List.length_singleton] at H;by_cases e:i<l.length
  ·(have J:rq (l ++ [q]) i=rq l i:=by unfold rq;rw[List.getD_eq_getElem?_getD,List.getD_eq_getElem?_getD,List.getElem?_append_left e]);obtain ⟨t,S,R,V,U,T,W,X,Y,s1,s2⟩:=hC i e;rw[J];exact ⟨t,S,R,V,U,T,by rw[List.getElem?_append_left (by omega)];exact W,by rw[List.getElem?_append_left (by omega)];exact X,by rw[List.getElem?_append_left (by omega)];exact Y,d _ _ _ _ s1,d _ _ _ _ s2⟩
  ·(obtain rfl:i=l.length:=by omega);(have J:rq (l ++ [q]) l.length=q:=by unfold rq;rw[List.getD_eq_getElem?_getD,List.getElem?_append_right (Nat.le_refl _)];simp);rw[J];refine ⟨uo,un,uc,yo,yn,yc,?_,?_,?_,d _ _ _ _ r1,d _ _ _ _ r2⟩
   ·rw[List.getElem?_append_right (by omega),r];simp
   ·rw[List.getElem?_append_right (by omega),r];simp
   ·rw[List.getElem?_append_right (by omega),r];simp
theorem Arr.alloc {w:World}{k:Nat}{ao:Option Addr}{n cap:Nat}{vs:List Value}(h:Arr w k ao n cap vs)(o:Obj):Arr (w.alloc o) k ao n cap vs:=h.below (brf.alloc (Nat.le_refl _) o)
theorem Users.alloc {w:World}{ao:Option Addr}{n cap:Nat}{us:List Usr}(h:Users w ao n cap us)(o:Obj):Users (w.alloc o) ao n cap us:=h.below (brf.alloc (Nat.le_refl _) o)
theorem Frs.alloc {w:World}{ao:Option Addr}{n cap:Nat}{f:Nat->Rat}(h:Frs w ao n cap f)(o:Obj):Frs (w.alloc o) ao n cap f:=h.below (brf.alloc (Nat.le_refl _) o)
theorem FB.alloc {w:World}{g n k:Nat}{f:Nat->Rat}(h:FB w g n k f)(o:Obj):FB (w.alloc o) g n k f:=h.below (brf.alloc (Nat.le_refl _) o)
theorem FO.alloc {base:Nat}{w:World}{v:Value}{l:List Rat}(h:FO base w v l)(o:Obj):FO base (w.alloc o) v l:=h.below (brf.alloc (Nat.le_refl _) o)
theorem Arr.drew {w:World}{k:Nat}{ao:Option Addr}{n cap:Nat}{vs:List Value}(h:Arr w k ao n cap vs):Arr w.drew k ao n cap vs:=h.below brf.drew
theorem Users.drew {w:World}{ao:Option Addr}{n cap:Nat}{us:List Usr}(h:Users w ao n cap us):Users w.drew ao n cap us:=h.below brf.drew
theorem Frs.drew {w:World}{ao:Option Addr}{n cap:Nat}{f:Nat->Rat}(h:Frs w ao n cap f):Frs w.drew ao n cap f:=h.below brf.drew
theorem FB.drew {w:World}{g n k:Nat}{f:Nat->Rat}(h:FB w g n k f):FB w.drew g n k f:=h.below brf.drew
theorem FO.drew {base:Nat}{w:World}{v:Value}{l:List Rat}(h:FO base w v l):FO base w.drew v l:=h.below brf.drew
theorem Tab.drew {w:World}(h:Tab w):Tab w.drew:=h.below brf.drew
theorem Tab.of {w w':World}(h:Tab w)(hb:Below w.heap.size w w'):Tab w':=h.below hb
theorem Row.sm1 {w:World}{ao:Option Addr}{n cap:Nat}{q:Rat}{L:Nat}(h:Row w ao n cap (zA q.num.natAbs))(hq:Sm q L):n<=L:=by rw[<- h.len];exact hq.1
theorem Row.sm2 {w:World}{ao:Option Addr}{n cap:Nat}{q:Rat}{L:Nat}(h:Row w ao n cap (zA q.den))(hq:Sm q L):n<=L:=by rw[<- h.len];exact hq.2
theorem jL5 {x y:Rat}:xD x y<0↔x<y:=by
 unfold xD;split
 ·rename_i h;simp[h]
 ·rename_i h;split <;> simp[h]
theorem jL0 {x y:Rat}:0<xD x y↔y<x:=by
 unfold xD;split
 ·rename_i h;simp;grind
 ·rename_i h;split
  ·rename_i e;simp;grind
  ·rename_i e;simp;grind
theorem jFS {x y:Rat}:xD x y=0↔x=y:=by
 unfold xD;split
 ·rename_i h;simp;grind
 ·rename_i h;split
  ·rename_i e;simp[e]
  ·rename_i e;simp[e]
theorem Sm.int {n:Int}(h0:-100000000000000000000<n)(h1:n<100000000000000000000):Sm (n:Rat) 5:=by
 have a:(n:Rat).num=n:=Rat.num_intCast n;have b:(n:Rat).den=1:=Rat.den_intCast n;unfold Sm;rw[a,b];exact ⟨jAN (by omega),jAN (by omega)⟩
theorem Sm.amt {n:Int}(h:yE n=true):Sm (n:Rat) 2:=by
 have a:(n:Rat).num=n:=Rat.num_intCast n;have b:(n:Rat).den=1:=Rat.den_intCast n;unfold yE at h;rw[decide_eq_true_eq] at h;unfold Sm;rw[a,b];exact ⟨jAN (by omega),jAN (by omega)⟩
theorem jKD (po:Option Addr)(pn pc:Nat)(pool:List Int)(ao:Option Addr)(n cap:Nat)(us:List Usr)(w:World)(hp:Arr w 1 po pn pc (zg pool))(hu:Users w ao n cap us):Calls Tryz.prog 73 #[.slice po pn pc,.slice ao n cap] w fun e w'=>e = .returned (.int .i64 (yF pool us))/\Below w.heap.size w w':=by
 have d:=hp.len;rw[jAG] at d;have m:pn<=maxLen:=Nat.le_trans hp.le hp.cm;have J:=hu.1;(have v:n<=maxLen:=by obtain ⟨_,T,q,_⟩:=hu;exact Nat.le_trans q.le q.cm);have G:=hid m;unfold maxLen at m v;have H:=hid hp;have I:=hid hu;clear hp hu;go_enter Tryz.func73,Tryz.ntmps73;go_wp2_with fail;refine (jId po pn pc pool _ H.out).mono ?_;rintro P f ⟨rfl,rfl⟩
 cases j:poolB pool with
 | false=>(have E:yF pool us=3:=by unfold yF;rw[if_pos j]);have c:=hid E;clear E;go_wp2;go_ret;exact ⟨by rw[c.out];rfl,Below.refl _ _⟩
 | true=>
  by_cases q:6<n
  ·(have E:yF pool us=4:=by unfold yF;rw[if_neg (by rw[j];simp),if_pos (by omega)]);have c:=hid E;clear E;(have r:(6:Int)<n:=by omega);go_wp2;go_ret;exact ⟨by rw[c.out];rfl,Below.refl _ _⟩
  ·(have r:¬ (6:Int)<n:=by omega);have L:=hid j;go_wp2
   go_loopw [15] (fun i wr=>∃ k:Nat,k<=n/\i = .int .i64 k/\Hid ((us.take k).all (yN pn)=true)/\Hid (Below f.heap.size f wr)) (fun i _=>n - (intOf i).toNat)
   case atStart=>exact ⟨0,Nat.zero_le _,rfl,rfl,Below.refl _ _⟩
   case round=>
    obtain ⟨k,S,rfl,C,p⟩:=hrel;by_cases t:k<n
    ·obtain ⟨b,o,x,z,y,rfl,R,M,N,O,B⟩:=(I.out.below p.out).get t;have u:=hid (jBm (yN pn) us (i:=k) (by omega));have a:=hid (jLy us (i:=k) (by omega));have s:=(Below.refl _ wr).alloc (Nat.le_refl _) (.cells #[.slice x z y,.int .i64 (ug us k).wt,.int .i64 (ug us k).cap] 63);have F:=hid (B.below s);have g:Hid (Below f.heap.size f _):=p.out.trans (s.mono p.out.size);clear B s;go_wp2_with fail;refine (jFV x z y pn (ug us k) _ F.out G.out).mono ?_;rintro Q K ⟨rfl,l⟩;have h:Hid (Below f.heap.size f K):=g.out.trans (l.mono g.out.size);clear l
     cases A:yN pn (ug us k) with
     | false=>(have E:yF pool us=4:=by unfold yF;rw[if_neg (by rw[j];simp),if_neg (by omega),if_pos (jA4 _ us (i:=k) (by omega) (by rw[a.out,d];exact A))]);have c:=hid E;clear E;go_wp2;go_ret;exact ⟨by rw[c.out];rfl,h.out⟩
     | true=>
      have D:=hid A;go_wp2
      go_roundw
      (case rel=>exact ⟨k+1,by omega,by go_num,by rw[Hid,u.out,C.out,a.out,D.out];rfl,h.out⟩);case measure=>simp[intOf];omega
    ·(obtain rfl:k=n:=by omega);(have E:yF pool us=0:=by have:=C.out;rw[List.take_of_length_le (by omega)] at this;unfold yF;rw[if_neg (by rw[j];simp),if_neg (by omega),if_neg (by rw[d,this];simp)]);have c:=hid E;clear E;go_wp2;go_ret;exact ⟨by rw[c.out];rfl,p.out⟩
def Good (us:List Usr)(k:Nat):Prop:=∀ i,i<us.length->yN k (ug us i)=true
theorem Good.cap {us:List Usr}{k i:Nat}(h:Good us k)(hi:i<us.length):0<=(ug us i).cap/\(ug us i).cap<=1000:=by
 have:=h i hi;unfold yN at this;simp only[Bool.and_eq_true,decide_eq_true_eq] at this;exact ⟨this.1.1.2.2.2.1,this.1.1.2.2.2.2⟩
theorem Good.wt {us:List Usr}{k i:Nat}(h:Good us k)(hi:i<us.length):1<=(ug us i).wt/\(ug us i).wt<=100:=by
 have:=h i hi;unfold yN at this;simp only[Bool.and_eq_true,decide_eq_true_eq] at this;exact ⟨this.1.1.2.1,this.1.1.2.2.1⟩
theorem Good.len {us:List Usr}{k i:Nat}(h:Good us k)(hi:i<us.length):(ug us i).dem.length=k:=by
 have:=h i hi;unfold yN at this;simp only[Bool.and_eq_true,decide_eq_true_eq] at this;exact this.1.1.1
theorem jGq {xs:List Int}(h:xC xs=true)(r:Nat):yE (lm xs r)=true:=by
 unfold lm;rw[List.getD_eq_getElem?_getD];by_cases a:r<xs.length
 ·rw[List.getElem?_eq_getElem a];unfold xC at h;rw[List.all_eq_true] at h;exact h _ (List.getElem_mem a)
 ·rw[List.getElem?_eq_none (by omega)];decide
theorem jBW {x:Int}(h:yE x=true):0<=x/\x<=10000:=by unfold yE at h;simpa using h
theorem Good.dem {us:List Usr}{k i:Nat}(h:Good us k)(hi:i<us.length)(r:Nat):yE (lm (ug us i).dem r)=true:=by
 have:=h i hi;unfold yN at this;simp only[Bool.and_eq_true] at this;exact jGq this.1.2 r
theorem Good.some {us:List Usr}{k i:Nat}(h:Good us k)(hi:i<us.length):∃ r,r<k/\0<lm (ug us i).dem r:=by
 have a:=h i hi;have f:=h.len hi;unfold yN at a;simp only[Bool.and_eq_true] at a;have b:=a.2;unfold xN at b;rw[List.any_eq_true] at b;obtain ⟨x,e,c⟩:=b;obtain ⟨r,d,rfl⟩:=List.getElem_of_mem e;refine ⟨r,by omega,?_⟩;rw[<- jEs _ d];simpa using c
end Go.Proofs.YtigokanoflkinabGreatDoor
