/- KAskA, KAsk, KBun, KConA, joined. -/
import Derived.Test.YtigokanoflkinabGreatDoorWRF
set_option maxHeartbeats 2000000
set_option maxRecDepth 20000
namespace Go.Proofs.YtigokanoflkinabGreatDoor
set_option linter.unusedSimpArgs false
set_option linter.unusedVariables false
open Go.RowKit Por
def amtK (xs:List Int)(n k:Nat):Bool:=decide (n=k) && xC xs
theorem jJQ (xs:List Int)(n:Nat):amtK xs n n=xC xs:=by unfold amtK;rw[decide_eq_true rfl];rfl
theorem jMn (xs:List Int){n k:Nat}(h:n≠k):amtK xs n k=false:=by unfold amtK;rw[decide_eq_false h];rfl
theorem jBK (ao:Option Addr)(n cap k:Nat)(xs:List Int)(w:World)(hr:Arr w 1 ao n cap (zg xs))(hk:k<=maxLen):Calls Tryz.prog 38 #[.slice ao n cap,.int .i64 k,.int .i64 10000] w fun e w'=>e = .returned (.bool (amtK xs n k))/\w'=w:=by
 have f:=hr.len;rw[jAG] at f;have t:=hr.le;have j:=hr.cm;unfold maxLen at j hk;have p:=hid hr;clear hr;by_cases h:n=k
 ·subst h;have a:=hid (jJQ xs n);go_enter Tryz.func38,Tryz.ntmps38;go_wp2
  go_loop[7] (fun i=>∃ k:Nat,k<=n/\i = .int .i64 k/\Hid ((xs.take k).all yE=true)) (fun i=>n - (intOf i).toNat)
  case atStart=>exact ⟨0,Nat.zero_le _,rfl,rfl⟩
  case round=>
   obtain ⟨k,hk,rfl,q⟩:=hrel;by_cases l:k<n
   ·obtain ⟨b,o,rfl,v⟩:=p.out.head (by omega);have s:=p.out.int rfl l;have m:=hid (jBm yE xs (i:=k) (by omega));have c:=hid (jEs xs (i:=k) (by omega));generalize hx:lm xs k=x at s;have g:=hid hx;clear hx;by_cases h:x<0
    ·have E:xC xs=false:=jA4 yE xs (i:=k) (by omega) (by rw[c.out,g.out];unfold yE;rw[decide_eq_false_iff_not];omega);have d:=hid E;clear E;go_wp2;go_ret;exact ⟨by rw[a.out,d.out];rfl,rfl⟩
    ·by_cases u:(10000:Int)<x
     ·have E:xC xs=false:=jA4 yE xs (i:=k) (by omega) (by rw[c.out,g.out];unfold yE;rw[decide_eq_false_iff_not];omega);have d:=hid E;clear E;go_wp2;go_ret;exact ⟨by rw[a.out,d.out];rfl,rfl⟩
     ·(have E:yE x=true:=by unfold yE;rw[decide_eq_true_eq];omega);have d:=hid E;clear E;go_wp2;exact ⟨⟨k+1,by omega,by go_num,by rw[Hid,m.out,q.out,c.out,g.out,d.out];rfl⟩,by simp[intOf];omega⟩
   ·obtain rfl:k=n:=by omega
    have E:xC xs=true:=by
     have:=q.out
     rwa [List.take_of_length_le (by omega)] at this
    have d:=hid E;clear E;go_wp2;go_ret;exact ⟨by rw[a.out,d.out];rfl,rfl⟩
 ·(have r:((n:Int) == (k:Int))=false:=by rw[beq_eq_false_iff_ne];omega);have a:=hid (jMn xs h);go_enter Tryz.func38,Tryz.ntmps38;go_wp2;go_ret;exact ⟨by rw[a.out];rfl,rfl⟩
def sumI (xs:List Int):Nat->Int
  | 0=>0
  | k+1=>sumI xs k+lm xs k
theorem jF7 {xs:List Int}(h:∀ i,yE (lm xs i)=true):∀ k,0<=sumI xs k/\sumI xs k<=10000*k:=by
 intro k
 induction k with
 | zero=>exact ⟨Int.le_refl _,Int.le_refl _⟩
 | succ k ih=>have:=jBW (h k);simp only[sumI];omega
theorem jLF {xs:List Int}(h:∀ i,yE (lm xs i)=true):∀ k,0<sumI xs k↔∃ r,r<k/\0<lm xs r:=by
 intro k
 induction k with
 | zero=>simp[sumI]
 | succ k ih=>
  have c:=jBW (h k);have d:=(jF7 h k).1;simp only[sumI];constructor
  ·intro hs;by_cases e:0<sumI xs k
   ·obtain ⟨r,b,a⟩:=ih.1 e;exact ⟨r,by omega,a⟩
   ·exact ⟨k,by omega,by omega⟩
  ·rintro ⟨r,b,a⟩;by_cases e:r=k
   ·subst e;omega
   ·have:=ih.2 ⟨r,by omega,a⟩;omega
theorem jJU {xs:List Int}(h:∀ i,yE (lm xs i)=true):xN xs=decide (0<sumI xs xs.length):=by
 rw[Bool.eq_iff_iff,decide_eq_true_eq,jLF h];unfold xN;rw[List.any_eq_true];constructor
 ·rintro ⟨x,c,b⟩;obtain ⟨r,a,rfl⟩:=List.getElem_of_mem c;refine ⟨r,a,?_⟩;rw[<- jEs _ a];simpa using b
 ·rintro ⟨r,a,b⟩;refine ⟨xs[r],List.getElem_mem a,?_⟩;rw[jEs _ a];simpa using b
theorem jKd (ao:Option Addr)(n cap k:Nat)(u:Usr)(w:World)(hr:Arr w 1 ao n cap (zg u.dem))(hk:k<=4):Calls Tryz.prog 41 #[.agg #[.slice ao n cap,.int .i64 u.wt,.int .i64 u.cap],.int .i64 k] w fun e w'=>e = .returned (.bool (yN k u))/\Below w.heap.size w w':=by
 have a:=hr.len;rw[jAG] at a;have O:=hr.le;have C:=hr.cm;unfold maxLen at C;have B:=(Below.refl _ w).alloc (Nat.le_refl _) (.cells #[.slice ao n cap,.int .i64 u.wt,.int .i64 u.cap] 63);have h:=hid (hr.below B);have p:=hid B;clear hr B
 cases j:amtK u.dem n k with
 | false=>
  have E:yN k u=false:=by
   unfold yN;rw[a];unfold amtK at j
   cases z:decide (n=k) with
   | false=>simp
   | true=>rw[z] at j;(have:xC u.dem=false:=by simpa using j);rw[this];simp
  have g:=hid E;have l:=hid j;clear E j;go_enter Tryz.func41,Tryz.ntmps41;go_wp2_with fail;refine (jBK ao n cap k u.dem _ h.out (by unfold maxLen;omega)).mono ?_;rintro e y ⟨rfl,rfl⟩;rw[l.out];go_wp2;go_ret;exact ⟨by rw[g.out];rfl,p.out⟩
 | true=>
  have m:=j;unfold amtK at m;rw[Bool.and_eq_true,decide_eq_true_eq] at m;obtain ⟨rfl,c⟩:=m;have r:=jGq c;have l:=hid j;have G:=hid c;have f:=hid r;clear j c r;have s:decide (u.dem.length=n)=true:=decide_eq_true a;have q:=hid s;clear s;by_cases z:1<=u.wt/\u.wt<=100/\0<=u.cap/\u.cap<=1000
  ·(have J:¬ u.wt<1:=by omega);(have K:¬ (100:Int)<u.wt:=by omega);(have L:¬ u.cap<0:=by omega);(have M:¬ (1000:Int)<u.cap:=by omega);(have E:yN n u=decide (0<sumI u.dem n):=by unfold yN;rw[q.out,decide_eq_true z,G.out,jJU f.out,a];rfl);have g:=hid E;clear E;go_enter Tryz.func41,Tryz.ntmps41;go_wp2_with fail;refine (jBK ao n cap n u.dem _ h.out (by unfold maxLen;omega)).mono ?_;rintro e y ⟨rfl,rfl⟩;rw[l.out];go_wp2
   go_loop[6,7] (fun sm i=>∃ k:Nat,k<=n/\i = .int .i64 k/\sm = .int .i64 (sumI u.dem k)) (fun _ i=>n - (intOf i).toNat)
   case atStart=>exact ⟨0,Nat.zero_le _,rfl,rfl⟩
   case round=>
    obtain ⟨k,hk,rfl,rfl⟩:=hrel;by_cases D:k<n
    ·obtain ⟨b,o,rfl,P⟩:=h.out.head (by omega);have N:=h.out.int rfl D;have v:=jF7 f.out k;have F:=jBW (f.out k);have d:sumI u.dem (k+1)=sumI u.dem k+lm u.dem k:=rfl;have A:=hid d;clear d;generalize hx:lm u.dem k=x at N F;have I:=hid hx;clear hx;generalize hs:sumI u.dem k=t at v;have H:=hid hs;clear hs;go_wp2;exact ⟨⟨k+1,by omega,by go_num,by rw[A.out,I.out,H.out]⟩,by simp[intOf];omega⟩
    ·(obtain rfl:k=n:=by omega);have v:=jF7 f.out k;go_wp2;go_ret;exact ⟨by rw[g.out];rfl,p.out⟩
  ·(have E:yN n u=false:=by unfold yN;rw[q.out,decide_eq_false z];rfl);have g:=hid E;clear E;by_cases J:u.wt<1
   ·go_enter Tryz.func41,Tryz.ntmps41;go_wp2_with fail;refine (jBK ao n cap n u.dem _ h.out (by unfold maxLen;omega)).mono ?_;rintro e y ⟨rfl,rfl⟩;rw[l.out];go_wp2;go_ret;exact ⟨by rw[g.out];rfl,p.out⟩
   ·by_cases K:(100:Int)<u.wt
    ·go_enter Tryz.func41,Tryz.ntmps41;go_wp2_with fail;refine (jBK ao n cap n u.dem _ h.out (by unfold maxLen;omega)).mono ?_;rintro e y ⟨rfl,rfl⟩;rw[l.out];go_wp2;go_ret;exact ⟨by rw[g.out];rfl,p.out⟩
    ·by_cases L:u.cap<0
     ·go_enter Tryz.func41,Tryz.ntmps41;go_wp2_with fail;refine (jBK ao n cap n u.dem _ h.out (by unfold maxLen;omega)).mono ?_;rintro e y ⟨rfl,rfl⟩;rw[l.out];go_wp2;go_ret;exact ⟨by rw[g.out];rfl,p.out⟩
     ·(have M:(1000:Int)<u.cap:=by omega);go_enter Tryz.func41,Tryz.ntmps41;go_wp2_with fail;refine (jBK ao n cap n u.dem _ h.out (by unfold maxLen;omega)).mono ?_;rintro e y ⟨rfl,rfl⟩;rw[l.out];go_wp2;go_ret;exact ⟨by rw[g.out];rfl,p.out⟩
theorem jIe (n:Nat):Go.Lib.decDigits n≠[]:=by
 intro h;have:=congrArg List.length h;(have a:0<(Go.Lib.decDigits n).length:=by unfold Go.Lib.decDigits;split <;> simp);rw[h] at a;simp at a
theorem jIS (q:Rat):txt q≠[]:=by
 unfold txt;intro h;have a:=List.append_eq_nil_iff.1 (List.append_eq_nil_iff.1 h).1;exact jIe _ a.2
theorem ShB.cells {w:World}{g n k i:Nat}{ts lv:Nat->Rat}{st:Nat->Int}(h:ShB w g n k ts lv st)(hi:i<k):w.cell? ⟨g,i*3,none⟩=some (.string ⟨(txt (ts i)).toArray⟩)/\w.cell? ⟨g,i*3+1,none⟩=some (.string ⟨(txt (lv i)).toArray⟩)/\w.cell? ⟨g,i*3+2,none⟩=some (.int .i64 (st i)):=by
 obtain ⟨b,a,j,f⟩:=h;obtain ⟨c,d,e⟩:=f i hi;exact ⟨(cell_of_row w g _ _ _ _ a).trans c,(cell_of_row w g _ _ _ _ a).trans d,(cell_of_row w g _ _ _ _ a).trans e⟩
theorem Solved.later {w w1 w':World}{pool:List Int}{us:List Usr}{g:Nat}{d:FD}(h:Solved w1 w' pool us g d)(hb:Below w.heap.size w w1):Solved w w' pool us g d:=⟨h.of,Nat.le_trans hb.size h.low,h.sh,hb.trans (h.bel.mono hb.size)⟩
def tb (q:Rat):ByteArray:=⟨(txt q).toArray⟩
def TO (base:Nat)(w:World)(v:Value)(l:List Rat):Prop:=w.ownsRow base 9 1 v l.length (l.map (fun q=>Value.string ⟨(txt q).toArray⟩))
theorem TO.nil (base:Nat)(w:World):TO base w (.slice none 0 0) []:=World.ownsRow_nil _ _ _ _
theorem TO.below {base:Nat}{w w':World}{v:Value}{l:List Rat}(h:TO base w v l)(hb:Below w.heap.size w w'):TO base w' v l:=by
 obtain ⟨d,h⟩:=h;refine ⟨d,?_⟩;rcases h with h | ⟨g,a,b,e,f,c,i⟩
 ·exact .inl h
 ·exact .inr ⟨g,a,b,e,f,(hb.block g (Array.getElem?_eq_some_iff.1 c).1).trans c,i⟩
theorem TO.alloc {base:Nat}{w:World}{v:Value}{l:List Rat}(h:TO base w v l)(o:Obj):TO base (w.alloc o) v l:=h.below (brf.alloc (Nat.le_refl _) o)
theorem TO.arr {base:Nat}{w:World}{v:Value}{l:List Rat}(h:TO base w v l):∃ ao cap,v = .slice ao l.length cap/\Arr w 1 ao l.length cap (strs (l.map tb)):=by
 obtain ⟨r,h⟩:=h;rcases h with ⟨rfl,h⟩ | ⟨g,cap,a,rfl,t,d,n,p,s,q⟩
 ·obtain rfl:l = []:=List.length_eq_zero_iff.1 h;exact ⟨none,0,rfl,Arr.nil _ _⟩
 ·refine ⟨_,_,rfl,⟨by simp[strs],n,p,fun _=>⟨g,0,rfl,(Array.getElem?_eq_some_iff.1 d).1⟩,?_⟩⟩;intro b o e i v c j u k
  cases e
  (have f:i<l.length:=by simpa [strs] using (List.getElem?_eq_some_iff.1 c).1);unfold strs at c;rw[List.map_map,List.getElem?_map,List.getElem?_eq_getElem f] at c
  cases c
  match j with
  | 0=>rw[Nat.zero_add,cell_of_row w g _ _ _ _ d];(have m:a.toList[i*1+0]? = (a.toList.take (l.length*1))[i*1+0]?:=by rw[List.getElem?_take,if_pos (by omega)]);rw[<- Array.getElem?_toList,m,q,List.getElem?_map,Nat.mul_one,Nat.add_zero,List.getElem?_eq_getElem f];exact k
  | j+1=>simp[Value.cells] at k
theorem Dg.amt {n:Int}(h:yE n=true):Dg (n:Rat) 5:=by
 have a:(n:Rat).num=n:=Rat.num_intCast n;have b:(n:Rat).den=1:=Rat.den_intCast n;have:=jBW h;unfold Dg;rw[a,b];exact ⟨by omega,by omega⟩
theorem jIs:(10000 ^ 6*6000000) ^ 4*1000<10 ^ 128:=by decide
theorem jIy {G m:Nat}(hG:0<G)(h:G<=10000 ^ 6)(hm:m<=4):(G*6000000) ^ m<=(10000 ^ 6*6000000) ^ 4:=by
 have a:(G*6000000) ^ m<=(G*6000000) ^ 4:=Nat.pow_le_pow_right (by omega) hm;have b:(G*6000000) ^ 4<=(10000 ^ 6*6000000) ^ 4:=Nat.pow_le_pow_left (Nat.mul_le_mul_right _ h) 4;exact Nat.le_trans a b
theorem jNE {pool:List Int}{us:List Usr}(hg:Good us pool.length)(hpa:∀ i,yE (lm pool i)=true)(hn:us.length<=6)(hk:pool.length<=4){i:Nat}(hi:i<us.length):Dg ((yl pool us).ts i) 128:=by
 obtain ⟨G,a,d,e,_⟩:=jGj hg hn;have j:=(jEi hg hpa).1;obtain ⟨Q,f,g,h⟩:=jMo (jGc hg hpa) (jDb hg hpa) j (fun i hi=>⟨_,rfl⟩) (fun i r hi hr=>⟨_,rfl⟩) (fun r hr=>⟨_,rfl⟩) G 6000000 a (by decide) e (fun r hr=>jI6 hg hpa hn hr);have n:=hg.cap (i:=i) hi;obtain ⟨o,p⟩:=jJ5 (M:=1000) f (h i hi) (j.low i hi) (Rat.le_trans (j.cap i hi) ((jEF (b:=1000)).2 n.2));have l:=jIs;have c:=Nat.le_trans g (jIy (m:=(xP pool us).k) a d hk);generalize (10000 ^ 6*6000000) ^ 4=B at c l;have q:Q*1000<=B*1000:=Nat.mul_le_mul_right _ c;have s:B<=B*1000:=Nat.le_mul_of_pos_right B (by decide);exact ⟨by omega,by omega⟩
end Go.Proofs.YtigokanoflkinabGreatDoor
