/- FlU, FlV, joined. -/
import Derived.Test.YtigokanoflkinabGreatDoorFlRT
import Derived.Test.YtigokanoflkinabGreatDoorFSml
import Derived.Test.YtigokanoflkinabGreatDoorWExF
import Derived.Test.YtigokanoflkinabGreatDoorKKs
set_option maxHeartbeats 2000000
set_option maxRecDepth 20000
namespace Go.Proofs.YtigokanoflkinabGreatDoor
set_option linter.unusedSimpArgs false
set_option linter.unusedVariables false
open Go.RowKit Por
theorem jF9 {P:Program}(w:World)(base:Nat)(t ty e:TypeId)(i:TypeInfo)(z:Value)(size bytes:Nat)(ht:P.underlying t=some (.slice e))(hi:P.info? e=some i)(hz:i.zero=some z)(hsize:i.size=size)(hby:i.bytes=bytes)(hsz:0<size)(v:Value)(n:Nat)(xs:List Value)(hown:w.ownsRow base e size v n xs)(a:Addr)(m c:Nat)(news:List Value)(hl:news.length=m*size)(hnews:∀ j u,news[j]? = some u→w.cell? (a.add j)=some u)(h1:∀ u∈news,u.oneCell'=true)(h63:n+m≤maxLen)(hbytes:(n+m)*bytes≤140737488355328)(hm:0<m)(v':Value)(w':World)(hr:(Builtin.append_ #[t,t] ty #[v,.slice (some a) m c]).run P w = .ok v' w'):v'.ownBlock=v.ownBlock∨v'.ownBlock=some w.heap.size:=by
 subst hsize;subst hby;(have hsmall:n+m≤9223372036854775807:=by simp only[maxLen] at h63;omega);rcases hown.2 with ⟨rfl,rfl⟩ | ⟨g,cap,cur,rfl,hbg,hg,hnc,hcm,hcs,htake⟩
 ·have h2:=run_append_nil (P:=P) w t ty e i z ht hi hz a m c news hl hnews (by omega) (by omega) (by have hb:=hbytes;simp only[Nat.zero_add] at hb;omega);rw[hr] at h2;cases h2;exact .inr rfl
 ·by_cases hroom:n+m≤cap
  ·(have hfit:n*i.size+news.length≤cur.size:=by rw[hl,hcs,← Nat.add_mul];exact Nat.mul_le_mul_right _ hroom);have h2:=run_append_room (P:=P) w t ty e i ht hi g n cap cur hg a m c news hl hnews h1 hroom hfit;rw[hr] at h2;cases h2;exact .inl rfl
  ·have holds:∀ j u,xs[j]? = some u→w.cell? ((⟨g,0,none⟩:Addr).add j)=some u:=hown.cells (g:=g) rfl;have h2:=run_append_grow (P:=P) w t ty e i z ht hi hz ⟨g,0,none⟩ n cap xs hown.1 holds a m c news hl hnews (by omega) (by omega) (growslice_fits (by omega) hbytes);rw[hr] at h2;cases h2;exact .inr rfl
theorem jBq {P:Program} (w:World) {ops:Array Oper} {rest:List Oper} {o:Oper} {a:Act} {Q:Exit→Act→World→Prop} (hgd:o.guard=none) (s x:Operand) (t:TypeId)
    (ho:o.op = .call { callee:=.builtin .append,args:=#[s,x],argTypes:=#[t,t] })
    (base:Nat) (e:TypeId) (i:TypeInfo) (z:Value) (size bytes:Nat) (ht:P.underlying t=some (.slice e)) (hi:P.info? e=some i) (hz:i.zero=some z)
    (hsize:i.size=size) (hby:i.bytes=bytes) (hzs:z.cells.size=size) (hsz:0<size)
    (v:Value) (n:Nat) (xs:List Value) (hs:a.eval s=v) (hown:w.ownsRow base e size v n xs)
    (ad:Addr) (m c:Nat) (news:List Value) (hx:a.eval x = .slice (some ad) m c) (hl:news.length=m*size) (hnews:∀ j u,news[j]? = some u→w.cell? (ad.add j)=some u) (h1:∀ u∈news,u.oneCell'=true)
    (h63:n+m≤maxLen) (hbytes:(n+m)*bytes≤140737488355328) (hbase:base≤w.heap.size) (hm:0<m)
    (h:∀ v' w',w'.ownsRow base e size v' (n+m) (xs ++ news)→w.grownBy w' v.ownBlock→(v'.ownBlock=v.ownBlock∨v'.ownBlock=some w.heap.size)→wpList P ops Q rest (a.put o.dst v') w'):wpList P ops Q (o :: rest) a w:=
  wpList_plain hgd fun K hK=>by
    obtain ⟨v',w',hr,h2,h3,h4⟩:=run_append_own (P:=P) w base t o.type e i z size bytes ht hi hz hsize hby hzs hsz v n xs hown ad m c news hl hnews h1 h63 hbytes hbase
    have h5:=jF9 (P:=P) w base t o.type e i z size bytes ht hi hz hsize hby hsz v n xs hown ad m c news hl hnews h1 h63 hbytes hm v' w' hr
    unfold Oper.wp execOp
    simp only[ho,resolve,invoke,builtin,Sem.run_bind,Sem.run_pure,Result.andThen_ok,List.map_toArray,List.map_cons,List.map_nil,hs,hx,hr]
    exact hK _ _ (h v' w' h2 h3 h5)
theorem jEE {w w':World}{base:Nat}{row:Option Nat}(h:w.grownBy w' row)(hb:base≤w.heap.size)(hr:∀ k,row=some k→base≤k):Below base w w':=(Below.refl base w).grown h hb hr
theorem jDZ (w:World){ops:Array Oper}{rest:List Oper}{o:Oper}{a:Act}{Q:Exit→Act→World→Prop}(hgd:o.guard=none)(s x:Operand)(hop:o.op=Op.call { callee:=Callee.builtin Builtin.append,args:=#[s,x],argTypes:=#[28,28] })(base:Nat)(v:Value)(l:List Int)(ad:Addr)(c:Nat)(u:Int)(hs:a.eval s=v)(hx:a.eval x = .slice (some ad) 1 c)(hown:Li base w v l)(h0:w.cell? (ad.add 0)=some (.int .i64 u))(hle:l.length+1≤1000000)(hb:base≤w.heap.size)(h:∀ v' w',Li base w' v' (l ++ [u])→w.grownBy w' v.ownBlock→(v'.ownBlock=v.ownBlock∨v'.ownBlock=some w.heap.size)→wpList Tryz.prog ops Q rest (a.put o.dst v') w'):wpList Tryz.prog ops Q (o :: rest) a w:=by
 obtain ⟨i,hi,hz0,hz1,hz2⟩:=info_parts Tryz.infoInt;refine jBq w hgd s x _ hop base 3 i (.int .i64 0) 1 8 Tryz.underlying28 hi hz0 hz1 hz2 rfl (by decide) v l.length _ hs hown ad 1 c [.int .i64 u] hx (by simp) ?_ ?_ (by unfold maxLen;omega) (by omega) hb (by omega) ?_
 ·intro j z hj
  match j with
  | 0=>rw[h0];simpa using hj
  | j+1=>simp at hj
 ·intro z hz;simp at hz;subst hz;rfl
 ·intro v' w' h2 h3 h4;refine h v' w' ?_ h3 h4;unfold Li;rw[List.length_append,List.map_append];exact h2
theorem Li.kept {base:Nat} {w w':World} {v:Value} {l:List Int} {row:Option Nat} (h:Li base w v l) (hg:w.grownBy w' row) (hne:∀ k,v.ownBlock=some k→row≠some k):Li base w' v l:=
  World.ownsRow.kept h hg (by
    cases e:v.ownBlock with
    | none=>exact .inl rfl
    | some k=>exact .inr (fun h5=>hne k e h5.symm))
theorem Li.lt {base:Nat}{w:World}{v:Value}{l:List Int}(h:Li base w v l){k:Nat}(hk:v.ownBlock=some k):base≤k∧k<w.heap.size:=World.ownsRow.lt h k hk
theorem Li.arr {base:Nat}{w:World}{v:Value}{l:List Int}(h:Li base w v l):∃ ao cap,v = .slice ao l.length cap∧Arr w 1 ao l.length cap (ints l):=by
 obtain ⟨h0,h⟩:=h;rcases h with ⟨rfl,h⟩ | ⟨g,cap,cur,rfl,hb,h3,h4,h5,h6,h7⟩
 ·obtain rfl:l = []:=List.length_eq_zero_iff.1 h;exact ⟨none,0,rfl,Arr.nil _ _⟩
 ·refine ⟨_,_,rfl,⟨by simp[ints],h4,h5,fun _=>⟨g,0,rfl,(Array.getElem?_eq_some_iff.1 h3).1⟩,?_⟩⟩;intro b o e i v hv j u hu
  cases e
  (have hi:i<l.length:=by simpa [ints] using (List.getElem?_eq_some_iff.1 hv).1);unfold ints at hv;rw[List.getElem?_map,List.getElem?_eq_getElem hi] at hv
  cases hv
  match j with
  | 0=>rw[Nat.zero_add,cell_of_row w g _ _ _ _ h3];(have e1:cur.toList[i*1+0]? = (cur.toList.take (l.length*1))[i*1+0]?:=by rw[List.getElem?_take,if_pos (by omega)]);rw[← Array.getElem?_toList,e1,h7,List.getElem?_map,Nat.mul_one,Nat.add_zero,List.getElem?_eq_getElem hi];exact hu
  | j+1=>simp[Value.cells] at hu
def ucl (ps:List (Value×Usr)):List Value:=ps.flatMap (fun p=>[p.1,.int .i64 p.2.wt,.int .i64 p.2.cap])
theorem jFC:∀ (ps:List (Value×Usr)){i:Nat}(h:i<ps.length) ,(ucl ps)[i*3]? = some ps[i].1∧(ucl ps)[i*3+1]? = some (.int .i64 ps[i].2.wt)∧(ucl ps)[i*3+2]? = some (.int .i64 ps[i].2.cap):=by
 intro ps
 induction ps with
 | nil=>intro i h;simp at h
 | cons p ps ih=>
  intro i h;have e:ucl (p :: ps) = [p.1,.int .i64 p.2.wt,.int .i64 p.2.cap] ++ ucl ps:=rfl;rw[e]
  match i with
  | 0=>exact ⟨rfl,rfl,rfl⟩
  | i+1=>
   obtain ⟨h1,h2,h3⟩:=ih (i:=i) (by simpa using h);refine ⟨?_,?_,?_⟩
   ·rw[List.getElem?_append_right (by simp;omega),show (i+1)*3 - [p.1,Value.int .i64 p.2.wt,.int .i64 p.2.cap].length=i*3 by simp;omega];exact h1
   ·rw[List.getElem?_append_right (by simp;omega),show (i+1)*3+1 - [p.1,Value.int .i64 p.2.wt,.int .i64 p.2.cap].length=i*3+1 by simp;omega];exact h2
   ·rw[List.getElem?_append_right (by simp;omega),show (i+1)*3+2 - [p.1,Value.int .i64 p.2.wt,.int .i64 p.2.cap].length=i*3+2 by simp;omega];exact h3
theorem Tryz.infoUsrF:(Tryz.prog.info? 63).map (fun i=>(i.zero,i.size,i.bytes))=some (some (.agg #[.slice none 0 0,.int .i64 0,.int .i64 0]),3,40):=by kernel_rfl
def UOw (base:Nat)(w:World)(v:Value)(ps:List (Value×Usr)):Prop:=w.ownsRow base 63 3 v ps.length (ucl ps)∧∀ p,p∈ps→Li base w p.1 p.2.dem
theorem UOw.nil (base:Nat)(w:World):UOw base w (.slice none 0 0) []:=⟨World.ownsRow_nil _ _ _ _,fun p hp=>by cases hp⟩
theorem UOw.below {base:Nat}{w w':World}{v:Value}{ps:List (Value×Usr)}(h:UOw base w v ps)(hb:Below w.heap.size w w'):UOw base w' v ps:=⟨jAz h.1 hb,fun p hp=>(h.2 p hp).below hb⟩
theorem UOw.users {base:Nat}{w:World}{v:Value}{ps:List (Value×Usr)}(h:UOw base w v ps):∃ ao cap,v = .slice ao ps.length cap∧Users w ao ps.length cap (ps.map (·.2)):=by
 obtain ⟨⟨h0,h1⟩,h2⟩:=h;rcases h1 with ⟨rfl,h⟩ | ⟨g,cap,cur,rfl,hb,h3,h4,h5,h6,h7⟩
 ·obtain rfl:ps = []:=List.length_eq_zero_iff.1 h;exact ⟨none,0,rfl,rfl,[],Arr.nil _ _,fun i v hv=>by simp at hv⟩
 ·refine ⟨_,_,rfl,by simp,ps.map (fun p=>.agg #[p.1,.int .i64 p.2.wt,.int .i64 p.2.cap]),⟨by simp,h4,h5,fun _=>⟨g,0,rfl,(Array.getElem?_eq_some_iff.1 h3).1⟩,?_⟩,?_⟩
  ·intro b o e i v hv j u hu
   cases e
   (have hi:i<ps.length:=by simpa using (List.getElem?_eq_some_iff.1 hv).1);rw[List.getElem?_map,List.getElem?_eq_getElem hi] at hv
   cases hv
   obtain ⟨g1,g2,g3⟩:=jFC ps hi;have key:∀ q,q<ps.length*3→w.cell? ⟨g,0+q,none⟩=(ucl ps)[q]?:=fun q hq=>by rw[Nat.zero_add,cell_of_row w g q _ _ _ h3,← Array.getElem?_toList,← h7,List.getElem?_take,if_pos hq]
   match j with
   | 0=>rw[key _ (by omega)];rw[Nat.add_zero,g1];exact hu
   | 1=>rw[key _ (by omega)];rw[g2];exact hu
   | 2=>rw[key _ (by omega)];rw[g3];exact hu
   | j+3=>simp[Value.cells] at hu
  ·intro i v hv;(have hi:i<ps.length:=by simpa using (List.getElem?_eq_some_iff.1 hv).1);rw[List.getElem?_map,List.getElem?_eq_getElem hi] at hv
   cases hv
   obtain ⟨ao,cp,e1,e2⟩:=(h2 _ (List.getElem_mem hi)).arr;(have e3:ug (ps.map (·.2)) i=ps[i].2:=by unfold ug;rw[List.getD_eq_getElem?_getD,List.getElem?_map,List.getElem?_eq_getElem hi];rfl);rw[e3];refine ⟨ao,_,cp,?_,e2⟩;show Value.agg #[ps[i].1,.int .i64 ps[i].2.wt,.int .i64 ps[i].2.cap]=_;rw[e1]
theorem jDS (w:World){ops:Array Oper}{rest:List Oper}{o:Oper}{a:Act}{Q:Exit→Act→World→Prop}(hgd:o.guard=none)(s x:Operand)(hop:o.op=Op.call { callee:=Callee.builtin Builtin.append,args:=#[s,x],argTypes:=#[36,36] })(base:Nat)(v:Value)(ps:List (Value×Usr))(ad:Addr)(c:Nat)(p:Value×Usr)(hs:a.eval s=v)(hx:a.eval x = .slice (some ad) 1 c)(hown:UOw base w v ps)(hp:Li base w p.1 p.2.dem)(h0:w.cell? (ad.add 0)=some p.1)(h1:w.cell? (ad.add 1)=some (.int .i64 p.2.wt))(h2:w.cell? (ad.add 2)=some (.int .i64 p.2.cap))(hle:ps.length+1≤1000000)(hb:base≤w.heap.size)(h:∀ v' w',UOw base w' v' (ps ++ [p])→Touch 63 base w w'→Below base w w'→wpList Tryz.prog ops Q rest (a.put o.dst v') w'):wpList Tryz.prog ops Q (o :: rest) a w:=by
 obtain ⟨i,hi,hz0,hz1,hz2⟩:=info_parts Tryz.infoUsrF;(have hone:p.1.oneCell'=true:=by obtain ⟨ao,cap,e⟩:=hp.shape;rw[e];rfl);refine wpList_append_own w hgd s x _ hop base 63 i (.agg #[.slice none 0 0,.int .i64 0,.int .i64 0]) 3 40 Tryz.underlying36 hi hz0 hz1 hz2 rfl (by decide) v ps.length _ hs hown.1 ad 1 c [p.1,.int .i64 p.2.wt,.int .i64 p.2.cap] hx (by simp) ?_ ?_ (by unfold maxLen;omega) (by omega) hb ?_
 ·intro j u hj
  match j with
  | 0=>rw[h0];simpa using hj
  | 1=>rw[h1];simpa using hj
  | 2=>rw[h2];simpa using hj
  | j+3=>simp at hj
 ·intro u hu;simp at hu;rcases hu with rfl | rfl | rfl
  ·exact hone
  ·rfl
  ·rfl
 ·intro v' w' g1 g2 _;have ht:=Touch.of_append hown.1 g2;have hbl:Below base w w':=jEE g2 hb (fun k hk=>(World.ownsRow.lt hown.1 k hk).1);refine h v' w' ⟨?_,?_⟩ ht hbl
  ·(have e:ucl (ps ++ [p])=ucl ps ++ [p.1,.int .i64 p.2.wt,.int .i64 p.2.cap]:=by unfold ucl;rw[List.flatMap_append];rfl);rw[e,List.length_append];exact g1
  ·intro q hq;rw[List.mem_append] at hq;rcases hq with hq | hq
   ·exact (hown.2 q hq).touch ht (by decide)
   ·simp at hq;subst hq;exact hp.touch ht (by decide)
theorem Tab.only {w w':World}{B b:Nat}{F:Flt}(h:Tab w)(hf:FL w b F)(ho:Only B b w w')(hB:w.heap.size≤B):Tab w':=by
 obtain ⟨M,h1,h2⟩:=hf;unfold Tab Go.Lib.TabIs World.var? at *
 cases hg:Tryz.prog.globalNamed "internal/strconv.uint64pow10" with
 | none=>simp[hg] at h
 | some g=>
  simp only[hg,Option.bind_some] at h ⊢
  have hlt:g<w.heap.size:=by
   rcases Nat.lt_or_ge g w.heap.size with h' | h'
   ·exact h'
   ·rw[Array.getElem?_eq_none h'] at h;simp at h
  (have hne:g≠b:=by rintro rfl;unfold FBk at h1;rw[h1] at h;simp only[Option.bind_some,Option.some.injEq] at h;have h5:=congrArg (fun a:Array Value=>a[0]?) h;simp only[Array.getElem?_ofFn] at h5;rw[dif_pos (by omega)] at h5;have h6:M 0 = .int .i64 F.k:=h2.k;rw[h6] at h5;simp[Go.Lib.pow10Tab] at h5);rw[ho.block g (by omega) hne];exact h
open Go.Lib (decDigits)
def idxF (t:Nat→Bool):Nat→Nat
  | 0=>0
  | u+1=>idxF t u+if t u then 1 else 0
def nsF (t:Nat→Bool):Nat→List Nat
  | 0=>[]
  | u+1=>nsF t u ++ if t u then [u] else []
theorem jCY (t:Nat→Bool)(n:Nat):(nsF t n).length=idxF t n:=by
 induction n with
 | zero=>rfl
 | succ n ih=>simp only[nsF,idxF,List.length_append,ih];cases t n <;> rfl
theorem jER {t:Nat→Bool}{n:Nat}(h:t n=true):nsF t (n+1)=nsF t n ++ [n]:=by simp only[nsF];rw[h];rfl
theorem jHP {t:Nat→Bool}{n:Nat}(h:t n=false):nsF t (n+1)=nsF t n:=by simp only[nsF];rw[h];simp
theorem jJV {t:Nat→Bool}{u v:Nat}(h:u≤v):idxF t u≤idxF t v:=by
 induction v with
 | zero=>(obtain rfl:u=0:=by omega);exact Nat.le_refl _
 | succ v ih=>
  by_cases e:u=v+1
  ·subst e;exact Nat.le_refl _
  ·have:=ih (by omega);simp only[idxF];omega
theorem jCZ {t:Nat→Bool}{u v:Nat}(h:u<v)(ht:t u=true):idxF t u<idxF t v:=by
 have h1:=jJV (t:=t) (u:=u+1) (v:=v) (by omega);simp only[idxF] at h1;rw[ht] at h1;simp at h1;omega
theorem jKi {t:Nat→Bool}{u v:Nat}(hu:t u=true)(hv:t v=true)(h:idxF t u=idxF t v):u=v:=by
 rcases Nat.lt_trichotomy u v with h1 | h1 | h1
 ·have:=jCZ h1 hu;omega
 ·exact h1
 ·have:=jCZ h1 hv;omega
theorem jKm {t:Nat→Bool}{u:Nat}(ht:t u=true):∀ n,u<n→(nsF t n)[idxF t u]? = some u:=by
 intro n
 induction n with
 | zero=>intro h;omega
 | succ n ih=>
  intro h;by_cases e:u=n
  ·subst e;rw[jER ht,List.getElem?_append_right (by rw[jCY];exact Nat.le_refl _),jCY];simp
  ·have h1:=ih (by omega);(have h2:idxF t u<(nsF t n).length:=by rw[jCY];exact jCZ (by omega) ht);simp only[nsF];rw[List.getElem?_append_left h2];exact h1
theorem jFL {t:Nat→Bool}:∀ n {u:Nat},u∈nsF t n→u<n∧t u=true:=by
 intro n
 induction n with
 | zero=>intro u h;cases h
 | succ n ih=>
  intro u h
  cases ht:t n with
  | false=>rw[jHP ht] at h;have:=ih h;exact ⟨by omega,this.2⟩
  | true=>
   rw[jER ht,List.mem_append] at h;rcases h with h | h
   ·have:=ih h;exact ⟨by omega,this.2⟩
   ·simp at h;subst h;exact ⟨by omega,ht⟩
theorem jLV {t:Nat→Bool}{n i:Nat}(h:i<(nsF t n).length):idxF t (nsF t n)[i]=i:=by
 obtain ⟨h1,h2⟩:=jFL n (List.getElem_mem h);have h3:=jKm h2 n h1;have h4:idxF t (nsF t n)[i]<(nsF t n).length:=(List.getElem?_eq_some_iff.1 h3).1
 have h5:∀ n,(nsF t n).Nodup:=by
  intro n
  induction n with
  | zero=>exact List.nodup_nil
  | succ n ih=>
   cases ht:t n with
   | false=>rw[jHP ht];exact ih
   | true=>rw[jER ht,List.nodup_append];refine ⟨ih,by simp,fun a ha b hb=>?_⟩;have:=(jFL n ha).1;simp at hb;subst hb;omega
 have h6:=(List.getElem?_eq_some_iff.1 h3).2;exact (List.getElem_inj (h5 n)).1 h6
def askU (F:Flt)(u:Nat):Usr:=⟨lst (F.ud u) F.k,F.uw u,askC F u⟩
def usL (F:Flt):List Usr:=(nsF F.ut 6).map (askU F)
theorem jEJ (F:Flt):(usL F).length=idxF F.ut 6:=by unfold usL;rw[List.length_map,jCY]
theorem jKp {F:Flt}{u:Nat}(hu:u<6)(ht:F.ut u=true):ug (usL F) (idxF F.ut u)=askU F u:=by
 unfold ug usL;rw[List.getD_eq_getElem?_getD,List.getElem?_map,jKm ht 6 hu];rfl
noncomputable def dueQ (F:Flt)(P:Nat→Int)(u:Nat):Rat:=(endS (lst P F.k) (usL F)).ts (idxF F.ut u)
noncomputable def dUp (F:Flt)(P:Nat→Int)(i u:Nat):ByteArray:=if u<6∧F.ut u=true∧idxF F.ut u<i then ⟨(txt (dueQ F P u)).toArray⟩ else F.due u
noncomputable def gUp (F:Flt)(P:Nat→Int)(i u:Nat):Int:=if u<6∧F.ut u=true∧idxF F.ut u<i then flZ (dueQ F P u) else 0
noncomputable def dueB (F:Flt)(P:Nat→Int)(u:Nat):ByteArray:=if u<6∧F.ut u=true then ⟨(txt (dueQ F P u)).toArray⟩ else F.due u
noncomputable def goalI (F:Flt)(P:Nat→Int)(u:Nat):Int:=if u<6∧F.ut u=true then flZ (dueQ F P u) else 0
def updB (f:Nat→ByteArray)(i:Nat)(x:ByteArray):Nat→ByteArray:=fun j=>if j=i then x else f j
theorem jKF (F:Flt)(P:Nat→Int):dUp F P 0=F.due:=by
 funext u;unfold dUp;rw[if_neg (by omega)]
theorem jKT (F:Flt)(P:Nat→Int):gUp F P 0=fun _=>0:=by
 funext u;unfold gUp;rw[if_neg (by omega)]
theorem jKo {F:Flt}{u v:Nat}(hv:F.ut v=true)(e:v≠u)(hu:F.ut u=true):idxF F.ut v<idxF F.ut u+1↔idxF F.ut v<idxF F.ut u:=by
 constructor
 ·intro h;(have:idxF F.ut v≠idxF F.ut u:=fun h2=>e (jKi hv hu h2));omega
 ·intro h;omega
theorem jJo {F:Flt}{P:Nat→Int}{u:Nat}(hu:u<6)(ht:F.ut u=true):updB (dUp F P (idxF F.ut u)) u ⟨(txt (dueQ F P u)).toArray⟩=dUp F P (idxF F.ut u+1):=by
 funext v;unfold updB dUp;by_cases e:v=u
 ·subst e;rw[if_pos rfl,if_pos ⟨hu,ht,by omega⟩]
 ·rw[if_neg e];by_cases h:v<6∧F.ut v=true
  ·have:=jKo h.2 e ht;by_cases h2:idxF F.ut v<idxF F.ut u
   ·rw[if_pos ⟨h.1,h.2,h2⟩,if_pos ⟨h.1,h.2,by omega⟩]
   ·rw[if_neg (by omega),if_neg (by omega)]
  ·rw[if_neg (fun h3=>h ⟨h3.1,h3.2.1⟩),if_neg (fun h3=>h ⟨h3.1,h3.2.1⟩)]
theorem jKb {F:Flt}{P:Nat→Int}{u:Nat}(hu:u<6)(ht:F.ut u=true):updI (gUp F P (idxF F.ut u)) u (flZ (dueQ F P u))=gUp F P (idxF F.ut u+1):=by
 funext v;unfold updI gUp;by_cases e:v=u
 ·subst e;rw[if_pos rfl,if_pos ⟨hu,ht,by omega⟩]
 ·rw[if_neg e];by_cases h:v<6∧F.ut v=true
  ·have:=jKo h.2 e ht;by_cases h2:idxF F.ut v<idxF F.ut u
   ·rw[if_pos ⟨h.1,h.2,h2⟩,if_pos ⟨h.1,h.2,by omega⟩]
   ·rw[if_neg (by omega),if_neg (by omega)]
  ·rw[if_neg (fun h3=>h ⟨h3.1,h3.2.1⟩),if_neg (fun h3=>h ⟨h3.1,h3.2.1⟩)]
theorem jLI (F:Flt)(P:Nat→Int):dUp F P (idxF F.ut 6)=dueB F P:=by
 funext u;unfold dUp dueB;by_cases h:u<6∧F.ut u=true
 ·rw[if_pos h,if_pos ⟨h.1,h.2,jCZ h.1 h.2⟩]
 ·rw[if_neg h,if_neg (fun h3=>h ⟨h3.1,h3.2.1⟩)]
theorem jLQ (F:Flt)(P:Nat→Int):gUp F P (idxF F.ut 6)=goalI F P:=by
 funext u;unfold gUp goalI;by_cases h:u<6∧F.ut u=true
 ·rw[if_pos h,if_pos ⟨h.1,h.2,jCZ h.1 h.2⟩]
 ·rw[if_neg h,if_neg (fun h3=>h ⟨h3.1,h3.2.1⟩)]
theorem jLt {q:Rat}{c:Int}(h0:0≤q)(h1:q≤(c:Rat)):0≤flZ q∧flZ q≤c:=by
 (have hd:0<(q.den:Int):=by have:=q.den_nz;omega);have hn:0≤q.num:=Rat.num_nonneg.2 h0;unfold flZ;refine ⟨Int.ediv_nonneg hn (by omega),?_⟩;have h2:=(Rat.le_iff _ _).1 h1;rw[Rat.num_intCast,Rat.den_intCast] at h2;simp at h2;exact Int.ediv_le_of_le_mul hd h2
theorem jLR {F:Flt}{P:Nat→Int}(he:errOf (lst P F.k) (usL F)=0){u:Nat}(hu:u<6)(ht:F.ut u=true):0≤dueQ F P u∧dueQ F P u≤((askC F u:Int):Rat):=by
 obtain ⟨h1,h2,h3,h4,h5,h6⟩:=jCc he;(have hi:idxF F.ut u<(usL F).length:=by rw[jEJ];exact jCZ hu ht);have hf:=(jGC h3 h4).1;refine ⟨hf.low _ hi,?_⟩;have h7:=hf.cap _ hi;(have h8:(prb (lst P F.k) (usL F)).C (idxF F.ut u)=((askC F u:Int):Rat):=by show (((ug (usL F) (idxF F.ut u)).cap:Int):Rat)=_;rw[jKp hu ht];rfl);rw[h8] at h7;exact h7
theorem jKL {F:Flt}{P:Nat→Int}(he:errOf (lst P F.k) (usL F)=0){u:Nat}(hu:u<6)(ht:F.ut u=true):readL (txt (dueQ F P u))=some (dueQ F P u):=by
 obtain ⟨h1,h2,h3,h4,h5,h6⟩:=jCc he;(have hi:idxF F.ut u<(usL F).length:=by rw[jEJ];exact jCZ hu ht);have h7:=(jLw h3 h4 h2 h6 hi).txt (by omega);exact jFt _ (by unfold dueQ;omega)
theorem jHR {F:Flt}{P:Nat→Int}(he:errOf (lst P F.k) (usL F)=0){u:Nat}(hu:u<6)(ht:F.ut u=true):0≤flZ (dueQ F P u)∧flZ (dueQ F P u)≤askC F u:=by
 obtain ⟨h1,h2⟩:=jLR he hu ht;exact jLt h1 h2
theorem jLh {F:Flt}{P:Nat→Int}(he:errOf (lst P F.k) (usL F)=0){u:Nat}(hu:u<6)(ht:F.ut u=true):0≤askC F u∧askC F u≤1000:=by
 obtain ⟨h1,h2,h3,h4,h5,h6⟩:=jCc he;(have hi:idxF F.ut u<(usL F).length:=by rw[jEJ];exact jCZ hu ht);have h7:=h3.cap hi;rw[jKp hu ht] at h7;exact h7
theorem jLD (n:Nat):txt (((n:Nat):Int):Rat)=decDigits n:=by
 unfold txt negB;rw[Rat.num_intCast,Rat.den_intCast];have e:decide (((n:Nat):Int)<0)=false:=decide_eq_false (by omega);rw[e];simp
theorem jGg (a:ByteArray)(x:Rat)(n:Nat)(w:World)(hx:readL a.data.toList=some x)(hn:flZ x=(n:Int))(hle:n<10000)(ht:Tab w):Calls Tryz.prog 106 #[.string a] w fun e w'=>e = .returned (.int .i64 n)∧Below w.heap.size w w':=by
  have HX:=hid hx;have HT:=hid ht;have HN:=hid hn;clear hx ht hn;go_enter Tryz.func106,Tryz.ntmps106;go_wp2_with fail;refine (jIG a _ x HX HT.out).mono ?_;rintro e1 w1 ⟨rfl,hb1⟩;have HB:=hid hb1;clear hb1;obtain ⟨s,hs⟩:∃ s:ByteArray,s=⟨(txt (flQ x)).toArray⟩:=⟨_,rfl⟩;rw[← hs];(have hsd:s.data.toList=decDigits n:=by rw[hs];show txt (flQ x)=_;unfold flQ;rw[HN.out];exact jLD n);(have hsz:s.size≤4:=by (have h1:s.size=s.data.toList.length:=by simp);rw[h1,hsd];exact jBj (by omega) (by omega));(have HD:Hid (s.data.toList.all isDig=true):=by unfold Hid;rw[hsd];exact (jEj n).2.1);(have HV:Hid (dv s.data.toList=n):=by unfold Hid;rw[hsd];exact jHN n);clear hs hsd;go_wp2
  go_loop[5,6] (fun v i=>∃ k:Nat,k≤s.size∧i = .int .i64 k∧v = .int .i64 (dv (s.data.toList.take k):Nat)) (fun _ i=>s.size - (intOf i).toNat)
  case atStart=>exact ⟨0,Nat.zero_le _,rfl,rfl⟩
  case round=>
    obtain ⟨k,hk,rfl,rfl⟩:=hrel;by_cases hlt:k<s.size
    · have hts:=jDH s k hlt;have HS:=hid hts;(have hb:48≤s[k].toNat∧s[k].toNat≤57:=by have:=List.all_eq_true.1 HD.out s[k] (List.getElem_mem (l:=s.data.toList) (n:=k) (by simpa using hlt));exact (jBL _).1 this);obtain ⟨hb0,hb1⟩:=hb
      have hv:dv (s.data.toList.take k)<10000:=by
        have h1 := jKN (s.data.toList.take k) (by
          rw [List.all_eq_true]; intro x hx; exact List.all_eq_true.1 HD.out x (List.mem_of_mem_take hx))
        (have h2:(s.data.toList.take k).length≤4:=by rw[List.length_take];simp;omega);have:(10:Nat) ^ (s.data.toList.take k).length≤10 ^ 4:=Nat.pow_le_pow_right (by omega) h2;omega
      have E:=hid (jGY (s.data.toList.take k) s[k]);clear hts;go_wp2;exact ⟨⟨k+1,by omega,by go_num,by rw[HS.out,E.out];congr 1;omega⟩,by simp[intOf];omega⟩
    · go_wp2;go_ret;exact ⟨by rw[List.take_of_length_le (by simp;omega),HV.out];rfl,HB.out⟩
end Go.Proofs.YtigokanoflkinabGreatDoor
