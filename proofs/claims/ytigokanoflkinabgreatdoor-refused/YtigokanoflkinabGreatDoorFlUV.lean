/- FlU, FlV, joined. -/
import Derived.Test.YtigokanoflkinabGreatDoorFlRT
import Derived.Test.YtigokanoflkinabGreatDoorWExF
import Derived.Test.YtigokanoflkinabGreatDoorKKs
set_option maxHeartbeats 2000000
set_option maxRecDepth 20000
namespace Go.Proofs.YtigokanoflkinabGreatDoor
set_option linter.unusedSimpArgs false
set_option linter.unusedVariables false
open Go.RowKit Por
theorem jGs {P:Program}(w:World)(base:Nat)(t ty e:TypeId)(i:TypeInfo)(z:Value)(size bytes:Nat)(ht:P.underlying t=some (.slice e))(hi:P.info? e=some i)(hz:i.zero=some z)(hsize:i.size=size)(hby:i.bytes=bytes)(hsz:0<size)(v:Value)(n:Nat)(xs:List Value)(hown:w.ownsRow base e size v n xs)(a:Addr)(m c:Nat)(news:List Value)(hl:news.length=m*size)(hnews:∀ j u,news[j]? = some u->w.cell? (a.add j)=some u)(h1:∀ u∈news,u.oneCell'=true)(h63:n+m<=maxLen)(hbytes:(n+m)*bytes<=140737488355328)(hm:0<m)(v':Value)(w':World)(hr:(Builtin.append_ #[t,t] ty #[v,.slice (some a) m c]).run P w = .ok v' w'):v'.ownBlock=v.ownBlock∨v'.ownBlock=some w.heap.size:=by
 subst hsize;subst hby;(have o:n+m<=9223372036854775807:=by simp only[maxLen] at h63;omega);rcases hown.2 with ⟨rfl,rfl⟩ | ⟨g,f,k,rfl,s,y,A,x,p,q⟩
 ·have d:=run_append_nil (P:=P) w t ty e i z ht hi hz a m c news hl hnews (by omega) (by omega) (by have r:=hbytes;simp only[Nat.zero_add] at r;omega);rw[hr] at d;cases d;exact .inr rfl
 ·by_cases b:n+m<=f
  ·(have l:n*i.size+news.length<=k.size:=by rw[hl,p,<- Nat.add_mul];exact Nat.mul_le_mul_right _ b);have d:=run_append_room (P:=P) w t ty e i ht hi g n f k y a m c news hl hnews h1 b l;rw[hr] at d;cases d;exact .inl rfl
  ·have h:∀ j u,xs[j]? = some u->w.cell? ((⟨g,0,none⟩:Addr).add j)=some u:=hown.cells (g:=g) rfl;have d:=run_append_grow (P:=P) w t ty e i z ht hi hz ⟨g,0,none⟩ n f xs hown.1 h a m c news hl hnews (by omega) (by omega) (growslice_fits (by omega) hbytes);rw[hr] at d;cases d;exact .inr rfl
theorem jA1 {P:Program} (w:World) {ops:Array Oper} {rest:List Oper} {o:Oper} {a:Act} {Q:Exit->Act->World->Prop} (hgd:o.guard=none) (s x:Operand) (t:TypeId)
    (ho:o.op = .call { callee:=.builtin .append,args:=#[s,x],argTypes:=#[t,t] })
    (base:Nat) (e:TypeId) (i:TypeInfo) (z:Value) (size bytes:Nat) (ht:P.underlying t=some (.slice e)) (hi:P.info? e=some i) (hz:i.zero=some z)
    (hsize:i.size=size) (hby:i.bytes=bytes) (hzs:z.cells.size=size) (hsz:0<size)
    (v:Value) (n:Nat) (xs:List Value) (hs:a.eval s=v) (hown:w.ownsRow base e size v n xs)
    (ad:Addr) (m c:Nat) (news:List Value) (hx:a.eval x = .slice (some ad) m c) (hl:news.length=m*size) (hnews:∀ j u,news[j]? = some u->w.cell? (ad.add j)=some u) (h1:∀ u∈news,u.oneCell'=true)
    (h63:n+m<=maxLen) (hbytes:(n+m)*bytes<=140737488355328) (hbase:base<=w.heap.size) (hm:0<m)
    (h:∀ v' w',w'.ownsRow base e size v' (n+m) (xs ++ news)->w.grownBy w' v.ownBlock->(v'.ownBlock=v.ownBlock∨v'.ownBlock=some w.heap.size)->wpList P ops Q rest (a.put o.dst v') w'):wpList P ops Q (o :: rest) a w:=
  wpList_plain hgd fun K hK=>by
    obtain ⟨v',w',hr,h2,h3,h4⟩:=run_append_own (P:=P) w base t o.type e i z size bytes ht hi hz hsize hby hzs hsz v n xs hown ad m c news hl hnews h1 h63 hbytes hbase
    have h5:=jGs (P:=P) w base t o.type e i z size bytes ht hi hz hsize hby hsz v n xs hown ad m c news hl hnews h1 h63 hbytes hm v' w' hr
    unfold Oper.wp execOp
    simp only[ho,resolve,invoke,builtin,Sem.run_bind,Sem.run_pure,Result.andThen_ok,List.map_toArray,List.map_cons,List.map_nil,hs,hx,hr]
    exact hK _ _ (h v' w' h2 h3 h5)
theorem jEU {w w':World}{base:Nat}{row:Option Nat}(h:w.grownBy w' row)(hb:base<=w.heap.size)(hr:∀ k,row=some k->base<=k):Below base w w':=(Below.refl base w).grown h hb hr
theorem jDz (w:World){ops:Array Oper}{rest:List Oper}{o:Oper}{a:Act}{Q:Exit->Act->World->Prop}(hgd:o.guard=none)(s x:Operand)(hop:o.op=Op.call { callee:=Callee.builtin Builtin.append,args:=#[s,x],argTypes:=#[28,28] })(base:Nat)(v:Value)(l:List Int)(ad:Addr)(c:Nat)(u:Int)(hs:a.eval s=v)(hx:a.eval x = .slice (some ad) 1 c)(hown:Li base w v l)(h0:w.cell? (ad.add 0)=some (.int .i64 u))(hle:l.length+1<=1000000)(hb:base<=w.heap.size)(h:∀ v' w',Li base w' v' (l ++ [u])->w.grownBy w' v.ownBlock->(v'.ownBlock=v.ownBlock∨v'.ownBlock=some w.heap.size)->wpList Tryz.prog ops Q rest (a.put o.dst v') w'):wpList Tryz.prog ops Q (o :: rest) a w:=by
 obtain ⟨i,p,b,d,e⟩:=info_parts Tryz.infoInt;refine jA1 w hgd s x _ hop base 3 i (.int .i64 0) 1 8 Tryz.underlying28 p b d e rfl (by decide) v l.length _ hs hown ad 1 c [.int .i64 u] hx (by simp) ?_ ?_ (by unfold maxLen;omega) (by omega) hb (by omega) ?_
 ·intro j z f
  match j with
  | 0=>rw[h0];simpa using f
  | j+1=>simp at f
 ·intro z g;simp at g;subst g;rfl
 ·intro v' w' k m n;refine h v' w' ?_ m n;unfold Li;rw[List.length_append,List.map_append];exact k
theorem Li.kept {base:Nat} {w w':World} {v:Value} {l:List Int} {row:Option Nat} (h:Li base w v l) (hg:w.grownBy w' row) (hne:∀ k,v.ownBlock=some k->row≠some k):Li base w' v l:=
  World.ownsRow.kept h hg (by
    cases e:v.ownBlock with
    | none=>exact .inl rfl
    | some k=>exact .inr (fun h5=>hne k e h5.symm))
theorem Li.lt {base:Nat}{w:World}{v:Value}{l:List Int}(h:Li base w v l){k:Nat}(hk:v.ownBlock=some k):base<=k/\k<w.heap.size:=World.ownsRow.lt h k hk
theorem Li.arr {base:Nat}{w:World}{v:Value}{l:List Int}(h:Li base w v l):∃ ao cap,v = .slice ao l.length cap/\Arr w 1 ao l.length cap (zg l):=by
 obtain ⟨r,h⟩:=h;rcases h with ⟨rfl,h⟩ | ⟨g,cap,a,rfl,t,d,n,p,s,q⟩
 ·obtain rfl:l = []:=List.length_eq_zero_iff.1 h;exact ⟨none,0,rfl,Arr.nil _ _⟩
 ·refine ⟨_,_,rfl,⟨by simp[zg],n,p,fun _=>⟨g,0,rfl,(Array.getElem?_eq_some_iff.1 d).1⟩,?_⟩⟩;intro b o e i v c j u k
  cases e
  (have f:i<l.length:=by simpa [zg] using (List.getElem?_eq_some_iff.1 c).1);unfold zg at c;rw[List.getElem?_map,List.getElem?_eq_getElem f] at c
  cases c
  match j with
  | 0=>rw[Nat.zero_add,cell_of_row w g _ _ _ _ d];(have m:a.toList[i*1+0]? = (a.toList.take (l.length*1))[i*1+0]?:=by rw[List.getElem?_take,if_pos (by omega)]);rw[<- Array.getElem?_toList,m,q,List.getElem?_map,Nat.mul_one,Nat.add_zero,List.getElem?_eq_getElem f];exact k
  | j+1=>simp[Value.cells] at k
def ucl (ps:List (Value×Usr)):List Value:=ps.flatMap (fun p=>[p.1,.int .i64 p.2.wt,.int .i64 p.2.cap])
theorem jD1:∀ (ps:List (Value×Usr)){i:Nat}(h:i<ps.length) ,(ucl ps)[i*3]? = some ps[i].1/\(ucl ps)[i*3+1]? = some (.int .i64 ps[i].2.wt)/\(ucl ps)[i*3+2]? = some (.int .i64 ps[i].2.cap):=by
 intro ps
 induction ps with
 | nil=>intro i h;simp at h
 | cons p ps ih=>
  intro i h;have e:ucl (p :: ps) = [p.1,.int .i64 p.2.wt,.int .i64 p.2.cap] ++ ucl ps:=rfl;rw[e]
  match i with
  | 0=>exact ⟨rfl,rfl,rfl⟩
  | i+1=>
   obtain ⟨a,b,c⟩:=ih (i:=i) (by simpa using h);refine ⟨?_,?_,?_⟩
   ·rw[List.getElem?_append_right (by simp;omega),show (i+1)*3 - [p.1,Value.int .i64 p.2.wt,.int .i64 p.2.cap].length=i*3 by simp;omega];exact a
   ·rw[List.getElem?_append_right (by simp;omega),show (i+1)*3+1 - [p.1,Value.int .i64 p.2.wt,.int .i64 p.2.cap].length=i*3+1 by simp;omega];exact b
   ·rw[List.getElem?_append_right (by simp;omega),show (i+1)*3+2 - [p.1,Value.int .i64 p.2.wt,.int .i64 p.2.cap].length=i*3+2 by simp;omega];exact c
theorem Tryz.infoUsrF:(Tryz.prog.info? 63).map (fun i=>(i.zero,i.size,i.bytes))=some (some (.agg #[.slice none 0 0,.int .i64 0,.int .i64 0]),3,40):=by kernel_rfl
def UOw (base:Nat)(w:World)(v:Value)(ps:List (Value×Usr)):Prop:=w.ownsRow base 63 3 v ps.length (ucl ps)/\∀ p,p∈ps->Li base w p.1 p.2.dem
theorem UOw.nil (base:Nat)(w:World):UOw base w (.slice none 0 0) []:=⟨World.ownsRow_nil _ _ _ _,fun p hp=>by cases hp⟩
theorem UOw.below {base:Nat}{w w':World}{v:Value}{ps:List (Value×Usr)}(h:UOw base w v ps)(hb:Below w.heap.size w w'):UOw base w' v ps:=⟨jAT h.1 hb,fun p hp=>(h.2 p hp).below hb⟩
theorem UOw.users {base:Nat}{w:World}{v:Value}{ps:List (Value×Usr)}(h:UOw base w v ps):∃ ao cap,v = .slice ao ps.length cap/\Users w ao ps.length cap (ps.map (·.2)):=by
 obtain ⟨⟨E,z⟩,A⟩:=h;rcases z with ⟨rfl,h⟩ | ⟨g,cap,m,rfl,G,k,B,C,F,D⟩
 ·obtain rfl:ps = []:=List.length_eq_zero_iff.1 h;exact ⟨none,0,rfl,rfl,[],Arr.nil _ _,fun i v a=>by simp at a⟩
 ·refine ⟨_,_,rfl,by simp,ps.map (fun p=>.agg #[p.1,.int .i64 p.2.wt,.int .i64 p.2.cap]),⟨by simp,B,C,fun _=>⟨g,0,rfl,(Array.getElem?_eq_some_iff.1 k).1⟩,?_⟩,?_⟩
  ·intro b o e i v a j u f
   cases e
   (have d:i<ps.length:=by simpa using (List.getElem?_eq_some_iff.1 a).1);rw[List.getElem?_map,List.getElem?_eq_getElem d] at a
   cases a
   obtain ⟨t,x,y⟩:=jD1 ps d;have c:∀ q,q<ps.length*3->w.cell? ⟨g,0+q,none⟩=(ucl ps)[q]?:=fun q hq=>by rw[Nat.zero_add,cell_of_row w g q _ _ _ k,<- Array.getElem?_toList,<- D,List.getElem?_take,if_pos hq]
   match j with
   | 0=>rw[c _ (by omega)];rw[Nat.add_zero,t];exact f
   | 1=>rw[c _ (by omega)];rw[x];exact f
   | 2=>rw[c _ (by omega)];rw[y];exact f
   | j+3=>simp[Value.cells] at f
  ·intro i v a;(have d:i<ps.length:=by simpa using (List.getElem?_eq_some_iff.1 a).1);rw[List.getElem?_map,List.getElem?_eq_getElem d] at a
   cases a
   obtain ⟨ao,l,n,r⟩:=(A _ (List.getElem_mem d)).arr;(have s:ug (ps.map (·.2)) i=ps[i].2:=by unfold ug;rw[List.getD_eq_getElem?_getD,List.getElem?_map,List.getElem?_eq_getElem d];rfl);rw[s];refine ⟨ao,_,l,?_,r⟩;show Value.agg #[ps[i].1,.int .i64 ps[i].2.wt,.int .i64 ps[i].2.cap]=_;rw[n]
theorem jD9 (w:World){ops:Array Oper}{rest:List Oper}{o:Oper}{a:Act}{Q:Exit->Act->World->Prop}(hgd:o.guard=none)(s x:Operand)(hop:o.op=Op.call { callee:=Callee.builtin Builtin.append,args:=#[s,x],argTypes:=#[36,36] })(base:Nat)(v:Value)(ps:List (Value×Usr))(ad:Addr)(c:Nat)(p:Value×Usr)(hs:a.eval s=v)(hx:a.eval x = .slice (some ad) 1 c)(hown:UOw base w v ps)(hp:Li base w p.1 p.2.dem)(h0:w.cell? (ad.add 0)=some p.1)(h1:w.cell? (ad.add 1)=some (.int .i64 p.2.wt))(h2:w.cell? (ad.add 2)=some (.int .i64 p.2.cap))(hle:ps.length+1<=1000000)(hb:base<=w.heap.size)(h:∀ v' w',UOw base w' v' (ps ++ [p])->Touch 63 base w w'->Below base w w'->wpList Tryz.prog ops Q rest (a.put o.dst v') w'):wpList Tryz.prog ops Q (o :: rest) a w:=by
 obtain ⟨i,A,m,n,r⟩:=info_parts Tryz.infoUsrF;(have d:p.1.oneCell'=true:=by obtain ⟨B,cap,e⟩:=hp.shape;rw[e];rfl);refine wpList_append_own w hgd s x _ hop base 63 i (.agg #[.slice none 0 0,.int .i64 0,.int .i64 0]) 3 40 Tryz.underlying36 A m n r rfl (by decide) v ps.length _ hs hown.1 ad 1 c [p.1,.int .i64 p.2.wt,.int .i64 p.2.cap] hx (by simp) ?_ ?_ (by unfold maxLen;omega) (by omega) hb ?_
 ·intro j u f
  match j with
  | 0=>rw[h0];simpa using f
  | 1=>rw[h1];simpa using f
  | 2=>rw[h2];simpa using f
  | j+3=>simp at f
 ·intro u y;simp at y;rcases y with rfl | rfl | rfl
  ·exact d
  ·rfl
  ·rfl
 ·intro v' w' z t _;have l:=Touch.of_append hown.1 t;have g:Below base w w':=jEU t hb (fun k hk=>(World.ownsRow.lt hown.1 k hk).1);refine h v' w' ⟨?_,?_⟩ l g
  ·(have e:ucl (ps ++ [p])=ucl ps ++ [p.1,.int .i64 p.2.wt,.int .i64 p.2.cap]:=by unfold ucl;rw[List.flatMap_append];rfl);rw[e,List.length_append];exact z
  ·intro q b;rw[List.mem_append] at b;rcases b with b | b
   ·exact (hown.2 q b).touch l (by decide)
   ·simp at b;subst b;exact hp.touch l (by decide)
theorem Tab.only {w w':World}{B b:Nat}{F:Flt}(h:Tab w)(hf:FL w b F)(ho:Only B b w w')(hB:w.heap.size<=B):Tab w':=by
 obtain ⟨M,h1,h2⟩:=hf;unfold Tab Go.Lib.TabIs World.var? at *
 cases hg:Tryz.prog.globalNamed "internal/strconv.uint64pow10" with
 | none=>simp[hg] at h
 | some g=>
  simp only[hg,Option.bind_some] at h ⊢
  have hlt:g<w.heap.size:=by
   rcases Nat.lt_or_ge g w.heap.size with h' | h'
   ·exact h'
   ·rw[Array.getElem?_eq_none h'] at h;simp at h
  (have hne:g≠b:=by rintro rfl;unfold FBk at h1;rw[h1] at h;simp only[Option.bind_some,Option.some.injEq] at h;have h5:=congrArg (fun a:Array Value=>a[0]?) h;simp only[Array.getElem?_ofFn] at h5;rw[dif_pos (by omega)] at h5;have h6:M 0 = .int .i64 F.k:=h2.k;rw[h6] at h5;simp[Go.Lib.pow10Tab] at h5);rw[ho.block g (by omega) hne];exact h
open Go.Lib (decDigits)
def zS (t:Nat->Bool):Nat->Nat
  | 0=>0
  | u+1=>zS t u+if t u then 1 else 0
def xe (t:Nat->Bool):Nat->List Nat
  | 0=>[]
  | u+1=>xe t u ++ if t u then [u] else []
theorem jB5 (t:Nat->Bool)(n:Nat):(xe t n).length=zS t n:=by
 induction n with
 | zero=>rfl
 | succ n ih=>simp only[xe,zS,List.length_append,ih];cases t n <;> rfl
theorem jDP {t:Nat->Bool}{n:Nat}(h:t n=true):xe t (n+1)=xe t n ++ [n]:=by simp only[xe];rw[h];rfl
theorem jFh {t:Nat->Bool}{n:Nat}(h:t n=false):xe t (n+1)=xe t n:=by simp only[xe];rw[h];simp
theorem jI4 {t:Nat->Bool}{u v:Nat}(h:u<=v):zS t u<=zS t v:=by
 induction v with
 | zero=>(obtain rfl:u=0:=by omega);exact Nat.le_refl _
 | succ v ih=>
  by_cases e:u=v+1
  ·subst e;exact Nat.le_refl _
  ·have:=ih (by omega);simp only[zS];omega
theorem jCc {t:Nat->Bool}{u v:Nat}(h:u<v)(ht:t u=true):zS t u<zS t v:=by
 have a:=jI4 (t:=t) (u:=u+1) (v:=v) (by omega);simp only[zS] at a;rw[ht] at a;simp at a;omega
theorem jKo {t:Nat->Bool}{u v:Nat}(hu:t u=true)(hv:t v=true)(h:zS t u=zS t v):u=v:=by
 rcases Nat.lt_trichotomy u v with a | a | a
 ·have:=jCc a hu;omega
 ·exact a
 ·have:=jCc a hv;omega
theorem jLs {t:Nat->Bool}{u:Nat}(ht:t u=true):∀ n,u<n->(xe t n)[zS t u]? = some u:=by
 intro n
 induction n with
 | zero=>intro h;omega
 | succ n ih=>
  intro h;by_cases e:u=n
  ·subst e;rw[jDP ht,List.getElem?_append_right (by rw[jB5];exact Nat.le_refl _),jB5];simp
  ·have a:=ih (by omega);(have b:zS t u<(xe t n).length:=by rw[jB5];exact jCc (by omega) ht);simp only[xe];rw[List.getElem?_append_left b];exact a
theorem jGD {t:Nat->Bool}:∀ n {u:Nat},u∈xe t n->u<n/\t u=true:=by
 intro n
 induction n with
 | zero=>intro u h;cases h
 | succ n ih=>
  intro u h
  cases a:t n with
  | false=>rw[jFh a] at h;have:=ih h;exact ⟨by omega,this.2⟩
  | true=>
   rw[jDP a,List.mem_append] at h;rcases h with h | h
   ·have:=ih h;exact ⟨by omega,this.2⟩
   ·simp at h;subst h;exact ⟨by omega,a⟩
theorem jMb {t:Nat->Bool}{n i:Nat}(h:i<(xe t n).length):zS t (xe t n)[i]=i:=by
 obtain ⟨e,f⟩:=jGD n (List.getElem_mem h);have c:=jLs f n e;have k:zS t (xe t n)[i]<(xe t n).length:=(List.getElem?_eq_some_iff.1 c).1
 have g:∀ n,(xe t n).Nodup:=by
  intro n
  induction n with
  | zero=>exact List.nodup_nil
  | succ n ih=>
   cases d:t n with
   | false=>rw[jFh d];exact ih
   | true=>rw[jDP d,List.nodup_append];refine ⟨ih,by simp,fun a ha b hb=>?_⟩;have:=(jGD n ha).1;simp at hb;subst hb;omega
 have j:=(List.getElem?_eq_some_iff.1 c).2;exact (List.getElem_inj (g n)).1 j
def yj (F:Flt)(u:Nat):Usr:=⟨zj (F.ud u) F.k,F.uw u,yT F u⟩
def xE (F:Flt):List Usr:=(xe F.ut 6).map (yj F)
theorem jCw (F:Flt):(xE F).length=zS F.ut 6:=by unfold xE;rw[List.length_map,jB5]
theorem jJK {F:Flt}{u:Nat}(hu:u<6)(ht:F.ut u=true):ug (xE F) (zS F.ut u)=yj F u:=by
 unfold ug xE;rw[List.getD_eq_getElem?_getD,List.getElem?_map,jLs ht 6 hu];rfl
noncomputable def zr (F:Flt)(P:Nat->Int)(u:Nat):Rat:=(yl (zj P F.k) (xE F)).ts (zS F.ut u)
noncomputable def dUp (F:Flt)(P:Nat->Int)(i u:Nat):ByteArray:=if u<6/\F.ut u=true/\zS F.ut u<i then ⟨(txt (zr F P u)).toArray⟩ else F.due u
noncomputable def gUp (F:Flt)(P:Nat->Int)(i u:Nat):Int:=if u<6/\F.ut u=true/\zS F.ut u<i then flZ (zr F P u) else 0
noncomputable def xL (F:Flt)(P:Nat->Int)(u:Nat):ByteArray:=if u<6/\F.ut u=true then ⟨(txt (zr F P u)).toArray⟩ else F.due u
noncomputable def zG (F:Flt)(P:Nat->Int)(u:Nat):Int:=if u<6/\F.ut u=true then flZ (zr F P u) else 0
def updB (f:Nat->ByteArray)(i:Nat)(x:ByteArray):Nat->ByteArray:=fun j=>if j=i then x else f j
theorem jLP (F:Flt)(P:Nat->Int):dUp F P 0=F.due:=by
 funext u;unfold dUp;rw[if_neg (by omega)]
theorem jLR (F:Flt)(P:Nat->Int):gUp F P 0=fun _=>0:=by
 funext u;unfold gUp;rw[if_neg (by omega)]
theorem jL1 {F:Flt}{u v:Nat}(hv:F.ut v=true)(e:v≠u)(hu:F.ut u=true):zS F.ut v<zS F.ut u+1↔zS F.ut v<zS F.ut u:=by
 constructor
 ·intro h;(have:zS F.ut v≠zS F.ut u:=fun h2=>e (jKo hv hu h2));omega
 ·intro h;omega
theorem jKs {F:Flt}{P:Nat->Int}{u:Nat}(hu:u<6)(ht:F.ut u=true):updB (dUp F P (zS F.ut u)) u ⟨(txt (zr F P u)).toArray⟩=dUp F P (zS F.ut u+1):=by
 funext v;unfold updB dUp;by_cases e:v=u
 ·subst e;rw[if_pos rfl,if_pos ⟨hu,ht,by omega⟩]
 ·rw[if_neg e];by_cases h:v<6/\F.ut v=true
  ·have:=jL1 h.2 e ht;by_cases a:zS F.ut v<zS F.ut u
   ·rw[if_pos ⟨h.1,h.2,a⟩,if_pos ⟨h.1,h.2,by omega⟩]
   ·rw[if_neg (by omega),if_neg (by omega)]
  ·rw[if_neg (fun h3=>h ⟨h3.1,h3.2.1⟩),if_neg (fun h3=>h ⟨h3.1,h3.2.1⟩)]
theorem jKw {F:Flt}{P:Nat->Int}{u:Nat}(hu:u<6)(ht:F.ut u=true):zF (gUp F P (zS F.ut u)) u (flZ (zr F P u))=gUp F P (zS F.ut u+1):=by
 funext v;unfold zF gUp;by_cases e:v=u
 ·subst e;rw[if_pos rfl,if_pos ⟨hu,ht,by omega⟩]
 ·rw[if_neg e];by_cases h:v<6/\F.ut v=true
  ·have:=jL1 h.2 e ht;by_cases a:zS F.ut v<zS F.ut u
   ·rw[if_pos ⟨h.1,h.2,a⟩,if_pos ⟨h.1,h.2,by omega⟩]
   ·rw[if_neg (by omega),if_neg (by omega)]
  ·rw[if_neg (fun h3=>h ⟨h3.1,h3.2.1⟩),if_neg (fun h3=>h ⟨h3.1,h3.2.1⟩)]
theorem jMh (F:Flt)(P:Nat->Int):dUp F P (zS F.ut 6)=xL F P:=by
 funext u;unfold dUp xL;by_cases h:u<6/\F.ut u=true
 ·rw[if_pos h,if_pos ⟨h.1,h.2,jCc h.1 h.2⟩]
 ·rw[if_neg h,if_neg (fun h3=>h ⟨h3.1,h3.2.1⟩)]
theorem jMO (F:Flt)(P:Nat->Int):gUp F P (zS F.ut 6)=zG F P:=by
 funext u;unfold gUp zG;by_cases h:u<6/\F.ut u=true
 ·rw[if_pos h,if_pos ⟨h.1,h.2,jCc h.1 h.2⟩]
 ·rw[if_neg h,if_neg (fun h3=>h ⟨h3.1,h3.2.1⟩)]
theorem jMF {q:Rat}{c:Int}(h0:0<=q)(h1:q<=(c:Rat)):0<=flZ q/\flZ q<=c:=by
 (have b:0<(q.den:Int):=by have:=q.den_nz;omega);have d:0<=q.num:=Rat.num_nonneg.2 h0;unfold flZ;refine ⟨Int.ediv_nonneg d (by omega),?_⟩;have a:=(Rat.le_iff _ _).1 h1;rw[Rat.num_intCast,Rat.den_intCast] at a;simp at a;exact Int.ediv_le_of_le_mul b a
theorem jMx {F:Flt}{P:Nat->Int}(he:yF (zj P F.k) (xE F)=0){u:Nat}(hu:u<6)(ht:F.ut u=true):0<=zr F P u/\zr F P u<=((yT F u:Int):Rat):=by
 obtain ⟨g,h,d,e,i,j⟩:=jCB he;(have c:zS F.ut u<(xE F).length:=by rw[jCw];exact jCc hu ht);have b:=(jEi d e).1;refine ⟨b.low _ c,?_⟩;have a:=b.cap _ c;(have f:(xP (zj P F.k) (xE F)).C (zS F.ut u)=((yT F u:Int):Rat):=by show (((ug (xE F) (zS F.ut u)).cap:Int):Rat)=_;rw[jJK hu ht];rfl);rw[f] at a;exact a
theorem jHk {F:Flt}{P:Nat->Int}(he:yF (zj P F.k) (xE F)=0){u:Nat}(hu:u<6)(ht:F.ut u=true):xF (txt (zr F P u))=some (zr F P u):=by
 obtain ⟨f,a,b,c,g,d⟩:=jCB he;(have e:zS F.ut u<(xE F).length:=by rw[jCw];exact jCc hu ht);have h:=(jNE b c a d e).txt (by omega);exact jGM _ (by unfold zr;omega)
theorem jID {F:Flt}{P:Nat->Int}(he:yF (zj P F.k) (xE F)=0){u:Nat}(hu:u<6)(ht:F.ut u=true):0<=flZ (zr F P u)/\flZ (zr F P u)<=yT F u:=by
 obtain ⟨a,b⟩:=jMx he hu ht;exact jMF a b
theorem jMN {F:Flt}{P:Nat->Int}(he:yF (zj P F.k) (xE F)=0){u:Nat}(hu:u<6)(ht:F.ut u=true):0<=yT F u/\yT F u<=1000:=by
 obtain ⟨d,e,b,f,g,h⟩:=jCB he;(have c:zS F.ut u<(xE F).length:=by rw[jCw];exact jCc hu ht);have a:=b.cap c;rw[jJK hu ht] at a;exact a
theorem jJt (n:Nat):txt (((n:Nat):Int):Rat)=decDigits n:=by
 unfold txt negB;rw[Rat.num_intCast,Rat.den_intCast];have e:decide (((n:Nat):Int)<0)=false:=decide_eq_false (by omega);rw[e];simp
theorem jHS (a:ByteArray)(x:Rat)(n:Nat)(w:World)(hx:xF a.data.toList=some x)(hn:flZ x=(n:Int))(hle:n<10000)(ht:Tab w):Calls Tryz.prog 106 #[.string a] w fun e w'=>e = .returned (.int .i64 n)/\Below w.heap.size w w':=by
  have r:=hid hx;have p:=hid ht;have m:=hid hn;clear hx ht hn;go_enter Tryz.func106,Tryz.ntmps106;go_wp2_with fail;refine (jFX a _ x r p.out).mono ?_;rintro A D ⟨rfl,c⟩;have j:=hid c;clear c;obtain ⟨s,hs⟩:∃ s:ByteArray,s=⟨(txt (flQ x)).toArray⟩:=⟨_,rfl⟩;rw[<- hs];(have b:s.data.toList=decDigits n:=by rw[hs];show txt (flQ x)=_;unfold flQ;rw[m.out];exact jJt n);(have z:s.size<=4:=by (have h:s.size=s.data.toList.length:=by simp);rw[h,b];exact jBa (by omega) (by omega));(have g:Hid (s.data.toList.all yx=true):=by unfold Hid;rw[b];exact (jCH n).2.1);(have q:Hid (dv s.data.toList=n):=by unfold Hid;rw[b];exact jFc n);clear hs b;go_wp2
  go_loop[5,6] (fun v i=>∃ k:Nat,k<=s.size/\i = .int .i64 k/\v = .int .i64 (dv (s.data.toList.take k):Nat)) (fun _ i=>s.size - (intOf i).toNat)
  case atStart=>exact ⟨0,Nat.zero_le _,rfl,rfl⟩
  case round=>
    obtain ⟨k,B,rfl,rfl⟩:=hrel;by_cases d:k<s.size
    · have f:=jCl s k d;have o:=hid f;(have u:48<=s[k].toNat/\s[k].toNat<=57:=by have:=List.all_eq_true.1 g.out s[k] (List.getElem_mem (l:=s.data.toList) (n:=k) (by simpa using d));exact (jBF _).1 this);obtain ⟨y,c⟩:=u
      have C:dv (s.data.toList.take k)<10000:=by
        have h := jI7 (s.data.toList.take k) (by
          rw [List.all_eq_true]; intro x hx; exact List.all_eq_true.1 g.out x (List.mem_of_mem_take hx))
        (have t:(s.data.toList.take k).length<=4:=by rw[List.length_take];simp;omega);have:(10:Nat) ^ (s.data.toList.take k).length<=10 ^ 4:=Nat.pow_le_pow_right (by omega) t;omega
      have E:=hid (jF4 (s.data.toList.take k) s[k]);clear f;go_wp2;exact ⟨⟨k+1,by omega,by go_num,by rw[o.out,E.out];congr 1;omega⟩,by simp[intOf];omega⟩
    · go_wp2;go_ret;exact ⟨by rw[List.take_of_length_le (by simp;omega),q.out];rfl,j.out⟩
end Go.Proofs.YtigokanoflkinabGreatDoor
