/- LHand, LUsr, LUsrB, LWhole, joined. -/
import Derived.Test.YtigokanoflkinabGreatDoorFBW
import Derived.Deep.DeepCutAuto
namespace Go.Proofs.YtigokanoflkinabGreatDoor
set_option linter.unusedSimpArgs false
set_option linter.unusedVariables false
open Go.RowKit Por
theorem jBw (w:World){ops:Array Oper}{rest:List Oper}{o:Oper}{a:Act}{Q:Exit->Act->World->Prop}(hg:o.guard=none)(l c:Operand)(hop:o.op=Op.makeSlice 28 l c)(L C:Int)(n:Nat)(hl:a.eval l = .int .i64 L)(hc:a.eval c = .int .i64 C)(hL:L=(n:Int))(hC:C=(n:Int))(hn:n<=35184372088832)(hK:∀ w',Blk w' w.heap.size (List.replicate n 0)->Below w.heap.size w w'->wpList Tryz.prog ops Q rest (a.put o.dst (.slice (some ⟨w.heap.size,0,none⟩) n n)) w'):wpList Tryz.prog ops Q (o :: rest) a w:=by
 obtain ⟨i,u,j,m,p⟩:=info_parts Tryz.infoInt;refine wpList_make_full w hg l c 28 hop w.heap.size 3 i (.int .i64 0) 1 Tryz.underlying28 u j m .i64 .i64 L C n hl hc hL hC (by rw[p];omega) (by unfold maxLen;omega) (Nat.le_refl _) ?_;intro w' v h;have t:Below w.heap.size w w':=brf.grown h (Nat.le_refl _) (fun k e=>by cases e);rcases v.2 with ⟨b,_⟩ | ⟨g,r,d,b,_,q,x,y,s,f⟩
 ·cases b
 ·simp only[Value.slice.injEq,Option.some.injEq,Addr.mk.injEq,and_true,true_and] at b;obtain ⟨rfl,rfl⟩:=b;(have e:d=((List.replicate n (0:Int)).map (Value.int .i64)).toArray:=by apply Array.toList_inj.1;rw[Nat.mul_one] at f s;rw[List.take_of_length_le (by rw[Array.length_toList];omega)] at f;rw[f,show (Value.int .i64 0).cells=#[.int .i64 0] from rfl,toList_madeCells_one];simp);rw[e] at q;exact hK w' q t
theorem jEp (w0 w:World){ops:Array Oper}{rest:List Oper}{o:Oper}{a:Act}{Q:Exit->Act->World->Prop}(hgd:o.guard=none)(d s:Operand)(ho:o.op = .call { callee:=.builtin .copy,args:=#[d,s],argTypes:=#[28,28] })(g m n cap:Nat)(ao:Option Addr)(zs xs:List Int)(hd:a.eval d = .slice (some ⟨g,0,none⟩) m m)(hs:a.eval s = .slice ao n cap)(hz:Blk w g zs)(hzl:zs.length=m)(hr:Arr w 1 ao n cap (zg xs))(hnm:n<=m)(hb:Below w0.heap.size w0 w)(hle:w0.heap.size<=g)(h:∀ w',Hid (Blk w' g (xs ++ zs.drop n))->Below w0.heap.size w0 w'->wpList Tryz.prog ops Q rest (a.put o.dst (goInt n)) w'):wpList Tryz.prog ops Q (o :: rest) a w:=by
  have p:=hr.len;rw[jAG] at p;subst p;(have e:(zg xs).length=Nat.min xs.length m:=by rw[jAG];exact (Nat.min_eq_left hnm).symm);refine wpList_copy_splice hgd d s 28 28 ho 3 Tryz.underlying28 Tryz.sizeInt _ _ _ _ _ _ hd hs g 0 (zs.map (Value.int .i64)) 3 hz (zg xs) e ?_ (by rw[jAG,List.length_map];omega) ?_ w0.heap.size w0 hb hle ?_
  · intro l;rw[jAG] at l;obtain ⟨b,k,rfl,y⟩:=hr.head l;refine ⟨rfl,_,rfl,fun j v c=>?_⟩;have u:j<xs.length:=by have:=(List.getElem?_eq_some_iff.1 c).1;rwa [jAG] at this
    have := hr.cell b k rfl j v c 0 v (by
      rw [jDG xs u] at c; cases c; rfl)
    (have f:(⟨b,k,none⟩:Addr).add j=⟨b,k+j,none⟩:=by unfold Addr.add;split <;> simp_all);rw[f]
    simpa using this
  · intro v c;unfold zg at c;obtain ⟨x,_,rfl⟩:=List.mem_map.1 c;rfl
  · intro w' z i;(have q:goInt (zg xs).length=goInt xs.length:=by rw[jAG]);rw[q];refine h w' ?_ i;have t:=z.out;unfold Hid Blk;rw[t];(have r:splice (zs.map (Value.int .i64)) 0 (zg xs)=(xs ++ zs.drop xs.length).map (Value.int .i64):=by unfold splice;simp[zg]);rw[r]
theorem jEk {xs ys:List Int}{j:Nat}(h:j<xs.length):lm (xs ++ ys) j=lm xs j:=by
 unfold lm;rw[List.getD_eq_getElem?_getD,List.getD_eq_getElem?_getD,List.getElem?_append_left h]
structure Touch (T:TypeId)(B:Nat)(w w':World):Prop where
  size:w.heap.size<=w'.heap.size
  block:∀ k,k<w.heap.size->(k<B∨∀ cur fz,w.heap[k]?≠some (.cells cur T fz))->w'.heap[k]? = w.heap[k]?
theorem Touch.of_append {T:TypeId}{B size n:Nat}{w w':World}{v:Value}{xs:List Value}(hown:w.ownsRow B T size v n xs)(hg:w.grownBy w' v.ownBlock):Touch T B w w':=by
 refine ⟨hg.size,fun k hk h=>hg.block k hk (fun e=>?_)⟩;rcases hown.2 with ⟨rfl,_⟩ | ⟨g,a,b,rfl,f,d,_⟩
 ·cases e
 ·have c:some k=some g:=e
  cases c
  rcases h with h | h
  ·omega
  ·exact h _ _ d
theorem Touch.of_set {T:TypeId}{B:Nat}{w:World}{b i:Nat}{v:Value}{cur:Array Value}(hb:w.heap[b]? = some (.cells cur T (0,0)))(hB:B<=b):Touch T B w (w.setCell ⟨b,i,none⟩ v):=by
 refine ⟨by simp[World.setCell],fun k hk h=>?_⟩
 have a:k≠b:=fun e=>by
  subst e;rcases h with h | h
  ·omega
  ·exact h _ _ hb
 exact Below.heap_setCell w _ v k a
theorem Touch.bx {T T':TypeId} {B b:Nat} {w w':World} {cs:Array Value} (h:Touch T B w w') (hx:Bx w b cs T') (hT:T'≠T):Bx w' b cs T':=
  (h.block b hx.lt (.inr (fun cur fz e=>by unfold Bx at hx;rw[hx] at e;cases e;exact hT rfl))).trans hx
theorem Touch.blk {T:TypeId} {B b:Nat} {w w':World} {zs:List Int} (h:Touch T B w w') (hx:Blk w b zs) (hT:3≠T):Blk w' b zs:=
  (h.block b hx.lt (.inr (fun cur fz e=>by unfold Blk at hx;rw[hx] at e;cases e;exact hT rfl))).trans hx
theorem Touch.own {T T':TypeId}{B base size n:Nat}{w w':World}{v:Value}{xs:List Value}(h:Touch T B w w')(hx:w.ownsRow base T' size v n xs)(hT:T'≠T):w'.ownsRow base T' size v n xs:=by
 refine ⟨hx.1,?_⟩;rcases hx.2 with d | ⟨g,a,b,d,i,f,j⟩
 ·exact .inl d
 ·exact .inr ⟨g,a,b,d,i,(h.block g (Array.getElem?_eq_some_iff.1 f).1 (.inr (fun c fz e=>by rw[f] at e;cases e;exact hT rfl))).trans f,j⟩
theorem jAT {base T size n:Nat}{w w':World}{v:Value}{xs:List Value}(h:w.ownsRow base T size v n xs)(hb:Below w.heap.size w w'):w'.ownsRow base T size v n xs:=by
 refine ⟨h.1,?_⟩;rcases h.2 with c | ⟨g,a,b,c,e,d,f⟩
 ·exact .inl c
 ·exact .inr ⟨g,a,b,c,e,(hb.block g (Array.getElem?_eq_some_iff.1 d).1).trans d,f⟩
def hs (d n:Nat):Value:=.slice (some ⟨d,0,none⟩) n (n+2)
def CrP (w:World)(us:List Usr)(og n k:Nat)(dl:List Value):Prop:=
  dl.length=k/\∃ arr,w.heap[og]? = some (.cells arr 63 (0,0))/\arr.size=(n+1)*3/\∀ i,i<k->∃ d,og<d/\arr[i*3]? = some (hs d (ug us i).dem.length)/\arr[i*3+1]? = some (.int .i64 (ug us i).wt)/\arr[i*3+2]? = some (.int .i64 (ug us i).cap)/\Blk w d ((ug us i).dem ++ [7,7])/\dl[i]? = some (hs d (ug us i).dem.length)
theorem CrP.below {w w':World}{us:List Usr}{og n k:Nat}{dl:List Value}(h:CrP w us og n k dl)(hb:Below w.heap.size w w'):CrP w' us og n k dl:=by
 obtain ⟨m,a,c,o,p⟩:=h;refine ⟨m,a,(hb.block og (Array.getElem?_eq_some_iff.1 c).1).trans c,o,fun i hi=>?_⟩;obtain ⟨d,e,f,g,j,b,l⟩:=p i hi;exact ⟨d,e,f,g,j,b.below hb b.lt,l⟩
theorem CrP.touch {T:TypeId}{B:Nat}{w w':World}{us:List Usr}{og n k:Nat}{dl:List Value}(h:CrP w us og n k dl)(ht:Touch T B w w')(h1:3≠T)(h2:63≠T):CrP w' us og n k dl:=by
 obtain ⟨r,a,b,p,q⟩:=h;refine ⟨r,a,?_,p,fun i hi=>?_⟩
 ·exact (ht.block og (Array.getElem?_eq_some_iff.1 b).1 (.inr (fun c fz e=>by rw[b] at e;cases e;exact h2 rfl))).trans b
 ·obtain ⟨d,f,g,j,l,m,o⟩:=q i hi;exact ⟨d,f,g,j,l,ht.blk m h1,o⟩
theorem CrP.has {w:World}{us:List Usr}{og n k:Nat}{dl:List Value}(h:CrP w us og n k dl){j:Nat}(hj:j<(n+1)*3):(∃ x,w.cell? ⟨og,j,none⟩=some x)/\w.frozen? ⟨og,j,none⟩=false:=by
 obtain ⟨_,a,b,c,_⟩:=h;exact ⟨⟨a[j]'(by omega),(cell_of_row w og j _ _ _ b).trans (Array.getElem?_eq_getElem (by omega))⟩,frozen_of_row w og j _ _ b⟩
theorem CrP.lt {w:World}{us:List Usr}{og n k:Nat}{dl:List Value}(h:CrP w us og n k dl):og<w.heap.size:=by
 obtain ⟨_,a,b,_⟩:=h;exact (Array.getElem?_eq_some_iff.1 b).1
theorem jFr {arr:Array Value}{i j:Nat}{u0 u1 u2:Value}(h:j<i∨i+2<j):(((arr.set! i u0).set! (i+1) u1).set! (i+2) u2)[j]? = arr[j]?:=by
 simp only[Array.set!_eq_setIfInBounds,Array.getElem?_setIfInBounds];rw[if_neg (by omega),if_neg (by omega),if_neg (by omega)]
theorem jL8 {arr:Array Value}{i:Nat}(u0 u1 u2:Value)(h:i+2<arr.size):(((arr.set! i u0).set! (i+1) u1).set! (i+2) u2)[i]? = some u0/\(((arr.set! i u0).set! (i+1) u1).set! (i+2) u2)[i+1]? = some u1/\(((arr.set! i u0).set! (i+1) u1).set! (i+2) u2)[i+2]? = some u2:=by
 simp only[Array.set!_eq_setIfInBounds,Array.getElem?_setIfInBounds,Array.size_setIfInBounds];refine ⟨?_,?_,?_⟩
 ·rw[if_neg (by omega),if_neg (by omega),if_pos trivial,if_pos (by omega)]
 ·rw[if_neg (by omega),if_pos trivial,if_pos (by omega)]
 ·rw[if_pos trivial,if_pos (by omega)]
theorem Blk.putA {w:World} {g b o:Nat} {zs:List Int} {u0 u1 u2:Value} (h:Blk w g zs) (hne:b≠g):Blk (yd w b o u0 u1 u2) g zs:=
  ((h.other ⟨b,o,none⟩ u0 hne).other ⟨b,o+1,none⟩ u1 hne).other ⟨b,o+2,none⟩ u2 hne
theorem CrP.put {w:World}{us:List Usr}{og n k d:Nat}{dl:List Value}(h:CrP w us og n k dl)(hk:k<n)(hd:og<d)(hb:Blk w d ((ug us k).dem ++ [7,7])):CrP (yd w og (k*3) (hs d (ug us k).dem.length) (.int .i64 (ug us k).wt) (.int .i64 (ug us k).cap)) us og n (k+1) (dl ++ [hs d (ug us k).dem.length]):=by
 obtain ⟨a,arr,s,t,u⟩:=h;have v:=jDr (u0:=hs d (ug us k).dem.length) (u1:=.int .i64 (ug us k).wt) (u2:=.int .i64 (ug us k).cap) (o:=k*3) s;refine ⟨by simp[a],_,v,by simp[Array.set!_eq_setIfInBounds,t],fun i hi=>?_⟩;by_cases e:i=k
 ·subst e;obtain ⟨b,c,f⟩:=jL8 (arr:=arr) (i:=i*3) (hs d (ug us i).dem.length) (.int .i64 (ug us i).wt) (.int .i64 (ug us i).cap) (by omega);exact ⟨d,hd,b,c,f,hb.putA (by omega),by rw[List.getElem?_append_right (by omega),a];simp⟩
 ·obtain ⟨g,j,l,m,p,q,r⟩:=u i (by omega);exact ⟨g,j,(jFr (by omega)).trans l,(jFr (by omega)).trans m,(jFr (by omega)).trans p,q.putA (by omega),by rw[List.getElem?_append_left (by omega)];exact r⟩
def Crowd (w:World)(us:List Usr)(og:Nat)(dl:List Value):Prop:=
  CrP w us og us.length us.length dl/\w.cell? ⟨og,us.length*3,none⟩=some (.slice none 0 0)/\w.cell? ⟨og,us.length*3+1,none⟩=some (.int .i64 7)/\w.cell? ⟨og,us.length*3+2,none⟩=some (.int .i64 7)
theorem Crowd.below {w w':World}{us:List Usr}{og:Nat}{dl:List Value}(h:Crowd w us og dl)(hb:Below w.heap.size w w'):Crowd w' us og dl:=by
 obtain ⟨b,c,d,e⟩:=h;have a:=b.lt;exact ⟨b.below hb,(hb.cell (p:=⟨og,us.length*3,none⟩) a).trans c,(hb.cell (p:=⟨og,us.length*3+1,none⟩) a).trans d,(hb.cell (p:=⟨og,us.length*3+2,none⟩) a).trans e⟩
theorem Crowd.users {w:World}{us:List Usr}{og:Nat}{dl:List Value}(h:Crowd w us og dl)(hn:us.length+1<=maxLen)(hd:∀ i,i<us.length->(ug us i).dem.length+2<=maxLen):Users w (some ⟨og,0,none⟩) us.length (us.length+1) us:=by
 obtain ⟨⟨B,a,s,C,t⟩,_⟩:=h;refine ⟨rfl,(List.range us.length).map (fun i=>.agg #[a.getD (i*3) (.bool false),.int .i64 (ug us i).wt,.int .i64 (ug us i).cap]),⟨by simp,by omega,hn,fun _=>⟨og,0,rfl,(Array.getElem?_eq_some_iff.1 s).1⟩,?_⟩,?_⟩
 ·intro b o e i v f j u c
  cases e
  (have g:i<us.length:=by simpa using (List.getElem?_eq_some_iff.1 f).1);rw[List.getElem?_map,List.getElem?_range g] at f
  cases f
  obtain ⟨d,y,l,q,r,p,z⟩:=t i g;(have n:a.getD (i*3) (.bool false)=hs d (ug us i).dem.length:=by rw[Array.getD_eq_getD_getElem?,l];rfl);have k:(Value.agg #[a.getD (i*3) (.bool false),.int .i64 (ug us i).wt,.int .i64 (ug us i).cap]).cells[j]? = some u:=c;rw[n] at k;clear c;have c:=k;have A:(Value.agg #[hs d (ug us i).dem.length,.int .i64 (ug us i).wt,.int .i64 (ug us i).cap]).cells=#[hs d (ug us i).dem.length,.int .i64 (ug us i).wt,.int .i64 (ug us i).cap]:=rfl;rw[A] at c;rw[Nat.zero_add,cell_of_row w og _ _ _ _ s]
  match j with
  | 0=>rw[Nat.add_zero,l];exact c
  | 1=>rw[q];exact c
  | 2=>rw[r];exact c
  | j+3=>simp at c
 ·intro i v f;(have g:i<us.length:=by simpa using (List.getElem?_eq_some_iff.1 f).1);rw[List.getElem?_map,List.getElem?_range g] at f
  cases f
  obtain ⟨d,y,l,q,r,p,z⟩:=t i g;(have n:a.getD (i*3) (.bool false)=hs d (ug us i).dem.length:=by rw[Array.getD_eq_getD_getElem?,l];rfl);refine ⟨some ⟨d,0,none⟩,(ug us i).dem.length,(ug us i).dem.length+2,by show Value.agg #[a.getD (i*3) (.bool false),_,_]=_;rw[n];rfl,?_⟩;refine ⟨by rw[jAG],by omega,hd i g,fun _=>⟨d,0,rfl,p.lt⟩,?_⟩;intro b o e j v f m u c
  cases e
  (have x:j<(ug us i).dem.length:=by have:=(List.getElem?_eq_some_iff.1 f).1;rwa [jAG] at this);rw[jDG _ x] at f
  cases f
  match m with
  | 0=>have:=p.cell j (by simp;omega);rw[jEk x] at this;simp only[Nat.mul_one,Nat.add_zero,Nat.zero_add];rw[this];exact c
  | m+1=>simp[Value.cells] at c
theorem jAE {w:World}{b:Nat}{cs:Array Value}{T:TypeId}(h:Bx w b cs T)(j:Nat)(v:Value):Bx (w.setCell ⟨b,j,none⟩ v) b (cs.setIfInBounds j v) T:=heap_setCell_same w b j _ _ v h
theorem CrP.heap {w:World}{us:List Usr}{og n k:Nat}{dl:List Value}(h:CrP w us og n k dl):∃ cur,w.heap[og]? = some (.cells cur 63 (0,0)):=by
 obtain ⟨_,a,b,_⟩:=h;exact ⟨a,b⟩
theorem Touch.refl (T:TypeId)(B:Nat)(w:World):Touch T B w w:=⟨Nat.le_refl _,fun _ _ _=>rfl⟩
theorem Touch.set {T:TypeId}{B:Nat}{a w:World}{b i:Nat}{v:Value}{cur:Array Value}(h:Touch T B a w)(hb:a.heap[b]? = some (.cells cur T (0,0)))(hB:B<=b):Touch T B a (w.setCell ⟨b,i,none⟩ v):=by
 refine ⟨by simp only[World.setCell];simpa using h.size,fun k hk c=>?_⟩
 have d:k≠b:=fun e=>by
  subst e;rcases c with c | c
  ·omega
  ·exact c _ _ hb
 rw[Below.heap_setCell _ _ _ k d];exact h.block k hk c
theorem Crowd.touch {T:TypeId}{B:Nat}{w w':World}{us:List Usr}{og:Nat}{dl:List Value}(h:Crowd w us og dl)(ht:Touch T B w w')(h1:3≠T)(h2:63≠T):Crowd w' us og dl:=by
 obtain ⟨b,g,i,k⟩:=h;obtain ⟨f,a⟩:=b.heap;have e:w'.heap[og]? = w.heap[og]?:=ht.block og b.lt (.inr (fun c fz e=>by rw[a] at e;cases e;exact h2 rfl));(have d:∀ j,w'.cell? ⟨og,j,none⟩=w.cell? ⟨og,j,none⟩:=fun j=>World.cell?_of_block e);exact ⟨b.touch ht h1 h2,(d _).trans g,(d _).trans i,(d _).trans k⟩
theorem jAw {base T size n:Nat}{w:World}{v:Value}{xs:List Value}(h:w.ownsRow base T size v n xs):∃ so sc,v = .slice so n sc:=by
 rcases h.2 with ⟨rfl,rfl⟩ | ⟨g,a,b,rfl,_⟩
 ·exact ⟨none,0,rfl⟩
 ·exact ⟨_,_,rfl⟩
theorem Blk.arr {w:World}{d:Nat}{xs:List Int}(h:Blk w d (xs ++ [7,7]))(hn:xs.length+2<=maxLen):Arr w 1 (some ⟨d,0,none⟩) xs.length (xs.length+2) (zg xs):=by
 refine ⟨by rw[jAG],by omega,hn,fun _=>⟨d,0,rfl,h.lt⟩,?_⟩;intro b o e j v a m u f
 cases e
 (have c:j<xs.length:=by have:=(List.getElem?_eq_some_iff.1 a).1;rwa [jAG] at this);rw[jDG _ c] at a
 cases a
 match m with
 | 0=>have:=h.cell j (by simp;omega);rw[jEk c] at this;simp only[Nat.mul_one,Nat.add_zero,Nat.zero_add];rw[this];exact f
 | m+1=>simp[Value.cells] at f
theorem Crowd.get {w:World}{us:List Usr}{og:Nat}{dl:List Value}(h:Crowd w us og dl){i:Nat}(hi:i<us.length):∃ d,w.cell? ⟨og,i*3,none⟩=some (hs d (ug us i).dem.length)/\w.cell? ⟨og,i*3+1,none⟩=some (.int .i64 (ug us i).wt)/\w.cell? ⟨og,i*3+2,none⟩=some (.int .i64 (ug us i).cap)/\Blk w d ((ug us i).dem ++ [7,7])/\dl[i]? = some (hs d (ug us i).dem.length):=by
 obtain ⟨⟨m,b,a,n,k⟩,_⟩:=h;obtain ⟨d,l,c,e,f,g,j⟩:=k i hi;exact ⟨d,(cell_of_row w og _ _ _ _ a).trans c,(cell_of_row w og _ _ _ _ a).trans e,(cell_of_row w og _ _ _ _ a).trans f,g,j⟩
theorem Crowd.len {w:World}{us:List Usr}{og:Nat}{dl:List Value}(h:Crowd w us og dl):dl.length=us.length:=h.1.1
end Go.Proofs.YtigokanoflkinabGreatDoor
