/- LHand, LUsr, LUsrB, LWhole, joined. -/
import Derived.Test.YtigokanoflkinabGreatDoorFBW
import Derived.Laws.CopyOwn
import Derived.Deep.RegionHeld3
import Derived.Deep.DeepCutAuto
import Derived.BigRegion
namespace Go.Proofs.YtigokanoflkinabGreatDoor
set_option linter.unusedSimpArgs false
set_option linter.unusedVariables false
open Go.RowKit Por
theorem jCW (w:World){ops:Array Oper}{rest:List Oper}{o:Oper}{a:Act}{Q:Exit→Act→World→Prop}(hg:o.guard=none)(l c:Operand)(hop:o.op=Op.makeSlice 28 l c)(L C:Int)(n:Nat)(hl:a.eval l = .int .i64 L)(hc:a.eval c = .int .i64 C)(hL:L=(n:Int))(hC:C=(n:Int))(hn:n≤35184372088832)(hK:∀ w',Blk w' w.heap.size (List.replicate n 0)→Below w.heap.size w w'→wpList Tryz.prog ops Q rest (a.put o.dst (.slice (some ⟨w.heap.size,0,none⟩) n n)) w'):wpList Tryz.prog ops Q (o :: rest) a w:=by
 obtain ⟨i,hi,hz0,hz1,hz2⟩:=info_parts Tryz.infoInt;refine wpList_make_full w hg l c 28 hop w.heap.size 3 i (.int .i64 0) 1 Tryz.underlying28 hi hz0 hz1 .i64 .i64 L C n hl hc hL hC (by rw[hz2];omega) (by unfold maxLen;omega) (Nat.le_refl _) ?_;intro w' ho hgr;have hb:Below w.heap.size w w':=(Below.refl _ _).grown hgr (Nat.le_refl _) (fun k e=>by cases e);rcases ho.2 with ⟨h',_⟩ | ⟨g,cap,cur,h',_,hh,h1,h2,h3,h4⟩
 ·cases h'
 ·simp only[Value.slice.injEq,Option.some.injEq,Addr.mk.injEq,and_true,true_and] at h';obtain ⟨rfl,rfl⟩:=h';(have e:cur=((List.replicate n (0:Int)).map (Value.int .i64)).toArray:=by apply Array.toList_inj.1;rw[Nat.mul_one] at h4 h3;rw[List.take_of_length_le (by rw[Array.length_toList];omega)] at h4;rw[h4,show (Value.int .i64 0).cells=#[.int .i64 0] from rfl,toList_madeCells_one];simp);rw[e] at hh;exact hK w' hh hb
theorem jDx (w0 w:World){ops:Array Oper}{rest:List Oper}{o:Oper}{a:Act}{Q:Exit→Act→World→Prop}(hgd:o.guard=none)(d s:Operand)(ho:o.op = .call { callee:=.builtin .copy,args:=#[d,s],argTypes:=#[28,28] })(g m n cap:Nat)(ao:Option Addr)(zs xs:List Int)(hd:a.eval d = .slice (some ⟨g,0,none⟩) m m)(hs:a.eval s = .slice ao n cap)(hz:Blk w g zs)(hzl:zs.length=m)(hr:Arr w 1 ao n cap (ints xs))(hnm:n≤m)(hb:Below w0.heap.size w0 w)(hle:w0.heap.size≤g)(h:∀ w',Hid (Blk w' g (xs ++ zs.drop n))→Below w0.heap.size w0 w'→wpList Tryz.prog ops Q rest (a.put o.dst (goInt n)) w'):wpList Tryz.prog ops Q (o :: rest) a w:=by
  have hl:=hr.len;rw[jAG] at hl;subst hl;(have e:(ints xs).length=Nat.min xs.length m:=by rw[jAG];exact (Nat.min_eq_left hnm).symm);refine wpList_copy_splice hgd d s 28 28 ho 3 Tryz.underlying28 Tryz.sizeInt _ _ _ _ _ _ hd hs g 0 (zs.map (Value.int .i64)) 3 hz (ints xs) e ?_ (by rw[jAG,List.length_map];omega) ?_ w0.heap.size w0 hb hle ?_
  · intro h0;rw[jAG] at h0;obtain ⟨b,of,rfl,hlt⟩:=hr.head h0;refine ⟨rfl,_,rfl,fun j v hv=>?_⟩;have hj:j<xs.length:=by have:=(List.getElem?_eq_some_iff.1 hv).1;rwa [jAG] at this
    have := hr.cell b of rfl j v hv 0 v (by
      rw [jC1 xs hj] at hv; cases hv; rfl)
    (have hadd:(⟨b,of,none⟩:Addr).add j=⟨b,of+j,none⟩:=by unfold Addr.add;split <;> simp_all);rw[hadd]
    simpa using this
  · intro v hv;unfold ints at hv;obtain ⟨x,_,rfl⟩:=List.mem_map.1 hv;rfl
  · intro w' hw hb';(have e2:goInt (ints xs).length=goInt xs.length:=by rw[jAG]);rw[e2];refine h w' ?_ hb';have h9:=hw.out;unfold Hid Blk;rw[h9];(have e3:splice (zs.map (Value.int .i64)) 0 (ints xs)=(xs ++ zs.drop xs.length).map (Value.int .i64):=by unfold splice;simp[ints]);rw[e3]
theorem jEU {xs ys:List Int}{j:Nat}(h:j<xs.length):lm (xs ++ ys) j=lm xs j:=by
 unfold lm;rw[List.getD_eq_getElem?_getD,List.getD_eq_getElem?_getD,List.getElem?_append_left h]
structure Touch (T:TypeId)(B:Nat)(w w':World):Prop where
  size:w.heap.size≤w'.heap.size
  block:∀ k,k<w.heap.size→(k<B∨∀ cur fz,w.heap[k]?≠some (.cells cur T fz))→w'.heap[k]? = w.heap[k]?
theorem Touch.of_append {T:TypeId}{B size n:Nat}{w w':World}{v:Value}{xs:List Value}(hown:w.ownsRow B T size v n xs)(hg:w.grownBy w' v.ownBlock):Touch T B w w':=by
 refine ⟨hg.size,fun k hk h=>hg.block k hk (fun e=>?_)⟩;rcases hown.2 with ⟨rfl,_⟩ | ⟨g,cap,cur,rfl,h2,h3,_⟩
 ·cases e
 ·have e':some k=some g:=e
  cases e'
  rcases h with h | h
  ·omega
  ·exact h _ _ h3
theorem Touch.of_set {T:TypeId}{B:Nat}{w:World}{b i:Nat}{v:Value}{cur:Array Value}(hb:w.heap[b]? = some (.cells cur T (0,0)))(hB:B≤b):Touch T B w (w.setCell ⟨b,i,none⟩ v):=by
 refine ⟨by simp[World.setCell],fun k hk h=>?_⟩
 have hne:k≠b:=fun e=>by
  subst e;rcases h with h | h
  ·omega
  ·exact h _ _ hb
 exact Below.heap_setCell w _ v k hne
theorem Touch.bx {T T':TypeId} {B b:Nat} {w w':World} {cs:Array Value} (h:Touch T B w w') (hx:Bx w b cs T') (hT:T'≠T):Bx w' b cs T':=
  (h.block b hx.lt (.inr (fun cur fz e=>by unfold Bx at hx;rw[hx] at e;cases e;exact hT rfl))).trans hx
theorem Touch.blk {T:TypeId} {B b:Nat} {w w':World} {zs:List Int} (h:Touch T B w w') (hx:Blk w b zs) (hT:3≠T):Blk w' b zs:=
  (h.block b hx.lt (.inr (fun cur fz e=>by unfold Blk at hx;rw[hx] at e;cases e;exact hT rfl))).trans hx
theorem Touch.own {T T':TypeId}{B base size n:Nat}{w w':World}{v:Value}{xs:List Value}(h:Touch T B w w')(hx:w.ownsRow base T' size v n xs)(hT:T'≠T):w'.ownsRow base T' size v n xs:=by
 refine ⟨hx.1,?_⟩;rcases hx.2 with h1 | ⟨g,cap,cur,h1,h2,h3,h4⟩
 ·exact .inl h1
 ·exact .inr ⟨g,cap,cur,h1,h2,(h.block g (Array.getElem?_eq_some_iff.1 h3).1 (.inr (fun c fz e=>by rw[h3] at e;cases e;exact hT rfl))).trans h3,h4⟩
theorem jAz {base T size n:Nat}{w w':World}{v:Value}{xs:List Value}(h:w.ownsRow base T size v n xs)(hb:Below w.heap.size w w'):w'.ownsRow base T size v n xs:=by
 refine ⟨h.1,?_⟩;rcases h.2 with h1 | ⟨g,cap,cur,h1,h2,h3,h4⟩
 ·exact .inl h1
 ·exact .inr ⟨g,cap,cur,h1,h2,(hb.block g (Array.getElem?_eq_some_iff.1 h3).1).trans h3,h4⟩
def hs (d n:Nat):Value:=.slice (some ⟨d,0,none⟩) n (n+2)
def CrP (w:World)(us:List Usr)(og n k:Nat)(dl:List Value):Prop:=
  dl.length=k∧∃ arr,w.heap[og]? = some (.cells arr 63 (0,0))∧arr.size=(n+1)*3∧∀ i,i<k→∃ d,og<d∧arr[i*3]? = some (hs d (ug us i).dem.length)∧arr[i*3+1]? = some (.int .i64 (ug us i).wt)∧arr[i*3+2]? = some (.int .i64 (ug us i).cap)∧Blk w d ((ug us i).dem ++ [7,7])∧dl[i]? = some (hs d (ug us i).dem.length)
theorem CrP.below {w w':World}{us:List Usr}{og n k:Nat}{dl:List Value}(h:CrP w us og n k dl)(hb:Below w.heap.size w w'):CrP w' us og n k dl:=by
 obtain ⟨h0,arr,h1,h2,h3⟩:=h;refine ⟨h0,arr,(hb.block og (Array.getElem?_eq_some_iff.1 h1).1).trans h1,h2,fun i hi=>?_⟩;obtain ⟨d,g0,g1,g2,g3,g4,g5⟩:=h3 i hi;exact ⟨d,g0,g1,g2,g3,g4.below hb g4.lt,g5⟩
theorem CrP.touch {T:TypeId}{B:Nat}{w w':World}{us:List Usr}{og n k:Nat}{dl:List Value}(h:CrP w us og n k dl)(ht:Touch T B w w')(h1:3≠T)(h2:63≠T):CrP w' us og n k dl:=by
 obtain ⟨h0,arr,g1,g2,g3⟩:=h;refine ⟨h0,arr,?_,g2,fun i hi=>?_⟩
 ·exact (ht.block og (Array.getElem?_eq_some_iff.1 g1).1 (.inr (fun c fz e=>by rw[g1] at e;cases e;exact h2 rfl))).trans g1
 ·obtain ⟨d,a0,a1,a2,a3,a4,a5⟩:=g3 i hi;exact ⟨d,a0,a1,a2,a3,ht.blk a4 h1,a5⟩
theorem CrP.has {w:World}{us:List Usr}{og n k:Nat}{dl:List Value}(h:CrP w us og n k dl){j:Nat}(hj:j<(n+1)*3):(∃ x,w.cell? ⟨og,j,none⟩=some x)∧w.frozen? ⟨og,j,none⟩=false:=by
 obtain ⟨_,arr,h1,h2,_⟩:=h;exact ⟨⟨arr[j]'(by omega),(cell_of_row w og j _ _ _ h1).trans (Array.getElem?_eq_getElem (by omega))⟩,frozen_of_row w og j _ _ h1⟩
theorem CrP.lt {w:World}{us:List Usr}{og n k:Nat}{dl:List Value}(h:CrP w us og n k dl):og<w.heap.size:=by
 obtain ⟨_,arr,h1,_⟩:=h;exact (Array.getElem?_eq_some_iff.1 h1).1
theorem jFX {arr:Array Value}{i j:Nat}{u0 u1 u2:Value}(h:j<i∨i+2<j):(((arr.set! i u0).set! (i+1) u1).set! (i+2) u2)[j]? = arr[j]?:=by
 simp only[Array.set!_eq_setIfInBounds,Array.getElem?_setIfInBounds];rw[if_neg (by omega),if_neg (by omega),if_neg (by omega)]
theorem jLP {arr:Array Value}{i:Nat}(u0 u1 u2:Value)(h:i+2<arr.size):(((arr.set! i u0).set! (i+1) u1).set! (i+2) u2)[i]? = some u0∧(((arr.set! i u0).set! (i+1) u1).set! (i+2) u2)[i+1]? = some u1∧(((arr.set! i u0).set! (i+1) u1).set! (i+2) u2)[i+2]? = some u2:=by
 simp only[Array.set!_eq_setIfInBounds,Array.getElem?_setIfInBounds,Array.size_setIfInBounds];refine ⟨?_,?_,?_⟩
 ·rw[if_neg (by omega),if_neg (by omega),if_pos trivial,if_pos (by omega)]
 ·rw[if_neg (by omega),if_pos trivial,if_pos (by omega)]
 ·rw[if_pos trivial,if_pos (by omega)]
theorem Blk.putA {w:World} {g b o:Nat} {zs:List Int} {u0 u1 u2:Value} (h:Blk w g zs) (hne:b≠g):Blk (wputA w b o u0 u1 u2) g zs:=
  ((h.other ⟨b,o,none⟩ u0 hne).other ⟨b,o+1,none⟩ u1 hne).other ⟨b,o+2,none⟩ u2 hne
theorem CrP.put {w:World}{us:List Usr}{og n k d:Nat}{dl:List Value}(h:CrP w us og n k dl)(hk:k<n)(hd:og<d)(hb:Blk w d ((ug us k).dem ++ [7,7])):CrP (wputA w og (k*3) (hs d (ug us k).dem.length) (.int .i64 (ug us k).wt) (.int .i64 (ug us k).cap)) us og n (k+1) (dl ++ [hs d (ug us k).dem.length]):=by
 obtain ⟨h0,arr,h1,h2,h3⟩:=h;have hp:=jCy (u0:=hs d (ug us k).dem.length) (u1:=.int .i64 (ug us k).wt) (u2:=.int .i64 (ug us k).cap) (o:=k*3) h1;refine ⟨by simp[h0],_,hp,by simp[Array.set!_eq_setIfInBounds,h2],fun i hi=>?_⟩;by_cases e:i=k
 ·subst e;obtain ⟨a0,a1,a2⟩:=jLP (arr:=arr) (i:=i*3) (hs d (ug us i).dem.length) (.int .i64 (ug us i).wt) (.int .i64 (ug us i).cap) (by omega);exact ⟨d,hd,a0,a1,a2,hb.putA (by omega),by rw[List.getElem?_append_right (by omega),h0];simp⟩
 ·obtain ⟨d',g0,g1,g2,g3,g4,g5⟩:=h3 i (by omega);exact ⟨d',g0,(jFX (by omega)).trans g1,(jFX (by omega)).trans g2,(jFX (by omega)).trans g3,g4.putA (by omega),by rw[List.getElem?_append_left (by omega)];exact g5⟩
def Crowd (w:World)(us:List Usr)(og:Nat)(dl:List Value):Prop:=
  CrP w us og us.length us.length dl∧w.cell? ⟨og,us.length*3,none⟩=some (.slice none 0 0)∧w.cell? ⟨og,us.length*3+1,none⟩=some (.int .i64 7)∧w.cell? ⟨og,us.length*3+2,none⟩=some (.int .i64 7)
theorem Crowd.below {w w':World}{us:List Usr}{og:Nat}{dl:List Value}(h:Crowd w us og dl)(hb:Below w.heap.size w w'):Crowd w' us og dl:=by
 obtain ⟨h0,h1,h2,h3⟩:=h;have hl:=h0.lt;exact ⟨h0.below hb,(hb.cell (p:=⟨og,us.length*3,none⟩) hl).trans h1,(hb.cell (p:=⟨og,us.length*3+1,none⟩) hl).trans h2,(hb.cell (p:=⟨og,us.length*3+2,none⟩) hl).trans h3⟩
theorem Crowd.users {w:World}{us:List Usr}{og:Nat}{dl:List Value}(h:Crowd w us og dl)(hn:us.length+1≤maxLen)(hd:∀ i,i<us.length→(ug us i).dem.length+2≤maxLen):Users w (some ⟨og,0,none⟩) us.length (us.length+1) us:=by
 obtain ⟨⟨h0,arr,h1,h2,h3⟩,_⟩:=h;refine ⟨rfl,(List.range us.length).map (fun i=>.agg #[arr.getD (i*3) (.bool false),.int .i64 (ug us i).wt,.int .i64 (ug us i).cap]),⟨by simp,by omega,hn,fun _=>⟨og,0,rfl,(Array.getElem?_eq_some_iff.1 h1).1⟩,?_⟩,?_⟩
 ·intro b o e i v hv j u hu
  cases e
  (have hi:i<us.length:=by simpa using (List.getElem?_eq_some_iff.1 hv).1);rw[List.getElem?_map,List.getElem?_range hi] at hv
  cases hv
  obtain ⟨d,g0,g1,g2,g3,g4,g5⟩:=h3 i hi;(have e0:arr.getD (i*3) (.bool false)=hs d (ug us i).dem.length:=by rw[Array.getD_eq_getD_getElem?,g1];rfl);have hu':(Value.agg #[arr.getD (i*3) (.bool false),.int .i64 (ug us i).wt,.int .i64 (ug us i).cap]).cells[j]? = some u:=hu;rw[e0] at hu';clear hu;have hu:=hu';have hc:(Value.agg #[hs d (ug us i).dem.length,.int .i64 (ug us i).wt,.int .i64 (ug us i).cap]).cells=#[hs d (ug us i).dem.length,.int .i64 (ug us i).wt,.int .i64 (ug us i).cap]:=rfl;rw[hc] at hu;rw[Nat.zero_add,cell_of_row w og _ _ _ _ h1]
  match j with
  | 0=>rw[Nat.add_zero,g1];exact hu
  | 1=>rw[g2];exact hu
  | 2=>rw[g3];exact hu
  | j+3=>simp at hu
 ·intro i v hv;(have hi:i<us.length:=by simpa using (List.getElem?_eq_some_iff.1 hv).1);rw[List.getElem?_map,List.getElem?_range hi] at hv
  cases hv
  obtain ⟨d,g0,g1,g2,g3,g4,g5⟩:=h3 i hi;(have e0:arr.getD (i*3) (.bool false)=hs d (ug us i).dem.length:=by rw[Array.getD_eq_getD_getElem?,g1];rfl);refine ⟨some ⟨d,0,none⟩,(ug us i).dem.length,(ug us i).dem.length+2,by show Value.agg #[arr.getD (i*3) (.bool false),_,_]=_;rw[e0];rfl,?_⟩;refine ⟨by rw[jAG],by omega,hd i hi,fun _=>⟨d,0,rfl,g4.lt⟩,?_⟩;intro b o e j v hv m u hu
  cases e
  (have hj:j<(ug us i).dem.length:=by have:=(List.getElem?_eq_some_iff.1 hv).1;rwa [jAG] at this);rw[jC1 _ hj] at hv
  cases hv
  match m with
  | 0=>have:=g4.cell j (by simp;omega);rw[jEU hj] at this;simp only[Nat.mul_one,Nat.add_zero,Nat.zero_add];rw[this];exact hu
  | m+1=>simp[Value.cells] at hu
theorem jAE {w:World}{b:Nat}{cs:Array Value}{T:TypeId}(h:Bx w b cs T)(j:Nat)(v:Value):Bx (w.setCell ⟨b,j,none⟩ v) b (cs.setIfInBounds j v) T:=heap_setCell_same w b j _ _ v h
theorem CrP.heap {w:World}{us:List Usr}{og n k:Nat}{dl:List Value}(h:CrP w us og n k dl):∃ cur,w.heap[og]? = some (.cells cur 63 (0,0)):=by
 obtain ⟨_,arr,h1,_⟩:=h;exact ⟨arr,h1⟩
theorem Touch.refl (T:TypeId)(B:Nat)(w:World):Touch T B w w:=⟨Nat.le_refl _,fun _ _ _=>rfl⟩
theorem Touch.set {T:TypeId}{B:Nat}{a w:World}{b i:Nat}{v:Value}{cur:Array Value}(h:Touch T B a w)(hb:a.heap[b]? = some (.cells cur T (0,0)))(hB:B≤b):Touch T B a (w.setCell ⟨b,i,none⟩ v):=by
 refine ⟨by simp only[World.setCell];simpa using h.size,fun k hk h2=>?_⟩
 have hne:k≠b:=fun e=>by
  subst e;rcases h2 with h2 | h2
  ·omega
  ·exact h2 _ _ hb
 rw[Below.heap_setCell _ _ _ k hne];exact h.block k hk h2
theorem Crowd.touch {T:TypeId}{B:Nat}{w w':World}{us:List Usr}{og:Nat}{dl:List Value}(h:Crowd w us og dl)(ht:Touch T B w w')(h1:3≠T)(h2:63≠T):Crowd w' us og dl:=by
 obtain ⟨h0,g1,g2,g3⟩:=h;obtain ⟨cur,hcur⟩:=h0.heap;have e:w'.heap[og]? = w.heap[og]?:=ht.block og h0.lt (.inr (fun c fz e=>by rw[hcur] at e;cases e;exact h2 rfl));(have hc:∀ j,w'.cell? ⟨og,j,none⟩=w.cell? ⟨og,j,none⟩:=fun j=>World.cell?_of_block e);exact ⟨h0.touch ht h1 h2,(hc _).trans g1,(hc _).trans g2,(hc _).trans g3⟩
theorem jAr {base T size n:Nat}{w:World}{v:Value}{xs:List Value}(h:w.ownsRow base T size v n xs):∃ so sc,v = .slice so n sc:=by
 rcases h.2 with ⟨rfl,rfl⟩ | ⟨g,cap,cur,rfl,_⟩
 ·exact ⟨none,0,rfl⟩
 ·exact ⟨_,_,rfl⟩
theorem Blk.arr {w:World}{d:Nat}{xs:List Int}(h:Blk w d (xs ++ [7,7]))(hn:xs.length+2≤maxLen):Arr w 1 (some ⟨d,0,none⟩) xs.length (xs.length+2) (ints xs):=by
 refine ⟨by rw[jAG],by omega,hn,fun _=>⟨d,0,rfl,h.lt⟩,?_⟩;intro b o e j v hv m u hu
 cases e
 (have hj:j<xs.length:=by have:=(List.getElem?_eq_some_iff.1 hv).1;rwa [jAG] at this);rw[jC1 _ hj] at hv
 cases hv
 match m with
 | 0=>have:=h.cell j (by simp;omega);rw[jEU hj] at this;simp only[Nat.mul_one,Nat.add_zero,Nat.zero_add];rw[this];exact hu
 | m+1=>simp[Value.cells] at hu
theorem Crowd.get {w:World}{us:List Usr}{og:Nat}{dl:List Value}(h:Crowd w us og dl){i:Nat}(hi:i<us.length):∃ d,w.cell? ⟨og,i*3,none⟩=some (hs d (ug us i).dem.length)∧w.cell? ⟨og,i*3+1,none⟩=some (.int .i64 (ug us i).wt)∧w.cell? ⟨og,i*3+2,none⟩=some (.int .i64 (ug us i).cap)∧Blk w d ((ug us i).dem ++ [7,7])∧dl[i]? = some (hs d (ug us i).dem.length):=by
 obtain ⟨⟨h0,arr,h1,h2,h3⟩,_⟩:=h;obtain ⟨d,g0,g1,g2,g3,g4,g5⟩:=h3 i hi;exact ⟨d,(cell_of_row w og _ _ _ _ h1).trans g1,(cell_of_row w og _ _ _ _ h1).trans g2,(cell_of_row w og _ _ _ _ h1).trans g3,g4,g5⟩
theorem Crowd.len {w:World}{us:List Usr}{og:Nat}{dl:List Value}(h:Crowd w us og dl):dl.length=us.length:=h.1.1
end Go.Proofs.YtigokanoflkinabGreatDoor
