/- A list of bools in memory; stores into a box. -/
import Derived.Test.YtigokanoflkinabGreatDoorFFill
namespace Go.Proofs.YtigokanoflkinabGreatDoor
set_option linter.unusedSimpArgs false
set_option linter.unusedVariables false
open Go.RowKit Por
def BB (w:World)(g n k:Nat)(f:Nat→Bool):Prop:=∃ arr,w.heap[g]? = some (.cells arr 4 (0,0))∧arr.size=n∧∀ i,i<k→arr[i]? = some (.bool (f i))
theorem BB.lt {w:World}{g n k:Nat}{f:Nat→Bool}(h:BB w g n k f):g<w.heap.size:=by
 obtain ⟨arr,h1,_⟩:=h;exact (Array.getElem?_eq_some_iff.1 h1).1
theorem BB.below {w w':World}{g n k:Nat}{f:Nat→Bool}(h:BB w g n k f)(hb:Below w.heap.size w w'):BB w' g n k f:=by
 obtain ⟨arr,h1,h2,h3⟩:=h;exact ⟨arr,(hb.block g (Array.getElem?_eq_some_iff.1 h1).1).trans h1,h2,h3⟩
theorem BB.alloc {w:World}{g n k:Nat}{f:Nat→Bool}(h:BB w g n k f)(o:Obj):BB (w.alloc o) g n k f:=h.below ((Below.refl _ _).alloc (Nat.le_refl _) o)
theorem BB.drew {w:World}{g n k:Nat}{f:Nat→Bool}(h:BB w g n k f):BB w.drew g n k f:=h.below (Below.refl _ _).drew
theorem BB.cell {w:World}{g n k i:Nat}{f:Nat→Bool}(h:BB w g n k f)(hi:i<k):w.cell? ⟨g,i,none⟩=some (.bool (f i)):=by
 obtain ⟨arr,h1,h2,h3⟩:=h;exact (cell_of_row w g _ _ _ _ h1).trans (h3 i hi)
theorem BB.frozen {w:World}{g n k:Nat}{f:Nat→Bool}(h:BB w g n k f)(j:Nat):w.frozen? ⟨g,j,none⟩=false:=by
 obtain ⟨arr,h1,_⟩:=h;exact frozen_of_row w g j _ _ h1
theorem BB.has {w:World}{g n k:Nat}{f:Nat→Bool}(h:BB w g n k f){j:Nat}(hj:j<n):∃ x,w.cell? ⟨g,j,none⟩=some x:=by
 obtain ⟨arr,h1,h2,_⟩:=h;exact ⟨arr[j]'(by omega),(cell_of_row w g j _ _ _ h1).trans (Array.getElem?_eq_getElem (by omega))⟩
theorem BB.put {w:World}{g n k:Nat}{f:Nat→Bool}(h:BB w g n k f)(hk:k<n):BB (w.setCell ⟨g,k,none⟩ (.bool (f k))) g n (k+1) f:=by
 obtain ⟨arr,h1,h2,h3⟩:=h;refine ⟨_,heap_setCell_same w g k _ _ _ h1,by simp[h2],fun i hi=>?_⟩;by_cases e:i=k
 ·subst e;rw[Array.getElem?_setIfInBounds_self_of_lt (by omega)]
 ·rw[Array.getElem?_setIfInBounds_ne (by omega)];exact h3 i (by omega)
theorem Tryz.infoBool:(Tryz.prog.info? 4).map (fun i=>(i.zero,i.size,i.bytes))=some (some (.bool false),1,1):=by kernel_rfl
theorem jDa (w:World){ops:Array Oper}{rest:List Oper}{o:Oper}{a:Act}{Q:Exit→Act→World→Prop}(hg:o.guard=none)(l c:Operand)(hop:o.op=Op.makeSlice 37 l c)(L C:Int)(n:Nat)(hl:a.eval l = .int .i64 L)(hc:a.eval c = .int .i64 C)(hL:L=(n:Int))(hC:C=(n:Int))(hn:n≤1000000)(hK:∀ w',(∀ f,BB w' w.heap.size n 0 f)→Below w.heap.size w w'→w.heap.size<w'.heap.size→wpList Tryz.prog ops Q rest (a.put o.dst (.slice (some ⟨w.heap.size,0,none⟩) n n)) w'):wpList Tryz.prog ops Q (o :: rest) a w:=by
 obtain ⟨i,hi,hz0,hz1,hz2⟩:=info_parts Tryz.infoBool;refine wpList_make_full w hg l c 37 hop w.heap.size 4 i (.bool false) 1 Tryz.underlying37 hi hz0 hz1 .i64 .i64 L C n hl hc hL hC (by rw[hz2];omega) (by unfold maxLen;omega) (Nat.le_refl _) ?_;intro w' ho hgr;have hb:Below w.heap.size w w':=(Below.refl _ _).grown hgr (Nat.le_refl _) (fun k e=>by cases e);rcases ho.2 with ⟨h',_⟩ | ⟨g,cap,cur,h',_,hh,h1,h2,h3,h4⟩
 ·cases h'
 ·simp only[Value.slice.injEq,Option.some.injEq,Addr.mk.injEq,and_true,true_and] at h';obtain ⟨rfl,rfl⟩:=h';exact hK w' (fun f=>⟨cur,hh,by rw[h3,Nat.mul_one],fun i hi=>by omega⟩) hb (Array.getElem?_eq_some_iff.1 hh).1
def upB (d:FD)(ts:Nat→Rat)(r:Nat):Bool:=decide (totF d.us ts r d.n=d.room r)
def wantB (dem:List Int)(f:Nat→Bool):Nat→Bool
  | 0=>false
  | k+1=>wantB dem f k || (decide (0<lm dem k) && f k)
theorem jEz {dem:List Int}{f:Nat→Bool}{i k:Nat}(hi:i<k)(h0:0<lm dem i)(h1:f i=true):wantB dem f k=true:=by
 induction k with
 | zero=>omega
 | succ k ih=>
  simp only[wantB];by_cases e:i=k
  ·subst e;simp[h0,h1]
  ·rw[ih (by omega)];rfl
end Go.Proofs.YtigokanoflkinabGreatDoor
