/- A list of bools in memory; stores into a box. -/
import Derived.Test.YtigokanoflkinabGreatDoorFFill
namespace Go.Proofs.YtigokanoflkinabGreatDoor
set_option linter.unusedSimpArgs false
set_option linter.unusedVariables false
open Go.RowKit Por
def BB (w:World)(g n k:Nat)(f:Nat->Bool):Prop:=∃ arr,w.heap[g]? = some (.cells arr 4 (0,0))/\arr.size=n/\∀ i,i<k->arr[i]? = some (.bool (f i))
theorem BB.lt {w:World}{g n k:Nat}{f:Nat->Bool}(h:BB w g n k f):g<w.heap.size:=by
 obtain ⟨a,b,_⟩:=h;exact (Array.getElem?_eq_some_iff.1 b).1
theorem BB.below {w w':World}{g n k:Nat}{f:Nat->Bool}(h:BB w g n k f)(hb:Below w.heap.size w w'):BB w' g n k f:=by
 obtain ⟨a,b,c,d⟩:=h;exact ⟨a,(hb.block g (Array.getElem?_eq_some_iff.1 b).1).trans b,c,d⟩
theorem BB.alloc {w:World}{g n k:Nat}{f:Nat->Bool}(h:BB w g n k f)(o:Obj):BB (w.alloc o) g n k f:=h.below (brf.alloc (Nat.le_refl _) o)
theorem BB.drew {w:World}{g n k:Nat}{f:Nat->Bool}(h:BB w g n k f):BB w.drew g n k f:=h.below brf.drew
theorem BB.cell {w:World}{g n k i:Nat}{f:Nat->Bool}(h:BB w g n k f)(hi:i<k):w.cell? ⟨g,i,none⟩=some (.bool (f i)):=by
 obtain ⟨a,b,d,c⟩:=h;exact (cell_of_row w g _ _ _ _ b).trans (c i hi)
theorem BB.frozen {w:World}{g n k:Nat}{f:Nat->Bool}(h:BB w g n k f)(j:Nat):w.frozen? ⟨g,j,none⟩=false:=by
 obtain ⟨a,b,_⟩:=h;exact frozen_of_row w g j _ _ b
theorem BB.has {w:World}{g n k:Nat}{f:Nat->Bool}(h:BB w g n k f){j:Nat}(hj:j<n):∃ x,w.cell? ⟨g,j,none⟩=some x:=by
 obtain ⟨a,b,c,_⟩:=h;exact ⟨a[j]'(by omega),(cell_of_row w g j _ _ _ b).trans (Array.getElem?_eq_getElem (by omega))⟩
theorem BB.put {w:World}{g n k:Nat}{f:Nat->Bool}(h:BB w g n k f)(hk:k<n):BB (w.setCell ⟨g,k,none⟩ (.bool (f k))) g n (k+1) f:=by
 obtain ⟨a,b,c,d⟩:=h;refine ⟨_,heap_setCell_same w g k _ _ _ b,by simp[c],fun i hi=>?_⟩;by_cases e:i=k
 ·subst e;rw[Array.getElem?_setIfInBounds_self_of_lt (by omega)]
 ·rw[Array.getElem?_setIfInBounds_ne (by omega)];exact d i (by omega)
theorem Tryz.infoBool:(Tryz.prog.info? 4).map (fun i=>(i.zero,i.size,i.bytes))=some (some (.bool false),1,1):=by kernel_rfl
theorem jDu (w:World){ops:Array Oper}{rest:List Oper}{o:Oper}{a:Act}{Q:Exit->Act->World->Prop}(hg:o.guard=none)(l c:Operand)(hop:o.op=Op.makeSlice 37 l c)(L C:Int)(n:Nat)(hl:a.eval l = .int .i64 L)(hc:a.eval c = .int .i64 C)(hL:L=(n:Int))(hC:C=(n:Int))(hn:n<=1000000)(hK:∀ w',(∀ f,BB w' w.heap.size n 0 f)->Below w.heap.size w w'->w.heap.size<w'.heap.size->wpList Tryz.prog ops Q rest (a.put o.dst (.slice (some ⟨w.heap.size,0,none⟩) n n)) w'):wpList Tryz.prog ops Q (o :: rest) a w:=by
 obtain ⟨i,r,j,m,p⟩:=info_parts Tryz.infoBool;refine wpList_make_full w hg l c 37 hop w.heap.size 4 i (.bool false) 1 Tryz.underlying37 r j m .i64 .i64 L C n hl hc hL hC (by rw[p];omega) (by unfold maxLen;omega) (Nat.le_refl _) ?_;intro w' v h;have u:Below w.heap.size w w':=brf.grown h (Nat.le_refl _) (fun k e=>by cases e);rcases v.2 with ⟨b,_⟩ | ⟨g,s,d,b,_,q,x,y,t,z⟩
 ·cases b
 ·simp only[Value.slice.injEq,Option.some.injEq,Addr.mk.injEq,and_true,true_and] at b;obtain ⟨rfl,rfl⟩:=b;exact hK w' (fun f=>⟨d,q,by rw[t,Nat.mul_one],fun i r=>by omega⟩) u (Array.getElem?_eq_some_iff.1 q).1
def upB (d:FD)(ts:Nat->Rat)(r:Nat):Bool:=decide (zI d.us ts r d.n=d.room r)
def xX (dem:List Int)(f:Nat->Bool):Nat->Bool
  | 0=>false
  | k+1=>xX dem f k || (decide (0<lm dem k) && f k)
theorem jFR {dem:List Int}{f:Nat->Bool}{i k:Nat}(hi:i<k)(h0:0<lm dem i)(h1:f i=true):xX dem f k=true:=by
 induction k with
 | zero=>omega
 | succ k ih=>
  simp only[xX];by_cases e:i=k
  ·subst e;simp[h0,h1]
  ·rw[ih (by omega)];rfl
end Go.Proofs.YtigokanoflkinabGreatDoor
