/- KOpen, KOpenB, KOpenW, joined. -/
import Derived.Test.YtigokanoflkinabGreatDoorFBW
import Derived.ProofKit
import Derived.Deep.Slices
import Derived.Deep.Strs
import Derived.OpenShut
import Derived.SliceStrings
namespace Go.Proofs.YtigokanoflkinabGreatDoor
set_option linter.unusedSimpArgs false
set_option linter.unusedVariables false
open Go.RowKit Por Go.ChangeShapes Go.WideShapes
theorem Tryz.laidOut:laidOutB Tryz.prog=true:=by kernel_rfl
theorem Tryz.cellsInt:Tryz.prog.cellsOf 3=1:=by kernel_rfl
theorem Tryz.cellsInts:Tryz.prog.cellsOf 28=1:=by kernel_rfl
theorem jD6 {w:World}{a:Addr}{v:Value}(h:w.cell? a=some v):a=⟨a.block,a.off,none⟩:=by
 obtain ⟨b,o,s⟩:=a;unfold World.cell? at h
 cases s with
 | none=>rfl
 | some x=>simp only[Option.isSome_some,if_true] at h;split at h <;> cases h
theorem jI6 {H:Type}{enc:TypeId×Value→H}{W:World}{sp:Nat→Bool}{hd:Bool}{fuel:Nat}{cs:List Value}{x:DataW H×List MemPlace}(h:DataW.trod enc Tryz.prog W 0 sp hd fuel 28 cs=some x):∃ ao n cap xs,cs = [.slice ao n cap]∧Arr W 1 ao n cap (ints xs):=by
 rcases open_ints Tryz.underlying28 Tryz.underlying3 Tryz.cellsInt h with ⟨hcs,hx⟩ | ⟨a,len,cap,zs,hcs,_,hl,hm,hz,hx,hcell,hwz⟩
 ·exact ⟨none,0,0,[],hcs,Arr.nil _ _⟩
 ·(have hzl:len≤zs.length:=by rw[hz];split <;> omega);refine ⟨some a,len,cap,zs.take len,hcs,⟨by rw[jAG,List.length_take];omega,hl,hm,fun h0=>?_,?_⟩⟩
  ·have hc:=hcell 0 (by omega);(have e:a.add 0=a:=by unfold Addr.add;simp);rw[e] at hc;have hs:=jD6 hc;exact ⟨a.block,a.off,by rw[← hs],World.block_lt_of_cell? W a hc⟩
  ·intro b o e i v hv j u hu
   cases e
   (have hi:i<len:=by have:=(List.getElem?_eq_some_iff.1 hv).1;rw[jAG,List.length_take] at this;omega);have hc:=hcell i (by omega);rw[add_plain] at hc;unfold ints at hv;rw[List.getElem?_map,List.getElem?_take,if_pos hi,List.getElem?_eq_getElem (by omega)] at hv
   cases hv
   match j with
   | 0=>rw[Nat.mul_one,Nat.add_zero,hc,← hu];rw[List.getD_eq_getElem?_getD,List.getElem?_eq_getElem (by omega)];rfl
   | j+1=>simp[Value.cells] at hu
theorem three {α:Type}{l:List α}(h:l.length=3):∃ a b c,l = [a,b,c]:=by
 match l,h with
 | [a,b,c],_=>exact ⟨a,b,c,rfl⟩
theorem jCD {zs:List Int}{n i:Nat}(h:i<n):lm (zs.take n) i=zs[i]?.getD 0:=by
 unfold lm;rw[List.getD_eq_getElem?_getD,List.getElem?_take,if_pos h]
def WB {H:Type}(t:TypeId)(d:DataW H):Prop:=∀ z∈d.weights Tryz.prog t,z≤reachBytes
theorem jLE {H:Type}{ts:List TypeId}{ds:List (DataW H)}(h:(DataW.weightsEach Tryz.prog ts ds).all (·≤reachBytes)=true):∀ z∈DataW.weightsEach Tryz.prog ts ds,z≤reachBytes:=by
 rw[List.all_eq_true] at h;exact fun z hz=>of_decide_eq_true (h z hz)
theorem jLz {H:Type}{e:TypeId}{d:DataW H}{l:List (DataW H)}(h:d∈l):∀ z∈d.weights Tryz.prog e,z∈DataW.weightsAll Tryz.prog e l:=by
 induction l with
 | nil=>cases h
 | cons x r ih=>
  intro z hz;simp only[DataW.weightsAll,List.mem_append];rcases List.mem_cons.1 h with e | e
  ·subst e;exact Or.inl hz
  ·exact Or.inr (ih e z hz)
theorem Tryz.bytesInt:Tryz.prog.bytesOf 3=8:=by kernel_rfl
theorem jGw {H:Type}{enc:TypeId×Value→H}{W:World}{sp:Nat→Bool}{hd:Bool}{fuel:Nat}{cs:List Value}{x:DataW H×List MemPlace}(h:DataW.trod enc Tryz.prog W 0 sp hd fuel 28 cs=some x):∃ ao n cap xs,cs = [.slice ao n cap]∧Arr W 1 ao n cap (ints xs)∧(WB 28 x.1→n*8≤reachBytes):=by
 obtain ⟨ao,n,cap,xs,h1,h2⟩:=jI6 h;refine ⟨ao,n,cap,xs,h1,h2,fun hw=>?_⟩;rcases open_ints Tryz.underlying28 Tryz.underlying3 Tryz.cellsInt h with ⟨hcs,hx⟩ | ⟨a,len,cap',zs,hcs,_,hl,hm,hz,hx,hcell,hwz⟩
 ·rw[h1] at hcs;cases hcs;unfold reachBytes;omega
 ·rw[h1] at hcs;cases hcs;(have hzl:n≤zs.length:=by rw[hz];split <;> omega);rw[hx] at hw;(have e9:(lits (H:=H) .i64 (zs.take n)).length=n:=by simp[lits];omega);unfold WB at hw;simp only[DataW.weights,Tryz.underlying28,Tryz.bytesInt] at hw;have h8:=hw _ (List.mem_cons_self);rw[e9] at h8;omega
end Go.Proofs.YtigokanoflkinabGreatDoor
