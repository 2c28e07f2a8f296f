/-
  Whatever the arguments: for every number of kinds and every script the call portionkeep.Packed returns true and leaves its arguments as they were: no machine bears more than its size, no task is lost and none comes from nowhere, and no room is left idle that a waiting task could take. Conditions: the three package-level tables that the row lists hold what the text of the program lays (the card ties them).
-/
import Derived.Test.YtigokanoflkinabGreatDoorCards
import Derived.Test.YtigokanoflkinabGreatDoorTie
import Derived.Test.YtigokanoflkinabGreatDoorTabs
import Derived.Test.YtigokanoflkinabGreatDoorKOps
import Derived.Test.YtigokanoflkinabGreatDoorKScr
import Derived.Test.YtigokanoflkinabGreatDoorBkPk
import Derived.WalkKit
import Derived.ProofKit
import Derived.OpenShut
import Derived.ChangeMaps5
import Derived.Deep.DeepHandedRow
namespace Go.Proofs.YtigokanoflkinabGreatDoor.packed
set_option linter.unusedSimpArgs false
open Go.ChangeMaps Go.ChangeShapes Go.WideShapes Go.ChangeAt Go.RowKit
set_option maxRecDepth 100000 in
theorem contract (H:Type)(enc:TypeId×Value→H)(W:World)(base:Nat)(args:Array Value)(ds gs:List (DataW H))(before:List MemPlace)(hval:∀ (j:Nat) t v,Tryz.f3.params[j]? = some t→args[j]? = some v→Value.okWide Tryz.prog W .any base t v)(hW:DataW.Whole enc Tryz.prog Tryz.f3.params.toList Rows.packedSpec.vars false W args.toList ds gs before)(hL:laidMetH Tryz.prog Rows.packedRow.laid W)(hkk:(DataW.weightsEach Tryz.prog (Tryz.f3.params.toList ++ (OpenSpec.ofChange Rows.packedSpec).bare.plain.varTypes Tryz.prog) (ds ++ gs)).all (·≤reachBytes)=true):Calls Tryz.prog 3 args W fun e W'=>∃ v,e = .returned v∧Rows.packedSpec.post enc Tryz.prog Tryz.f3 false true false false W args v W':=by
  have hW':=hW;obtain ⟨p,q,hA0,hV,rfl,hfz,hnd⟩:=hW;have hA:DataW.TrodAll enc Tryz.prog W 0 (fun _=>true) true Tryz.f3.params.toList args.toList ds p:=hA0;rw[Tryz.params3] at hA hval;obtain ⟨v0,vs0,d0,ds0,p0,q0,hargs,rfl,rfl,h0,r0⟩:=trodAll_cons hA;obtain ⟨v1,vs1,d1,ds1,p1,q1,rfl,rfl,rfl,h1,r1⟩:=trodAll_cons r0;obtain ⟨rfl,rfl,rfl⟩:=trodAll_nil r1;(obtain rfl:args=#[v0,v1]:=by cases args;simp_all);obtain ⟨rfl,rfl⟩:=trodVars_none hV;obtain ⟨a0,rfl,rfl,rfl,w0⟩:=open_int Tryz.underlying3 (hval 0 3 v0 rfl rfl) h0;have bd0:=bounds_i64 w0;have k1:=h1;obtain ⟨fu1,hf1⟩:=h1;obtain ⟨a1,n1,c1,os1,hc1,hr1,hk1,hj1⟩:=jHy hf1;obtain ⟨b1,m1,e1,rfl⟩:=okWide_slice Tryz.underlying22 (hval 1 22 v1 rfl rfl);have hc1':[Value.slice b1 m1 e1] = [.slice a1 n1 c1]:=hc1;simp only[List.cons.injEq,and_true,Value.slice.injEq] at hc1';obtain ⟨rfl,rfl,rfl⟩:=hc1';clear hf1;clear hA0;simp only[List.append_nil,List.nil_append] at hW';(have hlt1:∀ x∈p1,x.block<W.heap.size:=fun x hx=>by simpa using hW'.lt x (by simp[hx]));have hwe:=jLE hkk;clear hkk;(have hty:Tryz.f3.params.toList = [3,22]:=by rw[Tryz.params3]);rw[hty] at hwe;simp only[List.cons_append,List.nil_append,DataW.weightsEach,List.mem_append] at hwe;(have hb1:WB 22 d1:=fun z hz=>hwe z (Or.inr (Or.inl hz)));replace hk1:=hk1 hb1;replace hj1:=hj1 hb1;unfold reachBytes at *;(refine (jHp a0 b1 m1 e1 os1 W hr1 (by omega) (fun i hi=>by have:=hj1 i hi;omega) (jG0 hL)).mono fun e W' ⟨he,hb⟩=>?_);subst he
  exact ⟨_, rfl, _, _, _, [], _, [], hW', trodAll_cons_mk (shut_bool Tryz.underlying4 _) trodAll_mk0,
    (trodAll_cons_mk (shut_int Tryz.underlying3 w0) (trodAll_cons_mk (Below.trod Tryz.laidOut (by kernel_rfl) (of_decide_eq_true (by kernel_rfl)) k1 hb hlt1) trodAll_mk0)), rfl, hb.frame _, fun h => by cases h⟩
theorem laid_met (os:Os):laidMet Tryz.prog Rows.packedRow.laid ((laidWorld os).forCall (fun _ _=>0) ⟨#[],#[.int .i64 0,.slice none 0 0],[]⟩).memory:=
  laidMet_of_run' 8 (by kernel_rfl) (by kernel_rfl)
theorem reads (os:Os) {H:Type} (enc:TypeId×Value→H):∃ places,DataW.whole enc Tryz.prog ((laidWorld os).forCall (fun _ _=>0) ⟨#[],#[.int .i64 0,.slice none 0 0],[]⟩).memory Tryz.f3.params.toList Rows.packedSpec.vars false #[Value.int .i64 0,Value.slice none 0 0].toList 8=some ([.lit (.int .i64 0),.nil],[],places):=
  ⟨[],by kernel_rfl⟩
set_option maxRecDepth 100000 in
theorem lifted (os:Os)(started:os.Started)(H:Type)(enc:TypeId×Value→H)(F:Stop.Interp):ReturnsInHanded {} Tryz.checked os 3 .any ((OpenSpec.ofChange Rows.packedSpec).preRow enc Tryz.prog Tryz.f3 Rows.packedRow.domain false Rows.packedRow.laid) (((OpenSpec.ofChange Rows.packedSpec).at F).post enc Tryz.prog Tryz.f3 false true false false):=by
  obtain ⟨places,hx⟩:=reads os enc
  refine returnsInHanded_of_row (C := Tryz.checked) (s := OpenSpec.ofChange Rows.packedSpec) own started (by kernel_rfl) Tryz.func3
    (witness_row_at (enc := enc) (C := Tryz.checked) false (laidWorld os) #[.int .i64 0, .slice none 0 0] rfl (by kernel_rfl) (by kernel_rfl) (by kernel_rfl)
      (OpenSpec.preRow_of_cond 8 hx (by kernel_rfl) (fun k hk => by cases hk) (by kernel_rfl) (laid_met os))) ?_
  intro W base args ds gs before hval hW hc1 hc2 hc3 hL hc4 hc5;exact contract H enc W base args ds gs before hval hW hL hc3
theorem said:Rows.PackedSaid:=
  OpenClaim.holds_of_cond 3 Tryz.f3 rfl rfl rfl rfl rfl rfl rfl ⟨rfl,rfl,rfl,rfl,rfl⟩ rfl rfl rfl rfl rfl (by kernel_rfl) Tryz.func3 (by kernel_rfl)
    (of_decide_eq_true (by kernel_rfl)) (by unfold Func.isWrapper;first | (rw[if_pos (by decide +kernel)];kernel_rfl) | (rw[if_neg (by decide +kernel)];exact ⟨rfl,rfl⟩))
    (fun os started H enc _ F=>by rw[OpenClaim.pre_eq_preRow];exact lifted os started H enc F)
theorem plain (f:FuncId)(fn:Func)(hf:Tryz.pinned.checked.prog.funcNamed "portion/portionkeep.Packed" = some f)(hfn:Tryz.pinned.checked.prog.funcs[f]? = some fn):false=Tryz.pinned.checked.prog.looks []∧∀ (j:Nat) t,fn.params[j]? = some t→Tryz.pinned.checked.prog.wantsStandIn t=false:=by
 (obtain rfl:f=3:=Option.some.inj ((show Tryz.prog.funcNamed "portion/portionkeep.Packed" = some 3 by kernel_rfl).symm.trans hf) |>.symm);obtain rfl:fn=Tryz.f3:=(Option.some.inj (Tryz.func3.symm.trans hfn)).symm;refine ⟨by kernel_rfl,fun j t ht=>?_⟩;rw[Tryz.params3] at ht;have hm:=Array.mem_of_getElem? ht;simp only[List.mem_toArray,List.mem_cons,List.not_mem_nil,or_false] at hm;rcases hm with rfl | rfl
 ·exact (show Tryz.prog.wantsStandIn 3=false by kernel_rfl)
 ·exact (show Tryz.prog.wantsStandIn 22=false by kernel_rfl)
theorem card:Rows.PackedCardSaid:=
  Claim7.holds_tied_plain_at .later [] _ _ _ _ said (fun _ h=>by cases h) (by kernel_rfl) (fun _ h=>by cases h) packed_row_tie rfl ⟨rfl,rfl⟩ (by kernel_rfl) rfl plain (by kernel_rfl)
end Go.Proofs.YtigokanoflkinabGreatDoor.packed
namespace Go.Proofs.YtigokanoflkinabGreatDoor
theorem packed_holds:Rows.PackedCardSaid:=packed.card
#print axioms packed_holds
end Go.Proofs.YtigokanoflkinabGreatDoor
