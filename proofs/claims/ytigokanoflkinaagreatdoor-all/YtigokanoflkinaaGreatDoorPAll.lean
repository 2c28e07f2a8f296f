/-
  Whatever the arguments: for all numbers of kinds of two fleets and every script the call portionlaw.All returns true and leaves its arguments as they were: every answer, every place, every due and every account of two fleets that are played in turns is what the document says. Conditions: the three package-level tables that the row lists hold what the text of the program lays (the card ties them).
-/
import Derived.Test.YtigokanoflkinaaGreatDoorCards
import Derived.Test.YtigokanoflkinaaGreatDoorTie
import Derived.Test.YtigokanoflkinaaGreatDoorZR
import Derived.Deep.DeepHandedRow
namespace Go.Proofs.YtigokanoflkinaaGreatDoor.all
set_option linter.unusedSimpArgs false
open Go.ChangeMaps Go.ChangeShapes Go.WideShapes Go.ChangeAt Go.RowKit
set_option maxRecDepth 100000 in
theorem contract {H:Type}{enc:TypeId×Value->H}{W:World}{base:Nat}{args:Array Value}{ds gs:List (DataW H)}{before:List MemPlace}(hval:∀(j:Nat) t v,Tryz.f7.params[j]?=some t->args[j]?=some v->Value.okWide Tryz.prog W .any base t v)(hW:DataW.Whole enc Tryz.prog Tryz.f7.params.toList Rows.allSpec.vars false W args.toList ds gs before)(hL:laidMetH Tryz.prog Rows.allRow.laid W)(hkk:(DataW.weightsEach Tryz.prog (Tryz.f7.params.toList++(OpenSpec.ofChange Rows.allSpec).bare.plain.varTypes Tryz.prog) (ds++gs)).all (·<=reachBytes)=true):Calls Tryz.prog 7 args W fun e W'=>∃v,e=.returned v/\Rows.allSpec.post enc Tryz.prog Tryz.f7 false true false false W args v W':=by
 have b:=hW;obtain⟨p,q,f,X,rfl,Y,Z⟩:=hW;have B:DataW.TrodAll enc Tryz.prog W 0 (fun _=>true) true Tryz.f7.params.toList args.toList ds p:=f;rw[Tryz.params7]at B hval;obtain⟨D,aa,d0,Q,p0,q0,n,rfl,rfl,U,r0⟩:=trodAll_cons B;obtain⟨E,ab,d1,R,p1,q1,rfl,rfl,rfl,V,r1⟩:=trodAll_cons r0;obtain⟨F,ac,P,S,p2,q2,rfl,rfl,rfl,A,r2⟩:=trodAll_cons r1;obtain⟨rfl,rfl,rfl⟩:=trodAll_nil r2;(obtain rfl:args=#[D,E,F]:=by cases args;simp_all);obtain⟨rfl,rfl⟩:=trodVars_none X;obtain⟨J,rfl,rfl,rfl,G⟩:=open_int Tryz.underlying3 (hval 0 3 D rfl rfl) U;have M:=bounds_i64 G;obtain⟨K,rfl,rfl,rfl,I⟩:=open_int Tryz.underlying3 (hval 1 3 E rfl rfl) V;have N:=bounds_i64 I;have k2:=A;obtain⟨T,k⟩:=A;obtain⟨L,n2,O,u,o,r,l,c⟩:=rj k;obtain⟨w,C,y,rfl⟩:=okWide_slice Tryz.underlying39 (hval 2 39 F rfl rfl);have a:[Value.slice w C y]=[.slice L n2 O]:=o;simp only[List.cons.injEq,and_true,Value.slice.injEq]at a;obtain⟨rfl,rfl,rfl⟩:=a;clear k;clear f;simp only[List.append_nil,List.nil_append]at b;(have m:∀x∈p2,x.block<W.heap.size:=fun x hx=>by simpa using b.lt x (by simp[hx]));have d:=rV hkk;clear hkk;(have s:Tryz.f7.params.toList=[3,3,39]:=by rw[Tryz.params7]);rw[s]at d;simp only[List.cons_append,List.nil_append,DataW.weightsEach,List.mem_append]at d;(have g:WB 39 P:=fun z hz=>d z (Or.inr (Or.inr (Or.inl hz))));replace l:=l g;replace c:=c g;unfold reachBytes at *;(refine(G7 r (qQ hL) (by omega) (fun i hi=>by have:=c i hi;omega)).mono fun e W' ⟨he,hb⟩=>?_);subst he
 exact⟨_,rfl,_,_,_,[],_,[],b,trodAll_cons_mk (shut_bool Tryz.underlying4 _) trodAll_mk0,
  (trodAll_cons_mk (shut_int Tryz.underlying3 G) (trodAll_cons_mk (shut_int Tryz.underlying3 I) (trodAll_cons_mk (Below.trod Tryz.laidOut (by kernel_rfl) (of_decide_eq_true (by kernel_rfl)) k2 hb m) trodAll_mk0))),rfl,hb.frame _,fun h=>by cases h⟩
theorem laid_met (os:Os):laidMet Tryz.prog Rows.allRow.laid ((yQ os).forCall (fun _ _=>0) ⟨#[],#[.int .i64 0,.int .i64 0,.slice none 0 0],[]⟩).memory:=
  laidMet_of_run' 8 (by kernel_rfl) (by kernel_rfl)
theorem reads (os:Os) {H:Type} (enc:TypeId×Value->H):∃places,DataW.whole enc Tryz.prog ((yQ os).forCall (fun _ _=>0) ⟨#[],#[.int .i64 0,.int .i64 0,.slice none 0 0],[]⟩).memory Tryz.f7.params.toList Rows.allSpec.vars false #[Value.int .i64 0,Value.int .i64 0,Value.slice none 0 0].toList 8=some ([.lit (.int .i64 0),.lit (.int .i64 0),.nil],[],places):=
  ⟨[],by kernel_rfl⟩
set_option maxRecDepth 100000 in
theorem lifted (os:Os)(started:os.Started)(H:Type)(enc:TypeId×Value->H)(F:Stop.Interp):ReturnsInHanded {} Tryz.checked os 7 .any ((OpenSpec.ofChange Rows.allSpec).preRow enc Tryz.prog Tryz.f7 Rows.allRow.domain false Rows.allRow.laid) (((OpenSpec.ofChange Rows.allSpec).at F).post enc Tryz.prog Tryz.f7 false true false false):=by
 obtain⟨e,p⟩:=reads os enc
 refine returnsInHanded_of_row (C:=Tryz.checked) (s:=OpenSpec.ofChange Rows.allSpec) own started (by kernel_rfl) Tryz.func7
  (witness_row_at (enc:=enc) (C:=Tryz.checked) false (yQ os) #[.int .i64 0,.int .i64 0,.slice none 0 0] rfl (by kernel_rfl) (by kernel_rfl) (by kernel_rfl)
   (OpenSpec.preRow_of_cond 8 p (by kernel_rfl) (fun k hk=>by cases hk) (by kernel_rfl) (laid_met os))) ?_
 intro W c b g h a d j l m f i n o;exact contract d j i f
theorem said:Rows.AllSaid:=
  OpenClaim.holds_of_cond 7 Tryz.f7 rfl rfl rfl rfl rfl rfl rfl ⟨rfl,rfl,rfl,rfl,rfl⟩ rfl rfl rfl rfl rfl (by kernel_rfl) Tryz.func7 (by kernel_rfl)
    (of_decide_eq_true (by kernel_rfl)) (by unfold Func.isWrapper;first|(rw[if_pos (by decide +kernel)];kernel_rfl)|(rw[if_neg (by decide +kernel)];exact⟨rfl,rfl⟩))
    (fun os started H enc _ F=>by rw[OpenClaim.pre_eq_preRow];exact lifted os started H enc F)
theorem plain (f:FuncId)(fn:Func)(hf:Tryz.pinned.checked.prog.funcNamed "portion/portionlaw.All" = some f)(hfn:Tryz.pinned.checked.prog.funcs[f]?=some fn):false=Tryz.pinned.checked.prog.looks []/\∀(j:Nat) t,fn.params[j]?=some t->Tryz.pinned.checked.prog.wantsStandIn t=false:=by
 (obtain rfl:f=7:=Option.some.inj ((show Tryz.prog.funcNamed "portion/portionlaw.All" = some 7 by kernel_rfl).symm.trans hf) |>.symm);obtain rfl:fn=Tryz.f7:=(Option.some.inj (Tryz.func7.symm.trans hfn)).symm;refine⟨by kernel_rfl,fun j t ht=>?_⟩;rw[Tryz.params7]at ht;have hm:=Array.mem_of_getElem? ht;simp only[List.mem_toArray,List.mem_cons,List.not_mem_nil,or_false]at hm;rcases hm with rfl|rfl|rfl
 ·exact(show Tryz.prog.wantsStandIn 3=false by kernel_rfl)
 ·exact(show Tryz.prog.wantsStandIn 3=false by kernel_rfl)
 ·exact(show Tryz.prog.wantsStandIn 39=false by kernel_rfl)
theorem card:Rows.AllCardSaid:=
  Claim7.holds_tied_plain_at .later [] _ _ _ _ said (fun _ h=>by cases h) (by kernel_rfl) (fun _ h=>by cases h) all_row_tie rfl ⟨rfl,rfl⟩ (by kernel_rfl) rfl plain (by kernel_rfl)
end Go.Proofs.YtigokanoflkinaaGreatDoor.all
namespace Go.Proofs.YtigokanoflkinaaGreatDoor
theorem all_holds:Rows.AllCardSaid:=all.card
#print axioms all_holds
end Go.Proofs.YtigokanoflkinaaGreatDoor
