/-
  Whatever the arguments: for every number of kinds and every script the call portionlaw.Places returns true and leaves its arguments as they were: where every task runs or waits, and how many gave way, is what the document says, whenever a script asks. Conditions: the three package-level tables that the row lists hold what the text of the program lays (the card ties them).
-/
import Derived.Test.YtigokanoflkinaaGreatDoorCards
import Derived.Test.YtigokanoflkinaaGreatDoorTie
import Derived.Test.YtigokanoflkinaaGreatDoorZR
import Derived.Deep.DeepHandedRow
namespace Go.Proofs.YtigokanoflkinaaGreatDoor.places
set_option linter.unusedSimpArgs false
open Go.ChangeMaps Go.ChangeShapes Go.WideShapes Go.ChangeAt Go.RowKit
set_option maxRecDepth 100000 in
theorem contract {H:Type}{enc:TypeId×Value->H}{W:World}{base:Nat}{args:Array Value}{ds gs:List (DataW H)}{before:List MemPlace}(hval:∀(j:Nat) t v,Tryz.f5.params[j]?=some t->args[j]?=some v->Value.okWide Tryz.prog W .any base t v)(hW:DataW.Whole enc Tryz.prog Tryz.f5.params.toList Rows.placesSpec.vars false W args.toList ds gs before)(hL:laidMetH Tryz.prog Rows.placesRow.laid W)(hkk:(DataW.weightsEach Tryz.prog (Tryz.f5.params.toList++(OpenSpec.ofChange Rows.placesSpec).bare.plain.varTypes Tryz.prog) (ds++gs)).all (·<=reachBytes)=true):Calls Tryz.prog 5 args W fun e W'=>∃v,e=.returned v/\Rows.placesSpec.post enc Tryz.prog Tryz.f5 false true false false W args v W':=by
 have b:=hW;obtain⟨p,q,f,Q,rfl,R,S⟩:=hW;have B:DataW.TrodAll enc Tryz.prog W 0 (fun _=>true) true Tryz.f5.params.toList args.toList ds p:=f;rw[Tryz.params5]at B hval;obtain⟨D,Z,d0,M,p0,q0,n,rfl,rfl,P,X⟩:=trodAll_cons B;obtain⟨E,aa,L,N,V,q1,rfl,rfl,rfl,A,Y⟩:=trodAll_cons X;obtain⟨rfl,rfl,rfl⟩:=trodAll_nil Y;(obtain rfl:args=#[D,E]:=by cases args;simp_all);obtain⟨rfl,rfl⟩:=trodVars_none Q;obtain⟨G,rfl,rfl,rfl,F⟩:=open_int Tryz.underlying3 (hval 0 3 D rfl rfl) P;have J:=bounds_i64 F;have T:=A;obtain⟨O,k⟩:=A;obtain⟨I,U,K,u,o,r,l,c⟩:=rj k;obtain⟨w,C,y,rfl⟩:=okWide_slice Tryz.underlying39 (hval 1 39 E rfl rfl);have a:[Value.slice w C y]=[.slice I U K]:=o;simp only[List.cons.injEq,and_true,Value.slice.injEq]at a;obtain⟨rfl,rfl,rfl⟩:=a;clear k;clear f;simp only[List.append_nil,List.nil_append]at b;(have m:∀x∈V,x.block<W.heap.size:=fun x hx=>by simpa using b.lt x (by simp[hx]));have d:=rV hkk;clear hkk;(have s:Tryz.f5.params.toList=[3,39]:=by rw[Tryz.params5]);rw[s]at d;simp only[List.cons_append,List.nil_append,DataW.weightsEach,List.mem_append]at d;(have g:WB 39 L:=fun z hz=>d z (Or.inr (Or.inl hz)));replace l:=l g;replace c:=c g;unfold reachBytes at *;(refine(DI r (qQ hL) (by omega) (fun i hi=>by have:=c i hi;omega)).mono fun e W' ⟨he,hb⟩=>?_);subst he
 exact⟨_,rfl,_,_,_,[],_,[],b,trodAll_cons_mk (shut_bool Tryz.underlying4 _) trodAll_mk0,
  (trodAll_cons_mk (shut_int Tryz.underlying3 F) (trodAll_cons_mk (Below.trod Tryz.laidOut (by kernel_rfl) (of_decide_eq_true (by kernel_rfl)) T hb m) trodAll_mk0)),rfl,hb.frame _,fun h=>by cases h⟩
theorem laid_met (os:Os):laidMet Tryz.prog Rows.placesRow.laid ((yQ os).forCall (fun _ _=>0) ⟨#[],#[.int .i64 0,.slice none 0 0],[]⟩).memory:=
  laidMet_of_run' 8 (by kernel_rfl) (by kernel_rfl)
theorem reads (os:Os) {H:Type} (enc:TypeId×Value->H):∃places,DataW.whole enc Tryz.prog ((yQ os).forCall (fun _ _=>0) ⟨#[],#[.int .i64 0,.slice none 0 0],[]⟩).memory Tryz.f5.params.toList Rows.placesSpec.vars false #[Value.int .i64 0,Value.slice none 0 0].toList 8=some ([.lit (.int .i64 0),.nil],[],places):=
  ⟨[],by kernel_rfl⟩
set_option maxRecDepth 100000 in
theorem lifted (os:Os)(started:os.Started)(H:Type)(enc:TypeId×Value->H)(F:Stop.Interp):ReturnsInHanded {} Tryz.checked os 5 .any ((OpenSpec.ofChange Rows.placesSpec).preRow enc Tryz.prog Tryz.f5 Rows.placesRow.domain false Rows.placesRow.laid) (((OpenSpec.ofChange Rows.placesSpec).at F).post enc Tryz.prog Tryz.f5 false true false false):=by
 obtain⟨e,p⟩:=reads os enc
 refine returnsInHanded_of_row (C:=Tryz.checked) (s:=OpenSpec.ofChange Rows.placesSpec) own started (by kernel_rfl) Tryz.func5
  (witness_row_at (enc:=enc) (C:=Tryz.checked) false (yQ os) #[.int .i64 0,.slice none 0 0] rfl (by kernel_rfl) (by kernel_rfl) (by kernel_rfl)
   (OpenSpec.preRow_of_cond 8 p (by kernel_rfl) (fun k hk=>by cases hk) (by kernel_rfl) (laid_met os))) ?_
 intro W c b g h a d j l m f i n o;exact contract d j i f
theorem said:Rows.PlacesSaid:=
  OpenClaim.holds_of_cond 5 Tryz.f5 rfl rfl rfl rfl rfl rfl rfl ⟨rfl,rfl,rfl,rfl,rfl⟩ rfl rfl rfl rfl rfl (by kernel_rfl) Tryz.func5 (by kernel_rfl)
    (of_decide_eq_true (by kernel_rfl)) (by unfold Func.isWrapper;first|(rw[if_pos (by decide +kernel)];kernel_rfl)|(rw[if_neg (by decide +kernel)];exact⟨rfl,rfl⟩))
    (fun os started H enc _ F=>by rw[OpenClaim.pre_eq_preRow];exact lifted os started H enc F)
theorem plain (f:FuncId)(fn:Func)(hf:Tryz.pinned.checked.prog.funcNamed "portion/portionlaw.Places" = some f)(hfn:Tryz.pinned.checked.prog.funcs[f]?=some fn):false=Tryz.pinned.checked.prog.looks []/\∀(j:Nat) t,fn.params[j]?=some t->Tryz.pinned.checked.prog.wantsStandIn t=false:=by
 (obtain rfl:f=5:=Option.some.inj ((show Tryz.prog.funcNamed "portion/portionlaw.Places" = some 5 by kernel_rfl).symm.trans hf) |>.symm);obtain rfl:fn=Tryz.f5:=(Option.some.inj (Tryz.func5.symm.trans hfn)).symm;refine⟨by kernel_rfl,fun j t ht=>?_⟩;rw[Tryz.params5]at ht;have hm:=Array.mem_of_getElem? ht;simp only[List.mem_toArray,List.mem_cons,List.not_mem_nil,or_false]at hm;rcases hm with rfl|rfl
 ·exact(show Tryz.prog.wantsStandIn 3=false by kernel_rfl)
 ·exact(show Tryz.prog.wantsStandIn 39=false by kernel_rfl)
theorem card:Rows.PlacesCardSaid:=
  Claim7.holds_tied_plain_at .later [] _ _ _ _ said (fun _ h=>by cases h) (by kernel_rfl) (fun _ h=>by cases h) places_row_tie rfl ⟨rfl,rfl⟩ (by kernel_rfl) rfl plain (by kernel_rfl)
end Go.Proofs.YtigokanoflkinaaGreatDoor.places
namespace Go.Proofs.YtigokanoflkinaaGreatDoor
theorem places_holds:Rows.PlacesCardSaid:=places.card
#print axioms places_holds
end Go.Proofs.YtigokanoflkinaaGreatDoor
