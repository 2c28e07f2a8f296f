/- fill.Feasible. (Laid by mkfill.py.) -/
import Derived.Test.YtigokanoflkinabGreatDoorWInAll
import Derived.Test.YtigokanoflkinabGreatDoorWRall
namespace Go.Proofs.YtigokanoflkinabGreatDoor
set_option linter.unusedSimpArgs false
set_option linter.unusedVariables false
open Go.RowKit Por
theorem jCc {pool:List Int}{us:List Usr}(h:errOf pool us=0):poolB pool=true∧us.length≤6∧Good us pool.length∧(∀ i,amtB (lm pool i)=true)∧1≤pool.length∧pool.length≤4:=by
 unfold errOf at h;split at h
 ·omega
 ·rename_i h1;split at h
  ·omega
  ·rename_i h2;split at h
   ·omega
   ·rename_i h3;(have h1':poolB pool=true:=by simpa using h1);(have h3':us.all (usrB pool.length)=true:=by simpa using h3);have h4:=h1';unfold poolB at h4;simp only[Bool.and_eq_true,decide_eq_true_eq] at h4;refine ⟨h1',by omega,fun i hi=>?_,jFr h4.2,h4.1.1,h4.1.2⟩;rw[← jKu us hi];rw[List.all_eq_true] at h3';exact h3' _ (List.getElem_mem hi)
theorem jGp (pool:List Int)(us:List Usr):errOf pool us=0∨errOf pool us=3∨errOf pool us=4:=by
 unfold errOf;split
 ·exact Or.inr (Or.inl rfl)
 ·split
  ·exact Or.inr (Or.inr rfl)
  ·split
   ·exact Or.inr (Or.inr rfl)
   ·exact Or.inl rfl
end Go.Proofs.YtigokanoflkinabGreatDoor
