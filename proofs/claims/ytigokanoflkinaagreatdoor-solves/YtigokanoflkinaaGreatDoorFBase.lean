/- Lists in memory: of any elements; users; fractions. -/
import Derived.Test.YtigokanoflkinaaGreatDoorWEx
import Derived.Test.YtigokanoflkinaaGreatDoorMMath
import Derived.Laws.AppendOwn
import Derived.Laws.AppendOwnNone
namespace Go.Proofs.YtigokanoflkinaaGreatDoor
set_option linter.unusedSimpArgs false
set_option linter.unusedVariables false
open Go.RowKit Por

/-- The slice value '.slice ao n cap' reads as the elements vs, of k cells each. -/
structure Arr (w : World) (k : Nat) (ao : Option Addr) (n cap : Nat) (vs : List Value) : Prop where
  len : vs.length = n
  le : n ≤ cap
  cm : cap ≤ maxLen
  head : 0 < n → ∃ b o, ao = some ⟨b, o, none⟩ ∧ b < w.heap.size
  cell : ∀ b o, ao = some ⟨b, o, none⟩ → ∀ i v, vs[i]? = some v → ∀ j u, v.cells[j]? = some u → w.cell? ⟨b, o + (i * k + j), none⟩ = some u

theorem Arr.below {w w' : World} {k : Nat} {ao : Option Addr} {n cap : Nat} {vs : List Value} (h : Arr w k ao n cap vs) (hb : Below w.heap.size w w') : Arr w' k ao n cap vs := by
  refine ⟨h.len, h.le, h.cm, fun hn => ?_, fun b o e i v hv j u hu => ?_⟩
  · obtain ⟨b, o, e, hlt⟩ := h.head hn
    exact ⟨b, o, e, Nat.lt_of_lt_of_le hlt hb.size⟩
  · have hi : i < vs.length := (List.getElem?_eq_some_iff.1 hv).1
    have hlen := h.len
    obtain ⟨b', o', e', hlt⟩ := h.head (by omega)
    rw [e] at e'; cases e'
    exact (hb.cell (p := ⟨b, o + (i * k + j), none⟩) hlt).trans (h.cell b o e i v hv j u hu)
theorem Arr.nil (w : World) (k : Nat) : Arr w k none 0 0 [] := ⟨rfl, Nat.le_refl _, Nat.zero_le _, fun h => by omega, fun b o e => (by cases e)⟩

/-- a list of numbers -/
def ints (xs : List Int) : List Value := xs.map (Value.int .i64)
theorem ints_get (xs : List Int) {i : Nat} (h : i < xs.length) : (ints xs)[i]? = some (.int .i64 (lm xs i)) := by
  unfold ints lm
  rw [List.getElem?_map, List.getElem?_eq_getElem h, List.getD_eq_getElem?_getD, List.getElem?_eq_getElem h]; rfl
theorem ints_len (xs : List Int) : (ints xs).length = xs.length := by simp [ints]
theorem Arr.int {w : World} {ao : Option Addr} {n cap : Nat} {xs : List Int} (h : Arr w 1 ao n cap (ints xs)) {b o : Nat} (e : ao = some ⟨b, o, none⟩) {i : Nat} (hi : i < n) : w.cell? ⟨b, o + i, none⟩ = some (.int .i64 (lm xs i)) := by
  have hl := h.len
  rw [ints_len] at hl
  have := h.cell b o e i _ (ints_get xs (by omega)) 0 (.int .i64 (lm xs i)) rfl
  simpa using this

/-- what a user is -/
structure Usr where
  dem : List Int
  wt : Int
  cap : Int
def UsrV (w : World) (v : Value) (u : Usr) : Prop := ∃ ao n cap, v = .agg #[.slice ao n cap, .int .i64 u.wt, .int .i64 u.cap] ∧ Arr w 1 ao n cap (ints u.dem)
theorem UsrV.below {w w' : World} {v : Value} {u : Usr} (h : UsrV w v u) (hb : Below w.heap.size w w') : UsrV w' v u := by
  obtain ⟨ao, n, cap, e, h⟩ := h; exact ⟨ao, n, cap, e, h.below hb⟩
def ug (us : List Usr) (i : Nat) : Usr := us.getD i ⟨[], 0, 0⟩
/-- a list of users -/
def Users (w : World) (ao : Option Addr) (n cap : Nat) (us : List Usr) : Prop := us.length = n ∧ ∃ vs, Arr w 3 ao n cap vs ∧ ∀ i v, vs[i]? = some v → UsrV w v (ug us i)
theorem Users.below {w w' : World} {ao : Option Addr} {n cap : Nat} {us : List Usr} (h : Users w ao n cap us) (hb : Below w.heap.size w w') : Users w' ao n cap us := by
  obtain ⟨h0, vs, h1, h2⟩ := h; exact ⟨h0, vs, h1.below hb, fun i v hv => (h2 i v hv).below hb⟩
/-- user i, its cells -/
theorem Users.get {w : World} {ao : Option Addr} {n cap : Nat} {us : List Usr} (h : Users w ao n cap us) {i : Nat} (hi : i < n) :
    ∃ b o da dn dc, ao = some ⟨b, o, none⟩ ∧ b < w.heap.size ∧ w.cell? ⟨b, o + i * 3, none⟩ = some (.slice da dn dc) ∧ w.cell? ⟨b, o + i * 3 + 1, none⟩ = some (.int .i64 (ug us i).wt) ∧ w.cell? ⟨b, o + i * 3 + 2, none⟩ = some (.int .i64 (ug us i).cap) ∧ Arr w 1 da dn dc (ints (ug us i).dem) := by
  obtain ⟨h0, vs, h1, h2⟩ := h
  have hl := h1.len
  obtain ⟨b, o, e, hlt⟩ := h1.head (by omega)
  have hv : vs[i]? = some vs[i] := List.getElem?_eq_getElem (by omega)
  obtain ⟨da, dn, dc, ev, ha⟩ := h2 i _ hv
  refine ⟨b, o, da, dn, dc, e, hlt, ?_, ?_, ?_, ha⟩
  · have := h1.cell b o e i _ hv 0 (.slice da dn dc) (by rw [ev]; rfl)
    simpa using this
  · have := h1.cell b o e i _ hv 1 (.int .i64 (ug us i).wt) (by rw [ev]; rfl)
    rwa [← Nat.add_assoc] at this
  · have := h1.cell b o e i _ hv 2 (.int .i64 (ug us i).cap) (by rw [ev]; rfl)
    rwa [← Nat.add_assoc] at this

/- what may be a pool, a user -/
def amtB (x : Int) : Bool := decide (0 ≤ x ∧ x ≤ 10000)
def amtsB (xs : List Int) : Bool := xs.all amtB
def poolB (xs : List Int) : Bool := decide (1 ≤ xs.length ∧ xs.length ≤ 4) && amtsB xs
def wantsB (xs : List Int) : Bool := xs.any (fun x => decide (0 < x))
def usrB (k : Nat) (u : Usr) : Bool := decide (u.dem.length = k) && decide (1 ≤ u.wt ∧ u.wt ≤ 100 ∧ 0 ≤ u.cap ∧ u.cap ≤ 1000) && amtsB u.dem && wantsB u.dem
def errOf (pool : List Int) (us : List Usr) : Int := if poolB pool = false then 3 else if 6 < us.length then 4 else if us.all (usrB pool.length) = false then 4 else 0

theorem take_all_step {α : Type} (p : α → Bool) (xs : List α) {i : Nat} (h : i < xs.length) : (xs.take (i + 1)).all p = ((xs.take i).all p && p xs[i]) := by
  rw [List.take_succ_eq_append_getElem h, List.all_append]; simp
theorem take_any_step {α : Type} (p : α → Bool) (xs : List α) {i : Nat} (h : i < xs.length) : (xs.take (i + 1)).any p = ((xs.take i).any p || p xs[i]) := by
  rw [List.take_succ_eq_append_getElem h, List.any_append]; simp
theorem lm_get (xs : List Int) {i : Nat} (h : i < xs.length) : xs[i] = lm xs i := by
  unfold lm; rw [List.getD_eq_getElem?_getD, List.getElem?_eq_getElem h]; rfl
theorem ug_get (us : List Usr) {i : Nat} (h : i < us.length) : us[i] = ug us i := by
  unfold ug; rw [List.getD_eq_getElem?_getD, List.getElem?_eq_getElem h]; rfl
theorem all_false_of {α : Type} (p : α → Bool) (xs : List α) {i : Nat} (h : i < xs.length) (hp : p xs[i] = false) : xs.all p = false := by
  rw [List.all_eq_false]; exact ⟨xs[i], List.getElem_mem h, by simp [hp]⟩
theorem any_true_of {α : Type} (p : α → Bool) (xs : List α) {i : Nat} (h : i < xs.length) (hp : p xs[i] = true) : xs.any p = true := by
  rw [List.any_eq_true]; exact ⟨xs[i], List.getElem_mem h, hp⟩
end Go.Proofs.YtigokanoflkinaaGreatDoor
