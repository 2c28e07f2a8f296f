/- What is handed in: a list of numbers, a list of users, a list of texts. -/
import Derived.Test.YtigokanoflkinabDoorFBase
import Derived.ProofKit
import Derived.Deep.Slices
import Derived.Deep.Strs
namespace Go.Proofs.YtigokanoflkinabDoor
set_option linter.unusedSimpArgs false
set_option linter.unusedVariables false
open Go.RowKit Por Go.ChangeShapes Go.WideShapes

theorem Tryd.laidOut : laidOutB Tryd.prog = true := by kernel_rfl
theorem Tryd.cellsInt : Tryd.prog.cellsOf 3 = 1 := by kernel_rfl
theorem Tryd.cellsUser : Tryd.prog.cellsOf 31 = 3 := by kernel_rfl
theorem Tryd.cellsInts : Tryd.prog.cellsOf 22 = 1 := by kernel_rfl

theorem cell_spot {w : World} {a : Addr} {v : Value} (h : w.cell? a = some v) : a = ⟨a.block, a.off, none⟩ := by
  obtain ⟨b, o, s⟩ := a
  unfold World.cell? at h
  cases s with
  | none => rfl
  | some x =>
    simp only [Option.isSome_some, if_true] at h
    split at h <;> cases h

theorem ints_trod {H : Type} {enc : TypeId × Value → H} {W : World} {sp : Nat → Bool} {hd : Bool} {fuel : Nat} {cs : List Value} {x : DataW H × List MemPlace} (h : DataW.trod enc Tryd.prog W 0 sp hd fuel 22 cs = some x) :
    ∃ ao n cap xs, cs = [.slice ao n cap] ∧ Arr W 1 ao n cap (ints xs) := by
  rcases open_ints Tryd.underlying22 Tryd.underlying3 Tryd.cellsInt h with ⟨hcs, hx⟩ | ⟨a, len, cap, zs, hcs, _, hl, hm, hz, hx, hcell, hwz⟩
  · exact ⟨none, 0, 0, [], hcs, Arr.nil _ _⟩
  · have hzl : len ≤ zs.length := by rw [hz]; split <;> omega
    refine ⟨some a, len, cap, zs.take len, hcs, ⟨by rw [ints_len, List.length_take]; omega, hl, hm, fun h0 => ?_, ?_⟩⟩
    · have hc := hcell 0 (by omega)
      have e : a.add 0 = a := by unfold Addr.add; simp
      rw [e] at hc
      have hs := cell_spot hc
      exact ⟨a.block, a.off, by rw [← hs], World.block_lt_of_cell? W a hc⟩
    · intro b o e i v hv j u hu
      cases e
      have hi : i < len := by
        have := (List.getElem?_eq_some_iff.1 hv).1
        rw [ints_len, List.length_take] at this; omega
      have hc := hcell i (by omega)
      rw [add_plain] at hc
      unfold ints at hv
      rw [List.getElem?_map, List.getElem?_take, if_pos hi, List.getElem?_eq_getElem (by omega)] at hv
      cases hv
      match j with
      | 0 =>
        rw [Nat.mul_one, Nat.add_zero, hc, ← hu]
        rw [List.getD_eq_getElem?_getD, List.getElem?_eq_getElem (by omega)]; rfl
      | j + 1 => simp [Value.cells] at hu

theorem three {α : Type} {l : List α} (h : l.length = 3) : ∃ a b c, l = [a, b, c] := by
  match l, h with
  | [a, b, c], _ => exact ⟨a, b, c, rfl⟩

set_option maxRecDepth 100000 in
theorem user_trod {H : Type} {enc : TypeId × Value → H} {W : World} {sp : Nat → Bool} {hd : Bool} {fuel : Nat} {cs : List Value} {x : DataW H × List MemPlace} (h : DataW.trod enc Tryd.prog W 0 sp hd fuel 31 cs = some x) :
    ∃ (u : Usr) (ao : Option Addr) (n cap : Nat), cs = [.slice ao n cap, .int .i64 u.wt, .int .i64 u.cap] ∧ Arr W 1 ao n cap (ints u.dem) := by
  obtain ⟨y0, y1, y2, m, hx, hl, h0, h1, h2⟩ := Go.Deep.trod_struct3 Tryd.underlying31 h
  rw [Tryd.cellsUser] at hl
  obtain ⟨a, b, c, rfl⟩ := three hl
  have e0 : Tryd.prog.cellsOf 22 = 1 := Tryd.cellsInts
  have e1 : Tryd.prog.cellsOf 3 = 1 := Tryd.cellsInt
  simp only [e0, e1, List.drop, List.take] at h0 h1 h2
  obtain ⟨ao, n, cap, xs, hcs, ha⟩ := ints_trod h0
  obtain ⟨p, hp, _, _⟩ := DataW.trod_int Tryd.underlying3 h1
  obtain ⟨q, hq, _, _⟩ := DataW.trod_int Tryd.underlying3 h2
  cases hcs; cases hp; cases hq
  exact ⟨⟨xs, p, q⟩, ao, n, cap, rfl, ha⟩

theorem users_trod {H : Type} {enc : TypeId × Value → H} {W : World} {sp : Nat → Bool} {hd : Bool} {fuel : Nat} {cs : List Value} {x : DataW H × List MemPlace} (h : DataW.trod enc Tryd.prog W 0 sp hd fuel 23 cs = some x) :
    ∃ ao n cap us, cs = [.slice ao n cap] ∧ Users W ao n cap us := by
  classical
  rcases Go.Deep.open_slice Tryd.underlying23 h with ⟨hcs, hx⟩ | ⟨a, len, cap, m, k, D, Pl, hcs, _, hl, hm, hmm, hx, hel⟩
  · exact ⟨none, 0, 0, [], hcs, rfl, [], Arr.nil _ _, fun i v hv => by simp at hv⟩
  · have hlm : len ≤ m := by rw [hmm]; split <;> omega
    rw [Tryd.cellsUser] at hel
    have key : ∀ i, i < len → ∃ (u : Usr) (ao : Option Addr) (n c : Nat), (∀ j w, [Value.slice ao n c, .int .i64 u.wt, .int .i64 u.cap][j]? = some w → W.cell? ((a.add (i * 3)).add j) = some w) ∧ Arr W 1 ao n c (ints u.dem) := fun i hi => by
      obtain ⟨cs', h1, h2⟩ := hel i (by omega)
      obtain ⟨u, ao, n, c, rfl, ha⟩ := user_trod h2
      obtain ⟨_, _, hc⟩ := World.cells?_some h1
      refine ⟨u, ao, n, c, fun j w hj => ?_, ha⟩
      have hj3 : j < 3 := by simpa using (List.getElem?_eq_some_iff.1 hj).1
      rw [hc j hj3]; exact hj
    let U : Nat → Usr := fun i => if hi : i < len then (key i hi).choose else ⟨[], 0, 0⟩
    have hU : ∀ i, i < len → ∃ (ao : Option Addr) (n c : Nat), (∀ j w, [Value.slice ao n c, .int .i64 (U i).wt, .int .i64 (U i).cap][j]? = some w → W.cell? ((a.add (i * 3)).add j) = some w) ∧ Arr W 1 ao n c (ints (U i).dem) := fun i hi => by
      simp only [U]; rw [dif_pos hi]; exact (key i hi).choose_spec
    let A : Nat → Value := fun i => if hi : i < len then .agg #[.slice (hU i hi).choose (hU i hi).choose_spec.choose (hU i hi).choose_spec.choose_spec.choose, .int .i64 (U i).wt, .int .i64 (U i).cap] else .bool false
    have hA : ∀ i, i < len → ∃ (ao : Option Addr) (n c : Nat), A i = .agg #[.slice ao n c, .int .i64 (U i).wt, .int .i64 (U i).cap] ∧ (∀ j w, [Value.slice ao n c, .int .i64 (U i).wt, .int .i64 (U i).cap][j]? = some w → W.cell? ((a.add (i * 3)).add j) = some w) ∧ Arr W 1 ao n c (ints (U i).dem) := fun i hi => by
      refine ⟨(hU i hi).choose, (hU i hi).choose_spec.choose, (hU i hi).choose_spec.choose_spec.choose, ?_, (hU i hi).choose_spec.choose_spec.choose_spec⟩
      simp only [A]; rw [dif_pos hi]
    have hspot : 0 < len → a = ⟨a.block, a.off, none⟩ ∧ a.block < W.heap.size := fun h0 => by
      obtain ⟨ao, n, c, _, hc, _⟩ := hA 0 h0
      have h1 := hc 0 _ rfl
      have e : (a.add (0 * 3)).add 0 = a := by unfold Addr.add; simp
      rw [e] at h1
      exact ⟨cell_spot h1, World.block_lt_of_cell? W a h1⟩
    refine ⟨some a, len, cap, (List.range len).map U, hcs, by simp, (List.range len).map A, ⟨by simp, hl, hm, fun h0 => ?_, ?_⟩, ?_⟩
    · obtain ⟨h1, h2⟩ := hspot h0
      exact ⟨a.block, a.off, by rw [← h1], h2⟩
    · intro b o e i v hv j u hu
      cases e
      have hi : i < len := by simpa using (List.getElem?_eq_some_iff.1 hv).1
      rw [List.getElem?_map, List.getElem?_range hi] at hv
      cases hv
      obtain ⟨ao, n, c, eA, hc, _⟩ := hA i hi
      rw [eA] at hu
      have h1 := hc j u (by
        have : (Value.agg #[Value.slice ao n c, .int .i64 (U i).wt, .int .i64 (U i).cap]).cells = #[Value.slice ao n c, .int .i64 (U i).wt, .int .i64 (U i).cap] := rfl
        rw [this] at hu
        simpa using hu)
      rw [add_plain, add_plain, Nat.add_assoc] at h1
      exact h1
    · intro i v hv
      have hi : i < len := by simpa using (List.getElem?_eq_some_iff.1 hv).1
      rw [List.getElem?_map, List.getElem?_range hi] at hv
      cases hv
      obtain ⟨ao, n, c, eA, _, ha⟩ := hA i hi
      have hug : ug ((List.range len).map U) i = U i := by
        unfold ug
        rw [List.getD_eq_getElem?_getD, List.getElem?_map, List.getElem?_range hi]; rfl
      rw [hug]
      exact ⟨ao, n, c, eA, ha⟩
end Go.Proofs.YtigokanoflkinabDoor
