/- KOpen, KOpenB, KOpenW, joined. -/
import Derived.Test.YtigokanoflkinaaGreatDoorFBase
import Derived.ProofKit
import Derived.Deep.Slices
import Derived.Deep.Strs
import Derived.OpenShut
import Derived.SliceStrings
/- What is handed in: a list of numbers, a list of users, a list of texts. -/
namespace Go.Proofs.YtigokanoflkinaaGreatDoor
set_option linter.unusedSimpArgs false
set_option linter.unusedVariables false
open Go.RowKit Por Go.ChangeShapes Go.WideShapes

theorem Tryz.laidOut : laidOutB Tryz.prog = true := by kernel_rfl
theorem Tryz.cellsInt : Tryz.prog.cellsOf 3 = 1 := by kernel_rfl
theorem Tryz.cellsUser : Tryz.prog.cellsOf 56 = 3 := by kernel_rfl
theorem Tryz.cellsInts : Tryz.prog.cellsOf 22 = 1 := by kernel_rfl

theorem cell_spot {w : World} {a : Addr} {v : Value} (h : w.cell? a = some v) : a = ⟨a.block, a.off, none⟩ := by
  obtain ⟨b, o, s⟩ := a
  unfold World.cell? at h
  cases s with
  | none => rfl
  | some x =>
    simp only [Option.isSome_some, if_true] at h
    split at h <;> cases h

theorem ints_trod {H : Type} {enc : TypeId × Value → H} {W : World} {sp : Nat → Bool} {hd : Bool} {fuel : Nat} {cs : List Value} {x : DataW H × List MemPlace} (h : DataW.trod enc Tryz.prog W 0 sp hd fuel 22 cs = some x) :
    ∃ ao n cap xs, cs = [.slice ao n cap] ∧ Arr W 1 ao n cap (ints xs) := by
  rcases open_ints Tryz.underlying22 Tryz.underlying3 Tryz.cellsInt h with ⟨hcs, hx⟩ | ⟨a, len, cap, zs, hcs, _, hl, hm, hz, hx, hcell, hwz⟩
  · exact ⟨none, 0, 0, [], hcs, Arr.nil _ _⟩
  · have hzl : len ≤ zs.length := by rw [hz]; split <;> omega
    refine ⟨some a, len, cap, zs.take len, hcs, ⟨by rw [ints_len, List.length_take]; omega, hl, hm, fun h0 => ?_, ?_⟩⟩
    · have hc := hcell 0 (by omega)
      have e : a.add 0 = a := by unfold Addr.add; simp
      rw [e] at hc
      have hs := cell_spot hc
      exact ⟨a.block, a.off, by rw [← hs], World.block_lt_of_cell? W a hc⟩
    · intro b o e i v hv j u hu
      cases e
      have hi : i < len := by
        have := (List.getElem?_eq_some_iff.1 hv).1
        rw [ints_len, List.length_take] at this; omega
      have hc := hcell i (by omega)
      rw [add_plain] at hc
      unfold ints at hv
      rw [List.getElem?_map, List.getElem?_take, if_pos hi, List.getElem?_eq_getElem (by omega)] at hv
      cases hv
      match j with
      | 0 =>
        rw [Nat.mul_one, Nat.add_zero, hc, ← hu]
        rw [List.getD_eq_getElem?_getD, List.getElem?_eq_getElem (by omega)]; rfl
      | j + 1 => simp [Value.cells] at hu

theorem three {α : Type} {l : List α} (h : l.length = 3) : ∃ a b c, l = [a, b, c] := by
  match l, h with
  | [a, b, c], _ => exact ⟨a, b, c, rfl⟩

end Go.Proofs.YtigokanoflkinaaGreatDoor

/- What is handed in: a list of numbers, with the numbers' range. -/
namespace Go.Proofs.YtigokanoflkinaaGreatDoor
set_option linter.unusedSimpArgs false
set_option linter.unusedVariables false
open Go.RowKit Por Go.ChangeShapes Go.WideShapes

theorem lm_take {zs : List Int} {n i : Nat} (h : i < n) : lm (zs.take n) i = zs[i]?.getD 0 := by
  unfold lm; rw [List.getD_eq_getElem?_getD, List.getElem?_take, if_pos h]
end Go.Proofs.YtigokanoflkinaaGreatDoor

/- What is handed in: how long the lists are, by the form's own reach. -/
namespace Go.Proofs.YtigokanoflkinaaGreatDoor
set_option linter.unusedSimpArgs false
set_option linter.unusedVariables false
open Go.RowKit Por Go.ChangeShapes Go.WideShapes

/-- all that is read by way of this datum takes no more than the reach -/
def WB {H : Type} (t : TypeId) (d : DataW H) : Prop := ∀ z ∈ d.weights Tryz.prog t, z ≤ reachBytes
theorem wb_each {H : Type} {ts : List TypeId} {ds : List (DataW H)} (h : (DataW.weightsEach Tryz.prog ts ds).all (· ≤ reachBytes) = true) : ∀ z ∈ DataW.weightsEach Tryz.prog ts ds, z ≤ reachBytes := by
  rw [List.all_eq_true] at h
  exact fun z hz => of_decide_eq_true (h z hz)
theorem wb_all {H : Type} {e : TypeId} {d : DataW H} {l : List (DataW H)} (h : d ∈ l) : ∀ z ∈ d.weights Tryz.prog e, z ∈ DataW.weightsAll Tryz.prog e l := by
  induction l with
  | nil => cases h
  | cons x r ih =>
    intro z hz
    simp only [DataW.weightsAll, List.mem_append]
    rcases List.mem_cons.1 h with e | e
    · subst e; exact Or.inl hz
    · exact Or.inr (ih e z hz)
theorem Tryz.bytesInt : Tryz.prog.bytesOf 3 = 8 := by kernel_rfl
theorem Tryz.bytesUser : Tryz.prog.bytesOf 56 = 40 := by kernel_rfl
theorem ints_trod_w {H : Type} {enc : TypeId × Value → H} {W : World} {sp : Nat → Bool} {hd : Bool} {fuel : Nat} {cs : List Value} {x : DataW H × List MemPlace} (h : DataW.trod enc Tryz.prog W 0 sp hd fuel 22 cs = some x) :
    ∃ ao n cap xs, cs = [.slice ao n cap] ∧ Arr W 1 ao n cap (ints xs) ∧ (WB 22 x.1 → n * 8 ≤ reachBytes) := by
  obtain ⟨ao, n, cap, xs, h1, h2⟩ := ints_trod h
  refine ⟨ao, n, cap, xs, h1, h2, fun hw => ?_⟩
  rcases open_ints Tryz.underlying22 Tryz.underlying3 Tryz.cellsInt h with ⟨hcs, hx⟩ | ⟨a, len, cap', zs, hcs, _, hl, hm, hz, hx, hcell, hwz⟩
  · rw [h1] at hcs; cases hcs; unfold reachBytes; omega
  · rw [h1] at hcs; cases hcs
    have hzl : n ≤ zs.length := by rw [hz]; split <;> omega
    rw [hx] at hw
    have e9 : (lits (H := H) .i64 (zs.take n)).length = n := by simp [lits]; omega
    unfold WB at hw
    simp only [DataW.weights, Tryz.underlying22, Tryz.bytesInt] at hw
    have h8 := hw _ (List.mem_cons_self)
    rw [e9] at h8
    omega

set_option maxRecDepth 100000 in
theorem user_trod_w {H : Type} {enc : TypeId × Value → H} {W : World} {sp : Nat → Bool} {hd : Bool} {fuel : Nat} {cs : List Value} {x : DataW H × List MemPlace} (h : DataW.trod enc Tryz.prog W 0 sp hd fuel 56 cs = some x) :
    ∃ (u : Usr) (ao : Option Addr) (n cap : Nat), cs = [.slice ao n cap, .int .i64 u.wt, .int .i64 u.cap] ∧ Arr W 1 ao n cap (ints u.dem) ∧ (WB 56 x.1 → u.dem.length * 8 ≤ reachBytes) := by
  obtain ⟨y0, y1, y2, m, hx, hl, h0, h1, h2⟩ := Go.Deep.trod_struct3 Tryz.underlying56 h
  rw [Tryz.cellsUser] at hl
  obtain ⟨a, b, c, rfl⟩ := three hl
  have e0 : Tryz.prog.cellsOf 22 = 1 := Tryz.cellsInts
  have e1 : Tryz.prog.cellsOf 3 = 1 := Tryz.cellsInt
  simp only [e0, e1, List.drop, List.take] at h0 h1 h2
  obtain ⟨ao, n, cap, xs, hcs, ha, hk⟩ := ints_trod_w h0
  obtain ⟨p, hp, _, _⟩ := DataW.trod_int Tryz.underlying3 h1
  obtain ⟨q, hq, _, _⟩ := DataW.trod_int Tryz.underlying3 h2
  cases hcs; cases hp; cases hq
  refine ⟨⟨xs, p, q⟩, ao, n, cap, rfl, ha, fun hw => ?_⟩
  have hl2 := ha.len
  rw [ints_len] at hl2
  rw [hx] at hw
  show xs.length * 8 ≤ _
  rw [hl2]
  refine hk (fun z hz => hw z ?_)
  simp only [DataW.weights, Tryz.underlying56]
  show z ∈ DataW.weightsEach Tryz.prog [22, 3, 3] _
  simp only [DataW.weightsEach, List.mem_append]
  exact Or.inl hz
theorem users_trod_w {H : Type} {enc : TypeId × Value → H} {W : World} {sp : Nat → Bool} {hd : Bool} {fuel : Nat} {cs : List Value} {x : DataW H × List MemPlace} (h : DataW.trod enc Tryz.prog W 0 sp hd fuel 23 cs = some x) :
    ∃ ao n cap us, cs = [.slice ao n cap] ∧ Users W ao n cap us ∧ (WB 23 x.1 → n * 40 ≤ reachBytes) ∧ (WB 23 x.1 → ∀ i, i < us.length → (ug us i).dem.length * 8 ≤ reachBytes) := by
  classical
  rcases Go.Deep.open_slice Tryz.underlying23 h with ⟨hcs, hx⟩ | ⟨a, len, cap, m, k, D, Pl, hcs, _, hl, hm, hmm, hx, hel⟩
  · exact ⟨none, 0, 0, [], hcs, ⟨rfl, [], Arr.nil _ _, fun i v hv => by simp at hv⟩, fun _ => (by unfold reachBytes; omega), fun _ i hi => by simp at hi⟩
  · have hlm : len ≤ m := by rw [hmm]; split <;> omega
    rw [Tryz.cellsUser] at hel
    have key : ∀ i, i < len → ∃ (u : Usr) (ao : Option Addr) (n c : Nat), (∀ j w, [Value.slice ao n c, .int .i64 u.wt, .int .i64 u.cap][j]? = some w → W.cell? ((a.add (i * 3)).add j) = some w) ∧ Arr W 1 ao n c (ints u.dem) ∧ (WB 56 (D i) → u.dem.length * 8 ≤ reachBytes) := fun i hi => by
      obtain ⟨cs', h1, h2⟩ := hel i (by omega)
      obtain ⟨u, ao, n, c, rfl, ha, hk⟩ := user_trod_w h2
      obtain ⟨_, _, hc⟩ := World.cells?_some h1
      refine ⟨u, ao, n, c, fun j w hj => ?_, ha, hk⟩
      have hj3 : j < 3 := by simpa using (List.getElem?_eq_some_iff.1 hj).1
      rw [hc j hj3]; exact hj
    let U : Nat → Usr := fun i => if hi : i < len then (key i hi).choose else ⟨[], 0, 0⟩
    have hU : ∀ i, i < len → ∃ (ao : Option Addr) (n c : Nat), (∀ j w, [Value.slice ao n c, .int .i64 (U i).wt, .int .i64 (U i).cap][j]? = some w → W.cell? ((a.add (i * 3)).add j) = some w) ∧ Arr W 1 ao n c (ints (U i).dem) ∧ (WB 56 (D i) → (U i).dem.length * 8 ≤ reachBytes) := fun i hi => by
      simp only [U]; rw [dif_pos hi]; exact (key i hi).choose_spec
    let A : Nat → Value := fun i => if hi : i < len then .agg #[.slice (hU i hi).choose (hU i hi).choose_spec.choose (hU i hi).choose_spec.choose_spec.choose, .int .i64 (U i).wt, .int .i64 (U i).cap] else .bool false
    have hA : ∀ i, i < len → ∃ (ao : Option Addr) (n c : Nat), A i = .agg #[.slice ao n c, .int .i64 (U i).wt, .int .i64 (U i).cap] ∧ (∀ j w, [Value.slice ao n c, .int .i64 (U i).wt, .int .i64 (U i).cap][j]? = some w → W.cell? ((a.add (i * 3)).add j) = some w) ∧ Arr W 1 ao n c (ints (U i).dem) ∧ (WB 56 (D i) → (U i).dem.length * 8 ≤ reachBytes) := fun i hi => by
      refine ⟨(hU i hi).choose, (hU i hi).choose_spec.choose, (hU i hi).choose_spec.choose_spec.choose, ?_, (hU i hi).choose_spec.choose_spec.choose_spec⟩
      simp only [A]; rw [dif_pos hi]
    have hspot : 0 < len → a = ⟨a.block, a.off, none⟩ ∧ a.block < W.heap.size := fun h0 => by
      obtain ⟨ao, n, c, _, hc, _⟩ := hA 0 h0
      have h1 := hc 0 _ rfl
      have e : (a.add (0 * 3)).add 0 = a := by unfold Addr.add; simp
      rw [e] at h1
      exact ⟨cell_spot h1, World.block_lt_of_cell? W a h1⟩
    refine ⟨some a, len, cap, (List.range len).map U, hcs, ⟨by simp, (List.range len).map A, ⟨by simp, hl, hm, fun h0 => ?_, ?_⟩, ?_⟩, ?_, ?_⟩
    · obtain ⟨h1, h2⟩ := hspot h0
      exact ⟨a.block, a.off, by rw [← h1], h2⟩
    · intro b o e i v hv j u hu
      cases e
      have hi : i < len := by simpa using (List.getElem?_eq_some_iff.1 hv).1
      rw [List.getElem?_map, List.getElem?_range hi] at hv
      cases hv
      obtain ⟨ao, n, c, eA, hc, _⟩ := hA i hi
      rw [eA] at hu
      have h1 := hc j u (by
        have : (Value.agg #[Value.slice ao n c, .int .i64 (U i).wt, .int .i64 (U i).cap]).cells = #[Value.slice ao n c, .int .i64 (U i).wt, .int .i64 (U i).cap] := rfl
        rw [this] at hu
        simpa using hu)
      rw [add_plain, add_plain, Nat.add_assoc] at h1
      exact h1
    · intro i v hv
      have hi : i < len := by simpa using (List.getElem?_eq_some_iff.1 hv).1
      rw [List.getElem?_map, List.getElem?_range hi] at hv
      cases hv
      obtain ⟨ao, n, c, eA, _, ha, _⟩ := hA i hi
      have hug : ug ((List.range len).map U) i = U i := by
        unfold ug
        rw [List.getD_eq_getElem?_getD, List.getElem?_map, List.getElem?_range hi]; rfl
      rw [hug]
      exact ⟨ao, n, c, eA, ha⟩
    · intro hw
      rw [hx] at hw
      unfold WB at hw
      simp only [DataW.weights, Tryz.underlying23, Tryz.bytesUser] at hw
      have h8 := hw _ (List.mem_cons_self)
      simp only [List.length_map, List.length_range] at h8
      omega
    · intro hw i hi
      have hi2 : i < len := by simpa using hi
      obtain ⟨ao, n, c, eA, _, ha, hk⟩ := hA i hi2
      have hug : ug ((List.range len).map U) i = U i := by
        unfold ug
        rw [List.getD_eq_getElem?_getD, List.getElem?_map, List.getElem?_range hi2]; rfl
      rw [hug]
      refine hk (fun z hz => hw z ?_)
      rw [hx]
      simp only [DataW.weights, Tryz.underlying23, List.mem_cons, List.mem_append]
      exact Or.inr (Or.inl (wb_all (d := D i) (List.mem_map.2 ⟨i, List.mem_range.2 hi2, rfl⟩) z hz))
end Go.Proofs.YtigokanoflkinaaGreatDoor
