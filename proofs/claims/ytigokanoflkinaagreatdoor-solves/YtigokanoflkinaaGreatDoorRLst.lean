/- Lists of the call's own: of bools, of numbers as limbs. -/
import Derived.Test.YtigokanoflkinaaGreatDoorLHnd
import Derived.Test.YtigokanoflkinaaGreatDoorRefBas
namespace Go.Proofs.YtigokanoflkinaaGreatDoor
set_option linter.unusedSimpArgs false
set_option linter.unusedVariables false
open Go.RowKit Por

def nn (l : List Nat) (i : Nat) : Nat := l.getD i 0
def bn (l : List Bool) (i : Nat) : Bool := l.getD i false
theorem bn_get {l : List Bool} {i : Nat} (h : i < l.length) : l[i]? = some (bn l i) := by
  unfold bn; rw [List.getD_eq_getElem?_getD, List.getElem?_eq_getElem h]; rfl
theorem nn_app {l : List Nat} {x i : Nat} (h : i < l.length) : nn (l ++ [x]) i = nn l i := by
  unfold nn; rw [List.getD_eq_getElem?_getD, List.getD_eq_getElem?_getD, List.getElem?_append_left h]
theorem nn_end (l : List Nat) (x : Nat) : nn (l ++ [x]) l.length = x := by
  unfold nn; rw [List.getD_eq_getElem?_getD, List.getElem?_append_right (Nat.le_refl _)]; simp
theorem bn_app {l : List Bool} {x : Bool} {i : Nat} (h : i < l.length) : bn (l ++ [x]) i = bn l i := by
  unfold bn; rw [List.getD_eq_getElem?_getD, List.getD_eq_getElem?_getD, List.getElem?_append_left h]
theorem bn_end (l : List Bool) (x : Bool) : bn (l ++ [x]) l.length = x := by
  unfold bn; rw [List.getD_eq_getElem?_getD, List.getElem?_append_right (Nat.le_refl _)]; simp
theorem nn_set {l : List Nat} {x i j : Nat} (h : i < l.length) : nn (l.set i x) j = if j = i then x else nn l j := by
  unfold nn
  rw [List.getD_eq_getElem?_getD, List.getD_eq_getElem?_getD, List.getElem?_set]
  by_cases e : i = j
  · subst e; simp [h]
  · rw [if_neg e, if_neg (fun h5 => e h5.symm)]
theorem bn_set {l : List Bool} {x : Bool} {i j : Nat} (h : i < l.length) : bn (l.set i x) j = if j = i then x else bn l j := by
  unfold bn
  rw [List.getD_eq_getElem?_getD, List.getD_eq_getElem?_getD, List.getElem?_set]
  by_cases e : i = j
  · subst e; simp [h]
  · rw [if_neg e, if_neg (fun h5 => e h5.symm)]

/-- a list of bools -/
def BLs (B : Nat) (w : World) (v : Value) (l : List Bool) : Prop := w.ownsRow B 4 1 v l.length (l.map Value.bool)
theorem BLs.nil (B : Nat) (w : World) : BLs B w (.slice none 0 0) [] := ⟨rfl, .inl ⟨rfl, rfl⟩⟩
theorem BLs.below {B : Nat} {w w' : World} {v : Value} {l : List Bool} (h : BLs B w v l) (hb : Below w.heap.size w w') : BLs B w' v l := own_below h hb
theorem BLs.shape {B : Nat} {w : World} {v : Value} {l : List Bool} (h : BLs B w v l) : ∃ so sc, v = .slice so l.length sc := own_shape h
theorem BLs.get {B : Nat} {w : World} {so : Option Addr} {n sc : Nat} {l : List Bool} (h : BLs B w (.slice so n sc) l) {i : Nat} (hi : i < l.length) : ∃ b, so = some ⟨b, 0, none⟩ ∧ b < w.heap.size ∧ w.cell? ⟨b, 0 + i, none⟩ = some (.bool (bn l i)) ∧ w.frozen? ⟨b, 0 + i, none⟩ = false := by
  have hn : n = l.length := by
    rcases h.2 with ⟨e, h0⟩ | ⟨g, cap, cur, e, _⟩
    · cases e; omega
    · cases e; rfl
  subst hn
  obtain ⟨b, e, h1, h2⟩ := own_get h (i := i) (v := .bool (bn l i)) (by rw [List.getElem?_map, bn_get hi]; rfl)
  refine ⟨b, e, h1, h2, ?_⟩
  rcases h.2 with ⟨e2, h0⟩ | ⟨g, cap, cur, e2, h3, h4, _⟩
  · omega
  · cases e2; cases e; exact frozen_of_row w _ _ _ _ h4
theorem BLs.set {B : Nat} {w : World} {b n sc : Nat} {l : List Bool} (h : BLs B w (.slice (some ⟨b, 0, none⟩) n sc) l) (i : Nat) (x : Bool) (hi : i < l.length) : BLs B (w.setCell ⟨b, i, none⟩ (.bool x)) (.slice (some ⟨b, 0, none⟩) n sc) (l.set i x) ∧ Touch 4 B w (w.setCell ⟨b, i, none⟩ (.bool x)) := by
  rcases h.2 with ⟨e, h0⟩ | ⟨g, cap, cur, e, h3, h4, h5, h6, h7, h8⟩
  · cases e
  · cases e
    refine ⟨⟨by simp, .inr ⟨b, _, cur.setIfInBounds i (.bool x), by rw [List.length_set], h3, heap_setCell_same w b i _ _ _ h4, by rw [List.length_set]; exact h5, h6, by simpa using h7, ?_⟩⟩, Touch.of_set h4 h3⟩
    rw [Array.toList_setIfInBounds, List.length_set, List.take_set, h8, List.map_set]
theorem Tryz.infoBl : (Tryz.prog.info? 4).map (fun i => (i.zero, i.size, i.bytes)) = some (some (.bool false), 1, 1) := by kernel_rfl
/-- a list of numbers, each as its limbs -/
def NLs (B : Nat) (w : World) (v : Value) (l : List Nat) : Prop := ∃ xs, w.ownsRow B 22 1 v l.length xs ∧ ∀ i, i < l.length → ∃ ao k cap, xs[i]? = some (.slice ao k cap) ∧ Row w ao k cap (limbs (nn l i))
theorem NLs.nil (B : Nat) (w : World) : NLs B w (.slice none 0 0) [] := ⟨[], ⟨rfl, .inl ⟨rfl, rfl⟩⟩, fun i hi => by simp at hi⟩
theorem NLs.below {B : Nat} {w w' : World} {v : Value} {l : List Nat} (h : NLs B w v l) (hb : Below w.heap.size w w') : NLs B w' v l := by
  obtain ⟨xs, h1, h2⟩ := h
  refine ⟨xs, own_below h1 hb, fun i hi => ?_⟩
  obtain ⟨ao, k, cap, e, hr⟩ := h2 i hi
  exact ⟨ao, k, cap, e, hr.below hb⟩
theorem NLs.shape {B : Nat} {w : World} {v : Value} {l : List Nat} (h : NLs B w v l) : ∃ so sc, v = .slice so l.length sc := by
  obtain ⟨xs, h1, _⟩ := h; exact own_shape h1
theorem Row.touch {T : TypeId} {B : Nat} {w w' : World} {ao : Option Addr} {n cap : Nat} {xs : List Int} (h : Row w ao n cap xs) (ht : Touch T B w w') (hT : 3 ≠ T) : Row w' ao n cap xs := by
  have key : ∀ b o, ao = some ⟨b, o, none⟩ → 0 < n → w'.heap[b]? = w.heap[b]? := by
    intro b o e hn
    obtain ⟨arr, fz, hh⟩ := h.ib b o e hn
    exact ht.block b (Array.getElem?_eq_some_iff.1 hh).1 (.inr (fun c fz' e' => by rw [hh] at e'; cases e'; exact hT rfl))
  refine ⟨h.len, h.le, h.cm, fun hn => ?_, fun b o e hn => ?_, fun b o e j hj => ?_⟩
  · obtain ⟨b, o, e, hlt⟩ := h.head hn
    exact ⟨b, o, e, Nat.lt_of_lt_of_le hlt ht.size⟩
  · obtain ⟨arr, fz, hh⟩ := h.ib b o e hn
    exact ⟨arr, fz, (key b o e hn).trans hh⟩
  · rw [← h.cell b o e j hj]
    exact World.cell?_of_block (key b o e (by omega))
theorem NLs.touch {T : TypeId} {B C : Nat} {w w' : World} {v : Value} {l : List Nat} (h : NLs B w v l) (ht : Touch T C w w') (h1 : 3 ≠ T) (h2 : 22 ≠ T) : NLs B w' v l := by
  obtain ⟨xs, g1, g2⟩ := h
  refine ⟨xs, ht.own g1 h2, fun i hi => ?_⟩
  obtain ⟨ao, k, cap, e, hr⟩ := g2 i hi
  exact ⟨ao, k, cap, e, hr.touch ht h1⟩
theorem NLs.get {B : Nat} {w : World} {so : Option Addr} {n sc : Nat} {l : List Nat} (h : NLs B w (.slice so n sc) l) {i : Nat} (hi : i < l.length) : ∃ b ao k cap, so = some ⟨b, 0, none⟩ ∧ b < w.heap.size ∧ w.cell? ⟨b, 0 + i, none⟩ = some (.slice ao k cap) ∧ w.frozen? ⟨b, 0 + i, none⟩ = false ∧ Row w ao k cap (limbs (nn l i)) := by
  obtain ⟨xs, g1, g2⟩ := h
  have hn : n = l.length := by
    rcases g1.2 with ⟨e, h0⟩ | ⟨g, cap, cur, e, _⟩
    · cases e; omega
    · cases e; rfl
  subst hn
  obtain ⟨ao, k, cap, e, hr⟩ := g2 i hi
  obtain ⟨b, e1, h1, h2⟩ := own_get g1 e
  refine ⟨b, ao, k, cap, e1, h1, h2, ?_, hr⟩
  rcases g1.2 with ⟨e2, h0⟩ | ⟨g, cap, cur, e2, h3, h4, _⟩
  · omega
  · cases e2; cases e1; exact frozen_of_row w _ _ _ _ h4
/-- the list's own block -/
theorem NLs.at {B : Nat} {w : World} {b n sc : Nat} {l : List Nat} (h : NLs B w (.slice (some ⟨b, 0, none⟩) n sc) l) : B ≤ b ∧ ∃ cur, w.heap[b]? = some (.cells cur 22 (0, 0)) := by
  obtain ⟨xs, g1, g2⟩ := h
  rcases g1.2 with ⟨e, h0⟩ | ⟨g, cap, cur, e, h3, h4, _⟩
  · cases e
  · cases e; exact ⟨h3, cur, h4⟩
/-- a store into one such list leaves another alone, if its block is another -/
theorem NLs.other {B : Nat} {w : World} {so : Option Addr} {n sc b i : Nat} {x : Value} {l : List Nat} {cur : Array Value} (h : NLs B w (.slice so n sc) l) (hb : w.heap[b]? = some (.cells cur 22 (0, 0))) (hne : ∀ a, so = some a → a.block ≠ b) : NLs B (w.setCell ⟨b, i, none⟩ x) (.slice so n sc) l := by
  obtain ⟨xs, g1, g2⟩ := h
  refine ⟨xs, ⟨g1.1, ?_⟩, fun j hj => ?_⟩
  · rcases g1.2 with h1 | ⟨g, cap, cur', e, h3, h4, h5⟩
    · exact .inl h1
    · cases e
      exact .inr ⟨g, _, cur', rfl, h3, (Below.heap_setCell w _ x g (hne _ rfl)).trans h4, h5⟩
  · obtain ⟨ao, k, cap, e, hr⟩ := g2 j hj
    exact ⟨ao, k, cap, e, hr.touch (Touch.of_set (B := 0) hb (Nat.zero_le _)) (by decide)⟩
theorem NLs.set {B : Nat} {w : World} {b n sc : Nat} {l : List Nat} (h : NLs B w (.slice (some ⟨b, 0, none⟩) n sc) l) {i x : Nat} (hi : i < l.length) {ao : Option Addr} {k cap : Nat} (hr : Row w ao k cap (limbs x)) : NLs B (w.setCell ⟨b, i, none⟩ (.slice ao k cap)) (.slice (some ⟨b, 0, none⟩) n sc) (l.set i x) := by
  obtain ⟨xs, g1, g2⟩ := h
  rcases g1.2 with ⟨e, h0⟩ | ⟨g, cap', cur, e, h3, h4, h5, h6, h7, h8⟩
  · cases e
  · cases e
    have hT : Touch 22 B w (w.setCell ⟨b, i, none⟩ (.slice ao k cap)) := Touch.of_set h4 h3
    have hxl := g1.1
    refine ⟨xs.set i (.slice ao k cap), ⟨by simpa using hxl, .inr ⟨b, _, cur.setIfInBounds i (.slice ao k cap), by rw [List.length_set], h3, heap_setCell_same w b i _ _ _ h4, by rw [List.length_set]; exact h5, h6, by simpa using h7, ?_⟩⟩, fun j hj => ?_⟩
    · rw [Array.toList_setIfInBounds, List.length_set, List.take_set, h8]
    · rw [List.length_set] at hj
      by_cases e : j = i
      · subst e
        exact ⟨ao, k, cap, by rw [List.getElem?_set]; simp; omega, by rw [nn_set hi, if_pos rfl]; exact hr.touch hT (by decide)⟩
      · obtain ⟨ao', k', cap2, e2, hr2⟩ := g2 j hj
        exact ⟨ao', k', cap2, by rw [List.getElem?_set, if_neg (fun h5 => e h5.symm)]; exact e2, by rw [nn_set hi, if_neg e]; exact hr2.touch hT (by decide)⟩
/-- l = append(l, x) -/
theorem wpList_append_nat (w : World) {ops : Array Oper} {rest : List Oper} {o : Oper} {a : Act} {Q : Exit → Act → World → Prop} (hgd : o.guard = none) (s x : Operand)
    (hop : o.op = Op.call { callee := Callee.builtin Builtin.append, args := #[s, x], argTypes := #[29, 29] })
    (base : Nat) (v : Value) (l : List Nat) (ad : Addr) (c : Nat) (u : Nat) (uo : Option Addr) (un uc : Nat) (hs : a.eval s = v) (hx : a.eval x = .slice (some ad) 1 c) (hown : NLs base w v l)
    (h0 : w.cell? (ad.add 0) = some (.slice uo un uc)) (hr : Row w uo un uc (limbs u)) (hle : l.length + 1 ≤ 1000000) (hb : base ≤ w.heap.size)
    (h : ∀ v' w', NLs base w' v' (l ++ [u]) → Touch 22 base w w' → Below base w w' → wpList Tryz.prog ops Q rest (a.put o.dst v') w') : wpList Tryz.prog ops Q (o :: rest) a w := by
  obtain ⟨xs, g1, g2⟩ := hown
  have hxl : xs.length = l.length := by have := g1.1; omega
  rw [← hxl] at g1
  refine wpList_append_lst w hgd s x hop base v xs ad c (.slice uo un uc) hs hx g1 h0 rfl (by omega) hb ?_
  intro v' w' k1 k2 k3
  refine h v' w' ⟨xs ++ [.slice uo un uc], by rw [List.length_append] at k1 ⊢; rw [← hxl]; exact k1, fun i hi => ?_⟩ k2 k3
  rw [List.length_append, List.length_singleton] at hi
  by_cases e : i < l.length
  · obtain ⟨ao, k, cap, e2, hr2⟩ := g2 i e
    exact ⟨ao, k, cap, by rw [List.getElem?_append_left (by omega)]; exact e2, by rw [nn_app e]; exact hr2.touch k2 (by decide)⟩
  · obtain rfl : i = l.length := by omega
    exact ⟨uo, un, uc, by rw [List.getElem?_append_right (by omega), hxl]; simp, by rw [nn_end]; exact hr.touch k2 (by decide)⟩
end Go.Proofs.YtigokanoflkinaaGreatDoor
