/- Lists of fractions in memory: handed in, being filled, being appended to. -/
import Derived.Test.YtigokanoflkinaaGreatDoorFBase
import Derived.Laws.OwnMore
namespace Go.Proofs.YtigokanoflkinaaGreatDoor
set_option linter.unusedSimpArgs false
set_option linter.unusedVariables false
open Go.RowKit Por

/-- a list of n fractions, f i at i -/
def Frs (w : World) (ao : Option Addr) (n cap : Nat) (f : Nat → Rat) : Prop := ∃ vs, Arr w 3 ao n cap vs ∧ ∀ i v, vs[i]? = some v → Frac w v (f i)
theorem Frs.below {w w' : World} {ao : Option Addr} {n cap : Nat} {f : Nat → Rat} (h : Frs w ao n cap f) (hb : Below w.heap.size w w') : Frs w' ao n cap f := by
  obtain ⟨vs, h1, h2⟩ := h; exact ⟨vs, h1.below hb, fun i v hv => (h2 i v hv).below hb⟩
theorem Frs.congr {w : World} {ao : Option Addr} {n cap : Nat} {f g : Nat → Rat} (h : Frs w ao n cap f) (e : ∀ i, i < n → f i = g i) : Frs w ao n cap g := by
  obtain ⟨vs, h1, h2⟩ := h
  refine ⟨vs, h1, fun i v hv => ?_⟩
  have := (List.getElem?_eq_some_iff.1 hv).1
  rw [← e i (by have := h1.len; omega)]; exact h2 i v hv
theorem Frs.le {w : World} {ao : Option Addr} {n cap : Nat} {f : Nat → Rat} (h : Frs w ao n cap f) : n ≤ maxLen := by
  obtain ⟨vs, h1, h2⟩ := h; exact Nat.le_trans h1.le h1.cm
/-- element i, its cells -/
theorem Frs.get {w : World} {ao : Option Addr} {n cap : Nat} {f : Nat → Rat} (h : Frs w ao n cap f) {i : Nat} (hi : i < n) :
    ∃ b o uo un uc yo yn yc, ao = some ⟨b, o, none⟩ ∧ b < w.heap.size ∧ w.cell? ⟨b, o + i * 3, none⟩ = some (.bool (negB (f i))) ∧ w.cell? ⟨b, o + i * 3 + 1, none⟩ = some (.slice uo un uc) ∧ w.cell? ⟨b, o + i * 3 + 2, none⟩ = some (.slice yo yn yc) ∧ Row w uo un uc (limbs (f i).num.natAbs) ∧ Row w yo yn yc (limbs (f i).den) := by
  obtain ⟨vs, h1, h2⟩ := h
  have hl := h1.len
  obtain ⟨b, o, e, hlt⟩ := h1.head (by omega)
  have hv : vs[i]? = some vs[i] := List.getElem?_eq_getElem (by omega)
  obtain ⟨uo, un, uc, yo, yn, yc, ev, hr1, hr2⟩ := h2 i _ hv
  refine ⟨b, o, uo, un, uc, yo, yn, yc, e, hlt, ?_, ?_, ?_, hr1, hr2⟩
  · have := h1.cell b o e i _ hv 0 (.bool (negB (f i))) (by rw [ev]; rfl)
    simpa using this
  · have := h1.cell b o e i _ hv 1 (.slice uo un uc) (by rw [ev]; rfl)
    rwa [← Nat.add_assoc] at this
  · have := h1.cell b o e i _ hv 2 (.slice yo yn yc) (by rw [ev]; rfl)
    rwa [← Nat.add_assoc] at this

/-- block g: room for n fractions, of which the first k are told by f -/
def FB (w : World) (g n k : Nat) (f : Nat → Rat) : Prop := ∃ arr, w.heap[g]? = some (.cells arr 90 (0, 0)) ∧ arr.size = n * 3 ∧ ∀ i, i < k → ∃ uo un uc yo yn yc, arr[i * 3]? = some (.bool (negB (f i))) ∧ arr[i * 3 + 1]? = some (.slice uo un uc) ∧ arr[i * 3 + 2]? = some (.slice yo yn yc) ∧ Row w uo un uc (limbs (f i).num.natAbs) ∧ Row w yo yn yc (limbs (f i).den)
theorem FB.lt {w : World} {g n k : Nat} {f : Nat → Rat} (h : FB w g n k f) : g < w.heap.size := by
  obtain ⟨arr, h1, _⟩ := h; exact (Array.getElem?_eq_some_iff.1 h1).1
theorem FB.below {w w' : World} {g n k : Nat} {f : Nat → Rat} (h : FB w g n k f) (hb : Below w.heap.size w w') : FB w' g n k f := by
  obtain ⟨arr, h1, h2, h3⟩ := h
  refine ⟨arr, (hb.block g (Array.getElem?_eq_some_iff.1 h1).1).trans h1, h2, fun i hi => ?_⟩
  obtain ⟨uo, un, uc, yo, yn, yc, c0, c1, c2, r1, r2⟩ := h3 i hi
  exact ⟨uo, un, uc, yo, yn, yc, c0, c1, c2, r1.below hb, r2.below hb⟩
theorem FB.congr {w : World} {g n k : Nat} {f f' : Nat → Rat} (h : FB w g n k f) (e : ∀ i, i < k → f i = f' i) : FB w g n k f' := by
  obtain ⟨arr, h1, h2, h3⟩ := h
  exact ⟨arr, h1, h2, fun i hi => by rw [← e i hi]; exact h3 i hi⟩
theorem FB.frs {w : World} {g n : Nat} {f : Nat → Rat} (h : FB w g n n f) (hn : n ≤ maxLen) : Frs w (some ⟨g, 0, none⟩) n n f := by
  obtain ⟨arr, h1, h2, h3⟩ := h
  have key : ∀ i, i < n → ∃ a b c : Value, arr[i * 3]? = some a ∧ arr[i * 3 + 1]? = some b ∧ arr[i * 3 + 2]? = some c ∧ Frac w (.agg #[a, b, c]) (f i) := fun i hi => by
    obtain ⟨uo, un, uc, yo, yn, yc, c0, c1, c2, r1, r2⟩ := h3 i hi
    exact ⟨_, _, _, c0, c1, c2, uo, un, uc, yo, yn, yc, rfl, r1, r2⟩
  refine ⟨(List.range n).map (fun i => .agg #[arr.getD (i * 3) (.bool false), arr.getD (i * 3 + 1) (.bool false), arr.getD (i * 3 + 2) (.bool false)]), ⟨by simp, Nat.le_refl _, hn, fun _ => ⟨g, 0, rfl, (Array.getElem?_eq_some_iff.1 h1).1⟩, ?_⟩, ?_⟩
  · intro b o e i v hv j u hu
    cases e
    have hi : i < n := by simpa using (List.getElem?_eq_some_iff.1 hv).1
    obtain ⟨a, b, c, c0, c1, c2, _⟩ := key i hi
    rw [List.getElem?_map, List.getElem?_range hi] at hv
    cases hv
    rw [Nat.zero_add, cell_of_row w g _ _ _ _ h1]
    match j with
    | 0 => rw [Nat.add_zero, c0, ← hu]; simp [Value.cells, c0, Array.getD_eq_getD_getElem?]
    | 1 => rw [c1, ← hu]; simp [Value.cells, c1, Array.getD_eq_getD_getElem?]
    | 2 => rw [c2, ← hu]; simp [Value.cells, c2, Array.getD_eq_getD_getElem?]
    | j + 3 => simp [Value.cells] at hu
  · intro i v hv
    have hi : i < n := by simpa using (List.getElem?_eq_some_iff.1 hv).1
    obtain ⟨a, b, c, c0, c1, c2, hF⟩ := key i hi
    rw [List.getElem?_map, List.getElem?_range hi] at hv
    cases hv
    simp only [Array.getD_eq_getD_getElem?, c0, c1, c2, Option.getD_some]
    exact hF

/-- three cells of a block, written -/
def wputA (w : World) (g o : Nat) (u0 u1 u2 : Value) : World := ((w.setCell ⟨g, o, none⟩ u0).setCell ⟨g, o + 1, none⟩ u1).setCell ⟨g, o + 2, none⟩ u2
theorem Row.otherB {w : World} {ao : Option Addr} {n cap : Nat} {xs : List Int} (h : Row w ao n cap xs) (b i : Nat) (v : Value) {arr : Array Value} {T : TypeId} {fz : Nat × Nat} (hx : w.heap[b]? = some (.cells arr T fz)) (hT : T ≠ 3) : Row (w.setCell ⟨b, i, none⟩ v) ao n cap xs := by
  have key : ∀ b' o, ao = some ⟨b', o, none⟩ → 0 < n → b' ≠ b := by
    intro b' o e hn hc
    subst hc
    obtain ⟨arr, fz, hh⟩ := h.ib b' o e hn
    rw [hx] at hh; cases hh; exact hT rfl
  refine ⟨h.len, h.le, h.cm, fun hn => ?_, fun b' o e hn => ?_, fun b' o e j hj => ?_⟩
  · obtain ⟨b, o, e, hlt⟩ := h.head hn
    exact ⟨b, o, e, by simpa [World.setCell] using hlt⟩
  · obtain ⟨arr, fz, hh⟩ := h.ib b' o e hn
    exact ⟨arr, fz, (Below.heap_setCell w _ v b' (key b' o e hn)).trans hh⟩
  · rw [← h.cell b' o e j hj]
    exact World.cell?_of_block (Below.heap_setCell w _ v b' (key b' o e (by omega)))
theorem putA_heap {w : World} {g o : Nat} {u0 u1 u2 : Value} {arr : Array Value} {T : TypeId} (h : w.heap[g]? = some (.cells arr T (0, 0))) : (wputA w g o u0 u1 u2).heap[g]? = some (.cells (((arr.set! o u0).set! (o + 1) u1).set! (o + 2) u2) T (0, 0)) := by
  unfold wputA
  have h1 := heap_setCell_same w g o _ _ u0 h
  have h2 := heap_setCell_same _ g (o + 1) _ _ u1 h1
  exact heap_setCell_same _ g (o + 2) _ _ u2 h2
theorem Row.putA {w : World} {ao : Option Addr} {n cap : Nat} {xs : List Int} (h : Row w ao n cap xs) {g o : Nat} {u0 u1 u2 : Value} {arr : Array Value} {T : TypeId} (hx : w.heap[g]? = some (.cells arr T (0, 0))) (hT : T ≠ 3) : Row (wputA w g o u0 u1 u2) ao n cap xs := by
  have h1 := heap_setCell_same w g o _ _ u0 hx
  have h2 := heap_setCell_same _ g (o + 1) _ _ u1 h1
  exact ((h.otherB g o u0 hx hT).otherB g (o + 1) u1 h1 hT).otherB g (o + 2) u2 h2 hT
theorem below_putA {B : Nat} {a w : World} (h : Below B a w) {g o : Nat} (hb : B ≤ g) (u0 u1 u2 : Value) : Below B a (wputA w g o u0 u1 u2) := ((h.setCell hb u0).setCell hb u1).setCell hb u2
theorem Bx.putA_other {w : World} {b g o : Nat} {cs : Array Value} {T : TypeId} (h : Bx w b cs T) (u0 u1 u2 : Value) (hne : g ≠ b) : Bx (wputA w g o u0 u1 u2) b cs T :=
  ((Bx.other h ⟨g, o, none⟩ u0 hne).other ⟨g, o + 1, none⟩ u1 hne).other ⟨g, o + 2, none⟩ u2 hne

/-- f, but q at i -/
def upd (f : Nat → Rat) (i : Nat) (q : Rat) : Nat → Rat := fun j => if j = i then q else f j
theorem upd_same (f : Nat → Rat) (i : Nat) (q : Rat) : upd f i q i = q := if_pos rfl
theorem upd_other (f : Nat → Rat) {i j : Nat} (q : Rat) (h : j ≠ i) : upd f i q j = f j := if_neg h
theorem arr_set3 {arr : Array Value} {n i : Nat} (hs : arr.size = n * 3) (hi : i < n) (u0 u1 u2 : Value) :
    (((arr.set! (i * 3) u0).set! (i * 3 + 1) u1).set! (i * 3 + 2) u2)[i * 3]? = some u0 ∧ (((arr.set! (i * 3) u0).set! (i * 3 + 1) u1).set! (i * 3 + 2) u2)[i * 3 + 1]? = some u1 ∧ (((arr.set! (i * 3) u0).set! (i * 3 + 1) u1).set! (i * 3 + 2) u2)[i * 3 + 2]? = some u2 ∧
    ∀ j, (j < i * 3 ∨ i * 3 + 2 < j) → (((arr.set! (i * 3) u0).set! (i * 3 + 1) u1).set! (i * 3 + 2) u2)[j]? = arr[j]? := by
  have h1 : i * 3 < arr.size := by omega
  have h2 : i * 3 + 1 < arr.size := by omega
  have h3 : i * 3 + 2 < arr.size := by omega
  simp only [Array.set!_eq_setIfInBounds]
  refine ⟨?_, ?_, ?_, ?_⟩
  · rw [Array.getElem?_setIfInBounds_ne (by omega), Array.getElem?_setIfInBounds_ne (by omega), Array.getElem?_setIfInBounds_self_of_lt h1]
  · rw [Array.getElem?_setIfInBounds_ne (by omega), Array.getElem?_setIfInBounds_self_of_lt (by simpa using h2)]
  · rw [Array.getElem?_setIfInBounds_self_of_lt (by simpa using h3)]
  · intro j hj
    rw [Array.getElem?_setIfInBounds_ne (by omega), Array.getElem?_setIfInBounds_ne (by omega), Array.getElem?_setIfInBounds_ne (by omega)]
theorem FB.put {w : World} {g n k i : Nat} {f : Nat → Rat} (h : FB w g n k f) (hi : i < n) (hk : i ≤ k) (q : Rat) {uo yo : Option Addr} {un uc yn yc : Nat} (r1 : Row w uo un uc (limbs q.num.natAbs)) (r2 : Row w yo yn yc (limbs q.den)) :
    FB (wputA w g (i * 3) (.bool (negB q)) (.slice uo un uc) (.slice yo yn yc)) g n (if i = k then k + 1 else k) (upd f i q) := by
  obtain ⟨arr, h1, h2, h3⟩ := h
  obtain ⟨e0, e1, e2, e3⟩ := arr_set3 (arr := arr) h2 hi (.bool (negB q)) (.slice uo un uc) (.slice yo yn yc)
  refine ⟨_, putA_heap h1, by simp [h2], fun j hj => ?_⟩
  by_cases e : j = i
  · subst e
    rw [upd_same]
    exact ⟨uo, un, uc, yo, yn, yc, e0, e1, e2, r1.putA h1 (by decide), r2.putA h1 (by decide)⟩
  · rw [upd_other _ _ e]
    have hjk : j < k := by split at hj <;> omega
    obtain ⟨ao, an, ac, bo, bn, bc, c0, c1, c2, s1, s2⟩ := h3 j hjk
    refine ⟨ao, an, ac, bo, bn, bc, ?_, ?_, ?_, s1.putA h1 (by decide), s2.putA h1 (by decide)⟩
    · rw [e3 _ (by omega)]; exact c0
    · rw [e3 _ (by omega)]; exact c1
    · rw [e3 _ (by omega)]; exact c2
/-- element i of a block -/
theorem FB.cells {w : World} {g n k i : Nat} {f : Nat → Rat} (h : FB w g n k f) (hi : i < k) :
    ∃ uo un uc yo yn yc, w.cell? ⟨g, i * 3, none⟩ = some (.bool (negB (f i))) ∧ w.cell? ⟨g, i * 3 + 1, none⟩ = some (.slice uo un uc) ∧ w.cell? ⟨g, i * 3 + 2, none⟩ = some (.slice yo yn yc) ∧ Row w uo un uc (limbs (f i).num.natAbs) ∧ Row w yo yn yc (limbs (f i).den) := by
  obtain ⟨arr, h1, h2, h3⟩ := h
  obtain ⟨uo, un, uc, yo, yn, yc, c0, c1, c2, r1, r2⟩ := h3 i hi
  exact ⟨uo, un, uc, yo, yn, yc, (cell_of_row w g _ _ _ _ h1).trans c0, (cell_of_row w g _ _ _ _ h1).trans c1, (cell_of_row w g _ _ _ _ h1).trans c2, r1, r2⟩
theorem FB.frozen {w : World} {g n k : Nat} {f : Nat → Rat} (h : FB w g n k f) (j : Nat) : w.frozen? ⟨g, j, none⟩ = false := by
  obtain ⟨arr, h1, _⟩ := h; exact frozen_of_row w g j _ _ h1
theorem FB.has {w : World} {g n k : Nat} {f : Nat → Rat} (h : FB w g n k f) {j : Nat} (hj : j < n * 3) : ∃ x, w.cell? ⟨g, j, none⟩ = some x := by
  obtain ⟨arr, h1, h2, _⟩ := h
  exact ⟨arr[j]'(by omega), (cell_of_row w g j _ _ _ h1).trans (Array.getElem?_eq_getElem (by omega))⟩
/-- a store into a box leaves it -/
theorem FB.other {w : World} {g n k : Nat} {f : Nat → Rat} (h : FB w g n k f) {b i : Nat} {v : Value} {arr : Array Value} {T : TypeId} {fz : Nat × Nat} (hx : w.heap[b]? = some (.cells arr T fz)) (hT : T ≠ 3) (hne : b ≠ g) : FB (w.setCell ⟨b, i, none⟩ v) g n k f := by
  obtain ⟨arr', h1, h2, h3⟩ := h
  refine ⟨arr', (heap_setCell_other w ⟨b, i, none⟩ g v (fun e => hne e.symm)).trans h1, h2, fun j hj => ?_⟩
  obtain ⟨uo, un, uc, yo, yn, yc, c0, c1, c2, r1, r2⟩ := h3 j hj
  exact ⟨uo, un, uc, yo, yn, yc, c0, c1, c2, r1.otherB b i v hx hT, r2.otherB b i v hx hT⟩
theorem FB.putA_other {w : World} {g n k : Nat} {f : Nat → Rat} (h : FB w g n k f) {b o : Nat} {u0 u1 u2 : Value} {arr : Array Value} {T : TypeId} (hx : w.heap[b]? = some (.cells arr T (0, 0))) (hT : T ≠ 3) (hne : b ≠ g) : FB (wputA w b o u0 u1 u2) g n k f := by
  have h1 := heap_setCell_same w b o _ _ u0 hx
  have h2 := heap_setCell_same _ b (o + 1) _ _ u1 h1
  exact ((h.other hx hT hne).other h1 hT hne).other h2 hT hne

theorem Tryz.infoFra : (Tryz.prog.info? 90).map (fun i => (i.zero, i.size, i.bytes)) = some (some (.agg #[.bool false, .slice none 0 0, .slice none 0 0]), 3, 56) := by kernel_rfl

/-- make([]ratio.Fraction, n) -/
theorem wpList_make_fras (w : World) {ops : Array Oper} {rest : List Oper} {o : Oper} {a : Act} {Q : Exit → Act → World → Prop}
    (hg : o.guard = none) (l c : Operand) (hop : o.op = Op.makeSlice 86 l c) (L C : Int) (n : Nat) (hl : a.eval l = .int .i64 L) (hc : a.eval c = .int .i64 C) (hL : L = (n : Int)) (hC : C = (n : Int)) (hn : n ≤ 1000000)
    (hK : ∀ w', (∀ f, FB w' w.heap.size n 0 f) → Below w.heap.size w w' → w.heap.size < w'.heap.size → wpList Tryz.prog ops Q rest (a.put o.dst (.slice (some ⟨w.heap.size, 0, none⟩) n n)) w') :
    wpList Tryz.prog ops Q (o :: rest) a w := by
  obtain ⟨i, hi, hz0, hz1, hz2⟩ := info_parts Tryz.infoFra
  refine wpList_make_full w hg l c 86 hop w.heap.size 90 i (.agg #[.bool false, .slice none 0 0, .slice none 0 0]) 3 Tryz.underlying86 hi hz0 hz1 .i64 .i64 L C n hl hc hL hC (by rw [hz2]; omega) (by unfold maxLen; omega) (Nat.le_refl _) ?_
  intro w' ho hgr
  have hb : Below w.heap.size w w' := (Below.refl _ _).grown hgr (Nat.le_refl _) (fun k e => by cases e)
  rcases ho.2 with ⟨h', _⟩ | ⟨g, cap, cur, h', _, hh, h1, h2, h3, h4⟩
  · cases h'
  · simp only [Value.slice.injEq, Option.some.injEq, Addr.mk.injEq, and_true, true_and] at h'
    obtain ⟨rfl, rfl⟩ := h'
    exact hK w' (fun f => ⟨cur, hh, h3, fun i hi => by omega⟩) hb (Array.getElem?_eq_some_iff.1 hh).1

/-- a list of fractions of the call's own, being appended to -/
def FO (base : Nat) (w : World) (v : Value) (l : List Rat) : Prop := ∃ xs, w.ownsRow base 90 3 v l.length xs ∧ ∀ i, i < l.length → ∃ uo un uc yo yn yc, xs[i * 3]? = some (.bool (negB (rq l i))) ∧ xs[i * 3 + 1]? = some (.slice uo un uc) ∧ xs[i * 3 + 2]? = some (.slice yo yn yc) ∧ Row w uo un uc (limbs (rq l i).num.natAbs) ∧ Row w yo yn yc (limbs (rq l i).den)
theorem FO.nil (base : Nat) (w : World) : FO base w (.slice none 0 0) [] := ⟨[], World.ownsRow_nil _ _ _ _, fun i hi => by simp at hi⟩
theorem FO.below {base : Nat} {w w' : World} {v : Value} {l : List Rat} (h : FO base w v l) (hb : Below w.heap.size w w') : FO base w' v l := by
  obtain ⟨xs, ⟨h0, h⟩, h2⟩ := h
  refine ⟨xs, ⟨h0, ?_⟩, fun i hi => ?_⟩
  · rcases h with h | ⟨g, cap, cur, h1, h2, h3, h4⟩
    · exact .inl h
    · exact .inr ⟨g, cap, cur, h1, h2, (hb.block g (Array.getElem?_eq_some_iff.1 h3).1).trans h3, h4⟩
  · obtain ⟨uo, un, uc, yo, yn, yc, c0, c1, c2, r1, r2⟩ := h2 i hi
    exact ⟨uo, un, uc, yo, yn, yc, c0, c1, c2, r1.below hb, r2.below hb⟩
theorem FO.frs {base : Nat} {w : World} {v : Value} {l : List Rat} (h : FO base w v l) : ∃ ao cap, v = .slice ao l.length cap ∧ Frs w ao l.length cap (rq l) := by
  obtain ⟨xs, ⟨h0, h⟩, h2⟩ := h
  rcases h with ⟨rfl, h⟩ | ⟨g, cap, cur, rfl, hb, h3, h4, h5, h6, h7⟩
  · obtain rfl : l = [] := List.length_eq_zero_iff.1 h
    exact ⟨none, 0, rfl, [], Arr.nil _ _, fun i v hv => by simp at hv⟩
  · refine ⟨_, _, rfl, ?_⟩
    have hcur : ∀ j, j < l.length * 3 → cur[j]? = xs[j]? := fun j hj => by
      rw [← h7, ← Array.getElem?_toList, List.getElem?_take, if_pos hj]
    refine ⟨(List.range l.length).map (fun i => .agg #[cur.getD (i * 3) (.bool false), cur.getD (i * 3 + 1) (.bool false), cur.getD (i * 3 + 2) (.bool false)]), ⟨by simp, h4, h5, fun _ => ⟨g, 0, rfl, (Array.getElem?_eq_some_iff.1 h3).1⟩, ?_⟩, ?_⟩
    · intro b o e i v hv j u hu
      cases e
      have hi : i < l.length := by simpa using (List.getElem?_eq_some_iff.1 hv).1
      obtain ⟨uo, un, uc, yo, yn, yc, c0, c1, c2, r1, r2⟩ := h2 i hi
      rw [← hcur _ (by omega)] at c0 c1 c2
      rw [List.getElem?_map, List.getElem?_range hi] at hv
      cases hv
      rw [Nat.zero_add, cell_of_row w g _ _ _ _ h3]
      match j with
      | 0 => rw [Nat.add_zero, c0, ← hu]; simp [Value.cells, c0, Array.getD_eq_getD_getElem?]
      | 1 => rw [c1, ← hu]; simp [Value.cells, c1, Array.getD_eq_getD_getElem?]
      | 2 => rw [c2, ← hu]; simp [Value.cells, c2, Array.getD_eq_getD_getElem?]
      | j + 3 => simp [Value.cells] at hu
    · intro i v hv
      have hi : i < l.length := by simpa using (List.getElem?_eq_some_iff.1 hv).1
      obtain ⟨uo, un, uc, yo, yn, yc, c0, c1, c2, r1, r2⟩ := h2 i hi
      rw [← hcur _ (by omega)] at c0 c1 c2
      rw [List.getElem?_map, List.getElem?_range hi] at hv
      cases hv
      simp only [Array.getD_eq_getD_getElem?, c0, c1, c2, Option.getD_some]
      exact ⟨uo, un, uc, yo, yn, yc, rfl, r1, r2⟩
/-- out = append(out, x) -/
theorem wpList_append_fra (w : World) {ops : Array Oper} {rest : List Oper} {o : Oper} {a : Act} {Q : Exit → Act → World → Prop} (hgd : o.guard = none) (s x : Operand)
    (hop : o.op = Op.call { callee := Callee.builtin Builtin.append, args := #[s, x], argTypes := #[86, 86] })
    (base : Nat) (v : Value) (l : List Rat) (ad : Addr) (c : Nat) (q : Rat) (uo : Option Addr) (un uc : Nat) (yo : Option Addr) (yn yc : Nat) (hs : a.eval s = v) (hx : a.eval x = .slice (some ad) 1 c) (hown : FO base w v l)
    (h0 : w.cell? (ad.add 0) = some (.bool (negB q))) (h1 : w.cell? (ad.add 1) = some (.slice uo un uc)) (h2 : w.cell? (ad.add 2) = some (.slice yo yn yc)) (r1 : Row w uo un uc (limbs q.num.natAbs)) (r2 : Row w yo yn yc (limbs q.den))
    (hle : l.length ≤ 100000) (hb : base ≤ w.heap.size)
    (h : ∀ v' w', FO base w' v' (l ++ [q]) → Below base w w' → wpList Tryz.prog ops Q rest (a.put o.dst v') w') : wpList Tryz.prog ops Q (o :: rest) a w := by
  obtain ⟨i, hi, hz0, hz1, hz2⟩ := info_parts Tryz.infoFra
  obtain ⟨xs, hO, hC⟩ := hown
  have hob : ∀ k, v.ownBlock = some k → base ≤ k := by
    intro k hk
    rcases hO.2 with ⟨rfl, _⟩ | ⟨g, cap, cur, rfl, h2, _⟩
    · cases hk
    · cases hk; exact h2
  refine wpList_append_own w hgd s x _ hop base 90 i (.agg #[.bool false, .slice none 0 0, .slice none 0 0]) 3 56 Tryz.underlying86 hi hz0 hz1 hz2 rfl (by decide) v l.length _ hs hO ad 1 c [.bool (negB q), .slice uo un uc, .slice yo yn yc] hx (by simp) ?_ ?_ (by unfold maxLen; omega) (by omega) hb ?_
  · intro j u hj
    match j with
    | 0 => rw [h0]; simpa using hj
    | 1 => rw [h1]; simpa using hj
    | 2 => rw [h2]; simpa using hj
    | j + 3 => simp at hj
  · intro u hu
    simp at hu
    rcases hu with rfl | rfl | rfl <;> rfl
  · intro v' w' g1 g2 _
    have hkeep : ∀ ao n cap xs, Row w ao n cap xs → Row w' ao n cap xs := by
      intro ao n cap ys hr
      have key : ∀ b o, ao = some ⟨b, o, none⟩ → 0 < n → b < w.heap.size ∧ w'.heap[b]? = w.heap[b]? := by
        intro b o e hn
        obtain ⟨arr, fz, hh⟩ := hr.ib b o e hn
        have hlt := (Array.getElem?_eq_some_iff.1 hh).1
        refine ⟨hlt, g2.block b hlt (fun hc => ?_)⟩
        rcases hO.2 with ⟨rfl, _⟩ | ⟨g, cap, cur, rfl, _, h3, _⟩
        · cases hc
        · cases hc; rw [h3] at hh; cases hh
      refine ⟨hr.len, hr.le, hr.cm, fun hn => ?_, fun b o e hn => ?_, fun b o e j hj => ?_⟩
      · obtain ⟨b, o, e, hlt⟩ := hr.head hn
        exact ⟨b, o, e, Nat.lt_of_lt_of_le hlt g2.size⟩
      · obtain ⟨arr, fz, hh⟩ := hr.ib b o e hn
        exact ⟨arr, fz, (key b o e hn).2.trans hh⟩
      · rw [← hr.cell b o e j hj]
        exact World.cell?_of_block (key b o e (by omega)).2
    have hxl : xs.length = l.length * 3 := hO.1
    refine h v' w' ⟨xs ++ [.bool (negB q), .slice uo un uc, .slice yo yn yc], by rw [List.length_append]; exact g1, fun i hi => ?_⟩ ((Below.refl base w).grown g2 hb hob)
    rw [List.length_append, List.length_singleton] at hi
    by_cases e : i < l.length
    · have hq : rq (l ++ [q]) i = rq l i := by unfold rq; rw [List.getD_eq_getElem?_getD, List.getD_eq_getElem?_getD, List.getElem?_append_left e]
      obtain ⟨ao, an, ac, bo, bn, bc, c0, c1, c2, s1, s2⟩ := hC i e
      rw [hq]
      exact ⟨ao, an, ac, bo, bn, bc, by rw [List.getElem?_append_left (by omega)]; exact c0, by rw [List.getElem?_append_left (by omega)]; exact c1, by rw [List.getElem?_append_left (by omega)]; exact c2, hkeep _ _ _ _ s1, hkeep _ _ _ _ s2⟩
    · obtain rfl : i = l.length := by omega
      have hq : rq (l ++ [q]) l.length = q := by unfold rq; rw [List.getD_eq_getElem?_getD, List.getElem?_append_right (Nat.le_refl _)]; simp
      rw [hq]
      refine ⟨uo, un, uc, yo, yn, yc, ?_, ?_, ?_, hkeep _ _ _ _ r1, hkeep _ _ _ _ r2⟩
      · rw [List.getElem?_append_right (by omega), hxl]; simp
      · rw [List.getElem?_append_right (by omega), hxl]; simp
      · rw [List.getElem?_append_right (by omega), hxl]; simp
theorem Arr.alloc {w : World} {k : Nat} {ao : Option Addr} {n cap : Nat} {vs : List Value} (h : Arr w k ao n cap vs) (o : Obj) : Arr (w.alloc o) k ao n cap vs := h.below ((Below.refl _ _).alloc (Nat.le_refl _) o)
theorem Users.alloc {w : World} {ao : Option Addr} {n cap : Nat} {us : List Usr} (h : Users w ao n cap us) (o : Obj) : Users (w.alloc o) ao n cap us := h.below ((Below.refl _ _).alloc (Nat.le_refl _) o)
theorem Frs.alloc {w : World} {ao : Option Addr} {n cap : Nat} {f : Nat → Rat} (h : Frs w ao n cap f) (o : Obj) : Frs (w.alloc o) ao n cap f := h.below ((Below.refl _ _).alloc (Nat.le_refl _) o)
theorem FB.alloc {w : World} {g n k : Nat} {f : Nat → Rat} (h : FB w g n k f) (o : Obj) : FB (w.alloc o) g n k f := h.below ((Below.refl _ _).alloc (Nat.le_refl _) o)
theorem FO.alloc {base : Nat} {w : World} {v : Value} {l : List Rat} (h : FO base w v l) (o : Obj) : FO base (w.alloc o) v l := h.below ((Below.refl _ _).alloc (Nat.le_refl _) o)
theorem Arr.drew {w : World} {k : Nat} {ao : Option Addr} {n cap : Nat} {vs : List Value} (h : Arr w k ao n cap vs) : Arr w.drew k ao n cap vs := h.below (Below.refl _ _).drew
theorem Users.drew {w : World} {ao : Option Addr} {n cap : Nat} {us : List Usr} (h : Users w ao n cap us) : Users w.drew ao n cap us := h.below (Below.refl _ _).drew
theorem Frs.drew {w : World} {ao : Option Addr} {n cap : Nat} {f : Nat → Rat} (h : Frs w ao n cap f) : Frs w.drew ao n cap f := h.below (Below.refl _ _).drew
theorem FB.drew {w : World} {g n k : Nat} {f : Nat → Rat} (h : FB w g n k f) : FB w.drew g n k f := h.below (Below.refl _ _).drew
theorem FO.drew {base : Nat} {w : World} {v : Value} {l : List Rat} (h : FO base w v l) : FO base w.drew v l := h.below (Below.refl _ _).drew
end Go.Proofs.YtigokanoflkinaaGreatDoor
