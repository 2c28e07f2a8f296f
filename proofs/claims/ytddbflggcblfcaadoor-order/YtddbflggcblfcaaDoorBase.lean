/- What a list of numbers in memory is, and how it stays; for the walks of this seat. -/
import Derived.Test.YtddbflggcblfcaaDoorRows
import Derived.Test.YtddbflggcblfcaaDoorLimbsB
import Derived.WalkKit
import Derived.WalkSpells
import Derived.WalkLawsBesides
import Derived.BigQuiet
import Derived.Deep.QuietTactic
namespace Go.Proofs.YtddbflggcblfcaaDoor
set_option linter.unusedSimpArgs false
set_option linter.unusedVariables false
open Go.RowKit Por

theorem hid {p : Prop} (h : p) : Hid p := h

/-- Block b is one of numbers. -/
def IntBlk (w : World) (b : Nat) : Prop := ∃ arr fz, w.heap[b]? = some (.cells arr 3 fz)

/-- The slice value '.slice ao n cap' reads as the numbers xs. -/
structure Row (w : World) (ao : Option Addr) (n cap : Nat) (xs : List Int) : Prop where
  len : xs.length = n
  le : n ≤ cap
  cm : cap ≤ maxLen
  head : 0 < n → ∃ b o, ao = some ⟨b, o, none⟩ ∧ b < w.heap.size
  ib : ∀ b o, ao = some ⟨b, o, none⟩ → 0 < n → IntBlk w b
  cell : ∀ b o, ao = some ⟨b, o, none⟩ → ∀ j, j < n → w.cell? ⟨b, o + j, none⟩ = some (.int .i64 (lm xs j))

theorem IntBlk.lt {w : World} {b : Nat} (h : IntBlk w b) : b < w.heap.size := by
  obtain ⟨arr, fz, h⟩ := h
  exact (Array.getElem?_eq_some_iff.1 h).1

theorem Row.below {w w' : World} {ao : Option Addr} {n cap : Nat} {xs : List Int} (h : Row w ao n cap xs) (hb : Below w.heap.size w w') : Row w' ao n cap xs := by
  refine ⟨h.len, h.le, h.cm, fun hn => ?_, fun b o e hn => ?_, fun b o e j hj => ?_⟩
  · obtain ⟨b, o, e, hlt⟩ := h.head hn
    exact ⟨b, o, e, Nat.lt_of_lt_of_le hlt hb.size⟩
  · obtain ⟨arr, fz, hh⟩ := h.ib b o e hn
    exact ⟨arr, fz, (hb.block b (Array.getElem?_eq_some_iff.1 hh).1).trans hh⟩
  · obtain ⟨b', o', e', hlt⟩ := h.head (by omega)
    rw [e] at e'; cases e'
    exact (hb.cell (p := ⟨b, o + j, none⟩) hlt).trans (h.cell b o e j hj)

theorem Row.nil (w : World) : Row w none 0 0 [] := ⟨rfl, Nat.le_refl _, Nat.zero_le _, fun h => by omega, fun b o e => (by cases e), fun b o e => (by cases e)⟩

theorem Row.take {w : World} {ao : Option Addr} {n cap : Nat} {xs : List Int} (h : Row w ao n cap xs) (m : Nat) (hm : m ≤ n) : Row w ao m cap (xs.take m) := by
  refine ⟨?_, Nat.le_trans hm h.le, h.cm, fun h0 => h.head (by omega), fun b o e h0 => h.ib b o e (by omega), fun b o e j hj => ?_⟩
  · rw [List.length_take, h.len]; omega
  · rw [h.cell b o e j (by omega)]
    simp [lm, List.getD_eq_getElem?_getD, List.getElem?_take, hj]

/-- A box: a block of a local variable. -/
def Bx (w : World) (b : Nat) (cs : Array Value) (T : TypeId) : Prop := w.heap[b]? = some (.cells cs T (0, 0))
theorem Bx.lt {w : World} {b : Nat} {cs : Array Value} {T : TypeId} (h : Bx w b cs T) : b < w.heap.size := (Array.getElem?_eq_some_iff.1 h).1
theorem Bx.cell {w : World} {b : Nat} {cs : Array Value} {T : TypeId} (h : Bx w b cs T) (j : Nat) (v : Value) (hv : cs[j]? = some v) : w.cell? ⟨b, j, none⟩ = some v := (cell_of_row w b j _ _ _ h).trans hv
theorem Bx.frozen {w : World} {b : Nat} {cs : Array Value} {T : TypeId} (h : Bx w b cs T) (j : Nat) : w.frozen? ⟨b, j, none⟩ = false := frozen_of_row w b j _ _ h
theorem Bx.below {B : Nat} {w w' : World} {b : Nat} {cs : Array Value} {T : TypeId} (h : Bx w b cs T) (hb : Below B w w') (hB : b < B) : Bx w' b cs T := (hb.block b hB).trans h
theorem Bx.other {w : World} {b : Nat} {cs : Array Value} {T : TypeId} (h : Bx w b cs T) (a : Addr) (v : Value) (ha : a.block ≠ b) : Bx (w.setCell a v) b cs T := (heap_setCell_other w a b v (fun e => ha e.symm)).trans h

theorem Row.other {w : World} {ao : Option Addr} {n cap : Nat} {xs : List Int} (h : Row w ao n cap xs) (b i : Nat) (v : Value) {cs : Array Value} {T : TypeId} (hx : Bx w b cs T) (hT : T ≠ 3) : Row (w.setCell ⟨b, i, none⟩ v) ao n cap xs := by
  have key : ∀ b' o, ao = some ⟨b', o, none⟩ → 0 < n → b' ≠ b := by
    intro b' o e hn hc
    subst hc
    obtain ⟨arr, fz, hh⟩ := h.ib b' o e hn
    unfold Bx at hx
    rw [hx] at hh; cases hh; exact hT rfl
  refine ⟨h.len, h.le, h.cm, fun hn => ?_, fun b' o e hn => ?_, fun b' o e j hj => ?_⟩
  · obtain ⟨b, o, e, hlt⟩ := h.head hn
    exact ⟨b, o, e, by simpa [World.setCell] using hlt⟩
  · obtain ⟨arr, fz, hh⟩ := h.ib b' o e hn
    exact ⟨arr, fz, (Below.heap_setCell w _ v b' (key b' o e hn)).trans hh⟩
  · rw [← h.cell b' o e j hj]
    exact World.cell?_of_block (Below.heap_setCell w _ v b' (key b' o e (by omega)))

/-- Block g holds the numbers zs, all of it, and may be written. -/
def Blk (w : World) (g : Nat) (zs : List Int) : Prop := w.heap[g]? = some (.cells (zs.map (Value.int .i64)).toArray 3 (0, 0))

theorem Blk.lt {w : World} {g : Nat} {zs : List Int} (h : Blk w g zs) : g < w.heap.size := by
  unfold Blk at h
  exact (Array.getElem?_eq_some_iff.1 h).1

theorem Blk.cell {w : World} {g : Nat} {zs : List Int} (h : Blk w g zs) (j : Nat) (hj : j < zs.length) : w.cell? ⟨g, j, none⟩ = some (.int .i64 (lm zs j)) := by
  rw [cell_of_row w g j _ _ _ h]
  simp [lm, hj]

theorem Blk.frozen {w : World} {g : Nat} {zs : List Int} (h : Blk w g zs) (j : Nat) : w.frozen? ⟨g, j, none⟩ = false := frozen_of_row w g j _ _ h

theorem Blk.set {w : World} {g : Nat} {zs : List Int} (h : Blk w g zs) (j : Nat) (v : Int) : Blk (w.setCell ⟨g, j, none⟩ (.int .i64 v)) g (zs.set j v) := by
  unfold Blk
  rw [heap_setCell_same w g j _ _ _ h]
  simp [List.map_set]

theorem Blk.below {B : Nat} {w w' : World} {g : Nat} {zs : List Int} (h : Blk w g zs) (hb : Below B w w') (hg : g < B) : Blk w' g zs := (hb.block g hg).trans h

theorem Blk.other {w : World} {g : Nat} {zs : List Int} (h : Blk w g zs) (a : Addr) (v : Value) (ha : a.block ≠ g) : Blk (w.setCell a v) g zs := (heap_setCell_other w a g v (fun e => ha e.symm)).trans h

theorem Blk.row {w : World} {g : Nat} {zs : List Int} (h : Blk w g zs) (o n cap : Nat) (hn : o + n ≤ zs.length) (hc : n ≤ cap) (hm : cap ≤ maxLen) : Row w (some ⟨g, o, none⟩) n cap ((zs.drop o).take n) := by
  refine ⟨by simp; omega, hc, hm, fun _ => ⟨_, _, rfl, h.lt⟩, fun b o' e _ => (by cases e; exact ⟨_, _, h⟩), fun b o' e j hj => ?_⟩
  cases e
  rw [h.cell (o + j) (by omega)]
  simp [lm, List.getElem?_take, hj]

theorem Blk.row0 {w : World} {g : Nat} {zs : List Int} (h : Blk w g zs) (n cap : Nat) (hn : n = zs.length) (hc : n ≤ cap) (hm : cap ≤ maxLen) : Row w (some ⟨g, 0, none⟩) n cap zs := by
  have := h.row 0 n cap (by omega) hc hm
  rwa [List.drop_zero, List.take_of_length_le (by omega)] at this

theorem Tryd.infoInt : (Tryd.prog.info? 3).map (fun i => (i.zero, i.size, i.bytes)) = some (some (.int .i64 0), 1, 8) := by kernel_rfl

/-- make([]int, n) -/
theorem wpList_make_ints (w : World) {ops : Array Oper} {rest : List Oper} {o : Oper} {a : Act} {Q : Exit → Act → World → Prop}
    (hg : o.guard = none) (l c : Operand) (hop : o.op = Op.makeSlice 29 l c) (L C : Int) (n : Nat) (hl : a.eval l = .int .i64 L) (hc : a.eval c = .int .i64 C) (hL : L = (n : Int)) (hC : C = (n : Int)) (hn : n ≤ 1000000)
    (hK : ∀ w', Blk w' w.heap.size (List.replicate n 0) → Below w.heap.size w w' → w.heap.size < w'.heap.size → wpList Tryd.prog ops Q rest (a.put o.dst (.slice (some ⟨w.heap.size, 0, none⟩) n n)) w') :
    wpList Tryd.prog ops Q (o :: rest) a w := by
  obtain ⟨i, hi, hz0, hz1, hz2⟩ := info_parts Tryd.infoInt
  refine wpList_make_full w hg l c 29 hop w.heap.size 3 i (.int .i64 0) 1 Tryd.underlying29 hi hz0 hz1 .i64 .i64 L C n hl hc hL hC (by rw [hz2]; omega) (by unfold maxLen; omega) (Nat.le_refl _) ?_
  intro w' ho hgr
  have hb : Below w.heap.size w w' := (Below.refl _ _).grown hgr (Nat.le_refl _) (fun k e => by cases e)
  rcases ho.2 with ⟨h', _⟩ | ⟨g, cap, cur, h', _, hh, h1, h2, h3, h4⟩
  · cases h'
  · simp only [Value.slice.injEq, Option.some.injEq, Addr.mk.injEq, and_true, true_and] at h'
    obtain ⟨rfl, rfl⟩ := h'
    have e : cur = ((List.replicate n (0 : Int)).map (Value.int .i64)).toArray := by
      apply Array.toList_inj.1
      rw [Nat.mul_one] at h4 h3
      rw [List.take_of_length_le (by rw [Array.length_toList]; omega)] at h4
      rw [h4, show (Value.int .i64 0).cells = #[.int .i64 0] from rfl, toList_madeCells_one]
      simp
    rw [e] at hh
    exact hK w' hh hb (Blk.lt hh)

theorem bx_new (w : World) (cs : Array Value) (T : TypeId) : Bx (w.alloc (.cells cs T)) w.heap.size cs T := heap_alloc_new w _
theorem bx_past {w : World} {b : Nat} {cs : Array Value} {T : TypeId} (h : Bx w b cs T) (o : Obj) : Bx (w.alloc o) b cs T := (Below.heap_alloc w o b h.lt).trans h
/-- two boxes, three boxes -/
theorem boxes2 (w : World) (a b : Array Value) (T U : TypeId) :
    Bx ((w.alloc (.cells a T)).alloc (.cells b U)) w.heap.size a T ∧ Bx ((w.alloc (.cells a T)).alloc (.cells b U)) (w.heap.size + 1) b U ∧
    Below w.heap.size w ((w.alloc (.cells a T)).alloc (.cells b U)) := by
  have s1 : (w.alloc (.cells a T)).heap.size = w.heap.size + 1 := by simp
  refine ⟨bx_past (bx_new _ _ _) _, ?_, ((Below.refl _ _).alloc (Nat.le_refl _) _).alloc (by simp) _⟩
  have := bx_new (w.alloc (.cells a T)) b U; rwa [s1] at this
theorem boxes3 (w : World) (a b c : Array Value) (T U V : TypeId) :
    Bx (((w.alloc (.cells a T)).alloc (.cells b U)).alloc (.cells c V)) w.heap.size a T ∧
    Bx (((w.alloc (.cells a T)).alloc (.cells b U)).alloc (.cells c V)) (w.heap.size + 1) b U ∧
    Bx (((w.alloc (.cells a T)).alloc (.cells b U)).alloc (.cells c V)) (w.heap.size + 1 + 1) c V ∧
    Below w.heap.size w (((w.alloc (.cells a T)).alloc (.cells b U)).alloc (.cells c V)) := by
  obtain ⟨h1, h2, h3⟩ := boxes2 w a b T U
  have s2 : ((w.alloc (.cells a T)).alloc (.cells b U)).heap.size = w.heap.size + 1 + 1 := by simp
  refine ⟨bx_past h1 _, bx_past h2 _, ?_, h3.alloc (by rw [s2]; omega) _⟩
  have := bx_new ((w.alloc (.cells a T)).alloc (.cells b U)) c V; rwa [s2] at this

end Go.Proofs.YtddbflggcblfcaaDoor
