/- LHand, LUsr, LUsrB, LWhole, joined. -/
import Derived.Test.YtigokanoflkinaaGreatDoorFFrac
import Derived.Laws.CopyOwn
import Derived.Deep.RegionHeld3
import Derived.Deep.DeepCutAuto
import Derived.BigRegion
/- portionlaw handed, intact, reads: lists of numbers as a caller hands them in. -/
namespace Go.Proofs.YtigokanoflkinaaGreatDoor
set_option linter.unusedSimpArgs false
set_option linter.unusedVariables false
open Go.RowKit Por

/-- make([]int, n), of any length that there may be -/
theorem wpList_make_big (w : World) {ops : Array Oper} {rest : List Oper} {o : Oper} {a : Act} {Q : Exit → Act → World → Prop}
    (hg : o.guard = none) (l c : Operand) (hop : o.op = Op.makeSlice 22 l c) (L C : Int) (n : Nat) (hl : a.eval l = .int .i64 L) (hc : a.eval c = .int .i64 C) (hL : L = (n : Int)) (hC : C = (n : Int)) (hn : n ≤ 35184372088832)
    (hK : ∀ w', Blk w' w.heap.size (List.replicate n 0) → Below w.heap.size w w' → wpList Tryz.prog ops Q rest (a.put o.dst (.slice (some ⟨w.heap.size, 0, none⟩) n n)) w') :
    wpList Tryz.prog ops Q (o :: rest) a w := by
  obtain ⟨i, hi, hz0, hz1, hz2⟩ := info_parts Tryz.infoInt
  refine wpList_make_full w hg l c 22 hop w.heap.size 3 i (.int .i64 0) 1 Tryz.underlying22 hi hz0 hz1 .i64 .i64 L C n hl hc hL hC (by rw [hz2]; omega) (by unfold maxLen; omega) (Nat.le_refl _) ?_
  intro w' ho hgr
  have hb : Below w.heap.size w w' := (Below.refl _ _).grown hgr (Nat.le_refl _) (fun k e => by cases e)
  rcases ho.2 with ⟨h', _⟩ | ⟨g, cap, cur, h', _, hh, h1, h2, h3, h4⟩
  · cases h'
  · simp only [Value.slice.injEq, Option.some.injEq, Addr.mk.injEq, and_true, true_and] at h'
    obtain ⟨rfl, rfl⟩ := h'
    have e : cur = ((List.replicate n (0 : Int)).map (Value.int .i64)).toArray := by
      apply Array.toList_inj.1
      rw [Nat.mul_one] at h4 h3
      rw [List.take_of_length_le (by rw [Array.length_toList]; omega)] at h4
      rw [h4, show (Value.int .i64 0).cells = #[.int .i64 0] from rfl, toList_madeCells_one]
      simp
    rw [e] at hh
    exact hK w' hh hb
/-- copy(out, l): out is longer -/
theorem wpList_copy_arr (w0 w : World) {ops : Array Oper} {rest : List Oper} {o : Oper} {a : Act} {Q : Exit → Act → World → Prop} (hgd : o.guard = none) (d s : Operand)
    (ho : o.op = .call { callee := .builtin .copy, args := #[d, s], argTypes := #[22, 22] }) (g m n cap : Nat) (ao : Option Addr) (zs xs : List Int)
    (hd : a.eval d = .slice (some ⟨g, 0, none⟩) m m) (hs : a.eval s = .slice ao n cap) (hz : Blk w g zs) (hzl : zs.length = m) (hr : Arr w 1 ao n cap (ints xs)) (hnm : n ≤ m) (hb : Below w0.heap.size w0 w) (hle : w0.heap.size ≤ g)
    (h : ∀ w', Hid (Blk w' g (xs ++ zs.drop n)) → Below w0.heap.size w0 w' → wpList Tryz.prog ops Q rest (a.put o.dst (goInt n)) w') : wpList Tryz.prog ops Q (o :: rest) a w := by
  have hl := hr.len
  rw [ints_len] at hl
  subst hl
  have e : (ints xs).length = Nat.min xs.length m := by rw [ints_len]; exact (Nat.min_eq_left hnm).symm
  refine wpList_copy_splice hgd d s 22 22 ho 3 Tryz.underlying22 Tryz.sizeInt _ _ _ _ _ _ hd hs g 0 (zs.map (Value.int .i64)) 3 hz (ints xs) e ?_ (by rw [ints_len, List.length_map]; omega) ?_ w0.heap.size w0 hb hle ?_
  · intro h0
    rw [ints_len] at h0
    obtain ⟨b, of, rfl, hlt⟩ := hr.head h0
    refine ⟨rfl, _, rfl, fun j v hv => ?_⟩
    have hj : j < xs.length := by have := (List.getElem?_eq_some_iff.1 hv).1; rwa [ints_len] at this
    have := hr.cell b of rfl j v hv 0 v (by
      rw [ints_get xs hj] at hv; cases hv; rfl)
    have hadd : (⟨b, of, none⟩ : Addr).add j = ⟨b, of + j, none⟩ := by unfold Addr.add; split <;> simp_all
    rw [hadd]
    simpa using this
  · intro v hv
    unfold ints at hv
    obtain ⟨x, _, rfl⟩ := List.mem_map.1 hv
    rfl
  · intro w' hw hb'
    have e2 : goInt (ints xs).length = goInt xs.length := by rw [ints_len]
    rw [e2]
    refine h w' ?_ hb'
    have h9 := hw.out
    unfold Hid Blk
    rw [h9]
    have e3 : splice (zs.map (Value.int .i64)) 0 (ints xs) = (xs ++ zs.drop xs.length).map (Value.int .i64) := by
      unfold splice
      simp [ints]
    rw [e3]

theorem blk_row {w : World} {g : Nat} {zs : List Int} (h : Blk w g zs) {j : Nat} (hj : j < zs.length) : w.cell? ⟨g, 0 + j, none⟩ = some (.int .i64 (lm zs j)) := by rw [Nat.zero_add]; exact h.cell j hj
theorem lm_app_left {xs ys : List Int} {j : Nat} (h : j < xs.length) : lm (xs ++ ys) j = lm xs j := by
  unfold lm; rw [List.getD_eq_getElem?_getD, List.getD_eq_getElem?_getD, List.getElem?_append_left h]
theorem lm_app_right {xs ys : List Int} (j : Nat) : lm (xs ++ ys) (xs.length + j) = lm ys j := by
  unfold lm; rw [List.getD_eq_getElem?_getD, List.getD_eq_getElem?_getD, List.getElem?_append_right (by omega)]; simp
theorem set_tail {xs : List Int} {a b c : Int} : (xs ++ [a, b]).set xs.length c = xs ++ [c, b] := by
  rw [List.set_append_right _ _ (Nat.le_refl _)]; simp
theorem set_tail2 {xs : List Int} {a b c : Int} : (xs ++ [a, b]).set (xs.length + 1) c = xs ++ [a, c] := by
  rw [List.set_append_right _ _ (by omega)]; simp

set_option maxHeartbeats 1000000 in
set_option maxRecDepth 20000 in
theorem handed_any (ao : Option Addr) (n cap : Nat) (xs : List Int) (w : World) (hr : Arr w 1 ao n cap (ints xs)) (hn : n ≤ 17592186044416) :
    Calls Tryz.prog 9 #[.slice ao n cap] w fun e w' => ∃ g, w.heap.size ≤ g ∧ e = .returned (.slice (some ⟨g, 0, none⟩) n (n + 2)) ∧ Blk w' g (xs ++ [7, 7]) ∧ Below w.heap.size w w' := by
  have hl := hr.len
  rw [ints_len] at hl
  subst hl
  have HR := hid hr
  clear hr
  go_enter Tryz.func9, Tryz.ntmps9
  go_wp2_with (at_make; refine wpList_make_big _ rfl _ _ rfl _ _ (xs.length + 2) rfl rfl (by simp) (by simp) (by omega) ?_)
  intro w1 hz hb
  have HZ := hid hz
  have HB := hid hb
  clear hz hb
  go_wp2_with (refine wpList_copy_arr w _ rfl (.tmp 10) (.tmp 11) rfl w.heap.size (xs.length + 2) xs.length cap ao (List.replicate (xs.length + 2) 0) xs rfl rfl HZ.out (by simp) (HR.out.below HB.out) (by omega) HB.out (Nat.le_refl _) ?_)
  intro w2 hz9 hb2
  have hz2 : Hid (Blk w2 w.heap.size (xs ++ [0, 0])) := by simpa [Hid, List.replicate] using hz9.out
  have HB2 := hid hb2
  clear HZ HB hz9 hb2 HR
  have c0 : w2.cell? ⟨w.heap.size, xs.length, none⟩ = some (.int .i64 0) := by
    rw [hz2.out.cell xs.length (by simp)]
    have := lm_app_right (xs := xs) (ys := [0, 0]) 0
    rw [Nat.add_zero] at this; rw [this]; rfl
  have c1 : w2.cell? ⟨w.heap.size, xs.length + 1, none⟩ = some (.int .i64 0) := by
    rw [hz2.out.cell (xs.length + 1) (by simp), lm_app_right (xs := xs) (ys := [0, 0]) 1]; rfl
  have z0 := hz2.out.frozen xs.length
  have z1 := hz2.out.frozen (xs.length + 1)
  have lt := hz2.out.lt
  have i0 : (xs.length : Int) < ((xs.length + 2 : Nat) : Int) := by omega
  have i1 : (xs.length : Int) + 1 < ((xs.length + 2 : Nat) : Int) := by omega
  have HF : Hid (Blk ((w2.setCell ⟨w.heap.size, xs.length, none⟩ (.int .i64 7)).setCell ⟨w.heap.size, xs.length + 1, none⟩ (.int .i64 7)) w.heap.size (xs ++ [7, 7])) := by
    have h1 := (hz2.out.set xs.length 7).set (xs.length + 1) 7
    rw [set_tail, set_tail2] at h1; exact h1
  have HBF : Hid (Below w.heap.size w ((w2.setCell ⟨w.heap.size, xs.length, none⟩ (.int .i64 7)).setCell ⟨w.heap.size, xs.length + 1, none⟩ (.int .i64 7))) := (HB2.out.setCell (Nat.le_refl _) _).setCell (Nat.le_refl _) _
  clear hz2 HB2
  go_wp2
  go_ret
  exact ⟨_, Nat.le_refl _, rfl, HF.out, HBF.out⟩

set_option maxHeartbeats 1000000 in
set_option maxRecDepth 20000 in
/-- intact: what was handed in reads as it did -/
theorem intact_any (g : Nat) (ao : Option Addr) (n cap : Nat) (xs : List Int) (w : World) (hb : Blk w g (xs ++ [7, 7])) (hr : Arr w 1 ao n cap (ints xs)) (hn : n ≤ 17592186044416) :
    Calls Tryz.prog 13 #[.slice (some ⟨g, 0, none⟩) n (n + 2), .slice ao n cap] w fun e w' => e = .returned (.bool true) ∧ Below w.heap.size w w' := by
  have hl := hr.len
  rw [ints_len] at hl
  subst hl
  have HR := hid hr
  have HB := hid hb
  clear hr hb
  have i2 : (xs.length : Int) + 2 ≤ ((xs.length + 2 : Nat) : Int) := by omega
  go_enter Tryz.func13, Tryz.ntmps13
  go_wp2
  go_loopg [7] xs.length (fun gg ix wr => ∃ k : Nat, gg = xs.length - k ∧ k ≤ xs.length ∧ ix = .int .i64 k ∧ Hid (Below w.heap.size w wr))
  case atStart => exact ⟨0, rfl, Nat.zero_le _, rfl, Below.refl _ _⟩
  case round =>
    obtain ⟨k, hgk, hk, rfl, hB⟩ := hrel
    have hgl : g < wr.heap.size := Nat.lt_of_lt_of_le HB.out.lt hB.out.size
    have HBr := hid (HB.out.below hB.out HB.out.lt)
    by_cases hlt : k < xs.length
    · obtain ⟨b, o, rfl, hbl⟩ := (HR.out.below hB.out).head (by omega)
      have c0 := (HR.out.below hB.out).int rfl hlt
      have c1 := blk_row HBr.out (j := k) (by simp; omega)
      rw [lm_app_left hlt, Nat.zero_add] at c1
      have i0 : (k : Int) < (xs.length : Int) := by omega
      have i1 : (k : Int) < ((xs.length + 2 : Nat) : Int) := by omega
      have i3 : (k : Int) < (xs.length : Int) + 2 := by omega
      generalize lm xs k = x at c0 c1
      have t0 : (x != x) = false := by simp
      go_upto_region 6 with fail
      go_quiet (fail)
      go_wp2
      go_roundg (xs.length - (k + 1))
      case measure => omega
      case rel => exact ⟨k + 1, rfl, by omega, by go_num, below_drewN hB.out _⟩
    · obtain rfl : k = xs.length := by omega
      have c0 : wr.cell? ⟨g, xs.length, none⟩ = some (.int .i64 7) := by
        rw [HBr.out.cell xs.length (by simp)]
        have := lm_app_right (xs := xs) (ys := [7, 7]) 0
        rw [Nat.add_zero] at this; rw [this]; rfl
      have c1 : wr.cell? ⟨g, xs.length + 1, none⟩ = some (.int .i64 7) := by
        rw [HBr.out.cell (xs.length + 1) (by simp), lm_app_right (xs := xs) (ys := [7, 7]) 1]; rfl
      have i0 : (xs.length : Int) < ((xs.length + 2 : Nat) : Int) := by omega
      have i1 : (xs.length : Int) + 1 < ((xs.length + 2 : Nat) : Int) := by omega
      go_wp2
      go_ret
      exact ⟨rfl, hB.out⟩

set_option maxHeartbeats 1000000 in
set_option maxRecDepth 20000 in
/-- reads: the same numbers -/
theorem reads_any (ao bo : Option Addr) (n cap m capb : Nat) (xs : List Int) (w : World) (hr : Arr w 1 ao n cap (ints xs)) (hs : Arr w 1 bo m capb (ints xs)) (hn : n ≤ 17592186044416) :
    Calls Tryz.prog 27 #[.slice ao n cap, .slice bo m capb] w fun e w' => e = .returned (.bool true) ∧ Below w.heap.size w w' := by
  have hl := hr.len
  rw [ints_len] at hl
  subst hl
  have hl := hs.len
  rw [ints_len] at hl
  subst hl
  have HR := hid hr
  have HS := hid hs
  clear hr hs
  go_enter Tryz.func27, Tryz.ntmps27
  go_wp2
  go_loopg [5] xs.length (fun gg ix wr => ∃ k : Nat, gg = xs.length - k ∧ k ≤ xs.length ∧ ix = .int .i64 k ∧ Hid (Below w.heap.size w wr))
  case atStart => exact ⟨0, rfl, Nat.zero_le _, rfl, Below.refl _ _⟩
  case round =>
    obtain ⟨k, hgk, hk, rfl, hB⟩ := hrel
    by_cases hlt : k < xs.length
    · obtain ⟨b, o, rfl, hbl⟩ := (HR.out.below hB.out).head (by omega)
      have c0 := (HR.out.below hB.out).int rfl hlt
      obtain ⟨b2, o2, rfl, hbl2⟩ := (HS.out.below hB.out).head (by omega)
      have c1 := (HS.out.below hB.out).int rfl hlt
      have i0 : (k : Int) < (xs.length : Int) := by omega
      generalize lm xs k = x at c0 c1
      have t0 : (x != x) = false := by simp
      go_upto_region 6 with fail
      go_quiet (fail)
      go_wp2
      go_roundg (xs.length - (k + 1))
      case measure => omega
      case rel => exact ⟨k + 1, rfl, by omega, by go_num, below_drewN hB.out _⟩
    · obtain rfl : k = xs.length := by omega
      go_wp2
      go_ret
      exact ⟨rfl, hB.out⟩
end Go.Proofs.YtigokanoflkinaaGreatDoor

/- portionlaw users, whole: users as a caller hands them in. -/
namespace Go.Proofs.YtigokanoflkinaaGreatDoor
set_option linter.unusedSimpArgs false
set_option linter.unusedVariables false
open Go.RowKit Por

/-- nothing has changed but blocks of type T from block B on -/
structure Touch (T : TypeId) (B : Nat) (w w' : World) : Prop where
  size : w.heap.size ≤ w'.heap.size
  block : ∀ k, k < w.heap.size → (k < B ∨ ∀ cur fz, w.heap[k]? ≠ some (.cells cur T fz)) → w'.heap[k]? = w.heap[k]?
theorem Touch.of_append {T : TypeId} {B size n : Nat} {w w' : World} {v : Value} {xs : List Value} (hown : w.ownsRow B T size v n xs) (hg : w.grownBy w' v.ownBlock) : Touch T B w w' := by
  refine ⟨hg.size, fun k hk h => hg.block k hk (fun e => ?_)⟩
  rcases hown.2 with ⟨rfl, _⟩ | ⟨g, cap, cur, rfl, h2, h3, _⟩
  · cases e
  · have e' : some k = some g := e
    cases e'
    rcases h with h | h
    · omega
    · exact h _ _ h3
theorem Touch.of_set {T : TypeId} {B : Nat} {w : World} {b i : Nat} {v : Value} {cur : Array Value} (hb : w.heap[b]? = some (.cells cur T (0, 0))) (hB : B ≤ b) : Touch T B w (w.setCell ⟨b, i, none⟩ v) := by
  refine ⟨by simp [World.setCell], fun k hk h => ?_⟩
  have hne : k ≠ b := fun e => by
    subst e
    rcases h with h | h
    · omega
    · exact h _ _ hb
  exact Below.heap_setCell w _ v k hne
theorem Touch.bx {T T' : TypeId} {B b : Nat} {w w' : World} {cs : Array Value} (h : Touch T B w w') (hx : Bx w b cs T') (hT : T' ≠ T) : Bx w' b cs T' :=
  (h.block b hx.lt (.inr (fun cur fz e => by unfold Bx at hx; rw [hx] at e; cases e; exact hT rfl))).trans hx
theorem Touch.blk {T : TypeId} {B b : Nat} {w w' : World} {zs : List Int} (h : Touch T B w w') (hx : Blk w b zs) (hT : 3 ≠ T) : Blk w' b zs :=
  (h.block b hx.lt (.inr (fun cur fz e => by unfold Blk at hx; rw [hx] at e; cases e; exact hT rfl))).trans hx
theorem Touch.own {T T' : TypeId} {B base size n : Nat} {w w' : World} {v : Value} {xs : List Value} (h : Touch T B w w') (hx : w.ownsRow base T' size v n xs) (hT : T' ≠ T) : w'.ownsRow base T' size v n xs := by
  refine ⟨hx.1, ?_⟩
  rcases hx.2 with h1 | ⟨g, cap, cur, h1, h2, h3, h4⟩
  · exact .inl h1
  · exact .inr ⟨g, cap, cur, h1, h2, (h.block g (Array.getElem?_eq_some_iff.1 h3).1 (.inr (fun c fz e => by rw [h3] at e; cases e; exact hT rfl))).trans h3, h4⟩
theorem own_below {base T size n : Nat} {w w' : World} {v : Value} {xs : List Value} (h : w.ownsRow base T size v n xs) (hb : Below w.heap.size w w') : w'.ownsRow base T size v n xs := by
  refine ⟨h.1, ?_⟩
  rcases h.2 with h1 | ⟨g, cap, cur, h1, h2, h3, h4⟩
  · exact .inl h1
  · exact .inr ⟨g, cap, cur, h1, h2, (hb.block g (Array.getElem?_eq_some_iff.1 h3).1).trans h3, h4⟩

/-- a list as it was handed in -/
def hs (d n : Nat) : Value := .slice (some ⟨d, 0, none⟩) n (n + 2)
/-- the first k of the users, with their demands, as they were handed in -/
def CrP (w : World) (us : List Usr) (og n k : Nat) (dl : List Value) : Prop :=
  dl.length = k ∧ ∃ arr, w.heap[og]? = some (.cells arr 56 (0, 0)) ∧ arr.size = (n + 1) * 3 ∧ ∀ i, i < k → ∃ d, og < d ∧ arr[i * 3]? = some (hs d (ug us i).dem.length) ∧ arr[i * 3 + 1]? = some (.int .i64 (ug us i).wt) ∧ arr[i * 3 + 2]? = some (.int .i64 (ug us i).cap) ∧ Blk w d ((ug us i).dem ++ [7, 7]) ∧ dl[i]? = some (hs d (ug us i).dem.length)
theorem CrP.below {w w' : World} {us : List Usr} {og n k : Nat} {dl : List Value} (h : CrP w us og n k dl) (hb : Below w.heap.size w w') : CrP w' us og n k dl := by
  obtain ⟨h0, arr, h1, h2, h3⟩ := h
  refine ⟨h0, arr, (hb.block og (Array.getElem?_eq_some_iff.1 h1).1).trans h1, h2, fun i hi => ?_⟩
  obtain ⟨d, g0, g1, g2, g3, g4, g5⟩ := h3 i hi
  exact ⟨d, g0, g1, g2, g3, g4.below hb g4.lt, g5⟩
theorem CrP.touch {T : TypeId} {B : Nat} {w w' : World} {us : List Usr} {og n k : Nat} {dl : List Value} (h : CrP w us og n k dl) (ht : Touch T B w w') (h1 : 3 ≠ T) (h2 : 56 ≠ T) : CrP w' us og n k dl := by
  obtain ⟨h0, arr, g1, g2, g3⟩ := h
  refine ⟨h0, arr, ?_, g2, fun i hi => ?_⟩
  · exact (ht.block og (Array.getElem?_eq_some_iff.1 g1).1 (.inr (fun c fz e => by rw [g1] at e; cases e; exact h2 rfl))).trans g1
  · obtain ⟨d, a0, a1, a2, a3, a4, a5⟩ := g3 i hi
    exact ⟨d, a0, a1, a2, a3, ht.blk a4 h1, a5⟩
theorem CrP.has {w : World} {us : List Usr} {og n k : Nat} {dl : List Value} (h : CrP w us og n k dl) {j : Nat} (hj : j < (n + 1) * 3) : (∃ x, w.cell? ⟨og, j, none⟩ = some x) ∧ w.frozen? ⟨og, j, none⟩ = false := by
  obtain ⟨_, arr, h1, h2, _⟩ := h
  exact ⟨⟨arr[j]'(by omega), (cell_of_row w og j _ _ _ h1).trans (Array.getElem?_eq_getElem (by omega))⟩, frozen_of_row w og j _ _ h1⟩
theorem CrP.lt {w : World} {us : List Usr} {og n k : Nat} {dl : List Value} (h : CrP w us og n k dl) : og < w.heap.size := by
  obtain ⟨_, arr, h1, _⟩ := h; exact (Array.getElem?_eq_some_iff.1 h1).1
theorem arr_put3 {arr : Array Value} {i j : Nat} {u0 u1 u2 : Value} (h : j < i ∨ i + 2 < j) : (((arr.set! i u0).set! (i + 1) u1).set! (i + 2) u2)[j]? = arr[j]? := by
  simp only [Array.set!_eq_setIfInBounds, Array.getElem?_setIfInBounds]
  rw [if_neg (by omega), if_neg (by omega), if_neg (by omega)]
theorem arr_in3 {arr : Array Value} {i : Nat} (u0 u1 u2 : Value) (h : i + 2 < arr.size) : (((arr.set! i u0).set! (i + 1) u1).set! (i + 2) u2)[i]? = some u0 ∧ (((arr.set! i u0).set! (i + 1) u1).set! (i + 2) u2)[i + 1]? = some u1 ∧ (((arr.set! i u0).set! (i + 1) u1).set! (i + 2) u2)[i + 2]? = some u2 := by
  simp only [Array.set!_eq_setIfInBounds, Array.getElem?_setIfInBounds, Array.size_setIfInBounds]
  refine ⟨?_, ?_, ?_⟩
  · rw [if_neg (by omega), if_neg (by omega), if_pos trivial, if_pos (by omega)]
  · rw [if_neg (by omega), if_pos trivial, if_pos (by omega)]
  · rw [if_pos trivial, if_pos (by omega)]
theorem Blk.putA {w : World} {g b o : Nat} {zs : List Int} {u0 u1 u2 : Value} (h : Blk w g zs) (hne : b ≠ g) : Blk (wputA w b o u0 u1 u2) g zs :=
  ((h.other ⟨b, o, none⟩ u0 hne).other ⟨b, o + 1, none⟩ u1 hne).other ⟨b, o + 2, none⟩ u2 hne
theorem CrP.put {w : World} {us : List Usr} {og n k d : Nat} {dl : List Value} (h : CrP w us og n k dl) (hk : k < n) (hd : og < d) (hb : Blk w d ((ug us k).dem ++ [7, 7])) :
    CrP (wputA w og (k * 3) (hs d (ug us k).dem.length) (.int .i64 (ug us k).wt) (.int .i64 (ug us k).cap)) us og n (k + 1) (dl ++ [hs d (ug us k).dem.length]) := by
  obtain ⟨h0, arr, h1, h2, h3⟩ := h
  have hp := putA_heap (u0 := hs d (ug us k).dem.length) (u1 := .int .i64 (ug us k).wt) (u2 := .int .i64 (ug us k).cap) (o := k * 3) h1
  refine ⟨by simp [h0], _, hp, by simp [Array.set!_eq_setIfInBounds, h2], fun i hi => ?_⟩
  by_cases e : i = k
  · subst e
    obtain ⟨a0, a1, a2⟩ := arr_in3 (arr := arr) (i := i * 3) (hs d (ug us i).dem.length) (.int .i64 (ug us i).wt) (.int .i64 (ug us i).cap) (by omega)
    exact ⟨d, hd, a0, a1, a2, hb.putA (by omega), by rw [List.getElem?_append_right (by omega), h0]; simp⟩
  · obtain ⟨d', g0, g1, g2, g3, g4, g5⟩ := h3 i (by omega)
    exact ⟨d', g0, (arr_put3 (by omega)).trans g1, (arr_put3 (by omega)).trans g2, (arr_put3 (by omega)).trans g3, g4.putA (by omega), by rw [List.getElem?_append_left (by omega)]; exact g5⟩
/-- all of it: the users, what lies behind them, the demands' list -/
def Crowd (w : World) (us : List Usr) (og : Nat) (dl : List Value) : Prop :=
  CrP w us og us.length us.length dl ∧ w.cell? ⟨og, us.length * 3, none⟩ = some (.slice none 0 0) ∧ w.cell? ⟨og, us.length * 3 + 1, none⟩ = some (.int .i64 7) ∧ w.cell? ⟨og, us.length * 3 + 2, none⟩ = some (.int .i64 7)
theorem Crowd.below {w w' : World} {us : List Usr} {og : Nat} {dl : List Value} (h : Crowd w us og dl) (hb : Below w.heap.size w w') : Crowd w' us og dl := by
  obtain ⟨h0, h1, h2, h3⟩ := h
  have hl := h0.lt
  exact ⟨h0.below hb, (hb.cell (p := ⟨og, us.length * 3, none⟩) hl).trans h1, (hb.cell (p := ⟨og, us.length * 3 + 1, none⟩) hl).trans h2, (hb.cell (p := ⟨og, us.length * 3 + 2, none⟩) hl).trans h3⟩
theorem CrP.end_ {w : World} {us : List Usr} {og : Nat} {dl : List Value} (h : CrP w us og us.length us.length dl) : Crowd (wputA w og (us.length * 3) (.slice none 0 0) (.int .i64 7) (.int .i64 7)) us og dl := by
  obtain ⟨h0, arr, h1, h2, h3⟩ := h
  have hp := putA_heap (u0 := .slice none 0 0) (u1 := .int .i64 7) (u2 := .int .i64 7) (o := us.length * 3) h1
  obtain ⟨a0, a1, a2⟩ := arr_in3 (arr := arr) (i := us.length * 3) (.slice none 0 0) (.int .i64 7) (.int .i64 7) (by omega)
  refine ⟨⟨h0, _, hp, by simp [Array.set!_eq_setIfInBounds, h2], fun i hi => ?_⟩, (cell_of_row _ og _ _ _ _ hp).trans a0, (cell_of_row _ og _ _ _ _ hp).trans a1, (cell_of_row _ og _ _ _ _ hp).trans a2⟩
  obtain ⟨d', g0, g1, g2, g3, g4, g5⟩ := h3 i hi
  exact ⟨d', g0, (arr_put3 (by omega)).trans g1, (arr_put3 (by omega)).trans g2, (arr_put3 (by omega)).trans g3, g4.putA (by omega), g5⟩
theorem Crowd.users {w : World} {us : List Usr} {og : Nat} {dl : List Value} (h : Crowd w us og dl) (hn : us.length + 1 ≤ maxLen) (hd : ∀ i, i < us.length → (ug us i).dem.length + 2 ≤ maxLen) : Users w (some ⟨og, 0, none⟩) us.length (us.length + 1) us := by
  obtain ⟨⟨h0, arr, h1, h2, h3⟩, _⟩ := h
  refine ⟨rfl, (List.range us.length).map (fun i => .agg #[arr.getD (i * 3) (.bool false), .int .i64 (ug us i).wt, .int .i64 (ug us i).cap]), ⟨by simp, by omega, hn, fun _ => ⟨og, 0, rfl, (Array.getElem?_eq_some_iff.1 h1).1⟩, ?_⟩, ?_⟩
  · intro b o e i v hv j u hu
    cases e
    have hi : i < us.length := by simpa using (List.getElem?_eq_some_iff.1 hv).1
    rw [List.getElem?_map, List.getElem?_range hi] at hv
    cases hv
    obtain ⟨d, g0, g1, g2, g3, g4, g5⟩ := h3 i hi
    have e0 : arr.getD (i * 3) (.bool false) = hs d (ug us i).dem.length := by
      rw [Array.getD_eq_getD_getElem?, g1]; rfl
    have hu' : (Value.agg #[arr.getD (i * 3) (.bool false), .int .i64 (ug us i).wt, .int .i64 (ug us i).cap]).cells[j]? = some u := hu
    rw [e0] at hu'
    clear hu
    have hu := hu'
    have hc : (Value.agg #[hs d (ug us i).dem.length, .int .i64 (ug us i).wt, .int .i64 (ug us i).cap]).cells = #[hs d (ug us i).dem.length, .int .i64 (ug us i).wt, .int .i64 (ug us i).cap] := rfl
    rw [hc] at hu
    rw [Nat.zero_add, cell_of_row w og _ _ _ _ h1]
    match j with
    | 0 => rw [Nat.add_zero, g1]; exact hu
    | 1 => rw [g2]; exact hu
    | 2 => rw [g3]; exact hu
    | j + 3 => simp at hu
  · intro i v hv
    have hi : i < us.length := by simpa using (List.getElem?_eq_some_iff.1 hv).1
    rw [List.getElem?_map, List.getElem?_range hi] at hv
    cases hv
    obtain ⟨d, g0, g1, g2, g3, g4, g5⟩ := h3 i hi
    have e0 : arr.getD (i * 3) (.bool false) = hs d (ug us i).dem.length := by
      rw [Array.getD_eq_getD_getElem?, g1]; rfl
    refine ⟨some ⟨d, 0, none⟩, (ug us i).dem.length, (ug us i).dem.length + 2, by show Value.agg #[arr.getD (i * 3) (.bool false), _, _] = _; rw [e0]; rfl, ?_⟩
    refine ⟨by rw [ints_len], by omega, hd i hi, fun _ => ⟨d, 0, rfl, g4.lt⟩, ?_⟩
    intro b o e j v hv m u hu
    cases e
    have hj : j < (ug us i).dem.length := by have := (List.getElem?_eq_some_iff.1 hv).1; rwa [ints_len] at this
    rw [ints_get _ hj] at hv
    cases hv
    match m with
    | 0 =>
      have := g4.cell j (by simp; omega)
      rw [lm_app_left hj] at this
      simp only [Nat.mul_one, Nat.add_zero, Nat.zero_add]
      rw [this]; exact hu
    | m + 1 => simp [Value.cells] at hu
end Go.Proofs.YtigokanoflkinaaGreatDoor

/- portionlaw users: walked. -/
namespace Go.Proofs.YtigokanoflkinaaGreatDoor
set_option linter.unusedSimpArgs false
set_option linter.unusedVariables false
open Go.RowKit Por

theorem Tryz.infoUsrs : (Tryz.prog.info? 56).map (fun i => (i.zero, i.size, i.bytes)) = some (some (.agg #[.slice none 0 0, .int .i64 0, .int .i64 0]), 3, 40) := by kernel_rfl
theorem Tryz.infoLst : (Tryz.prog.info? 22).map (fun i => (i.zero, i.size, i.bytes)) = some (some (.slice none 0 0), 1, 24) := by kernel_rfl
/-- make([]api.User, n) -/
theorem wpList_make_crowd (w : World) {ops : Array Oper} {rest : List Oper} {o : Oper} {a : Act} {Q : Exit → Act → World → Prop}
    (hg : o.guard = none) (l c : Operand) (hop : o.op = Op.makeSlice 23 l c) (L C : Int) (n : Nat) (hl : a.eval l = .int .i64 L) (hc : a.eval c = .int .i64 C) (hL : L = ((n + 1 : Nat) : Int)) (hC : C = ((n + 1 : Nat) : Int)) (hn : n ≤ 3518437208883) (us : List Usr)
    (hK : ∀ w', Hid (CrP w' us w.heap.size n 0 []) → Below w.heap.size w w' → wpList Tryz.prog ops Q rest (a.put o.dst (.slice (some ⟨w.heap.size, 0, none⟩) (n + 1) (n + 1))) w') :
    wpList Tryz.prog ops Q (o :: rest) a w := by
  obtain ⟨i, hi, hz0, hz1, hz2⟩ := info_parts Tryz.infoUsrs
  refine wpList_make_full w hg l c 23 hop w.heap.size 56 i (.agg #[.slice none 0 0, .int .i64 0, .int .i64 0]) 3 Tryz.underlying23 hi hz0 hz1 .i64 .i64 L C (n + 1) hl hc hL hC (by rw [hz2]; omega) (by unfold maxLen; omega) (Nat.le_refl _) ?_
  intro w' ho hgr
  have hb : Below w.heap.size w w' := (Below.refl _ _).grown hgr (Nat.le_refl _) (fun k e => by cases e)
  rcases ho.2 with ⟨h', _⟩ | ⟨g, cap, cur, h', _, hh, h1, h2, h3, h4⟩
  · cases h'
  · simp only [Value.slice.injEq, Option.some.injEq, Addr.mk.injEq, and_true, true_and] at h'
    obtain ⟨rfl, rfl⟩ := h'
    exact hK w' ⟨rfl, cur, hh, h3, fun i hi => by omega⟩ hb
/-- c.demands = append(c.demands, d) -/
theorem wpList_append_lst (w : World) {ops : Array Oper} {rest : List Oper} {o : Oper} {a : Act} {Q : Exit → Act → World → Prop} (hgd : o.guard = none) (s x : Operand)
    (hop : o.op = Op.call { callee := Callee.builtin Builtin.append, args := #[s, x], argTypes := #[29, 29] })
    (base : Nat) (v : Value) (l : List Value) (ad : Addr) (c : Nat) (u : Value) (hs : a.eval s = v) (hx : a.eval x = .slice (some ad) 1 c) (hown : w.ownsRow base 22 1 v l.length l)
    (h0 : w.cell? (ad.add 0) = some u) (hu : u.oneCell' = true) (hle : l.length + 1 ≤ 3518437208883) (hb : base ≤ w.heap.size)
    (h : ∀ v' w', w'.ownsRow base 22 1 v' (l ++ [u]).length (l ++ [u]) → Touch 22 base w w' → Below base w w' → wpList Tryz.prog ops Q rest (a.put o.dst v') w') : wpList Tryz.prog ops Q (o :: rest) a w := by
  obtain ⟨i, hi, hz0, hz1, hz2⟩ := info_parts Tryz.infoLst
  have hob : ∀ k, v.ownBlock = some k → base ≤ k := by
    intro k hk
    rcases hown.2 with ⟨rfl, _⟩ | ⟨g, cap, cur, rfl, h2, _⟩
    · cases hk
    · cases hk; exact h2
  refine wpList_append_own w hgd s x _ hop base 22 i (.slice none 0 0) 1 24 Tryz.underlying29 hi hz0 hz1 hz2 rfl (by decide) v l.length l hs hown ad 1 c [u] hx (by simp) ?_ ?_ (by unfold maxLen; omega) (by omega) hb ?_
  · intro j z hj
    match j with
    | 0 => rw [h0]; simpa using hj
    | j + 1 => simp at hj
  · intro z hz
    simp at hz
    subst hz; exact hu
  · intro v' w' h2 h3 _
    refine h v' w' (by rw [List.length_append]; exact h2) (Touch.of_append hown h3) ((Below.refl base w).grown h3 hb hob)

theorem bx_setq {w : World} {b : Nat} {cs : Array Value} {T : TypeId} (h : Bx w b cs T) (j : Nat) (v : Value) : Bx (w.setCell ⟨b, j, none⟩ v) b (cs.setIfInBounds j v) T := heap_setCell_same w b j _ _ v h
theorem Touch.of_putA {T : TypeId} {B : Nat} {w : World} {b i : Nat} {u0 u1 u2 : Value} {cur : Array Value} (hb : w.heap[b]? = some (.cells cur T (0, 0))) (hB : B ≤ b) : Touch T B w (wputA w b i u0 u1 u2) := by
  refine ⟨by simp [wputA, World.setCell], fun k hk h => ?_⟩
  have hne : k ≠ b := fun e => by
    subst e
    rcases h with h | h
    · omega
    · exact h _ _ hb
  unfold wputA
  rw [Below.heap_setCell _ _ _ k hne, Below.heap_setCell _ _ _ k hne, Below.heap_setCell _ _ _ k hne]
theorem CrP.heap {w : World} {us : List Usr} {og n k : Nat} {dl : List Value} (h : CrP w us og n k dl) : ∃ cur, w.heap[og]? = some (.cells cur 56 (0, 0)) := by
  obtain ⟨_, arr, h1, _⟩ := h; exact ⟨arr, h1⟩
theorem Touch.refl (T : TypeId) (B : Nat) (w : World) : Touch T B w w := ⟨Nat.le_refl _, fun _ _ _ => rfl⟩
theorem Touch.set {T : TypeId} {B : Nat} {a w : World} {b i : Nat} {v : Value} {cur : Array Value} (h : Touch T B a w) (hb : a.heap[b]? = some (.cells cur T (0, 0))) (hB : B ≤ b) : Touch T B a (w.setCell ⟨b, i, none⟩ v) := by
  refine ⟨by simp only [World.setCell]; simpa using h.size, fun k hk h2 => ?_⟩
  have hne : k ≠ b := fun e => by
    subst e
    rcases h2 with h2 | h2
    · omega
    · exact h2 _ _ hb
  rw [Below.heap_setCell _ _ _ k hne]
  exact h.block k hk h2
theorem Crowd.touch {T : TypeId} {B : Nat} {w w' : World} {us : List Usr} {og : Nat} {dl : List Value} (h : Crowd w us og dl) (ht : Touch T B w w') (h1 : 3 ≠ T) (h2 : 56 ≠ T) : Crowd w' us og dl := by
  obtain ⟨h0, g1, g2, g3⟩ := h
  obtain ⟨cur, hcur⟩ := h0.heap
  have e : w'.heap[og]? = w.heap[og]? := ht.block og h0.lt (.inr (fun c fz e => by rw [hcur] at e; cases e; exact h2 rfl))
  have hc : ∀ j, w'.cell? ⟨og, j, none⟩ = w.cell? ⟨og, j, none⟩ := fun j => World.cell?_of_block e
  exact ⟨h0.touch ht h1 h2, (hc _).trans g1, (hc _).trans g2, (hc _).trans g3⟩
theorem own_shape {base T size n : Nat} {w : World} {v : Value} {xs : List Value} (h : w.ownsRow base T size v n xs) : ∃ so sc, v = .slice so n sc := by
  rcases h.2 with ⟨rfl, rfl⟩ | ⟨g, cap, cur, rfl, _⟩
  · exact ⟨none, 0, rfl⟩
  · exact ⟨_, _, rfl⟩
set_option maxHeartbeats 4000000 in
set_option maxRecDepth 20000 in
theorem users_any (ao : Option Addr) (n cap : Nat) (us : List Usr) (w : World) (hu : Users w ao n cap us) (hn : n ≤ 3518437208882) (hdl : ∀ i, i < us.length → (ug us i).dem.length ≤ 17592186044416) :
    Calls Tryz.prog 10 #[.slice ao n cap] w fun e w' => ∃ og dv dl, w.heap.size ≤ og ∧ e = .returned (.agg #[.slice (some ⟨og, 0, none⟩) n (n + 1), dv]) ∧ Crowd w' us og dl ∧ w'.ownsRow w.heap.size 22 1 dv dl.length dl ∧ Below w.heap.size w w' := by
  have hul := hu.1
  subst hul
  have HU := hid hu
  have HDL := hid hdl
  clear hu hdl
  have HB0 : Hid (Below w.heap.size w ((w.alloc (.cells #[.slice none 0 0, .slice none 0 0] 31)).alloc (.cells #[.slice none 0 0, .slice none 0 0] 31))) := ((Below.refl _ _).alloc (Nat.le_refl _) _).alloc (by simp) _
  have HX0 := hid (boxes2 w #[.slice none 0 0, .slice none 0 0] #[.slice none 0 0, .slice none 0 0] 31 31)
  go_enter Tryz.func10, Tryz.ntmps10
  go_wp2_with (at_make; refine wpList_make_crowd _ rfl _ _ rfl _ _ us.length rfl rfl (by simp) (by simp) (by omega) us ?_)
  intro w1 hcr hb1
  have HR1 : Hid (Bx w1 w.heap.size #[.slice none 0 0, .slice none 0 0] 31) := HX0.out.1.below hb1 (by omega)
  have HC1 : Hid (Bx w1 (w.heap.size + 1) #[.slice none 0 0, .slice none 0 0] 31) := HX0.out.2.1.below hb1 (by omega)
  have HB1 : Hid (Below w.heap.size w w1) := HB0.out.trans (hb1.mono (by omega))
  clear HX0 HB0 hb1
  go_wp2
  go_loopg [6] us.length (fun gg ix wr => ∃ (k : Nat) (dv : Value) (dl : List Value), gg = us.length - k ∧ k ≤ us.length ∧ ix = .int .i64 k ∧ Hid (CrP wr us (w.heap.size + 1 + 1) us.length k dl) ∧ Hid (wr.ownsRow w.heap.size 22 1 dv dl.length dl) ∧ Hid (Bx wr w.heap.size #[.slice none 0 0, .slice none 0 0] 31) ∧ Hid (Bx wr (w.heap.size + 1) #[.slice none 0 0, dv] 31) ∧ Hid (Below w.heap.size w wr))
  case atStart => exact ⟨0, .slice none 0 0, [], rfl, Nat.zero_le _, rfl, hcr.out, ⟨rfl, .inl ⟨rfl, rfl⟩⟩, HR1.out, HC1.out, HB1.out⟩
  case round =>
    clear HR1 HC1 HB1 hcr
    obtain ⟨k, dv, dl, hgk, hk, rfl, hP, hO, hR, hC, hB⟩ := hrel
    have hdll := hP.out.1
    by_cases hlt : k < us.length
    · have hkn : (k : Int) < (us.length : Int) := by omega
      obtain ⟨ub, uo, da, dn, dc, rfl, hbl, a0, a1, a2, hd⟩ := (HU.out.below hB.out).get hlt
      have hubl : ub < w.heap.size := by obtain ⟨b, o, x, y, z, h1, h2, _⟩ := HU.out.get hlt; cases h1; exact h2
      have hdn := hd.len
      rw [ints_len] at hdn
      have HD := hid hd
      clear hd a1 a2
      go_wp2_with fail
      refine (handed_any da dn dc (ug us k).dem _ HD.out (by have := HDL.out k hlt; omega)).mono ?_
      rintro e2 w2 ⟨d, hdb, rfl, hblk, hb2⟩
      have hdo : w.heap.size + 1 + 1 < d := Nat.lt_of_lt_of_le hP.out.lt hdb
      have HK2 := hid hblk
      have HP2 := hid (hP.out.below hb2)
      have HO2 := hid (own_below hO.out hb2)
      have HR2 := hid (hR.out.below hb2 hR.out.lt)
      have HC2 := hid (hC.out.below hb2 hC.out.lt)
      have HB2 : Hid (Below w.heap.size w w2) := hB.out.trans (hb2.mono hB.out.size)
      clear hP hO hR hC hB hblk hb2 a0 HD
      have cc := HC2.out.cell 1 _ rfl
      have cl := HC2.out.lt
      have leB : w.heap.size ≤ w2.heap.size := HB2.out.size
      go_wp2_with (at_builtin; refine wpList_append_lst _ rfl _ _ rfl w.heap.size dv dl ⟨w2.heap.size, 0, none⟩ 1 (hs d dn) rfl rfl (own_below HO2.out ((Below.refl _ _).alloc (Nat.le_refl _) _)) ((bx_new w2 #[hs d dn] 22).cell 0 _ rfl) rfl (by omega) (by simp only [World.size_alloc]; omega) ?_)
      intro v3 w3 hO3 hT3 hB3
      have hO4 : w3.ownsRow w.heap.size 22 1 v3 (k + 1) (dl ++ [hs d dn]) := by
        have e : (dl ++ [hs d dn]).length = k + 1 := by simp [hdll]
        simpa [hdll] using hO3
      obtain ⟨so, sc, rfl⟩ := own_shape hO4
      clear hO3
      have HA := hid ((Below.refl w2.heap.size w2).alloc (Nat.le_refl _) (.cells #[hs d dn] 22))
      have HK3 := hid (hT3.blk (HK2.out.below HA.out HK2.out.lt) (by decide))
      have HP3 := hid ((HP2.out.below HA.out).touch hT3 (by decide) (by decide))
      have HR3 := hid (hT3.bx (HR2.out.below HA.out HR2.out.lt) (by decide))
      have HC3 := hid (hT3.bx (HC2.out.below HA.out HC2.out.lt) (by decide))
      have HO3 := hid hO4
      have HB3 : Hid (Below w.heap.size w w3) := (HB2.out.alloc HB2.out.size _).trans hB3
      clear HK2 HP2 HO2 HR2 HC2 HB2 HA hO4 hT3 hB3 cc cl leB
      have cc := HC3.out.cell 1 _ rfl
      have cz := HC3.out.frozen 1
      have cl := HC3.out.lt
      go_upto_region 9 with fail
      have HT4 := hid (Touch.of_set (T := 31) (B := w.heap.size) (i := 1) (v := .slice so (k + 1) sc) HC3.out (by omega))
      have HK4 := hid (HT4.out.blk HK3.out (by decide))
      have HP4 := hid (HP3.out.touch HT4.out (by decide) (by decide))
      have HO4 := hid (HT4.out.own HO3.out (by decide))
      have HC4 := hid (bx_setq HC3.out 1 (.slice so (k + 1) sc))
      have HR4 : Hid (Bx (w3.setCell ⟨w.heap.size + 1, 1, none⟩ (.slice so (k + 1) sc)) w.heap.size #[.slice none 0 0, .slice none 0 0] 31) := HR3.out.other _ _ (by show w.heap.size + 1 ≠ w.heap.size; omega)
      have HB4 : Hid (Below w.heap.size w (w3.setCell ⟨w.heap.size + 1, 1, none⟩ (.slice so (k + 1) sc))) := HB3.out.setCell (by show w.heap.size ≤ w.heap.size + 1; omega) _
      clear HK3 HP3 HR3 HC3 HO3 HB3 HT4 cc cz cl
      obtain ⟨V, hV⟩ : ∃ V, V = w3.setCell ⟨w.heap.size + 1, 1, none⟩ (.slice so (k + 1) sc) := ⟨_, rfl⟩
      rw [← hV] at HK4 HP4 HO4 HC4 HR4 HB4 ⊢
      clear hV
      obtain ⟨xb, xo, da2, dn2, dc2, hx1, hbl2, b0, b1, b2, hd2⟩ := (HU.out.below HB4.out).get hlt
      cases hx1
      clear b0 hd2
      obtain ⟨⟨x0, hx0⟩, z0⟩ := HP4.out.has (j := k * 3) (by omega)
      obtain ⟨⟨x1, hx1⟩, z1⟩ := HP4.out.has (j := k * 3 + 1) (by omega)
      obtain ⟨⟨x2, hx2⟩, z2⟩ := HP4.out.has (j := k * 3 + 2) (by omega)
      have lt0 := HP4.out.lt
      have i1 : (k : Int) < ((us.length + 1 : Nat) : Int) := by omega
      have i2 : (k : Int) < (us.length : Int) + 1 := by omega
      obtain ⟨cur, hcur⟩ := HP4.out.heap
      have HT5 : Hid (Touch 56 w.heap.size V (wputA V (w.heap.size + 1 + 1) (k * 3) (hs d dn) (.int .i64 (ug us k).wt) (.int .i64 (ug us k).cap))) := Touch.of_putA hcur (by omega)
      have HP5 : Hid (CrP (wputA V (w.heap.size + 1 + 1) (k * 3) (hs d dn) (.int .i64 (ug us k).wt) (.int .i64 (ug us k).cap)) us (w.heap.size + 1 + 1) us.length (k + 1) (dl ++ [hs d dn])) := by
        have h9 := HP4.out.put hlt hdo HK4.out
        rw [hdn] at h9; exact h9
      have HO5 := hid (HT5.out.own HO4.out (by decide))
      have HC5 := hid (HT5.out.bx HC4.out (by decide))
      have HR5 := hid (HT5.out.bx HR4.out (by decide))
      have HB5 : Hid (Below w.heap.size w (wputA V (w.heap.size + 1 + 1) (k * 3) (hs d dn) (.int .i64 (ug us k).wt) (.int .i64 (ug us k).cap))) := below_putA HB4.out (by omega) _ _ _
      clear HT5 HP4 HO4 HC4 HR4 HB4 HK4 hcur
      go_region
      go_wp2
      go_roundg (us.length - (k + 1))
      case measure => omega
      case rel => exact ⟨k + 1, _, _, rfl, by omega, by go_num, HP5.out.below (Below.refl _ _).drew, by rw [List.length_append, hdll]; exact own_below HO5.out (Below.refl _ _).drew, HR5.out.below (Below.refl _ _).drew HR5.out.lt, HC5.out.below (Below.refl _ _).drew HC5.out.lt, HB5.out.drew⟩
    · obtain rfl : k = us.length := by omega
      obtain ⟨so, sc, rfl⟩ := own_shape hO.out
      obtain ⟨sn, hsn⟩ : ∃ sn, sn = dl.length := ⟨_, rfl⟩
      rw [← hsn] at hO hC
      have HSN := hid hsn
      clear hsn
      obtain ⟨⟨x0, hx0⟩, z0⟩ := hP.out.has (j := us.length * 3) (by omega)
      obtain ⟨⟨x1, hx1⟩, z1⟩ := hP.out.has (j := us.length * 3 + 1) (by omega)
      obtain ⟨⟨x2, hx2⟩, z2⟩ := hP.out.has (j := us.length * 3 + 2) (by omega)
      have lt0 := hP.out.lt
      have i1 : (us.length : Int) < ((us.length + 1 : Nat) : Int) := by omega
      have i2 : (us.length : Int) < (us.length : Int) + 1 := by omega
      have i3 : (us.length : Int) ≤ ((us.length + 1 : Nat) : Int) := by omega
      obtain ⟨cur, hcur⟩ := hP.out.heap
      have HT5 : Hid (Touch 56 w.heap.size wr (wputA wr (w.heap.size + 1 + 1) (us.length * 3) (.slice none 0 0) (.int .i64 7) (.int .i64 7))) := Touch.of_putA hcur (by omega)
      have HP5 := hid hP.out.end_
      have HO5 := hid (HT5.out.own hO.out (by decide))
      have HC5 := hid (HT5.out.bx hC.out (by decide))
      have HR5 := hid (HT5.out.bx hR.out (by decide))
      have HB5 : Hid (Below w.heap.size w (wputA wr (w.heap.size + 1 + 1) (us.length * 3) (.slice none 0 0) (.int .i64 7) (.int .i64 7))) := below_putA hB.out (by omega) _ _ _
      clear HT5 hP hO hC hR hB hcur
      go_upto_region 11 with fail
      clear hx0 hx1 hx2 z0 z1 z2 lt0
      unfold wputA at HP5 HO5 HC5 HR5 HB5
      obtain ⟨V, hV⟩ : ∃ V, V = ((wr.setCell ⟨w.heap.size + 1 + 1, us.length * 3, none⟩ (.slice none 0 0)).setCell ⟨w.heap.size + 1 + 1, us.length * 3 + 1, none⟩ (.int .i64 7)).setCell ⟨w.heap.size + 1 + 1, us.length * 3 + 2, none⟩ (.int .i64 7) := ⟨_, rfl⟩
      rw [← hV] at HP5 HO5 HC5 HR5 HB5 ⊢
      clear hV
      have q0 := HC5.out.cell 0 _ rfl
      have q1 := HC5.out.cell 1 _ rfl
      have q2 := HC5.out.frozen 0
      have q3 := HC5.out.lt
      have r0 := HR5.out.cell 0 _ rfl
      have r1 := HR5.out.cell 1 _ rfl
      have r2 := HR5.out.frozen 0
      have r3 := HR5.out.frozen 1
      have r4 := HR5.out.lt
      have HT6 : Hid (Touch 31 w.heap.size V (((V.setCell ⟨w.heap.size + 1, 0, none⟩ (.slice (some ⟨w.heap.size + 1 + 1, 0, none⟩) us.length (us.length + 1))).setCell ⟨w.heap.size, 0, none⟩ (.slice (some ⟨w.heap.size + 1 + 1, 0, none⟩) us.length (us.length + 1))).setCell ⟨w.heap.size, 1, none⟩ (.slice so sn sc))) := (((Touch.refl _ _ _).set HC5.out (by omega)).set HR5.out (by omega)).set HR5.out (by omega)
      have HB6 : Hid (Below w.heap.size w (((V.setCell ⟨w.heap.size + 1, 0, none⟩ (.slice (some ⟨w.heap.size + 1 + 1, 0, none⟩) us.length (us.length + 1))).setCell ⟨w.heap.size, 0, none⟩ (.slice (some ⟨w.heap.size + 1 + 1, 0, none⟩) us.length (us.length + 1))).setCell ⟨w.heap.size, 1, none⟩ (.slice so sn sc))) := ((HB5.out.setCell (by show w.heap.size ≤ w.heap.size + 1; omega) _).setCell (Nat.le_refl _) _).setCell (Nat.le_refl _) _
      have HP6 := hid (HP5.out.touch HT6.out (by decide) (by decide))
      have HO6 := hid (HT6.out.own HO5.out (by decide))
      have HR6 := hid (bx_setq (bx_setq (HR5.out.other ⟨w.heap.size + 1, 0, none⟩ (.slice (some ⟨w.heap.size + 1 + 1, 0, none⟩) us.length (us.length + 1)) (by show w.heap.size + 1 ≠ w.heap.size; omega)) 0 (.slice (some ⟨w.heap.size + 1 + 1, 0, none⟩) us.length (us.length + 1))) 1 (.slice so sn sc))
      clear HT6 HP5 HO5 HC5 HR5 HB5
      go_wp2
      have z0 := HR6.out.cell 0 _ rfl
      have z1 := HR6.out.cell 1 _ rfl
      refine bodyPost_ret (v := .agg #[.slice (some ⟨w.heap.size + 1 + 1, 0, none⟩) us.length (us.length + 1), .slice so sn sc]) (by simp [results, Tryz.results10, go_sem, z0, z1]) rfl ⟨w.heap.size + 1 + 1, .slice so sn sc, dl, by omega, rfl, HP6.out, by rw [← HSN.out]; exact HO6.out, HB6.out⟩
end Go.Proofs.YtigokanoflkinaaGreatDoor

/- portionlaw whole. (Laid by mkwhole.py.) -/
namespace Go.Proofs.YtigokanoflkinaaGreatDoor
set_option linter.unusedSimpArgs false
set_option linter.unusedVariables false
open Go.RowKit Por

theorem Blk.arr {w : World} {d : Nat} {xs : List Int} (h : Blk w d (xs ++ [7, 7])) (hn : xs.length + 2 ≤ maxLen) : Arr w 1 (some ⟨d, 0, none⟩) xs.length (xs.length + 2) (ints xs) := by
  refine ⟨by rw [ints_len], by omega, hn, fun _ => ⟨d, 0, rfl, h.lt⟩, ?_⟩
  intro b o e j v hv m u hu
  cases e
  have hj : j < xs.length := by have := (List.getElem?_eq_some_iff.1 hv).1; rwa [ints_len] at this
  rw [ints_get _ hj] at hv
  cases hv
  match m with
  | 0 =>
    have := h.cell j (by simp; omega)
    rw [lm_app_left hj] at this
    simp only [Nat.mul_one, Nat.add_zero, Nat.zero_add]
    rw [this]; exact hu
  | m + 1 => simp [Value.cells] at hu
/-- user i of the crowd: its cells, and its demands' place -/
theorem Crowd.get {w : World} {us : List Usr} {og : Nat} {dl : List Value} (h : Crowd w us og dl) {i : Nat} (hi : i < us.length) : ∃ d, w.cell? ⟨og, i * 3, none⟩ = some (hs d (ug us i).dem.length) ∧ w.cell? ⟨og, i * 3 + 1, none⟩ = some (.int .i64 (ug us i).wt) ∧ w.cell? ⟨og, i * 3 + 2, none⟩ = some (.int .i64 (ug us i).cap) ∧ Blk w d ((ug us i).dem ++ [7, 7]) ∧ dl[i]? = some (hs d (ug us i).dem.length) := by
  obtain ⟨⟨h0, arr, h1, h2, h3⟩, _⟩ := h
  obtain ⟨d, g0, g1, g2, g3, g4, g5⟩ := h3 i hi
  exact ⟨d, (cell_of_row w og _ _ _ _ h1).trans g1, (cell_of_row w og _ _ _ _ h1).trans g2, (cell_of_row w og _ _ _ _ h1).trans g3, g4, g5⟩
theorem Crowd.len {w : World} {us : List Usr} {og : Nat} {dl : List Value} (h : Crowd w us og dl) : dl.length = us.length := h.1.1
/-- a list's elements, one cell each -/
theorem own_get {base T n : Nat} {w : World} {ho : Option Addr} {hc : Nat} {xs : List Value} (h : w.ownsRow base T 1 (.slice ho n hc) n xs) {i : Nat} {v : Value} (hv : xs[i]? = some v) : ∃ b, ho = some ⟨b, 0, none⟩ ∧ b < w.heap.size ∧ w.cell? ⟨b, 0 + i, none⟩ = some v := by
  have hi : i < xs.length := (List.getElem?_eq_some_iff.1 hv).1
  have hl := h.1
  rcases h.2 with ⟨e, h0⟩ | ⟨g, cap, cur, e, h2, h3, h4, h5, h6, h7⟩
  · omega
  · cases e
    refine ⟨g, rfl, (Array.getElem?_eq_some_iff.1 h3).1, ?_⟩
    rw [Nat.zero_add, cell_of_row w g i _ _ _ h3, ← Array.getElem?_toList]
    have e1 : cur.toList[i]? = (cur.toList.take (n * 1))[i]? := by rw [List.getElem?_take, if_pos (by omega)]
    rw [e1, h7]; exact hv

set_option maxHeartbeats 1000000 in
set_option maxRecDepth 20000 in
theorem lwhole_any (ao : Option Addr) (n cap : Nat) (us : List Usr) (og : Nat) (dv : Value) (dl : List Value) (base : Nat) (w : World) (hu : Users w ao n cap us) (hcr : Crowd w us og dl) (hdo : w.ownsRow base 22 1 dv dl.length dl) (hn : n ≤ 3518437208882) (hdl : ∀ i, i < us.length → (ug us i).dem.length ≤ 17592186044416) :
    Calls Tryz.prog 14 #[.agg #[.slice (some ⟨og, 0, none⟩) n (n + 1), dv], .slice ao n cap] w fun e w' => e = .returned (.bool true) ∧ Below w.heap.size w w' := by
  have hul := hu.1
  subst hul
  obtain ⟨ho, hc, rfl⟩ := own_shape hdo
  have hdll := hcr.len
  rw [hdll] at hdo ⊢
  have HU := hid hu
  have HCR := hid hcr
  have HDO := hid hdo
  have HDL := hid hdl
  clear hu hcr hdo hdl
  have HB_0 := hid (Below.refl w.heap.size w)
  have XC_6 := hid (bx_new w #[.slice (some ⟨og, 0, none⟩) us.length (us.length + 1), .slice ho us.length hc] 31)
  have HB_6 : Hid (Below w.heap.size w (w.alloc (.cells #[.slice (some ⟨og, 0, none⟩) us.length (us.length + 1), .slice ho us.length hc] 31))) := HB_0.out.alloc HB_0.out.size (.cells #[.slice (some ⟨og, 0, none⟩) us.length (us.length + 1), .slice ho us.length hc] 31)
  have leC : w.heap.size ≤ w.heap.size := HB_0.out.size
  clear HB_0
  go_enter Tryz.func14, Tryz.ntmps14
  have i3 : (us.length : Int) + 1 ≤ ((us.length + 1 : Nat) : Int) := by omega
  have ltC := XC_6.out.lt
  have cC0 := XC_6.out.cell 0 _ rfl
  have cC1 := XC_6.out.cell 1 _ rfl
  go_wp2
  go_loopg [7] us.length (fun gg ix wr => ∃ k : Nat, gg = us.length - k ∧ k ≤ us.length ∧ ix = .int .i64 k ∧ Hid (Bx wr w.heap.size #[.slice (some ⟨og, 0, none⟩) us.length (us.length + 1), .slice ho us.length hc] 31) ∧ Hid (Below w.heap.size w wr))
  case atStart => exact ⟨0, rfl, Nat.zero_le _, rfl, XC_6.out, HB_6.out⟩
  case round =>
    clear ltC cC0 cC1
    clear XC_6 HB_6
    obtain ⟨k, hgk, hk, rfl, hX, hB⟩ := hrel
    by_cases hlt : k < us.length
    · have hkn : (k : Int) < (us.length : Int) := by omega
      have hkm : (k : Int) < ((us.length + 1 : Nat) : Int) := by omega
      have hkp : (k : Int) < (us.length : Int) + 1 := by omega
      obtain ⟨uba, uoa, daa, dna, dca, haoa, hbla, a0, a1, a2, hda⟩ := (HU.out.below hB.out).get hlt
      obtain ⟨da2, ac0, ac1, ac2, ak, al⟩ := (HCR.out.below hB.out).get hlt
      have aog := (HCR.out.below hB.out).1.lt
      subst haoa
      have hdn := hda.len
      rw [ints_len] at hdn
      subst hdn
      have HDA := hid hda
      have HKA := hid ak
      clear hda ak a1 a2 ac1 ac2 al
      go_upto_region 6 with fail
      unfold hs at ac0
      have hdm := HDL.out k hlt
      have SK : Hid (∀ U, Below wr.heap.size wr U → U.cell? ⟨og, k * 3, none⟩ = some (.slice (some ⟨da2, 0, none⟩) (ug us k).dem.length ((ug us k).dem.length + 2)) ∧ U.cell? ⟨uba, uoa + k * 3, none⟩ = some (.slice daa (ug us k).dem.length dca)) := fun U h => ⟨(h.cell (p := ⟨og, k * 3, none⟩) aog).trans ac0, (h.cell (p := ⟨uba, uoa + k * 3, none⟩) hbla).trans a0⟩
      have KC0 : Hid (∀ U, Below wr.heap.size wr U → Calls Tryz.prog 27 #[.slice (some ⟨da2, 0, none⟩) (ug us k).dem.length ((ug us k).dem.length + 2), .slice daa (ug us k).dem.length dca] U (fun e w' => e = .returned (.bool true) ∧ Below wr.heap.size wr w')) := fun U hU => (reads_any (some ⟨da2, 0, none⟩) daa (ug us k).dem.length ((ug us k).dem.length + 2) (ug us k).dem.length dca (ug us k).dem U ((Blk.arr HKA.out (by unfold maxLen; omega)).below hU) (HDA.out.below hU) (by omega)).mono (fun e w' ⟨h1, h3⟩ => ⟨h1, hU.trans (h3.mono hU.size)⟩)
      have dac0 : wr.drew.cell? ⟨og, k * 3, none⟩ = some (.slice (some ⟨da2, 0, none⟩) (ug us k).dem.length ((ug us k).dem.length + 2)) := ((Below.refl wr.heap.size wr).drew.cell (p := ⟨og, k * 3, none⟩) aog).trans ac0
      have da0 : wr.drew.cell? ⟨uba, uoa + k * 3, none⟩ = some (.slice daa (ug us k).dem.length dca) := ((Below.refl wr.heap.size wr).drew.cell (p := ⟨uba, uoa + k * 3, none⟩) hbla).trans a0
      go_region_held3 (fun w' => w'.cell? ⟨og, k * 3, none⟩ = some (.slice (some ⟨da2, 0, none⟩) (ug us k).dem.length ((ug us k).dem.length + 2)) ∧ w'.cell? ⟨uba, uoa + k * 3, none⟩ = some (.slice daa (ug us k).dem.length dca)) (first | exact SK.out _ (Below.refl _ _).drew | exact SK.out _ hb21g0)
        (first | (go_at_call 27; refine (KC0.out _ ?hU).mono ?_; (case hU => exact (Below.refl _ _).drew); rintro e21g0 w21g0 ⟨rfl, hb21g0⟩))
      clear SK KC0 dac0 da0
      have XC_22 := hid (hX.out.keep hb21g0)
      have HB_22 : Hid (Below w.heap.size w w21g0) := hB.out.trans (hb21g0.mono hB.out.size)
      clear hX hB
      clear hb21g0
      clear a0 ac0 HDA HKA
      obtain ⟨ubb, uob, dab, dnb, dcb, haob, hblb, b0, b1, b2, hdb⟩ := (HU.out.below HB_22.out).get hlt
      obtain ⟨db2, bc0, bc1, bc2, bk, bl⟩ := (HCR.out.below HB_22.out).get hlt
      have bog := (HCR.out.below HB_22.out).1.lt
      cases haob
      have hdnb := hdb.len
      rw [ints_len] at hdnb
      subst hdnb
      have HDB := hid hdb
      have HKB := hid bk
      obtain ⟨lb, hlo, hlbl, lc⟩ := own_get (own_below HDO.out HB_22.out) bl
      subst hlo
      rw [Nat.zero_add] at lc
      unfold hs at lc
      clear hdb bk b1 b2 bc0 bc1 bc2 bl
      have ltC := XC_22.out.lt
      have cC0 := XC_22.out.cell 0 _ rfl
      have cC1 := XC_22.out.cell 1 _ rfl
      go_upto_region 7 with fail
      have SK : Hid (∀ U, Below w21g0.heap.size w21g0 U → U.cell? ⟨w.heap.size, 1, none⟩ = some (.slice (some ⟨lb, 0, none⟩) us.length hc) ∧ U.cell? ⟨lb, k, none⟩ = some (.slice (some ⟨db2, 0, none⟩) (ug us k).dem.length ((ug us k).dem.length + 2)) ∧ U.cell? ⟨uba, uoa + k * 3, none⟩ = some (.slice dab (ug us k).dem.length dcb)) := fun U h => ⟨(h.cell (p := ⟨w.heap.size, 1, none⟩) ltC).trans cC1, (h.cell (p := ⟨lb, k, none⟩) hlbl).trans lc, (h.cell (p := ⟨uba, uoa + k * 3, none⟩) hblb).trans b0⟩
      have KC0 : Hid (∀ U, Below w21g0.heap.size w21g0 U → Calls Tryz.prog 13 #[.slice (some ⟨db2, 0, none⟩) (ug us k).dem.length ((ug us k).dem.length + 2), .slice dab (ug us k).dem.length dcb] U (fun e w' => e = .returned (.bool true) ∧ Below w21g0.heap.size w21g0 w')) := fun U hU => (intact_any db2 dab (ug us k).dem.length dcb (ug us k).dem U (HKB.out.below hU HKB.out.lt) (HDB.out.below hU) (by omega)).mono (fun e w' ⟨h1, h3⟩ => ⟨h1, hU.trans (h3.mono hU.size)⟩)
      have dcC1 : w21g0.drew.cell? ⟨w.heap.size, 1, none⟩ = some (.slice (some ⟨lb, 0, none⟩) us.length hc) := ((Below.refl w21g0.heap.size w21g0).drew.cell (p := ⟨w.heap.size, 1, none⟩) ltC).trans cC1
      have dlc : w21g0.drew.cell? ⟨lb, k, none⟩ = some (.slice (some ⟨db2, 0, none⟩) (ug us k).dem.length ((ug us k).dem.length + 2)) := ((Below.refl w21g0.heap.size w21g0).drew.cell (p := ⟨lb, k, none⟩) hlbl).trans lc
      have db0 : w21g0.drew.cell? ⟨uba, uoa + k * 3, none⟩ = some (.slice dab (ug us k).dem.length dcb) := ((Below.refl w21g0.heap.size w21g0).drew.cell (p := ⟨uba, uoa + k * 3, none⟩) hblb).trans b0
      go_region_held3 (fun w' => w'.cell? ⟨w.heap.size, 1, none⟩ = some (.slice (some ⟨lb, 0, none⟩) us.length hc) ∧ w'.cell? ⟨lb, k, none⟩ = some (.slice (some ⟨db2, 0, none⟩) (ug us k).dem.length ((ug us k).dem.length + 2)) ∧ w'.cell? ⟨uba, uoa + k * 3, none⟩ = some (.slice dab (ug us k).dem.length dcb)) (first | exact SK.out _ (Below.refl _ _).drew | exact SK.out _ hb23g0)
        (first | (go_at_call 13; refine (KC0.out _ ?hU).mono ?_; (case hU => exact (Below.refl _ _).drew); rintro e23g0 w23g0 ⟨rfl, hb23g0⟩))
      clear SK KC0 dcC1 dlc db0
      have XC_24 := hid (XC_22.out.keep hb23g0)
      have HB_24 : Hid (Below w.heap.size w w23g0) := HB_22.out.trans (hb23g0.mono HB_22.out.size)
      clear XC_22 HB_22
      clear hb23g0
      clear ltC cC0 cC1
      clear b0 lc hlbl HDB HKB
      obtain ⟨ube, uoe, dae, dne, dce, haoe, hble, e0, e1, e2, hde⟩ := (HU.out.below HB_24.out).get hlt
      obtain ⟨de, ec0, ec1, ec2, ek, el⟩ := (HCR.out.below HB_24.out).get hlt
      have eog := (HCR.out.below HB_24.out).1.lt
      cases haoe
      clear hde ek el ec0 e0
      generalize (ug us k).wt = wt at e1 ec1
      generalize (ug us k).cap = cp at e2 ec2
      have t0 : (wt != wt) = false := by simp
      have t1 : (cp != cp) = false := by simp
      go_upto_region 8 with fail
      go_quiet (fail)
      go_wp2
      go_roundg (us.length - (k + 1))
      case measure => omega
      case rel => exact ⟨k + 1, rfl, by omega, by go_num, XC_24.out.below (below_drewN (Below.refl _ w23g0) _) XC_24.out.lt, below_drewN HB_24.out _⟩
    · obtain rfl : k = us.length := by omega
      obtain ⟨_, n0, n1, n2⟩ := HCR.out.below hB.out
      have nl := (HCR.out.below hB.out).1.lt
      have i1 : (us.length : Int) < ((us.length + 1 : Nat) : Int) := by omega
      have i2 : (us.length : Int) < (us.length : Int) + 1 := by omega
      have hnil : ∀ w, (binOp .eql 22 (.slice none 0 0) (.slice none 0 0)).run Tryz.prog w = .ok (.bool true) w := fun w => run_eql_nil_slice w 22 3 none 0 0 0 0 Tryz.underlying22
      go_wp2
      go_ret
      exact ⟨rfl, hB.out⟩

end Go.Proofs.YtigokanoflkinaaGreatDoor
