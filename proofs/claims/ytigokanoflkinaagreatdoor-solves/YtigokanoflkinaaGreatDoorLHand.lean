/- portionlaw handed, intact, reads: lists of numbers as a caller hands them in. -/
import Derived.Test.YtigokanoflkinaaGreatDoorFFrac
import Derived.Laws.CopyOwn
import Derived.Deep.RegionHeld3
import Derived.Deep.DeepCutAuto
namespace Go.Proofs.YtigokanoflkinaaGreatDoor
set_option linter.unusedSimpArgs false
set_option linter.unusedVariables false
open Go.RowKit Por

/-- make([]int, n), of any length that there may be -/
theorem wpList_make_big (w : World) {ops : Array Oper} {rest : List Oper} {o : Oper} {a : Act} {Q : Exit → Act → World → Prop}
    (hg : o.guard = none) (l c : Operand) (hop : o.op = Op.makeSlice 22 l c) (L C : Int) (n : Nat) (hl : a.eval l = .int .i64 L) (hc : a.eval c = .int .i64 C) (hL : L = (n : Int)) (hC : C = (n : Int)) (hn : n ≤ 35184372088832)
    (hK : ∀ w', Blk w' w.heap.size (List.replicate n 0) → Below w.heap.size w w' → wpList Tryz.prog ops Q rest (a.put o.dst (.slice (some ⟨w.heap.size, 0, none⟩) n n)) w') :
    wpList Tryz.prog ops Q (o :: rest) a w := by
  obtain ⟨i, hi, hz0, hz1, hz2⟩ := info_parts Tryz.infoInt
  refine wpList_make_full w hg l c 22 hop w.heap.size 3 i (.int .i64 0) 1 Tryz.underlying22 hi hz0 hz1 .i64 .i64 L C n hl hc hL hC (by rw [hz2]; omega) (by unfold maxLen; omega) (Nat.le_refl _) ?_
  intro w' ho hgr
  have hb : Below w.heap.size w w' := (Below.refl _ _).grown hgr (Nat.le_refl _) (fun k e => by cases e)
  rcases ho.2 with ⟨h', _⟩ | ⟨g, cap, cur, h', _, hh, h1, h2, h3, h4⟩
  · cases h'
  · simp only [Value.slice.injEq, Option.some.injEq, Addr.mk.injEq, and_true, true_and] at h'
    obtain ⟨rfl, rfl⟩ := h'
    have e : cur = ((List.replicate n (0 : Int)).map (Value.int .i64)).toArray := by
      apply Array.toList_inj.1
      rw [Nat.mul_one] at h4 h3
      rw [List.take_of_length_le (by rw [Array.length_toList]; omega)] at h4
      rw [h4, show (Value.int .i64 0).cells = #[.int .i64 0] from rfl, toList_madeCells_one]
      simp
    rw [e] at hh
    exact hK w' hh hb
/-- copy(out, l): out is longer -/
theorem wpList_copy_arr (w0 w : World) {ops : Array Oper} {rest : List Oper} {o : Oper} {a : Act} {Q : Exit → Act → World → Prop} (hgd : o.guard = none) (d s : Operand)
    (ho : o.op = .call { callee := .builtin .copy, args := #[d, s], argTypes := #[22, 22] }) (g m n cap : Nat) (ao : Option Addr) (zs xs : List Int)
    (hd : a.eval d = .slice (some ⟨g, 0, none⟩) m m) (hs : a.eval s = .slice ao n cap) (hz : Blk w g zs) (hzl : zs.length = m) (hr : Arr w 1 ao n cap (ints xs)) (hnm : n ≤ m) (hb : Below w0.heap.size w0 w) (hle : w0.heap.size ≤ g)
    (h : ∀ w', Hid (Blk w' g (xs ++ zs.drop n)) → Below w0.heap.size w0 w' → wpList Tryz.prog ops Q rest (a.put o.dst (goInt n)) w') : wpList Tryz.prog ops Q (o :: rest) a w := by
  have hl := hr.len
  rw [ints_len] at hl
  subst hl
  have e : (ints xs).length = Nat.min xs.length m := by rw [ints_len]; exact (Nat.min_eq_left hnm).symm
  refine wpList_copy_splice hgd d s 22 22 ho 3 Tryz.underlying22 Tryz.sizeInt _ _ _ _ _ _ hd hs g 0 (zs.map (Value.int .i64)) 3 hz (ints xs) e ?_ (by rw [ints_len, List.length_map]; omega) ?_ w0.heap.size w0 hb hle ?_
  · intro h0
    rw [ints_len] at h0
    obtain ⟨b, of, rfl, hlt⟩ := hr.head h0
    refine ⟨rfl, _, rfl, fun j v hv => ?_⟩
    have hj : j < xs.length := by have := (List.getElem?_eq_some_iff.1 hv).1; rwa [ints_len] at this
    have := hr.cell b of rfl j v hv 0 v (by
      rw [ints_get xs hj] at hv; cases hv; rfl)
    have hadd : (⟨b, of, none⟩ : Addr).add j = ⟨b, of + j, none⟩ := by unfold Addr.add; split <;> simp_all
    rw [hadd]
    simpa using this
  · intro v hv
    unfold ints at hv
    obtain ⟨x, _, rfl⟩ := List.mem_map.1 hv
    rfl
  · intro w' hw hb'
    have e2 : goInt (ints xs).length = goInt xs.length := by rw [ints_len]
    rw [e2]
    refine h w' ?_ hb'
    have h9 := hw.out
    unfold Hid Blk
    rw [h9]
    have e3 : splice (zs.map (Value.int .i64)) 0 (ints xs) = (xs ++ zs.drop xs.length).map (Value.int .i64) := by
      unfold splice
      simp [ints]
    rw [e3]

theorem blk_row {w : World} {g : Nat} {zs : List Int} (h : Blk w g zs) {j : Nat} (hj : j < zs.length) : w.cell? ⟨g, 0 + j, none⟩ = some (.int .i64 (lm zs j)) := by rw [Nat.zero_add]; exact h.cell j hj
theorem lm_app_left {xs ys : List Int} {j : Nat} (h : j < xs.length) : lm (xs ++ ys) j = lm xs j := by
  unfold lm; rw [List.getD_eq_getElem?_getD, List.getD_eq_getElem?_getD, List.getElem?_append_left h]
theorem lm_app_right {xs ys : List Int} (j : Nat) : lm (xs ++ ys) (xs.length + j) = lm ys j := by
  unfold lm; rw [List.getD_eq_getElem?_getD, List.getD_eq_getElem?_getD, List.getElem?_append_right (by omega)]; simp
theorem set_tail {xs : List Int} {a b c : Int} : (xs ++ [a, b]).set xs.length c = xs ++ [c, b] := by
  rw [List.set_append_right _ _ (Nat.le_refl _)]; simp
theorem set_tail2 {xs : List Int} {a b c : Int} : (xs ++ [a, b]).set (xs.length + 1) c = xs ++ [a, c] := by
  rw [List.set_append_right _ _ (by omega)]; simp

set_option maxHeartbeats 1000000 in
set_option maxRecDepth 20000 in
theorem handed_any (ao : Option Addr) (n cap : Nat) (xs : List Int) (w : World) (hr : Arr w 1 ao n cap (ints xs)) (hn : n ≤ 17592186044416) :
    Calls Tryz.prog 9 #[.slice ao n cap] w fun e w' => ∃ g, w.heap.size ≤ g ∧ e = .returned (.slice (some ⟨g, 0, none⟩) n (n + 2)) ∧ Blk w' g (xs ++ [7, 7]) ∧ Below w.heap.size w w' := by
  have hl := hr.len
  rw [ints_len] at hl
  subst hl
  have HR := hid hr
  clear hr
  go_enter Tryz.func9, Tryz.ntmps9
  go_wp2_with (at_make; refine wpList_make_big _ rfl _ _ rfl _ _ (xs.length + 2) rfl rfl (by simp) (by simp) (by omega) ?_)
  intro w1 hz hb
  have HZ := hid hz
  have HB := hid hb
  clear hz hb
  go_wp2_with (refine wpList_copy_arr w _ rfl (.tmp 10) (.tmp 11) rfl w.heap.size (xs.length + 2) xs.length cap ao (List.replicate (xs.length + 2) 0) xs rfl rfl HZ.out (by simp) (HR.out.below HB.out) (by omega) HB.out (Nat.le_refl _) ?_)
  intro w2 hz9 hb2
  have hz2 : Hid (Blk w2 w.heap.size (xs ++ [0, 0])) := by simpa [Hid, List.replicate] using hz9.out
  have HB2 := hid hb2
  clear HZ HB hz9 hb2 HR
  have c0 : w2.cell? ⟨w.heap.size, xs.length, none⟩ = some (.int .i64 0) := by
    rw [hz2.out.cell xs.length (by simp)]
    have := lm_app_right (xs := xs) (ys := [0, 0]) 0
    rw [Nat.add_zero] at this; rw [this]; rfl
  have c1 : w2.cell? ⟨w.heap.size, xs.length + 1, none⟩ = some (.int .i64 0) := by
    rw [hz2.out.cell (xs.length + 1) (by simp), lm_app_right (xs := xs) (ys := [0, 0]) 1]; rfl
  have z0 := hz2.out.frozen xs.length
  have z1 := hz2.out.frozen (xs.length + 1)
  have lt := hz2.out.lt
  have i0 : (xs.length : Int) < ((xs.length + 2 : Nat) : Int) := by omega
  have i1 : (xs.length : Int) + 1 < ((xs.length + 2 : Nat) : Int) := by omega
  have HF : Hid (Blk ((w2.setCell ⟨w.heap.size, xs.length, none⟩ (.int .i64 7)).setCell ⟨w.heap.size, xs.length + 1, none⟩ (.int .i64 7)) w.heap.size (xs ++ [7, 7])) := by
    have h1 := (hz2.out.set xs.length 7).set (xs.length + 1) 7
    rw [set_tail, set_tail2] at h1; exact h1
  have HBF : Hid (Below w.heap.size w ((w2.setCell ⟨w.heap.size, xs.length, none⟩ (.int .i64 7)).setCell ⟨w.heap.size, xs.length + 1, none⟩ (.int .i64 7))) := (HB2.out.setCell (Nat.le_refl _) _).setCell (Nat.le_refl _) _
  clear hz2 HB2
  go_wp2
  go_ret
  exact ⟨_, Nat.le_refl _, rfl, HF.out, HBF.out⟩

set_option maxHeartbeats 1000000 in
set_option maxRecDepth 20000 in
/-- intact: what was handed in reads as it did -/
theorem intact_any (g : Nat) (ao : Option Addr) (n cap : Nat) (xs : List Int) (w : World) (hb : Blk w g (xs ++ [7, 7])) (hr : Arr w 1 ao n cap (ints xs)) (hn : n ≤ 17592186044416) :
    Calls Tryz.prog 13 #[.slice (some ⟨g, 0, none⟩) n (n + 2), .slice ao n cap] w fun e w' => e = .returned (.bool true) ∧ Below w.heap.size w w' := by
  have hl := hr.len
  rw [ints_len] at hl
  subst hl
  have HR := hid hr
  have HB := hid hb
  clear hr hb
  have i2 : (xs.length : Int) + 2 ≤ ((xs.length + 2 : Nat) : Int) := by omega
  go_enter Tryz.func13, Tryz.ntmps13
  go_wp2
  go_loopg [7] xs.length (fun gg ix wr => ∃ k : Nat, gg = xs.length - k ∧ k ≤ xs.length ∧ ix = .int .i64 k ∧ Hid (Below w.heap.size w wr))
  case atStart => exact ⟨0, rfl, Nat.zero_le _, rfl, Below.refl _ _⟩
  case round =>
    obtain ⟨k, hgk, hk, rfl, hB⟩ := hrel
    have hgl : g < wr.heap.size := Nat.lt_of_lt_of_le HB.out.lt hB.out.size
    have HBr := hid (HB.out.below hB.out HB.out.lt)
    by_cases hlt : k < xs.length
    · obtain ⟨b, o, rfl, hbl⟩ := (HR.out.below hB.out).head (by omega)
      have c0 := (HR.out.below hB.out).int rfl hlt
      have c1 := blk_row HBr.out (j := k) (by simp; omega)
      rw [lm_app_left hlt, Nat.zero_add] at c1
      have i0 : (k : Int) < (xs.length : Int) := by omega
      have i1 : (k : Int) < ((xs.length + 2 : Nat) : Int) := by omega
      have i3 : (k : Int) < (xs.length : Int) + 2 := by omega
      generalize lm xs k = x at c0 c1
      have t0 : (x != x) = false := by simp
      go_upto_region 6 with fail
      go_quiet (fail)
      go_wp2
      go_roundg (xs.length - (k + 1))
      case measure => omega
      case rel => exact ⟨k + 1, rfl, by omega, by go_num, below_drewN hB.out _⟩
    · obtain rfl : k = xs.length := by omega
      have c0 : wr.cell? ⟨g, xs.length, none⟩ = some (.int .i64 7) := by
        rw [HBr.out.cell xs.length (by simp)]
        have := lm_app_right (xs := xs) (ys := [7, 7]) 0
        rw [Nat.add_zero] at this; rw [this]; rfl
      have c1 : wr.cell? ⟨g, xs.length + 1, none⟩ = some (.int .i64 7) := by
        rw [HBr.out.cell (xs.length + 1) (by simp), lm_app_right (xs := xs) (ys := [7, 7]) 1]; rfl
      have i0 : (xs.length : Int) < ((xs.length + 2 : Nat) : Int) := by omega
      have i1 : (xs.length : Int) + 1 < ((xs.length + 2 : Nat) : Int) := by omega
      go_wp2
      go_ret
      exact ⟨rfl, hB.out⟩

set_option maxHeartbeats 1000000 in
set_option maxRecDepth 20000 in
/-- reads: the same numbers -/
theorem reads_any (ao bo : Option Addr) (n cap m capb : Nat) (xs : List Int) (w : World) (hr : Arr w 1 ao n cap (ints xs)) (hs : Arr w 1 bo m capb (ints xs)) (hn : n ≤ 17592186044416) :
    Calls Tryz.prog 27 #[.slice ao n cap, .slice bo m capb] w fun e w' => e = .returned (.bool true) ∧ Below w.heap.size w w' := by
  have hl := hr.len
  rw [ints_len] at hl
  subst hl
  have hl := hs.len
  rw [ints_len] at hl
  subst hl
  have HR := hid hr
  have HS := hid hs
  clear hr hs
  go_enter Tryz.func27, Tryz.ntmps27
  go_wp2
  go_loopg [5] xs.length (fun gg ix wr => ∃ k : Nat, gg = xs.length - k ∧ k ≤ xs.length ∧ ix = .int .i64 k ∧ Hid (Below w.heap.size w wr))
  case atStart => exact ⟨0, rfl, Nat.zero_le _, rfl, Below.refl _ _⟩
  case round =>
    obtain ⟨k, hgk, hk, rfl, hB⟩ := hrel
    by_cases hlt : k < xs.length
    · obtain ⟨b, o, rfl, hbl⟩ := (HR.out.below hB.out).head (by omega)
      have c0 := (HR.out.below hB.out).int rfl hlt
      obtain ⟨b2, o2, rfl, hbl2⟩ := (HS.out.below hB.out).head (by omega)
      have c1 := (HS.out.below hB.out).int rfl hlt
      have i0 : (k : Int) < (xs.length : Int) := by omega
      generalize lm xs k = x at c0 c1
      have t0 : (x != x) = false := by simp
      go_upto_region 6 with fail
      go_quiet (fail)
      go_wp2
      go_roundg (xs.length - (k + 1))
      case measure => omega
      case rel => exact ⟨k + 1, rfl, by omega, by go_num, below_drewN hB.out _⟩
    · obtain rfl : k = xs.length := by omega
      go_wp2
      go_ret
      exact ⟨rfl, hB.out⟩
end Go.Proofs.YtigokanoflkinaaGreatDoor
