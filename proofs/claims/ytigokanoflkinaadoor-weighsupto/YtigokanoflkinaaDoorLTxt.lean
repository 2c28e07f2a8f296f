/- portionlaw texts, same: texts as a caller hands them in. -/
import Derived.Test.YtigokanoflkinaaDoorLHand
import Derived.Test.YtigokanoflkinaaDoorWRall
namespace Go.Proofs.YtigokanoflkinaaDoor
set_option linter.unusedSimpArgs false
set_option linter.unusedVariables false
open Go.RowKit Por

/-- block g holds these texts, all of it -/
def SBlk (w : World) (g : Nat) (bs : List ByteArray) : Prop := w.heap[g]? = some (.cells (bs.map Value.string).toArray 9 (0, 0))
theorem SBlk.lt {w : World} {g : Nat} {bs : List ByteArray} (h : SBlk w g bs) : g < w.heap.size := (Array.getElem?_eq_some_iff.1 h).1
theorem SBlk.cell {w : World} {g : Nat} {bs : List ByteArray} (h : SBlk w g bs) (j : Nat) (hj : j < bs.length) : w.cell? ⟨g, j, none⟩ = some (.string (tx bs j)) := by
  rw [cell_of_row w g j _ _ _ h]
  simp [tx, hj]
theorem SBlk.frozen {w : World} {g : Nat} {bs : List ByteArray} (h : SBlk w g bs) (j : Nat) : w.frozen? ⟨g, j, none⟩ = false := frozen_of_row w g j _ _ h
theorem SBlk.set {w : World} {g : Nat} {bs : List ByteArray} (h : SBlk w g bs) (j : Nat) (v : ByteArray) : SBlk (w.setCell ⟨g, j, none⟩ (.string v)) g (bs.set j v) := by
  unfold SBlk
  rw [heap_setCell_same w g j _ _ _ h]
  simp [List.map_set]
theorem SBlk.below {w w' : World} {g : Nat} {bs : List ByteArray} (h : SBlk w g bs) (hb : Below w.heap.size w w') : SBlk w' g bs := (hb.block g h.lt).trans h
theorem tx_app {xs ys : List ByteArray} {j : Nat} (h : j < xs.length) : tx (xs ++ ys) j = tx xs j := by
  unfold tx; rw [List.getD_eq_getElem?_getD, List.getD_eq_getElem?_getD, List.getElem?_append_left h]
theorem tx_end (xs : List ByteArray) (y : ByteArray) : tx (xs ++ [y]) xs.length = y := by
  unfold tx; rw [List.getD_eq_getElem?_getD, List.getElem?_append_right (Nat.le_refl _)]; simp
theorem SBlk.arr {w : World} {g : Nat} {bs : List ByteArray} {y : ByteArray} (h : SBlk w g (bs ++ [y])) (hn : bs.length + 1 ≤ maxLen) : Arr w 1 (some ⟨g, 0, none⟩) bs.length (bs.length + 1) (strs bs) := by
  refine ⟨strs_len bs, by omega, hn, fun _ => ⟨g, 0, rfl, h.lt⟩, ?_⟩
  intro b o e j v hv m u hu
  cases e
  have hj : j < bs.length := by have := (List.getElem?_eq_some_iff.1 hv).1; rwa [strs_len] at this
  rw [strs_get _ hj] at hv
  cases hv
  match m with
  | 0 =>
    have := h.cell j (by simp; omega)
    rw [tx_app hj] at this
    simp only [Nat.mul_one, Nat.add_zero, Nat.zero_add]
    rw [this]; exact hu
  | m + 1 => simp [Value.cells] at hu
theorem Tryd.infoStrs : (Tryd.prog.info? 9).map (fun i => (i.zero, i.size, i.bytes)) = some (some (.string ⟨#[]⟩), 1, 16) := by kernel_rfl
theorem Tryd.sizeStr : (Tryd.prog.info? 9).map (·.size) = some 1 := by kernel_rfl
/-- make([]string, n) -/
theorem wpList_make_strs (w : World) {ops : Array Oper} {rest : List Oper} {o : Oper} {a : Act} {Q : Exit → Act → World → Prop}
    (hg : o.guard = none) (l c : Operand) (hop : o.op = Op.makeSlice 31 l c) (L C : Int) (n : Nat) (hl : a.eval l = .int .i64 L) (hc : a.eval c = .int .i64 C) (hL : L = (n : Int)) (hC : C = (n : Int)) (hn : n ≤ 2000000000)
    (hK : ∀ w', SBlk w' w.heap.size (List.replicate n ⟨#[]⟩) → Below w.heap.size w w' → wpList Tryd.prog ops Q rest (a.put o.dst (.slice (some ⟨w.heap.size, 0, none⟩) n n)) w') :
    wpList Tryd.prog ops Q (o :: rest) a w := by
  obtain ⟨i, hi, hz0, hz1, hz2⟩ := info_parts Tryd.infoStrs
  refine wpList_make_full w hg l c 31 hop w.heap.size 9 i (.string ⟨#[]⟩) 1 Tryd.underlying31 hi hz0 hz1 .i64 .i64 L C n hl hc hL hC (by rw [hz2]; omega) (by unfold maxLen; omega) (Nat.le_refl _) ?_
  intro w' ho hgr
  have hb : Below w.heap.size w w' := (Below.refl _ _).grown hgr (Nat.le_refl _) (fun k e => by cases e)
  rcases ho.2 with ⟨h', _⟩ | ⟨g, cap, cur, h', _, hh, h1, h2, h3, h4⟩
  · cases h'
  · simp only [Value.slice.injEq, Option.some.injEq, Addr.mk.injEq, and_true, true_and] at h'
    obtain ⟨rfl, rfl⟩ := h'
    have e : cur = ((List.replicate n (⟨#[]⟩ : ByteArray)).map Value.string).toArray := by
      apply Array.toList_inj.1
      rw [Nat.mul_one] at h4 h3
      rw [List.take_of_length_le (by rw [Array.length_toList]; omega)] at h4
      rw [h4, show (Value.string ⟨#[]⟩).cells = #[.string ⟨#[]⟩] from rfl, toList_madeCells_one]
      simp
    rw [e] at hh
    exact hK w' hh hb
/-- copy(out, l): out is longer -/
theorem wpList_copy_strs (w0 w : World) {ops : Array Oper} {rest : List Oper} {o : Oper} {a : Act} {Q : Exit → Act → World → Prop} (hgd : o.guard = none) (d s : Operand)
    (ho : o.op = .call { callee := .builtin .copy, args := #[d, s], argTypes := #[31, 31] }) (g m n cap : Nat) (ao : Option Addr) (zs xs : List ByteArray)
    (hd : a.eval d = .slice (some ⟨g, 0, none⟩) m m) (hs : a.eval s = .slice ao n cap) (hz : SBlk w g zs) (hzl : zs.length = m) (hr : Arr w 1 ao n cap (strs xs)) (hnm : n ≤ m) (hb : Below w0.heap.size w0 w) (hle : w0.heap.size ≤ g)
    (h : ∀ w', Hid (SBlk w' g (xs ++ zs.drop n)) → Below w0.heap.size w0 w' → wpList Tryd.prog ops Q rest (a.put o.dst (goInt n)) w') : wpList Tryd.prog ops Q (o :: rest) a w := by
  have hl := hr.len
  rw [strs_len] at hl
  subst hl
  have e : (strs xs).length = Nat.min xs.length m := by rw [strs_len]; exact (Nat.min_eq_left hnm).symm
  refine wpList_copy_splice hgd d s 31 31 ho 9 Tryd.underlying31 Tryd.sizeStr _ _ _ _ _ _ hd hs g 0 (zs.map Value.string) 9 hz (strs xs) e ?_ (by rw [strs_len, List.length_map]; omega) ?_ w0.heap.size w0 hb hle ?_
  · intro h0
    rw [strs_len] at h0
    obtain ⟨b, of, rfl, hlt⟩ := hr.head h0
    refine ⟨rfl, _, rfl, fun j v hv => ?_⟩
    have hj : j < xs.length := by have := (List.getElem?_eq_some_iff.1 hv).1; rwa [strs_len] at this
    have := hr.cell b of rfl j v hv 0 v (by
      rw [strs_get xs hj] at hv; cases hv; rfl)
    have hadd : (⟨b, of, none⟩ : Addr).add j = ⟨b, of + j, none⟩ := by unfold Addr.add; split <;> simp_all
    rw [hadd]
    simpa using this
  · intro v hv
    unfold strs at hv
    obtain ⟨x, _, rfl⟩ := List.mem_map.1 hv
    rfl
  · intro w' hw hb'
    have e2 : goInt (strs xs).length = goInt xs.length := by rw [strs_len]
    rw [e2]
    refine h w' ?_ hb'
    have h9 := hw.out
    unfold Hid SBlk
    rw [h9]
    have e3 : splice (zs.map Value.string) 0 (strs xs) = (xs ++ zs.drop xs.length).map Value.string := by
      unfold splice
      simp [strs]
    rw [e3]
def bey : ByteArray := ⟨#[98, 101, 121, 111, 110, 100]⟩
theorem set_last {xs : List ByteArray} {a c : ByteArray} : (xs ++ [a]).set xs.length c = xs ++ [c] := by
  rw [List.set_append_right _ _ (Nat.le_refl _)]; simp

set_option maxHeartbeats 1000000 in
set_option maxRecDepth 20000 in
theorem texts_any (ao : Option Addr) (n cap : Nat) (ss : List ByteArray) (w : World) (hr : Arr w 1 ao n cap (strs ss)) (hn : n ≤ 1000000000) :
    Calls Tryd.prog 24 #[.slice ao n cap] w fun e w' => ∃ g, w.heap.size ≤ g ∧ e = .returned (.slice (some ⟨g, 0, none⟩) n (n + 1)) ∧ SBlk w' g (ss ++ [bey]) ∧ Below w.heap.size w w' := by
  have hl := hr.len
  rw [strs_len] at hl
  subst hl
  have HR := hid hr
  clear hr
  go_enter Tryd.func24, Tryd.ntmps24
  go_wp2_with (at_make; refine wpList_make_strs _ rfl _ _ rfl _ _ (ss.length + 1) rfl rfl (by simp) (by simp) (by omega) ?_)
  intro w1 hz hb
  have HZ := hid hz
  have HB := hid hb
  clear hz hb
  go_wp2_with (refine wpList_copy_strs w _ rfl (.tmp 10) (.tmp 11) rfl w.heap.size (ss.length + 1) ss.length cap ao (List.replicate (ss.length + 1) ⟨#[]⟩) ss rfl rfl HZ.out (by simp) (HR.out.below HB.out) (by omega) HB.out (Nat.le_refl _) ?_)
  intro w2 hz9 hb2
  have hz2 : Hid (SBlk w2 w.heap.size (ss ++ [⟨#[]⟩])) := by simpa [Hid, List.replicate] using hz9.out
  have HB2 := hid hb2
  clear HZ HB hz9 hb2 HR
  have c0 : w2.cell? ⟨w.heap.size, ss.length, none⟩ = some (.string ⟨#[]⟩) := by
    rw [hz2.out.cell ss.length (by simp), tx_end]
  have z0 := hz2.out.frozen ss.length
  have lt := hz2.out.lt
  have i0 : (ss.length : Int) < ((ss.length + 1 : Nat) : Int) := by omega
  have i1 : (ss.length : Int) < (ss.length : Int) + 1 := by omega
  have HF : Hid (SBlk (w2.setCell ⟨w.heap.size, ss.length, none⟩ (.string bey)) w.heap.size (ss ++ [bey])) := by
    have h1 := hz2.out.set ss.length bey
    rw [set_last] at h1; exact h1
  have HBF : Hid (Below w.heap.size w (w2.setCell ⟨w.heap.size, ss.length, none⟩ (.string bey))) := HB2.out.setCell (Nat.le_refl _) _
  clear hz2 HB2
  go_wp2
  go_ret
  exact ⟨_, Nat.le_refl _, rfl, HF.out, HBF.out⟩

set_option maxHeartbeats 1000000 in
set_option maxRecDepth 20000 in
theorem same_any (g : Nat) (ao : Option Addr) (n cap : Nat) (ss : List ByteArray) (w : World) (hb : SBlk w g (ss ++ [bey])) (hr : Arr w 1 ao n cap (strs ss)) (hn : n ≤ 1000000000) :
    Calls Tryd.prog 28 #[.slice (some ⟨g, 0, none⟩) n (n + 1), .slice ao n cap] w fun e w' => e = .returned (.bool true) ∧ Below w.heap.size w w' := by
  have hl := hr.len
  rw [strs_len] at hl
  subst hl
  have HR := hid hr
  have HB := hid hb
  clear hr hb
  have i2 : (ss.length : Int) + 1 ≤ ((ss.length + 1 : Nat) : Int) := by omega
  go_enter Tryd.func28, Tryd.ntmps28
  go_wp2
  go_loopg [7] ss.length (fun gg ix wr => ∃ k : Nat, gg = ss.length - k ∧ k ≤ ss.length ∧ ix = .int .i64 k ∧ Hid (Below w.heap.size w wr))
  case atStart => exact ⟨0, rfl, Nat.zero_le _, rfl, Below.refl _ _⟩
  case round =>
    obtain ⟨k, hgk, hk, rfl, hB⟩ := hrel
    have hgl : g < wr.heap.size := Nat.lt_of_lt_of_le HB.out.lt hB.out.size
    have HBr := hid (HB.out.below hB.out)
    by_cases hlt : k < ss.length
    · obtain ⟨b, o, rfl, hbl⟩ := (HR.out.below hB.out).head (by omega)
      have c0 := (HR.out.below hB.out).str rfl hlt
      have c1 := HBr.out.cell k (by simp; omega)
      rw [tx_app hlt] at c1
      have i0 : (k : Int) < (ss.length : Int) := by omega
      have i1 : (k : Int) < ((ss.length + 1 : Nat) : Int) := by omega
      have i3 : (k : Int) < (ss.length : Int) + 1 := by omega
      generalize tx ss k = x at c0 c1
      have t0 : (x.toList == x.toList) = true := by simp
      have t1 : (!x.toList == x.toList) = false := by simp
      go_upto_region 6 with fail
      go_quiet (fail)
      go_wp2
      go_roundg (ss.length - (k + 1))
      case measure => omega
      case rel => exact ⟨k + 1, rfl, by omega, by go_num, below_drewN hB.out _⟩
    · obtain rfl : k = ss.length := by omega
      have c0 : wr.cell? ⟨g, ss.length, none⟩ = some (.string ⟨#[98, 101, 121, 111, 110, 100]⟩) := by
        rw [HBr.out.cell ss.length (by simp), tx_end]; rfl
      have i0 : (ss.length : Int) < ((ss.length + 1 : Nat) : Int) := by omega
      have i1 : (ss.length : Int) < (ss.length : Int) + 1 := by omega
      go_wp2
      go_ret
      exact ⟨rfl, hB.out⟩
end Go.Proofs.YtigokanoflkinaaDoor
