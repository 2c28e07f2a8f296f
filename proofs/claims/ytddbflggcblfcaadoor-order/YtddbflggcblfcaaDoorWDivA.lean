/- natural.isBelow, subtractTimes: a number taken off a window of another, so many times. -/
import Derived.Test.YtddbflggcblfcaaDoorWAdd
import Derived.Test.YtddbflggcblfcaaDoorLimbsC
namespace Go.Proofs.YtddbflggcblfcaaDoor
set_option linter.unusedSimpArgs false
set_option linter.unusedVariables false
open Go.RowKit Por

set_option maxHeartbeats 1000000 in
theorem isBelow_any (ro bo : Option Addr) (n capr capb : Nat) (R B : List Int) (w : World) (hr : Row w ro (n + 1) capr R) (hs : Row w bo n capb B) (hR : Lim R) (hB : Lim B) (hn : n ≤ 60000) :
    Calls Tryd.prog 160 #[.slice ro (n + 1 : Nat) capr, .slice bo n capb] w fun e w' => e = .returned (.bool (ltB (val R) (val B))) ∧ Below w.heap.size w w' := by
  have l1 := hr.len
  have l2 := hs.len
  obtain ⟨ba, oa, rfl, hla⟩ := hr.head (by omega)
  have HR := hid hr
  have HS := hid hs
  have d0 := hr.cell ba oa rfl n (by omega)
  obtain ⟨t0, t1⟩ := lim_getD hR n
  clear hr hs
  by_cases hpos : 0 < lm R n
  · have E := hid (below_pos R B n hR hB l1 l2 hpos)
    go_enter Tryd.func160, Tryd.ntmps160
    go_wp2
    go_ret
    exact ⟨by rw [E.out]; rfl, Below.refl _ _⟩
  · have hz := hid (show lm R n = 0 by omega)
    go_enter Tryd.func160, Tryd.ntmps160
    go_wp2
    go_loopw [5] (fun v wr => ∃ k : Nat, k ≤ n ∧ v = .int .i64 ((k : Int) - 1) ∧ Hid (∀ j, k ≤ j → j < n → lm R j = lm B j) ∧ Hid (Below w.heap.size w wr)) (fun v _ => (intOf v + 1).toNat)
    case atStart => exact ⟨n, Nat.le_refl _, rfl, fun j h1 h2 => by omega, Below.refl _ _⟩
    case round =>
      obtain ⟨k, hk, rfl, he, hb⟩ := hrel
      by_cases k0 : k = 0
      · subst k0
        have E := hid (below_eq R B n l1 l2 hz.out (fun j hj => he.out j (by omega) hj))
        go_wp2
        go_ret
        exact ⟨by rw [E.out]; rfl, hb.out⟩
      · obtain ⟨q, rfl⟩ : ∃ q, k = q + 1 := ⟨k - 1, by omega⟩
        obtain ⟨bb, ob, rfl, hlb⟩ := HS.out.head (by omega)
        have d1 : wr.cell? ⟨ba, oa + q, none⟩ = some (.int .i64 (lm R q)) := (hb.out.cell (p := ⟨ba, oa + q, none⟩) hla).trans (HR.out.cell ba oa rfl q (by omega))
        have d2 : wr.cell? ⟨bb, ob + q, none⟩ = some (.int .i64 (lm B q)) := (hb.out.cell (p := ⟨bb, ob + q, none⟩) hlb).trans (HS.out.cell bb ob rfl q (by omega))
        have hq1 : (0 : Int) ≤ ((q + 1 : Nat) : Int) - 1 := by omega
        by_cases heq : lm R q = lm B q
        · have hne : (lm R q != lm B q) = false := by simp [heq]
          have He := hid heq
          clear heq d0
          go_wp2
          go_quiet (fail)
          go_wp2
          go_roundw
          case rel => exact ⟨q, by omega, by go_num, fun j h1 h2 => (by
            by_cases e : j = q
            · rw [e]; exact He.out
            · exact he.out j (by omega) h2), below_drewN hb.out _⟩
          case measure => simp [intOf]
        · have hne : (lm R q != lm B q) = true := by simp [heq]
          have E := hid (below_ne R B n q hR hB l1 l2 hz.out (by omega) (fun j h1 h2 => he.out j (by omega) h2) heq)
          clear heq d0
          go_wp2
          go_quiet (fail)
          go_wp2
          go_quiet (fail)
          go_wp2
          go_ret
          exact ⟨by rw [E.out]; rfl, by first | exact below_drewN hb.out _ | exact below_drewN (below_drewN hb.out _) _⟩

theorem grown_set {w w' : World} {g : Nat} (h : w.grownBy w' (some g)) (j : Nat) (v : Value) : w.grownBy (w'.setCell ⟨g, j, none⟩ v) (some g) :=
  ⟨h.os, h.tape, h.output, by simpa [World.setCell] using h.size, fun k hk hne => (Below.heap_setCell w' _ v k (fun e => hne (by rw [e]))).trans (h.block k hk hne)⟩
theorem grown_trans {a b c : World} {g : Nat} (h : a.grownBy b (some g)) (k : b.grownBy c (some g)) : a.grownBy c (some g) :=
  ⟨k.os.trans h.os, k.tape.trans h.tape, k.output.trans h.output, Nat.le_trans h.size k.size, fun i hi hne => (k.block i (Nat.lt_of_lt_of_le hi h.size) hne).trans (h.block i hi hne)⟩
theorem grown_below {a b c : World} {g : Nat} (h : a.grownBy b (some g)) (k : Below b.heap.size b c) : a.grownBy c (some g) :=
  ⟨k.os.trans h.os, k.tape.trans h.tape, k.output.trans h.output, Nat.le_trans h.size k.size, fun i hi hne => (k.block i (Nat.lt_of_lt_of_le hi h.size)).trans (h.block i hi hne)⟩
theorem Row.grown {w w' : World} {ao : Option Addr} {n cap g : Nat} {xs : List Int} (h : Row w ao n cap xs) (hg : w.grownBy w' (some g)) (hne : ∀ b o, ao = some ⟨b, o, none⟩ → b ≠ g) : Row w' ao n cap xs := by
  refine ⟨h.len, h.le, h.cm, fun hn => ?_, fun b o e hn => ?_, fun b o e j hj => ?_⟩
  · obtain ⟨b, o, e, hlt⟩ := h.head hn
    exact ⟨b, o, e, Nat.lt_of_lt_of_le hlt hg.size⟩
  · obtain ⟨arr, fz, hh⟩ := h.ib b o e hn
    exact ⟨arr, fz, (hg.block b (Array.getElem?_eq_some_iff.1 hh).1 (fun c => hne b o e (by cases c; rfl))).trans hh⟩
  · obtain ⟨b', o', e', hlt⟩ := h.head (by omega)
    rw [e] at e'; cases e'
    rw [← h.cell b o e j hj]
    exact World.cell?_of_block (hg.block b hlt (fun c => hne b o e (by cases c; rfl)))

set_option maxHeartbeats 1000000 in
theorem subtractTimes_any (g o n capr capb : Nat) (bo : Option Addr) (Z B : List Int) (t : Int) (w : World) (hk : Blk w g Z) (ho : o + (n + 1) ≤ Z.length) (hs : Row w bo n capb B) (hne : ∀ b o', bo = some ⟨b, o', none⟩ → b ≠ g)
    (hZ : Lim Z) (hB : Lim B) (ht0 : 0 ≤ t) (ht1 : t < 10000) (hle : t * val B ≤ val ((Z.drop o).take (n + 1))) (hn : n ≤ 60000) :
    Calls Tryd.prog 161 #[.slice (some ⟨g, o, none⟩) (n + 1 : Nat) capr, .slice bo n capb, .int .i64 t] w fun e w' =>
      e = .returned (.tuple #[]) ∧ ∃ Z', Win Z Z' o (n + 1) (t * val B) ∧ Lim Z' ∧ Blk w' g Z' ∧ w.grownBy w' (some g) := by
  have l2 := hs.len
  have HK := hid hk
  have HS := hid hs
  have HLE := hid hle
  have HNE := hid hne
  clear hk hs hle hne
  go_enter Tryd.func161, Tryd.ntmps161
  go_wp2
  go_loopw [6, 12] (fun vc vi wr => ∃ (i : Nat) (c : Int) (Y : List Int), i ≤ n ∧ vi = .int .i64 i ∧ vc = .int .i64 c ∧ 0 ≤ c ∧ c ≤ 10000 ∧ Y.length = Z.length ∧ Hid (Lim Y) ∧ Hid (Y.take o = Z.take o) ∧
      Hid (∀ j, i ≤ j → lm Y (o + j) = lm Z (o + j)) ∧ Hid (val ((Y.drop o).take i) - 10000 ^ i * c = val ((Z.drop o).take i) - t * val (B.take i)) ∧ Hid (Blk wr g Y) ∧ Hid (w.grownBy wr (some g))) (fun _ vi _ => n - (intOf vi).toNat)
  case atStart => exact ⟨0, 0, Z, Nat.zero_le _, rfl, rfl, by omega, by omega, rfl, hZ, rfl, fun _ _ => rfl, by simp [Hid, val], HK.out, World.grownBy.refl _ _⟩
  case round =>
    obtain ⟨i, c, Y, hi, rfl, rfl, hc0, hc1, hyl, hYL, hpre, hsame, hval, hblk, hg⟩ := hrel
    by_cases hlt : i < n
    · obtain ⟨bb, ob, rfl, hlb⟩ := HS.out.head (by omega)
      have d2 : wr.cell? ⟨bb, ob + i, none⟩ = some (.int .i64 (lm B i)) := (World.cell?_of_block (a := ⟨bb, ob + i, none⟩) (hg.out.block bb hlb (fun e => HNE.out bb ob rfl (by cases e; rfl)))).trans (HS.out.cell bb ob rfl i (by omega))
      have g1 := hblk.out.cell (o + i) (by omega)
      have g2 := hblk.out.frozen (o + i)
      obtain ⟨p1, p2, p3, p4⟩ := subt_carry (lm B i) t c (lim_getD hB i) ⟨ht0, ht1⟩ ⟨hc0, hc1⟩
      obtain ⟨b0, b1⟩ := lim_getD hYL.out (o + i)
      obtain ⟨b2, b3⟩ := lim_getD hB i
      have hD := hid ((lm_drop Y o i).trans ((hsame.out i (Nat.le_refl _)).trans (lm_drop Z o i).symm))
      have e1 := hid (lm_drop Y o i)
      by_cases hneg : lm Y (o + i) - (c + lm B i * t) % 10000 < 0
      all_goals
        go_wp2
        go_roundw
        case rel =>
          refine ⟨i + 1, _, _, by omega, by go_num, rfl, by omega, by omega, by simpa using hyl, lim_set hYL.out (o + i) _ (by omega) (by omega), ?_, ?_, ?_, hblk.out.set (o + i) _, grown_set hg.out _ _⟩
          · show _ = _
            rw [List.take_set_of_le (by omega)]; exact hpre.out
          · intro j hj
            refine Eq.trans ?_ (hsame.out j (by omega))
            unfold lm; simp [List.getElem?_set, show ¬ o + i = o + j by omega, show ¬ i = j by omega]
          · show _ = _
            rw [← List.set_drop]
            exact subt_step (Y.drop o) (Z.drop o) B i t c _ _ (by rw [List.length_drop]; omega) hD.out (by rw [e1.out]; omega) hval.out
        case measure => simp [intOf]; omega
    · obtain rfl : i = n := by omega
      have g1 := hblk.out.cell (o + i) (by omega)
      have g2 := hblk.out.frozen (o + i)
      have e1 := hid (lm_drop Y o i)
      have hE := hid (subt_end (Y.drop o) ((Z.drop o).take (i + 1)) B i t c (lim_drop hYL.out o) (lim_take (lim_drop hZ o) _) hc0 (by rw [List.length_drop]; omega)
        (by rw [lm_take _ _ _ (by omega), lm_drop, lm_drop]; exact hsame.out i (Nat.le_refl _)) l2 (by rw [List.length_take, List.length_drop]; omega) (by rw [List.take_take, Nat.min_eq_left (by omega)]; exact hval.out) HLE.out)
      obtain ⟨b0, b1⟩ := lim_getD hYL.out (o + i)
      have b4 : 0 ≤ lm Y (o + i) - c := by have := hE.out.1; rw [e1.out] at this; exact this
      go_wp2
      go_end0
      refine ⟨rfl, Y.set (o + i) (lm Y (o + i) - c), ⟨by simpa using hyl, ?_, ?_, ?_⟩, lim_set hYL.out _ _ b4 (by omega), hblk.out.set (o + i) _, grown_set hg.out _ _⟩
      · rw [List.take_set_of_le (by omega)]; exact hpre.out
      · apply List.ext_getElem?
        intro j
        have h1 := hsame.out (i + 1 + j) (by omega)
        by_cases hj : o + (i + 1) + j < Z.length
        · unfold lm at h1
          rw [List.getElem?_drop, List.getElem?_drop, List.getElem?_set, if_neg (by omega)]
          rw [show o + (i + 1 + j) = o + (i + 1) + j by omega] at h1
          rw [List.getElem?_eq_getElem (by omega), List.getElem?_eq_getElem hj]
          simpa [List.getD_eq_getElem?_getD, hj, show o + (i + 1) + j < Y.length by omega] using h1
        · rw [List.getElem?_eq_none (by simp; omega), List.getElem?_eq_none (by simp; omega)]
      · rw [← List.set_drop, ← e1.out]; exact hE.out.2.2
end Go.Proofs.YtddbflggcblfcaaDoor
