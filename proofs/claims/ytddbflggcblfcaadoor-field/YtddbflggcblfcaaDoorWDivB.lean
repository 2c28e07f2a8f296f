/- natural.takeOff: how often a number goes into a window of another, and what is left. -/
import Derived.Test.YtddbflggcblfcaaDoorWDivA
namespace Go.Proofs.YtddbflggcblfcaaDoor
set_option linter.unusedSimpArgs false
set_option linter.unusedVariables false
open Go.RowKit Por

theorem Row.drewN {w : World} {ao : Option Addr} {n cap : Nat} {xs : List Int} (h : Row w ao n cap xs) (q : Nat) : Row (w.drewN q) ao n cap xs := h.below (below_drewN (Below.refl _ _) q)
theorem Blk.drewN {w : World} {g : Nat} {zs : List Int} (h : Blk w g zs) (q : Nat) : Blk (w.drewN q) g zs := h.below (below_drewN (Below.refl (g + 1) w) q) (by omega)
theorem grown_drewN {a b : World} {g : Nat} (h : a.grownBy b (some g)) (q : Nat) : a.grownBy (b.drewN q) (some g) := grown_below h (below_drewN (Below.refl _ _) q)

theorem guess_facts (Y B : List Int) (o n : Nat) (hY : Lim Y) (hB : Lim B) (ho : o + (n + 1 + 1) ≤ Y.length) (l2 : B.length = n + 1) :
    0 ≤ (lm Y (o + (n + 1)) * 10000 + lm Y (o + n)) / (lm B n + 1) ∧ (lm Y (o + (n + 1)) * 10000 + lm Y (o + n)) / (lm B n + 1) * val B ≤ val ((Y.drop o).take (n + 1 + 1)) := by
  have h1 := lim_getD hY (o + (n + 1))
  have h2 := lim_getD hY (o + n)
  have h3 := lim_getD hB n
  have e1 : lm ((Y.drop o).take (n + 1 + 1)) (n + 1) = lm Y (o + (n + 1)) := by rw [lm_take _ _ _ (by omega), lm_drop]
  have e2 : lm ((Y.drop o).take (n + 1 + 1)) n = lm Y (o + n) := by rw [lm_take _ _ _ (by omega), lm_drop]
  have h0 : 0 ≤ (lm Y (o + (n + 1)) * 10000 + lm Y (o + n)) / (lm B n + 1) := Int.ediv_nonneg (by omega) (by omega)
  refine ⟨h0, guess_le _ B n (lim_take (lim_drop hY o) _) hB (by rw [List.length_take, List.length_drop]; omega) l2 _ h0 ?_⟩
  rw [e1, e2]
  exact Int.ediv_mul_le _ (by omega)

theorem win_lt {Z Y : List Int} {o n : Nat} {q t V : Int} (h : Win Z Y o n (q * V)) (hV : 0 < V) (ht : t * V ≤ val ((Y.drop o).take n)) (hl : val ((Z.drop o).take n) < 10000 * V) : q + t < 10000 := by
  refine guess_lt (q + t) V (val ((Z.drop o).take n)) hV ?_ hl
  rw [h.win] at ht
  rw [Int.add_mul]; omega

set_option maxHeartbeats 1000000 in
theorem takeOff_any (g o n capr capb : Nat) (bo : Option Addr) (Z B : List Int) (w : World) (hk : Blk w g Z) (ho : o + (n + 1 + 1) ≤ Z.length) (hc : n + 1 + 1 ≤ capr) (hcm : capr ≤ maxLen) (hs : Row w bo (n + 1) capb B) (hne : ∀ b o', bo = some ⟨b, o', none⟩ → b ≠ g)
    (hZ : Lim Z) (hB : Lim B) (htop : 1 ≤ lm B n) (hlt : val ((Z.drop o).take (n + 1 + 1)) < 10000 * val B) (hn : n ≤ 50000) :
    Calls Tryd.prog 157 #[.slice (some ⟨g, o, none⟩) (n + 1 + 1 : Nat) capr, .slice bo (n + 1 : Nat) capb] w fun e w' =>
      ∃ (q : Int) (Z' : List Int), e = .returned (.int .i64 q) ∧ 0 ≤ q ∧ q < 10000 ∧ Win Z Z' o (n + 1 + 1) (q * val B) ∧ Lim Z' ∧ val ((Z'.drop o).take (n + 1 + 1)) < val B ∧ Blk w' g Z' ∧ w.grownBy w' (some g) := by
  have l2 := hs.len
  obtain ⟨bb, ob, rfl, hlb⟩ := hs.head (by omega)
  have hVp := hid (val_pos hB n l2 htop)
  have hgb : bb ≠ g := hne bb ob rfl
  have HK := hid hk
  have HS := hid hs
  have HLT := hid hlt
  clear hk hs hlt hne
  go_enter Tryd.func157, Tryd.ntmps157
  go_wp2
  go_loopw [6] (fun vq wr => ∃ (q : Int) (Y : List Int), vq = .int .i64 q ∧ 0 ≤ q ∧ q < 10000 ∧ Hid (Win Z Y o (n + 1 + 1) (q * val B)) ∧ Hid (Lim Y) ∧ Hid (Blk wr g Y) ∧ Hid (w.grownBy wr (some g))) (fun vq _ => 10000 - (intOf vq).toNat)
  case atStart => exact ⟨0, Z, rfl, by omega, by omega, by rw [Int.zero_mul]; exact Win.refl _ _ _, hZ, HK.out, World.grownBy.refl _ _⟩
  case round =>
    obtain ⟨q, Y, rfl, hq0, hq1, hwin, hYL, hblk, hg⟩ := hrel
    have hyl := hwin.out.len
    have hrow := hid (hblk.out.row o (n + 1 + 1) capr (by omega) hc hcm)
    have hrs := hid (HS.out.grown hg.out (fun b o' e => by cases e; exact hgb))
    have hRL := hid (lim_take (lim_drop hYL.out o) (n + 1 + 1))
    by_cases hdone : val ((Y.drop o).take (n + 1 + 1)) < val B
    · have hE : ltB (val ((Y.drop o).take (n + 1 + 1))) (val B) = true := by unfold ltB; simpa using hdone
      have HD := hid hdone
      clear hdone
      go_wp2_with fail
      refine (isBelow_any _ _ (n + 1) capr capb _ B _ hrow.out hrs.out hRL.out hB (by omega)).mono ?_
      rintro e w3 ⟨rfl, hb3⟩
      have HB3 := hid hb3
      clear hb3
      go_wp2
      go_ret
      exact ⟨q, Y, rfl, hq0, hq1, hwin.out, hYL.out, HD.out, hblk.out.below HB3.out hblk.out.lt, grown_below hg.out HB3.out⟩
    · have hE : ltB (val ((Y.drop o).take (n + 1 + 1))) (val B) = false := by unfold ltB; simpa using hdone
      have HD := hid hdone
      clear hdone
      go_wp2_with fail
      refine (isBelow_any _ _ (n + 1) capr capb _ B _ hrow.out hrs.out hRL.out hB (by omega)).mono ?_
      rintro e w3 ⟨rfl, hb3⟩
      have HB3 := hid hb3
      have hbl3 := hid (hblk.out.below hb3 hblk.out.lt)
      have hrs3 := hid (hrs.out.below hb3)
      have d1 := hbl3.out.cell (o + (n + 1)) (by omega)
      have d2 := hbl3.out.cell (o + n) (by omega)
      have d3 := hrs3.out.cell bb ob rfl n (by omega)
      obtain ⟨a0, a1⟩ := lim_getD hYL.out (o + (n + 1))
      obtain ⟨a2, a3⟩ := lim_getD hYL.out (o + n)
      obtain ⟨a4, a5⟩ := lim_getD hB n
      clear hb3
      have HF := hid (guess_facts Y B o n hYL.out hB (by omega) l2)
      by_cases h0 : (lm Y (o + (n + 1)) * 10000 + lm Y (o + n)) / (lm B n + 1) = 0
      · have h0' : ((lm Y (o + (n + 1)) * 10000 + lm Y (o + n)) / (lm B n + 1) == 0) = true := by simpa using h0
        have H1 : Hid (1 * val B ≤ val ((Y.drop o).take (n + 1 + 1))) := by rw [Int.one_mul]; exact HD.out
        have Hq := win_lt hwin.out hVp.out H1.out HLT.out
        clear h0
        go_wp2_with fail
        go_quiet (fail)
        go_wp2_with fail
        refine (subtractTimes_any g o (n + 1) capr capb _ Y B 1 _ (hbl3.out.drewN _) (by omega) (hrs3.out.drewN _) (fun b o' e => by cases e; exact hgb) hYL.out hB (by omega) (by omega) H1.out (by omega)).mono ?_
        rintro e w4 ⟨rfl, Y1, hw1, hl1, hk1, hg1⟩
        have W1 := hid hw1
        have K1 := hid hk1
        have G1 := hid hg1
        clear hw1 hk1 hg1
        go_wp2
        go_roundw
        case rel =>
          exact ⟨q + 1, Y1, rfl, by omega, Hq, by rw [Int.add_mul]; exact hwin.out.trans W1.out, hl1, K1.out, grown_trans (grown_drewN (grown_below hg.out HB3.out) _) G1.out⟩
        case measure => simp [intOf]; omega
      · obtain ⟨E, hEq⟩ : ∃ E, E = (lm Y (o + (n + 1)) * 10000 + lm Y (o + n)) / (lm B n + 1) := ⟨_, rfl⟩
        have h0' : ((lm Y (o + (n + 1)) * 10000 + lm Y (o + n)) / (lm B n + 1) == 0) = false := by simpa using h0
        have Hq := win_lt hwin.out hVp.out HF.out.2 HLT.out
        have HE := hid hEq
        have f1 := HF.out.1
        have f2 : 1 ≤ (lm Y (o + (n + 1)) * 10000 + lm Y (o + n)) / (lm B n + 1) := by
          rcases Int.lt_or_eq_of_le f1 with h | h
          · exact h
          · exact absurd h.symm h0
        clear h0 hEq
        go_wp2_with fail
        go_quiet (fail)
        go_wp2_with fail
        refine (subtractTimes_any g o (n + 1) capr capb _ Y B _ _ (hbl3.out.drewN _) (by omega) (hrs3.out.drewN _) (fun b o' e => by cases e; exact hgb) hYL.out hB f1 (by omega) HF.out.2 (by omega)).mono ?_
        rintro e w4 ⟨rfl, Y1, hw1, hl1, hk1, hg1⟩
        have W1 := hid hw1
        have K1 := hid hk1
        have G1 := hid hg1
        clear hw1 hk1 hg1
        go_wp2
        go_roundw
        case rel =>
          exact ⟨_, Y1, rfl, by omega, Hq, by rw [Int.add_mul]; exact hwin.out.trans W1.out, hl1, K1.out, grown_trans (grown_drewN (grown_below hg.out HB3.out) _) G1.out⟩
        case measure =>
          simp only [intOf]
          revert f2 Hq
          generalize (lm Y (o + (n + 1)) * 10000 + lm Y (o + n)) / (lm B n + 1) = E'
          intro f2 Hq
          omega
end Go.Proofs.YtddbflggcblfcaaDoor
