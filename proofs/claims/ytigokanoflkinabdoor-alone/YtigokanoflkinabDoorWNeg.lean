/- fill.isSomeBelowZero. -/
import Derived.Test.YtigokanoflkinabDoorFVals
namespace Go.Proofs.YtigokanoflkinabDoor
set_option linter.unusedSimpArgs false
set_option linter.unusedVariables false
open Go.RowKit Por

set_option maxHeartbeats 1000000 in
set_option maxRecDepth 20000 in
theorem isNeg_any (ao : Option Addr) (n cap : Nat) (f : Nat → Rat) (w : World) (hf : Frs w ao n cap f) (hs : ∀ i, i < n → Sm (f i) 10000) (ht : Tab w) :
    Calls Tryd.prog 30 #[.slice ao n cap] w fun e w' => e = .returned (.bool (negAny f n)) ∧ Below w.heap.size w w' := by
  have hnm := hf.le
  unfold maxLen at hnm
  have HF := hid hf
  have HS := hid hs
  have HT := hid ht
  clear hf hs ht
  go_enter Tryd.func30, Tryd.ntmps30
  go_wp2_with fail
  refine (whole_any 0 (by omega) (by omega) _ HT.out).mono ?_
  rintro e0 w0 ⟨v, rfl, ⟨za, zb, zc, zd, ze, zf, rfl, hz1, hz2⟩, hb0⟩
  have SZ : Sm ((0 : Int) : Rat) 5 := Sm.int (by decide) (by decide)
  have lz1 := hz1.sm1 SZ
  have lz2 := hz2.sm2 SZ
  have hA := (Below.refl _ w0).alloc (Nat.le_refl _) (.cells #[.bool (negB ((0 : Int) : Rat)), .slice za zb zc, .slice zd ze zf] 60)
  have XZ := hid (bx_new w0 #[.bool (negB ((0 : Int) : Rat)), .slice za zb zc, .slice zd ze zf] 60)
  have R1 := hid (hz1.below hA)
  have R2 := hid (hz2.below hA)
  have HB : Hid (Below w.heap.size w _) := hb0.trans (hA.mono hb0.size)
  clear hz1 hz2 hb0 hA SZ
  go_wp2
  go_loopw [9] (fun i wr => ∃ k : Nat, k ≤ n ∧ i = .int .i64 k ∧ Hid (negAny f k = false) ∧ Hid (Bx wr w0.heap.size #[.bool (negB ((0 : Int) : Rat)), .slice za zb zc, .slice zd ze zf] 60) ∧ Hid (Row wr za zb zc (limbs ((0 : Int) : Rat).num.natAbs)) ∧ Hid (Row wr zd ze zf (limbs ((0 : Int) : Rat).den)) ∧ Hid (Below w.heap.size w wr)) (fun i _ => n - (intOf i).toNat)
  case atStart => exact ⟨0, Nat.zero_le _, rfl, rfl, XZ.out, R1.out, R2.out, HB.out⟩
  case round =>
    obtain ⟨k, hk, rfl, hz, hX, hR1, hR2, hB⟩ := hrel
    by_cases hlt : k < n
    · obtain ⟨b, o, uo, un, uc, yo, yn, yc, rfl, hb, c0, c1, c2, r1, r2⟩ := (HF.out.below hB.out).get hlt
      have l1 := r1.sm1 (HS.out k hlt)
      have l2 := r2.sm2 (HS.out k hlt)
      have hA := (Below.refl _ wr).alloc (Nat.le_refl _) (.cells #[.bool (negB (f k)), .slice uo un uc, .slice yo yn yc] 60)
      have Y1 := hid (r1.below hA)
      have Y2 := hid (r2.below hA)
      have Z1 := hid (hR1.out.below hA)
      have Z2 := hid (hR2.out.below hA)
      have YX := hid (bx_past hX.out (.cells #[.bool (negB (f k)), .slice uo un uc, .slice yo yn yc] 60))
      have ltz := hX.out.lt
      have cz0 := hX.out.cell 0 _ rfl
      have cz1 := hX.out.cell 1 _ rfl
      have cz2 := hX.out.cell 2 _ rfl
      have HB2 : Hid (Below w.heap.size w _) := hB.out.trans (hA.mono hB.out.size)
      clear r1 r2 hA
      go_wp2_with fail
      refine (rcmp_any uo yo za zd un uc yn yc zb zc ze zf (f k) ((0 : Int) : Rat) _ Y1.out Y2.out Z1.out Z2.out (by omega) (by omega) (by omega) (by omega)).mono ?_
      rintro e1 w1 ⟨rfl, hb1⟩
      have HB3 : Hid (Below w.heap.size w w1) := HB2.out.trans (hb1.mono HB2.out.size)
      have WX := hid (YX.out.keep hb1)
      have W1 := hid (Z1.out.below hb1)
      have W2 := hid (Z2.out.below hb1)
      clear hb1
      generalize hq : cmpQ (f k) ((0 : Int) : Rat) = c
      have HQ := hid hq
      clear hq
      have e0 : ((0 : Int) : Rat) = 0 := rfl
      have H0 := hid e0
      clear e0
      by_cases hc : c < 0
      · have E : negAny f n = true := negAny_mono hlt (by have := HQ.out; rw [← this] at hc; rw [← H0.out]; exact cmp_lt.1 hc)
        have HE := hid E; clear E
        go_wp2
        go_ret
        exact ⟨by rw [HE.out]; rfl, HB3.out⟩
      · have E : negAny f (k + 1) = false := by
          simp only [negAny]
          rw [hz.out, decide_eq_false (fun h => hc (by rw [← HQ.out]; exact cmp_lt.2 (by rw [H0.out]; exact h)))]; rfl
        have HE := hid E; clear E
        go_wp2
        go_roundw
        case rel => exact ⟨k + 1, by omega, by go_num, HE.out, WX.out, W1.out, W2.out, HB3.out⟩
        case measure => simp [intOf]; omega
    · obtain rfl : k = n := by omega
      go_wp2
      go_ret
      exact ⟨by rw [hz.out]; rfl, hB.out⟩
end Go.Proofs.YtigokanoflkinabDoor
