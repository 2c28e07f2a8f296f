/- fill.check: the errors of P6. -/
import Derived.Test.YtigokanoflkinaaGreatDoorWLim
namespace Go.Proofs.YtigokanoflkinaaGreatDoor
set_option linter.unusedSimpArgs false
set_option linter.unusedVariables false
open Go.RowKit Por

set_option maxHeartbeats 1000000 in
set_option maxRecDepth 20000 in
theorem check_any (po : Option Addr) (pn pc : Nat) (pool : List Int) (ao : Option Addr) (n cap : Nat) (us : List Usr) (w : World) (hp : Arr w 1 po pn pc (ints pool)) (hu : Users w ao n cap us) :
    Calls Tryz.prog 23 #[.slice po pn pc, .slice ao n cap] w fun e w' => e = .returned (.int .i64 (errOf pool us)) ∧ Below w.heap.size w w' := by
  have hpl := hp.len
  rw [ints_len] at hpl
  have hpm : pn ≤ maxLen := Nat.le_trans hp.le hp.cm
  have hul := hu.1
  have hum : n ≤ maxLen := by obtain ⟨_, vs, h1, _⟩ := hu; exact Nat.le_trans h1.le h1.cm
  have HM := hid hpm
  unfold maxLen at hpm hum
  have HP := hid hp
  have HU := hid hu
  clear hp hu
  go_enter Tryz.func23, Tryz.ntmps23
  go_wp2_with fail
  refine (isPool_any po pn pc pool _ HP.out).mono ?_
  rintro e0 w0 ⟨rfl, rfl⟩
  cases h0 : poolB pool with
  | false =>
    have E : errOf pool us = 3 := by unfold errOf; rw [if_pos h0]
    have HE := hid E; clear E
    go_wp2
    go_ret
    exact ⟨by rw [HE.out]; rfl, Below.refl _ _⟩
  | true =>
    by_cases h1 : 6 < n
    · have E : errOf pool us = 4 := by unfold errOf; rw [if_neg (by rw [h0]; simp), if_pos (by omega)]
      have HE := hid E; clear E
      have h1' : (6 : Int) < n := by omega
      go_wp2
      go_ret
      exact ⟨by rw [HE.out]; rfl, Below.refl _ _⟩
    · have h1' : ¬ (6 : Int) < n := by omega
      have H0 := hid h0
      go_wp2
      go_loopw [15] (fun i wr => ∃ k : Nat, k ≤ n ∧ i = .int .i64 k ∧ Hid ((us.take k).all (usrB pn) = true) ∧ Hid (Below w0.heap.size w0 wr)) (fun i _ => n - (intOf i).toNat)
      case atStart => exact ⟨0, Nat.zero_le _, rfl, rfl, Below.refl _ _⟩
      case round =>
        obtain ⟨k, hk, rfl, hz, hB⟩ := hrel
        by_cases hlt : k < n
        · obtain ⟨b, o, da, dn, dc, rfl, hb, c0, c1, c2, hd⟩ := (HU.out.below hB.out).get hlt
          have hst := hid (take_all_step (usrB pn) us (i := k) (by omega))
          have hget := hid (ug_get us (i := k) (by omega))
          have hA := (Below.refl _ wr).alloc (Nat.le_refl _) (.cells #[.slice da dn dc, .int .i64 (ug us k).wt, .int .i64 (ug us k).cap] 56)
          have HD := hid (hd.below hA)
          have HB2 : Hid (Below w0.heap.size w0 _) := hB.out.trans (hA.mono hB.out.size)
          clear hd hA
          go_wp2_with fail
          refine (isUser_any da dn dc pn (ug us k) _ HD.out HM.out).mono ?_
          rintro e1 w1 ⟨rfl, hb1⟩
          have HB3 : Hid (Below w0.heap.size w0 w1) := HB2.out.trans (hb1.mono HB2.out.size)
          clear hb1
          cases h2 : usrB pn (ug us k) with
          | false =>
            have E : errOf pool us = 4 := by
              unfold errOf
              rw [if_neg (by rw [h0]; simp), if_neg (by omega), if_pos (all_false_of _ us (i := k) (by omega) (by rw [hget.out, hpl]; exact h2))]
            have HE := hid E; clear E
            go_wp2
            go_ret
            exact ⟨by rw [HE.out]; rfl, HB3.out⟩
          | true =>
            have H2 := hid h2
            go_wp2
            go_roundw
            case rel => exact ⟨k + 1, by omega, by go_num, by rw [Hid, hst.out, hz.out, hget.out, H2.out]; rfl, HB3.out⟩
            case measure => simp [intOf]; omega
        · obtain rfl : k = n := by omega
          have E : errOf pool us = 0 := by
            have := hz.out
            rw [List.take_of_length_le (by omega)] at this
            unfold errOf
            rw [if_neg (by rw [h0]; simp), if_neg (by omega), if_neg (by rw [hpl, this]; simp)]
          have HE := hid E; clear E
          go_wp2
          go_ret
          exact ⟨by rw [HE.out]; rfl, hB.out⟩
end Go.Proofs.YtigokanoflkinaaGreatDoor
