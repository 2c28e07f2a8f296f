/- portionref Pool, Numbers, User, errs: the errors of P6, by the document. -/
import Derived.Test.YtigokanoflkinaaGreatDoorWLim
import Derived.Test.YtigokanoflkinaaGreatDoorWCaps
namespace Go.Proofs.YtigokanoflkinaaGreatDoor
set_option linter.unusedSimpArgs false
set_option linter.unusedVariables false
open Go.RowKit Por

set_option maxHeartbeats 1000000 in
set_option maxRecDepth 20000 in
theorem ppool_any (ao : Option Addr) (n cap : Nat) (xs : List Int) (w : World) (hr : Arr w 1 ao n cap (ints xs)) :
    Calls Tryz.prog 33 #[.slice ao n cap] w fun e w' => e = .returned (.bool (poolB xs)) ∧ w' = w := by
  have hlen := hr.len
  rw [ints_len] at hlen
  have hle := hr.le
  have hcm := hr.cm
  unfold maxLen at hcm
  have HR := hid hr
  clear hr
  by_cases h0 : n < 1
  · have E := hid (poolB_short (xs := xs) (by omega))
    have i0 : (n : Int) < 1 := by omega
    go_enter Tryz.func33, Tryz.ntmps33
    go_wp2
    go_ret
    exact ⟨by rw [E.out]; rfl, rfl⟩
  · have i0 : ¬ (n : Int) < 1 := by omega
    by_cases h1 : 4 < n
    · have E := hid (poolB_short (xs := xs) (by omega))
      have i1 : (4 : Int) < n := by omega
      go_enter Tryz.func33, Tryz.ntmps33
      go_wp2
      go_ret
      exact ⟨by rw [E.out]; rfl, rfl⟩
    · have E := hid (poolB_len (xs := xs) (by omega) (by omega))
      have i1 : ¬ (4 : Int) < n := by omega
      go_enter Tryz.func33, Tryz.ntmps33
      go_wp2
      go_loop [3] (fun i => ∃ k : Nat, k ≤ n ∧ i = .int .i64 k ∧ Hid ((xs.take k).all amtB = true)) (fun i => n - (intOf i).toNat)
      case atStart => exact ⟨0, Nat.zero_le _, rfl, rfl⟩
      case round =>
        obtain ⟨k, hk, rfl, hz⟩ := hrel
        by_cases hlt : k < n
        · obtain ⟨b, o, rfl, hb⟩ := HR.out.head (by omega)
          have hc := HR.out.int rfl hlt
          have hst := hid (take_all_step amtB xs (i := k) (by omega))
          have hget := hid (lm_get xs (i := k) (by omega))
          have ikn : (k : Int) < (n : Int) := by omega
          generalize hx : lm xs k = x at hc
          have HX := hid hx
          clear hx
          by_cases h0 : x < 0
          · have EE : amtsB xs = false := all_false_of amtB xs (i := k) (by omega) (by rw [hget.out, HX.out]; unfold amtB; rw [decide_eq_false_iff_not]; omega)
            have HE := hid EE; clear EE
            go_wp2
            go_ret
            exact ⟨by rw [E.out, HE.out]; rfl, rfl⟩
          · by_cases h1 : (10000 : Int) < x
            · have EE : amtsB xs = false := all_false_of amtB xs (i := k) (by omega) (by rw [hget.out, HX.out]; unfold amtB; rw [decide_eq_false_iff_not]; omega)
              have HE := hid EE; clear EE
              go_wp2
              go_ret
              exact ⟨by rw [E.out, HE.out]; rfl, rfl⟩
            · have EE : amtB x = true := by unfold amtB; rw [decide_eq_true_eq]; omega
              have HE := hid EE; clear EE
              go_wp2
              exact ⟨⟨k + 1, by omega, by go_num, by rw [Hid, hst.out, hz.out, hget.out, HX.out, HE.out]; rfl⟩, by simp [intOf]; omega⟩
        · obtain rfl : k = n := by omega
          have EE : amtsB xs = true := by
            have := hz.out
            rwa [List.take_of_length_le (by omega)] at this
          have HE := hid EE; clear EE
          go_wp2
          go_ret
          exact ⟨by rw [E.out, HE.out]; rfl, rfl⟩

/-- a weight and a cap -/
def numB (a b : Int) : Bool := decide (1 ≤ a ∧ a ≤ 100 ∧ 0 ≤ b ∧ b ≤ 1000)
set_option maxHeartbeats 400000 in
theorem pnum_any (a b : Int) (w : World) :
    Calls Tryz.prog 81 #[.int .i64 a, .int .i64 b] w fun e w' => e = .returned (.bool (numB a b)) ∧ w' = w := by
  by_cases h1 : 1 ≤ a
  · by_cases h2 : a ≤ 100
    · by_cases h3 : 0 ≤ b
      · by_cases h4 : b ≤ 1000
        · have E := hid (show numB a b = true from decide_eq_true ⟨h1, h2, h3, h4⟩)
          go_enter Tryz.func81, Tryz.ntmps81
          go_wp2
          go_ret
          exact ⟨by rw [E.out]; rfl, rfl⟩
        · have E := hid (show numB a b = false from decide_eq_false (by omega))
          go_enter Tryz.func81, Tryz.ntmps81
          go_wp2
          go_ret
          exact ⟨by rw [E.out]; rfl, rfl⟩
      · have E := hid (show numB a b = false from decide_eq_false (by omega))
        go_enter Tryz.func81, Tryz.ntmps81
        go_wp2
        go_ret
        exact ⟨by rw [E.out]; rfl, rfl⟩
    · have E := hid (show numB a b = false from decide_eq_false (by omega))
      go_enter Tryz.func81, Tryz.ntmps81
      go_wp2
      go_ret
      exact ⟨by rw [E.out]; rfl, rfl⟩
  · have E := hid (show numB a b = false from decide_eq_false (by omega))
    go_enter Tryz.func81, Tryz.ntmps81
    go_wp2
    go_ret
    exact ⟨by rw [E.out]; rfl, rfl⟩

theorem usrB_num {k : Nat} {u : Usr} (h : numB u.wt u.cap = false) : usrB k u = false := by
  unfold usrB; unfold numB at h; rw [h]; simp
theorem usrB_len {k : Nat} {u : Usr} (h : u.dem.length ≠ k) : usrB k u = false := by
  unfold usrB; rw [decide_eq_false h]; rfl
theorem usrB_in {k : Nat} {u : Usr} (h : numB u.wt u.cap = true) (hl : u.dem.length = k) : usrB k u = (amtsB u.dem && wantsB u.dem) := by
  unfold usrB; unfold numB at h; rw [h, decide_eq_true hl]; rfl

set_option maxHeartbeats 2000000 in
set_option maxRecDepth 20000 in
theorem puser_any (ao : Option Addr) (n cap k : Nat) (u : Usr) (w : World) (hr : Arr w 1 ao n cap (ints u.dem)) (hk : k ≤ 4) :
    Calls Tryz.prog 34 #[.agg #[.slice ao n cap, .int .i64 u.wt, .int .i64 u.cap], .int .i64 k] w fun e w' => e = .returned (.bool (usrB k u)) ∧ Below w.heap.size w w' := by
  have hlen := hr.len
  rw [ints_len] at hlen
  have hle := hr.le
  have hcm := hr.cm
  unfold maxLen at hcm
  have hB := (Below.refl _ w).alloc (Nat.le_refl _) (.cells #[.slice ao n cap, .int .i64 u.wt, .int .i64 u.cap] 56)
  have HR := hid (hr.below hB)
  have HB := hid hB
  clear hr hB
  go_enter Tryz.func34, Tryz.ntmps34
  go_wp2_with fail
  refine (pnum_any u.wt u.cap _).mono ?_
  rintro e w1 ⟨rfl, rfl⟩
  cases h1 : numB u.wt u.cap with
  | false =>
    have E := hid (usrB_num (k := k) h1)
    clear h1
    go_wp2
    go_ret
    exact ⟨by rw [E.out]; rfl, HB.out⟩
  | true =>
    by_cases h0 : n = k
    · subst h0
      have E := hid (usrB_in h1 hlen)
      clear h1
      go_wp2
      go_loop [6, 7] (fun s6 i => ∃ j : Nat, j ≤ n ∧ i = .int .i64 j ∧ s6 = .bool ((u.dem.take j).any (fun x => decide (0 < x))) ∧ Hid ((u.dem.take j).all amtB = true)) (fun _ i => n - (intOf i).toNat)
      case atStart => exact ⟨0, Nat.zero_le _, rfl, rfl, rfl⟩
      case round =>
        obtain ⟨j, hj, rfl, rfl, hz⟩ := hrel
        by_cases hlt : j < n
        · obtain ⟨b, o, rfl, hb⟩ := HR.out.head (by omega)
          have hc := HR.out.int rfl hlt
          have hst := hid (take_all_step amtB u.dem (i := j) (by omega))
          have hst2 := hid (take_any_step (fun x => decide (0 < x)) u.dem (i := j) (by omega))
          have hget := hid (lm_get u.dem (i := j) (by omega))
          have ikn : (j : Int) < (n : Int) := by omega
          generalize hx : lm u.dem j = x at hc
          have HX := hid hx
          clear hx
          generalize hy : (u.dem.take j).any (fun x => decide (0 < x)) = y at hst2 ⊢
          clear hy
          generalize hy : (u.dem.take (j + 1)).any (fun x => decide (0 < x)) = y2 at hst2 ⊢
          have HY := hid hy
          clear hy
          by_cases h0 : x < 0
          · have EE : amtsB u.dem = false := all_false_of amtB u.dem (i := j) (by omega) (by rw [hget.out, HX.out]; unfold amtB; rw [decide_eq_false_iff_not]; omega)
            have HE := hid EE; clear EE
            go_wp2
            go_ret
            exact ⟨by rw [E.out, HE.out]; rfl, HB.out⟩
          · by_cases h1 : (10000 : Int) < x
            · have EE : amtsB u.dem = false := all_false_of amtB u.dem (i := j) (by omega) (by rw [hget.out, HX.out]; unfold amtB; rw [decide_eq_false_iff_not]; omega)
              have HE := hid EE; clear EE
              go_wp2
              go_ret
              exact ⟨by rw [E.out, HE.out]; rfl, HB.out⟩
            · have EE : amtB x = true := by unfold amtB; rw [decide_eq_true_eq]; omega
              have HE := hid EE; clear EE
              cases y with
              | true =>
                go_wp2
                exact ⟨⟨j + 1, by omega, by go_num, by rw [HY.out, hst2.out]; rfl, by rw [Hid, hst.out, hz.out, hget.out, HX.out, HE.out]; rfl⟩, by simp [intOf]; omega⟩
              | false =>
                by_cases h2 : 0 < x
                · have d2 := hid (decide_eq_true h2)
                  go_wp2
                  exact ⟨⟨j + 1, by omega, by go_num, by rw [HY.out, hst2.out, hget.out, HX.out, d2.out]; rfl, by rw [Hid, hst.out, hz.out, hget.out, HX.out, HE.out]; rfl⟩, by simp [intOf]; omega⟩
                · have d2 := hid (decide_eq_false h2)
                  go_wp2
                  exact ⟨⟨j + 1, by omega, by go_num, by rw [HY.out, hst2.out, hget.out, HX.out, d2.out]; rfl, by rw [Hid, hst.out, hz.out, hget.out, HX.out, HE.out]; rfl⟩, by simp [intOf]; omega⟩
        · obtain rfl : j = n := by omega
          have EE : amtsB u.dem = true := by
            have := hz.out
            rwa [List.take_of_length_le (by omega)] at this
          have E2 : (u.dem.take j).any (fun x => decide (0 < x)) = wantsB u.dem := by rw [List.take_of_length_le (by omega)]; rfl
          have HE := hid EE
          rw [E2]
          clear EE E2
          go_wp2
          go_ret
          exact ⟨by rw [E.out, HE.out]; rfl, HB.out⟩
    · have h0' : ((n : Int) != (k : Int)) = true := by rw [bne_iff_ne]; omega
      have h0'' : ((n : Int) == (k : Int)) = false := by rw [beq_eq_false_iff_ne]; omega
      have E := hid (usrB_len (u := u) (k := k) (by omega))
      clear h1
      go_wp2
      go_ret
      exact ⟨by rw [E.out]; rfl, HB.out⟩

set_option maxHeartbeats 1000000 in
set_option maxRecDepth 20000 in
theorem perrs_any (po : Option Addr) (pn pc : Nat) (pool : List Int) (ao : Option Addr) (n cap : Nat) (us : List Usr) (w : World) (hp : Arr w 1 po pn pc (ints pool)) (hu : Users w ao n cap us) :
    Calls Tryz.prog 19 #[.slice po pn pc, .slice ao n cap] w fun e w' => e = .returned (.int .i64 (errOf pool us)) ∧ Below w.heap.size w w' := by
  have hpl := hp.len
  rw [ints_len] at hpl
  have hpm : pn ≤ maxLen := Nat.le_trans hp.le hp.cm
  have hul := hu.1
  have hum : n ≤ maxLen := by obtain ⟨_, vs, h1, _⟩ := hu; exact Nat.le_trans h1.le h1.cm
  unfold maxLen at hpm hum
  have HP := hid hp
  have HU := hid hu
  clear hp hu
  go_enter Tryz.func19, Tryz.ntmps19
  go_wp2_with fail
  refine (ppool_any po pn pc pool _ HP.out).mono ?_
  rintro e0 w0 ⟨rfl, rfl⟩
  cases h0 : poolB pool with
  | false =>
    have E : errOf pool us = 3 := by unfold errOf; rw [if_pos h0]
    have HE := hid E; clear E
    go_wp2
    go_ret
    exact ⟨by rw [HE.out]; rfl, Below.refl _ _⟩
  | true =>
    have hp4 : pn ≤ 4 := by
      unfold poolB at h0
      simp only [Bool.and_eq_true, decide_eq_true_eq] at h0
      omega
    by_cases h1 : 6 < n
    · have E : errOf pool us = 4 := by unfold errOf; rw [if_neg (by rw [h0]; simp), if_pos (by omega)]
      have HE := hid E; clear E
      have h1' : (6 : Int) < n := by omega
      go_wp2
      go_ret
      exact ⟨by rw [HE.out]; rfl, Below.refl _ _⟩
    · have h1' : ¬ (6 : Int) < n := by omega
      have H0 := hid h0
      go_wp2
      go_loopw [6] (fun i wr => ∃ k : Nat, k ≤ n ∧ i = .int .i64 k ∧ Hid ((us.take k).all (usrB pn) = true) ∧ Hid (Below w0.heap.size w0 wr)) (fun i _ => n - (intOf i).toNat)
      case atStart => exact ⟨0, Nat.zero_le _, rfl, rfl, Below.refl _ _⟩
      case round =>
        obtain ⟨k, hk, rfl, hz, hB⟩ := hrel
        by_cases hlt : k < n
        · obtain ⟨b, o, da, dn, dc, rfl, hb, c0, c1, c2, hd⟩ := (HU.out.below hB.out).get hlt
          have hst := hid (take_all_step (usrB pn) us (i := k) (by omega))
          have hget := hid (ug_get us (i := k) (by omega))
          have ikn : (k : Int) < (n : Int) := by omega
          have HD := hid hd
          clear hd
          go_wp2_with fail
          refine (puser_any da dn dc pn (ug us k) _ HD.out hp4).mono ?_
          rintro e1 w1 ⟨rfl, hb1⟩
          have HB3 : Hid (Below w0.heap.size w0 w1) := hB.out.trans (hb1.mono hB.out.size)
          clear hb1
          cases h2 : usrB pn (ug us k) with
          | false =>
            have E : errOf pool us = 4 := by
              unfold errOf
              rw [if_neg (by rw [h0]; simp), if_neg (by omega), if_pos (all_false_of _ us (i := k) (by omega) (by rw [hget.out, hpl]; exact h2))]
            have HE := hid E; clear E
            go_wp2
            go_ret
            exact ⟨by rw [HE.out]; rfl, HB3.out⟩
          | true =>
            have H2 := hid h2
            go_wp2
            go_roundw
            case rel => exact ⟨k + 1, by omega, by go_num, by rw [Hid, hst.out, hz.out, hget.out, H2.out]; rfl, HB3.out⟩
            case measure => simp [intOf]; omega
        · obtain rfl : k = n := by omega
          have E : errOf pool us = 0 := by
            have := hz.out
            rw [List.take_of_length_le (by omega)] at this
            unfold errOf
            rw [if_neg (by rw [h0]; simp), if_neg (by omega), if_neg (by rw [hpl, this]; simp)]
          have HE := hid E; clear E
          go_wp2
          go_ret
          exact ⟨by rw [HE.out]; rfl, hB.out⟩
end Go.Proofs.YtigokanoflkinaaGreatDoor
