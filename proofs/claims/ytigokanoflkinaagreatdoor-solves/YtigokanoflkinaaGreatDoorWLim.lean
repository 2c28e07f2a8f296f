/- limits.areUpTo, wantsSome, IsKinds, IsWeight, IsCap, IsPool, IsUser. -/
import Derived.Test.YtigokanoflkinaaGreatDoorFBase
namespace Go.Proofs.YtigokanoflkinaaGreatDoor
set_option linter.unusedSimpArgs false
set_option linter.unusedVariables false
open Go.RowKit Por

/-- from 0 to m -/
def uptB (m x : Int) : Bool := decide (0 ≤ x ∧ x ≤ m)
/-- from lo to hi -/
def rngB (lo hi k : Int) : Bool := decide (lo ≤ k ∧ k ≤ hi)
theorem rngB_yes {lo hi k : Int} (h : lo ≤ k ∧ k ≤ hi) : rngB lo hi k = true := decide_eq_true h
theorem rngB_no {lo hi k : Int} (h : ¬ (lo ≤ k ∧ k ≤ hi)) : rngB lo hi k = false := decide_eq_false h
def uptsB (m : Int) (xs : List Int) : Bool := xs.all (uptB m)
theorem upts_amts (xs : List Int) : uptsB 10000 xs = amtsB xs := rfl

set_option maxHeartbeats 400000 in
set_option maxRecDepth 10000 in
theorem areUpTo_any (ao : Option Addr) (n cap : Nat) (xs : List Int) (m : Int) (w : World) (hr : Arr w 1 ao n cap (ints xs)) :
    Calls Tryz.prog 91 #[.slice ao n cap, .int .i64 m] w fun e w' => e = .returned (.bool (uptsB m xs)) ∧ w' = w := by
  have hlen := hr.len
  rw [ints_len] at hlen
  have hle := hr.le
  have hcm := hr.cm
  unfold maxLen at hcm
  have HR := hid hr
  clear hr
  go_enter Tryz.func91, Tryz.ntmps91
  go_wp2
  go_loop [9] (fun i => ∃ k : Nat, k ≤ n ∧ i = .int .i64 k ∧ Hid ((xs.take k).all (uptB m) = true)) (fun i => n - (intOf i).toNat)
  case atStart => exact ⟨0, Nat.zero_le _, rfl, rfl⟩
  case round =>
    obtain ⟨k, hk, rfl, hz⟩ := hrel
    by_cases hlt : k < n
    · obtain ⟨b, o, rfl, hb⟩ := HR.out.head (by omega)
      have hc := HR.out.int rfl hlt
      have hst := hid (take_all_step (uptB m) xs (i := k) (by omega))
      have hget := hid (lm_get xs (i := k) (by omega))
      generalize hx : lm xs k = x at hc
      have HX := hid hx
      clear hx
      by_cases h0 : x < 0
      · have E : uptsB m xs = false := all_false_of (uptB m) xs (i := k) (by omega) (by rw [hget.out, HX.out]; unfold uptB; rw [decide_eq_false_iff_not]; omega)
        have HE := hid E; clear E
        go_wp2
        go_ret
        exact ⟨by rw [HE.out]; rfl, rfl⟩
      · by_cases h1 : m < x
        · have E : uptsB m xs = false := all_false_of (uptB m) xs (i := k) (by omega) (by rw [hget.out, HX.out]; unfold uptB; rw [decide_eq_false_iff_not]; omega)
          have HE := hid E; clear E
          go_wp2
          go_ret
          exact ⟨by rw [HE.out]; rfl, rfl⟩
        · have E : uptB m x = true := by unfold uptB; rw [decide_eq_true_eq]; omega
          have HE := hid E; clear E
          go_wp2
          exact ⟨⟨k + 1, by omega, by go_num, by rw [Hid, hst.out, hz.out, hget.out, HX.out, HE.out]; rfl⟩, by simp [intOf]; omega⟩
    · obtain rfl : k = n := by omega
      have E : uptsB m xs = true := by
        have := hz.out
        rwa [List.take_of_length_le (by omega)] at this
      have HE := hid E; clear E
      go_wp2
      go_ret
      exact ⟨by rw [HE.out]; rfl, rfl⟩
set_option maxHeartbeats 400000 in
set_option maxRecDepth 10000 in
theorem wantsSome_any (ao : Option Addr) (n cap : Nat) (u : Usr) (w : World) (hr : Arr w 1 ao n cap (ints u.dem)) :
    Calls Tryz.prog 94 #[.agg #[.slice ao n cap, .int .i64 u.wt, .int .i64 u.cap]] w fun e w' => e = .returned (.bool (wantsB u.dem)) ∧ Below w.heap.size w w' := by
  have hlen := hr.len
  rw [ints_len] at hlen
  have hle := hr.le
  have hcm := hr.cm
  unfold maxLen at hcm
  have hB := (Below.refl _ w).alloc (Nat.le_refl _) (.cells #[.slice ao n cap, .int .i64 u.wt, .int .i64 u.cap] 56)
  have HR := hid (hr.below hB)
  have HB := hid hB
  clear hr hB
  go_enter Tryz.func94, Tryz.ntmps94
  go_wp2
  go_loop [8] (fun i => ∃ k : Nat, k ≤ n ∧ i = .int .i64 k ∧ Hid ((u.dem.take k).any (fun x => decide (0 < x)) = false)) (fun i => n - (intOf i).toNat)
  case atStart => exact ⟨0, Nat.zero_le _, rfl, rfl⟩
  case round =>
    obtain ⟨k, hk, rfl, hz⟩ := hrel
    by_cases hlt : k < n
    · obtain ⟨b, o, rfl, hb⟩ := HR.out.head (by omega)
      have hc := HR.out.int rfl hlt
      have hst := hid (take_any_step (fun x => decide (0 < x)) u.dem (i := k) (by omega))
      have hget := hid (lm_get u.dem (i := k) (by omega))
      generalize hx : lm u.dem k = x at hc
      have HX := hid hx
      clear hx
      by_cases h0 : 0 < x
      · have E : wantsB u.dem = true := any_true_of _ u.dem (i := k) (by omega) (by rw [hget.out, HX.out]; exact decide_eq_true h0)
        have HE := hid E; clear E
        go_wp2
        go_ret
        exact ⟨by rw [HE.out]; rfl, HB.out⟩
      · have E : decide (0 < x) = false := decide_eq_false h0
        have HE := hid E; clear E
        go_wp2
        exact ⟨⟨k + 1, by omega, by go_num, by rw [Hid, hst.out, hz.out, hget.out, HX.out, HE.out]; rfl⟩, by simp [intOf]; omega⟩
    · obtain rfl : k = n := by omega
      have E : wantsB u.dem = false := by
        have := hz.out
        rwa [List.take_of_length_le (by omega)] at this
      have HE := hid E; clear E
      go_wp2
      go_ret
      exact ⟨by rw [HE.out]; rfl, HB.out⟩

theorem isKinds_any (k : Int) (w : World) :
    Calls Tryz.prog 58 #[.int .i64 k] w fun e w' => e = .returned (.bool (rngB 1 4 k)) ∧ w' = w := by
  by_cases h1 : 1 ≤ k
  · by_cases h2 : k ≤ 4
    · have E := hid (rngB_yes (lo := 1) (hi := 4) (k := k) ⟨h1, h2⟩)
      go_enter Tryz.func58, Tryz.ntmps58
      go_wp2
      go_ret
      exact ⟨by rw [E.out]; rfl, rfl⟩
    · have E := hid (rngB_no (lo := 1) (hi := 4) (k := k) (by omega))
      go_enter Tryz.func58, Tryz.ntmps58
      go_wp2
      go_ret
      exact ⟨by rw [E.out]; rfl, rfl⟩
  · have E := hid (rngB_no (lo := 1) (hi := 4) (k := k) (by omega))
    go_enter Tryz.func58, Tryz.ntmps58
    go_wp2
    go_ret
    exact ⟨by rw [E.out]; rfl, rfl⟩
theorem isWeight_any (k : Int) (w : World) :
    Calls Tryz.prog 92 #[.int .i64 k] w fun e w' => e = .returned (.bool (rngB 1 100 k)) ∧ w' = w := by
  by_cases h1 : 1 ≤ k
  · by_cases h2 : k ≤ 100
    · have E := hid (rngB_yes (lo := 1) (hi := 100) (k := k) ⟨h1, h2⟩)
      go_enter Tryz.func92, Tryz.ntmps92
      go_wp2
      go_ret
      exact ⟨by rw [E.out]; rfl, rfl⟩
    · have E := hid (rngB_no (lo := 1) (hi := 100) (k := k) (by omega))
      go_enter Tryz.func92, Tryz.ntmps92
      go_wp2
      go_ret
      exact ⟨by rw [E.out]; rfl, rfl⟩
  · have E := hid (rngB_no (lo := 1) (hi := 100) (k := k) (by omega))
    go_enter Tryz.func92, Tryz.ntmps92
    go_wp2
    go_ret
    exact ⟨by rw [E.out]; rfl, rfl⟩
theorem isCap_any (k : Int) (w : World) :
    Calls Tryz.prog 93 #[.int .i64 k] w fun e w' => e = .returned (.bool (rngB 0 1000 k)) ∧ w' = w := by
  by_cases h1 : 0 ≤ k
  · by_cases h2 : k ≤ 1000
    · have E := hid (rngB_yes (lo := 0) (hi := 1000) (k := k) ⟨h1, h2⟩)
      go_enter Tryz.func93, Tryz.ntmps93
      go_wp2
      go_ret
      exact ⟨by rw [E.out]; rfl, rfl⟩
    · have E := hid (rngB_no (lo := 0) (hi := 1000) (k := k) (by omega))
      go_enter Tryz.func93, Tryz.ntmps93
      go_wp2
      go_ret
      exact ⟨by rw [E.out]; rfl, rfl⟩
  · have E := hid (rngB_no (lo := 0) (hi := 1000) (k := k) (by omega))
    go_enter Tryz.func93, Tryz.ntmps93
    go_wp2
    go_ret
    exact ⟨by rw [E.out]; rfl, rfl⟩
theorem poolB_short {xs : List Int} (h : xs.length < 1 ∨ 4 < xs.length) : poolB xs = false := by
  unfold poolB
  have : decide (1 ≤ xs.length ∧ xs.length ≤ 4) = false := decide_eq_false (by omega)
  rw [this]; rfl
theorem poolB_len {xs : List Int} (h : 1 ≤ xs.length) (h2 : xs.length ≤ 4) : poolB xs = amtsB xs := by
  unfold poolB
  have : decide (1 ≤ xs.length ∧ xs.length ≤ 4) = true := decide_eq_true ⟨h, h2⟩
  rw [this]; rfl

set_option maxHeartbeats 400000 in
theorem isPool_any (ao : Option Addr) (n cap : Nat) (xs : List Int) (w : World) (hr : Arr w 1 ao n cap (ints xs)) :
    Calls Tryz.prog 43 #[.slice ao n cap] w fun e w' => e = .returned (.bool (poolB xs)) ∧ w' = w := by
  have hlen := hr.len
  rw [ints_len] at hlen
  have hle := hr.le
  have hcm := hr.cm
  unfold maxLen at hcm
  have HR := hid hr
  clear hr
  go_enter Tryz.func43, Tryz.ntmps43
  go_wp2_with fail
  refine (isKinds_any (n : Int) _).mono ?_
  rintro e w1 ⟨rfl, rfl⟩
  by_cases h : 1 ≤ (n : Int) ∧ (n : Int) ≤ 4
  · rw [rngB_yes h]
    have E := hid (poolB_len (xs := xs) (by omega) (by omega))
    go_wp2_with fail
    refine (areUpTo_any ao n cap xs 10000 _ HR.out).mono ?_
    rintro e w2 ⟨rfl, rfl⟩
    go_wp2
    go_ret
    exact ⟨by rw [E.out, upts_amts]; rfl, rfl⟩
  · rw [rngB_no h]
    have E := hid (poolB_short (xs := xs) (by omega))
    go_wp2
    go_ret
    exact ⟨by rw [E.out]; rfl, rfl⟩

theorem usrB_eq (k : Nat) (u : Usr) (a b c d : Bool) (h1 : decide (u.dem.length = k) = a) (h2 : decide (1 ≤ u.wt ∧ u.wt ≤ 100 ∧ 0 ≤ u.cap ∧ u.cap ≤ 1000) = b) (h3 : amtsB u.dem = c) (h4 : wantsB u.dem = d) : usrB k u = (a && b && c && d) := by
  unfold usrB; rw [h1, h2, h3, h4]

set_option maxHeartbeats 1000000 in
set_option maxRecDepth 20000 in
theorem isUser_any (ao : Option Addr) (n cap k : Nat) (u : Usr) (w : World) (hr : Arr w 1 ao n cap (ints u.dem)) (hk : k ≤ maxLen) :
    Calls Tryz.prog 44 #[.agg #[.slice ao n cap, .int .i64 u.wt, .int .i64 u.cap], .int .i64 k] w fun e w' => e = .returned (.bool (usrB k u)) ∧ Below w.heap.size w w' := by
  have hlen := hr.len
  rw [ints_len] at hlen
  have hle := hr.le
  have hcm := hr.cm
  unfold maxLen at hcm hk
  have hB := (Below.refl _ w).alloc (Nat.le_refl _) (.cells #[.slice ao n cap, .int .i64 u.wt, .int .i64 u.cap] 56)
  have HR := hid (hr.below hB)
  have HB := hid hB
  clear hr hB
  by_cases h0 : n = k
  · subst h0
    by_cases h1 : 1 ≤ u.wt ∧ u.wt ≤ 100
    · by_cases h2 : 0 ≤ u.cap ∧ u.cap ≤ 1000
      · have E := hid (usrB_eq n u true true _ _ (by rw [hlen]; exact decide_eq_true rfl) (decide_eq_true ⟨h1.1, h1.2, h2.1, h2.2⟩) rfl rfl)
        go_enter Tryz.func44, Tryz.ntmps44
        go_wp2_with fail
        refine (isWeight_any u.wt _).mono ?_
        rintro e w1 ⟨rfl, rfl⟩
        rw [rngB_yes h1]
        go_wp2_with fail
        refine (isCap_any u.cap _).mono ?_
        rintro e w1 ⟨rfl, rfl⟩
        rw [rngB_yes h2]
        go_wp2_with fail
        refine (areUpTo_any ao n cap u.dem 10000 _ HR.out).mono ?_
        rintro e w1 ⟨rfl, rfl⟩
        rw [upts_amts]
        cases h3 : amtsB u.dem with
        | false =>
          have H2 := hid h3
          go_wp2
          go_ret
          exact ⟨by rw [E.out, H2.out]; rfl, HB.out⟩
        | true =>
          have H2 := hid h3
          go_wp2_with fail
          refine (wantsSome_any ao n cap u _ HR.out).mono ?_
          rintro e w2 ⟨rfl, hb2⟩
          have HB2 := hid (HB.out.trans (hb2.mono HB.out.size))
          clear hb2
          go_wp2
          go_ret
          exact ⟨by rw [E.out, H2.out]; rfl, HB2.out⟩
      · have E := hid (usrB_eq n u true false _ _ (by rw [hlen]; exact decide_eq_true rfl) (decide_eq_false (by omega)) rfl rfl)
        go_enter Tryz.func44, Tryz.ntmps44
        go_wp2_with fail
        refine (isWeight_any u.wt _).mono ?_
        rintro e w1 ⟨rfl, rfl⟩
        rw [rngB_yes h1]
        go_wp2_with fail
        refine (isCap_any u.cap _).mono ?_
        rintro e w1 ⟨rfl, rfl⟩
        rw [rngB_no h2]
        go_wp2
        go_ret
        exact ⟨by rw [E.out]; rfl, HB.out⟩
    · have E := hid (usrB_eq n u true false _ _ (by rw [hlen]; exact decide_eq_true rfl) (decide_eq_false (by omega)) rfl rfl)
      go_enter Tryz.func44, Tryz.ntmps44
      go_wp2_with fail
      refine (isWeight_any u.wt _).mono ?_
      rintro e w1 ⟨rfl, rfl⟩
      rw [rngB_no h1]
      go_wp2
      go_ret
      exact ⟨by rw [E.out]; rfl, HB.out⟩
  · have h0' : ((n : Int) == (k : Int)) = false := by rw [beq_eq_false_iff_ne]; omega
    have E := hid (usrB_eq k u false _ _ _ (by rw [hlen]; exact decide_eq_false h0) rfl rfl rfl)
    go_enter Tryz.func44, Tryz.ntmps44
    go_wp2
    go_ret
    exact ⟨by rw [E.out]; rfl, HB.out⟩
end Go.Proofs.YtigokanoflkinaaGreatDoor
