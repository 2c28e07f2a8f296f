/- portionkeep.amounts, user, refusal. -/
import Derived.Test.YtigokanoflkinabDoorWSolve
namespace Go.Proofs.YtigokanoflkinabDoor
set_option linter.unusedSimpArgs false
set_option linter.unusedVariables false
open Go.RowKit Por

/-- so many amounts -/
def amtK (xs : List Int) (n k : Nat) : Bool := decide (n = k) && amtsB xs
theorem amtK_same (xs : List Int) (n : Nat) : amtK xs n n = amtsB xs := by unfold amtK; rw [decide_eq_true rfl]; rfl
theorem amtK_ne (xs : List Int) {n k : Nat} (h : n ≠ k) : amtK xs n k = false := by unfold amtK; rw [decide_eq_false h]; rfl

set_option maxHeartbeats 1000000 in
set_option maxRecDepth 20000 in
theorem kamounts_any (ao : Option Addr) (n cap k : Nat) (xs : List Int) (w : World) (hr : Arr w 1 ao n cap (ints xs)) (hk : k ≤ maxLen) :
    Calls Tryd.prog 19 #[.slice ao n cap, .int .i64 k, .int .i64 10000] w fun e w' => e = .returned (.bool (amtK xs n k)) ∧ w' = w := by
  have hlen := hr.len
  rw [ints_len] at hlen
  have hle := hr.le
  have hcm := hr.cm
  unfold maxLen at hcm hk
  have HR := hid hr
  clear hr
  by_cases h0 : n = k
  · subst h0
    have HE0 := hid (amtK_same xs n)
    go_enter Tryd.func19, Tryd.ntmps19
    go_wp2
    go_loop [7] (fun i => ∃ k : Nat, k ≤ n ∧ i = .int .i64 k ∧ Hid ((xs.take k).all amtB = true)) (fun i => n - (intOf i).toNat)
    case atStart => exact ⟨0, Nat.zero_le _, rfl, rfl⟩
    case round =>
      obtain ⟨k, hk, rfl, hz⟩ := hrel
      by_cases hlt : k < n
      · obtain ⟨b, o, rfl, hb⟩ := HR.out.head (by omega)
        have hc := HR.out.int rfl hlt
        have hst := hid (take_all_step amtB xs (i := k) (by omega))
        have hget := hid (lm_get xs (i := k) (by omega))
        generalize hx : lm xs k = x at hc
        have HX := hid hx
        clear hx
        by_cases h0 : x < 0
        · have E : amtsB xs = false := all_false_of amtB xs (i := k) (by omega) (by rw [hget.out, HX.out]; unfold amtB; rw [decide_eq_false_iff_not]; omega)
          have HE := hid E; clear E
          go_wp2
          go_ret
          exact ⟨by rw [HE0.out, HE.out]; rfl, rfl⟩
        · by_cases h1 : (10000 : Int) < x
          · have E : amtsB xs = false := all_false_of amtB xs (i := k) (by omega) (by rw [hget.out, HX.out]; unfold amtB; rw [decide_eq_false_iff_not]; omega)
            have HE := hid E; clear E
            go_wp2
            go_ret
            exact ⟨by rw [HE0.out, HE.out]; rfl, rfl⟩
          · have E : amtB x = true := by unfold amtB; rw [decide_eq_true_eq]; omega
            have HE := hid E; clear E
            go_wp2
            exact ⟨⟨k + 1, by omega, by go_num, by rw [Hid, hst.out, hz.out, hget.out, HX.out, HE.out]; rfl⟩, by simp [intOf]; omega⟩
      · obtain rfl : k = n := by omega
        have E : amtsB xs = true := by
          have := hz.out
          rwa [List.take_of_length_le (by omega)] at this
        have HE := hid E; clear E
        go_wp2
        go_ret
        exact ⟨by rw [HE0.out, HE.out]; rfl, rfl⟩
  · have h0' : ((n : Int) == (k : Int)) = false := by rw [beq_eq_false_iff_ne]; omega
    have HE0 := hid (amtK_ne xs h0)
    go_enter Tryd.func19, Tryd.ntmps19
    go_wp2
    go_ret
    exact ⟨by rw [HE0.out]; rfl, rfl⟩

/-- the sum of the first k -/
def sumI (xs : List Int) : Nat → Int
  | 0 => 0
  | k + 1 => sumI xs k + lm xs k
theorem sumI_rng {xs : List Int} (h : ∀ i, amtB (lm xs i) = true) : ∀ k, 0 ≤ sumI xs k ∧ sumI xs k ≤ 10000 * k := by
  intro k
  induction k with
  | zero => exact ⟨Int.le_refl _, Int.le_refl _⟩
  | succ k ih =>
    have := amt_rng (h k)
    simp only [sumI]
    omega
theorem sumI_pos {xs : List Int} (h : ∀ i, amtB (lm xs i) = true) : ∀ k, 0 < sumI xs k ↔ ∃ r, r < k ∧ 0 < lm xs r := by
  intro k
  induction k with
  | zero => simp [sumI]
  | succ k ih =>
    have h1 := amt_rng (h k)
    have h2 := (sumI_rng h k).1
    simp only [sumI]
    constructor
    · intro hs
      by_cases e : 0 < sumI xs k
      · obtain ⟨r, hr, hp⟩ := ih.1 e; exact ⟨r, by omega, hp⟩
      · exact ⟨k, by omega, by omega⟩
    · rintro ⟨r, hr, hp⟩
      by_cases e : r = k
      · subst e; omega
      · have := ih.2 ⟨r, by omega, hp⟩; omega
theorem wants_sum {xs : List Int} (h : ∀ i, amtB (lm xs i) = true) : wantsB xs = decide (0 < sumI xs xs.length) := by
  rw [Bool.eq_iff_iff, decide_eq_true_eq, sumI_pos h]
  unfold wantsB
  rw [List.any_eq_true]
  constructor
  · rintro ⟨x, hx, hp⟩
    obtain ⟨r, hr, rfl⟩ := List.getElem_of_mem hx
    refine ⟨r, hr, ?_⟩
    rw [← lm_get _ hr]; simpa using hp
  · rintro ⟨r, hr, hp⟩
    refine ⟨xs[r], List.getElem_mem hr, ?_⟩
    rw [lm_get _ hr]; simpa using hp

set_option maxHeartbeats 2000000 in
set_option maxRecDepth 20000 in
theorem kuser_any (ao : Option Addr) (n cap k : Nat) (u : Usr) (w : World) (hr : Arr w 1 ao n cap (ints u.dem)) (hk : k ≤ 4) :
    Calls Tryd.prog 20 #[.agg #[.slice ao n cap, .int .i64 u.wt, .int .i64 u.cap], .int .i64 k] w fun e w' => e = .returned (.bool (usrB k u)) ∧ Below w.heap.size w w' := by
  have hlen := hr.len
  rw [ints_len] at hlen
  have hle := hr.le
  have hcm := hr.cm
  unfold maxLen at hcm
  have hB := (Below.refl _ w).alloc (Nat.le_refl _) (.cells #[.slice ao n cap, .int .i64 u.wt, .int .i64 u.cap] 31)
  have HR := hid (hr.below hB)
  have HB := hid hB
  clear hr hB
  cases hd : amtK u.dem n k with
  | false =>
    have E : usrB k u = false := by
      unfold usrB
      rw [hlen]
      unfold amtK at hd
      cases h1 : decide (n = k) with
      | false => simp
      | true =>
        rw [h1] at hd
        have : amtsB u.dem = false := by simpa using hd
        rw [this]; simp
    have HE := hid E
    have HD := hid hd
    clear E hd
    go_enter Tryd.func20, Tryd.ntmps20
    go_wp2_with fail
    refine (kamounts_any ao n cap k u.dem _ HR.out (by unfold maxLen; omega)).mono ?_
    rintro e w1 ⟨rfl, rfl⟩
    rw [HD.out]
    go_wp2
    go_ret
    exact ⟨by rw [HE.out]; rfl, HB.out⟩
  | true =>
    have hd2 := hd
    unfold amtK at hd2
    rw [Bool.and_eq_true, decide_eq_true_eq] at hd2
    obtain ⟨rfl, hamt⟩ := hd2
    have hda := lm_amt hamt
    have HD := hid hd
    have HA := hid hamt
    have HDA := hid hda
    clear hd hamt hda
    have hdn : decide (u.dem.length = n) = true := decide_eq_true hlen
    have HDN := hid hdn
    clear hdn
    by_cases h1 : 1 ≤ u.wt ∧ u.wt ≤ 100 ∧ 0 ≤ u.cap ∧ u.cap ≤ 1000
    · have g1 : ¬ u.wt < 1 := by omega
      have g2 : ¬ (100 : Int) < u.wt := by omega
      have g3 : ¬ u.cap < 0 := by omega
      have g4 : ¬ (1000 : Int) < u.cap := by omega
      have E : usrB n u = decide (0 < sumI u.dem n) := by
        unfold usrB
        rw [HDN.out, decide_eq_true h1, HA.out, wants_sum HDA.out, hlen]; rfl
      have HE := hid E; clear E
      go_enter Tryd.func20, Tryd.ntmps20
      go_wp2_with fail
      refine (kamounts_any ao n cap n u.dem _ HR.out (by unfold maxLen; omega)).mono ?_
      rintro e w1 ⟨rfl, rfl⟩
      rw [HD.out]
      go_wp2
      go_loop [6, 7] (fun sm i => ∃ k : Nat, k ≤ n ∧ i = .int .i64 k ∧ sm = .int .i64 (sumI u.dem k)) (fun _ i => n - (intOf i).toNat)
      case atStart => exact ⟨0, Nat.zero_le _, rfl, rfl⟩
      case round =>
        obtain ⟨k, hk, rfl, rfl⟩ := hrel
        by_cases hlt : k < n
        · obtain ⟨b, o, rfl, hb⟩ := HR.out.head (by omega)
          have hc := HR.out.int rfl hlt
          have hrg := sumI_rng HDA.out k
          have hrx := amt_rng (HDA.out k)
          have hstep : sumI u.dem (k + 1) = sumI u.dem k + lm u.dem k := rfl
          have HST := hid hstep
          clear hstep
          generalize hx : lm u.dem k = x at hc hrx
          have HX := hid hx
          clear hx
          generalize hs : sumI u.dem k = t at hrg
          have HT := hid hs
          clear hs
          go_wp2
          exact ⟨⟨k + 1, by omega, by go_num, by rw [HST.out, HX.out, HT.out]⟩, by simp [intOf]; omega⟩
        · obtain rfl : k = n := by omega
          have hrg := sumI_rng HDA.out k
          go_wp2
          go_ret
          exact ⟨by rw [HE.out]; rfl, HB.out⟩
    · have E : usrB n u = false := by
        unfold usrB
        rw [HDN.out, decide_eq_false h1]; rfl
      have HE := hid E; clear E
      by_cases g1 : u.wt < 1
      · go_enter Tryd.func20, Tryd.ntmps20
        go_wp2_with fail
        refine (kamounts_any ao n cap n u.dem _ HR.out (by unfold maxLen; omega)).mono ?_
        rintro e w1 ⟨rfl, rfl⟩
        rw [HD.out]
        go_wp2
        go_ret
        exact ⟨by rw [HE.out]; rfl, HB.out⟩
      · by_cases g2 : (100 : Int) < u.wt
        · go_enter Tryd.func20, Tryd.ntmps20
          go_wp2_with fail
          refine (kamounts_any ao n cap n u.dem _ HR.out (by unfold maxLen; omega)).mono ?_
          rintro e w1 ⟨rfl, rfl⟩
          rw [HD.out]
          go_wp2
          go_ret
          exact ⟨by rw [HE.out]; rfl, HB.out⟩
        · by_cases g3 : u.cap < 0
          · go_enter Tryd.func20, Tryd.ntmps20
            go_wp2_with fail
            refine (kamounts_any ao n cap n u.dem _ HR.out (by unfold maxLen; omega)).mono ?_
            rintro e w1 ⟨rfl, rfl⟩
            rw [HD.out]
            go_wp2
            go_ret
            exact ⟨by rw [HE.out]; rfl, HB.out⟩
          · have g4 : (1000 : Int) < u.cap := by omega
            go_enter Tryd.func20, Tryd.ntmps20
            go_wp2_with fail
            refine (kamounts_any ao n cap n u.dem _ HR.out (by unfold maxLen; omega)).mono ?_
            rintro e w1 ⟨rfl, rfl⟩
            rw [HD.out]
            go_wp2
            go_ret
            exact ⟨by rw [HE.out]; rfl, HB.out⟩

set_option maxHeartbeats 2000000 in
set_option maxRecDepth 20000 in
theorem refusal_any (po : Option Addr) (pn pc : Nat) (pool : List Int) (ao : Option Addr) (n cap : Nat) (us : List Usr) (w : World) (hp : Arr w 1 po pn pc (ints pool)) (hu : Users w ao n cap us) :
    Calls Tryd.prog 10 #[.slice po pn pc, .slice ao n cap] w fun e w' => e = .returned (.int .i64 (errOf pool us)) ∧ Below w.heap.size w w' := by
  have hpl := hp.len
  rw [ints_len] at hpl
  have hpm : pn ≤ maxLen := Nat.le_trans hp.le hp.cm
  have hul := hu.1
  have hum : n ≤ maxLen := by obtain ⟨_, vs, h1, _⟩ := hu; exact Nat.le_trans h1.le h1.cm
  have HM := hid hpm
  unfold maxLen at hpm hum
  have HP := hid hp
  have HU := hid hu
  clear hp hu
  have HED := hid (amtK_same pool pn)
  go_enter Tryd.func10, Tryd.ntmps10
  go_wp2_with fail
  refine (kamounts_any po pn pc pn pool _ HP.out HM.out).mono ?_
  rintro e0 w0 ⟨rfl, rfl⟩
  rw [HED.out]
  cases hb : amtsB pool with
  | false =>
    have E : errOf pool us = 3 := by
      unfold errOf poolB
      rw [hb, if_pos (by simp)]
    have HE := hid E; clear E
    go_wp2
    go_ret
    exact ⟨by rw [HE.out]; rfl, Below.refl _ _⟩
  | true =>
    have HBt := hid hb
    clear hb
    by_cases h0 : pn < 1
    · have E : errOf pool us = 3 := by unfold errOf; rw [if_pos (poolB_short (Or.inl (by omega)))]
      have HE := hid E; clear E
      have h0' : (pn : Int) < 1 := by omega
      go_wp2
      go_ret
      exact ⟨by rw [HE.out]; rfl, Below.refl _ _⟩
    · have h0' : ¬ (pn : Int) < 1 := by omega
      by_cases h4 : 4 < pn
      · have E : errOf pool us = 3 := by unfold errOf; rw [if_pos (poolB_short (Or.inr (by omega)))]
        have HE := hid E; clear E
        have h4' : (4 : Int) < pn := by omega
        go_wp2
        go_ret
        exact ⟨by rw [HE.out]; rfl, Below.refl _ _⟩
      · have h4' : ¬ (4 : Int) < pn := by omega
        have hpb : poolB pool = true := by rw [poolB_len (by omega) (by omega)]; exact HBt.out
        have HPB := hid hpb
        clear hpb
        by_cases h1 : 6 < n
        · have E : errOf pool us = 4 := by unfold errOf; rw [if_neg (by rw [HPB.out]; simp), if_pos (by omega)]
          have HE := hid E; clear E
          have h1' : (6 : Int) < n := by omega
          go_wp2
          go_ret
          exact ⟨by rw [HE.out]; rfl, Below.refl _ _⟩
        · have h1' : ¬ (6 : Int) < n := by omega
          go_wp2
          go_loopw [6] (fun i wr => ∃ k : Nat, k ≤ n ∧ i = .int .i64 k ∧ Hid ((us.take k).all (usrB pn) = true) ∧ Hid (Below w0.heap.size w0 wr)) (fun i _ => n - (intOf i).toNat)
          case atStart => exact ⟨0, Nat.zero_le _, rfl, rfl, Below.refl _ _⟩
          case round =>
            obtain ⟨k, hk, rfl, hz, hB⟩ := hrel
            by_cases hlt : k < n
            · obtain ⟨b, o, da, dn, dc, rfl, hb, c0, c1, c2, hd⟩ := (HU.out.below hB.out).get hlt
              have hst := hid (take_all_step (usrB pn) us (i := k) (by omega))
              have hget := hid (ug_get us (i := k) (by omega))
              have HD := hid hd
              clear hd
              go_wp2_with fail
              refine (kuser_any da dn dc pn (ug us k) _ HD.out (by omega)).mono ?_
              rintro e1 w1 ⟨rfl, hb1⟩
              have HB3 : Hid (Below w0.heap.size w0 w1) := hB.out.trans (hb1.mono hB.out.size)
              clear hb1
              cases h2 : usrB pn (ug us k) with
              | false =>
                have E : errOf pool us = 4 := by
                  unfold errOf
                  rw [if_neg (by rw [HPB.out]; simp), if_neg (by omega), if_pos (all_false_of _ us (i := k) (by omega) (by rw [hget.out, hpl]; exact h2))]
                have HE := hid E; clear E
                go_wp2
                go_ret
                exact ⟨by rw [HE.out]; rfl, HB3.out⟩
              | true =>
                have H2 := hid h2
                go_wp2
                go_roundw
                case rel => exact ⟨k + 1, by omega, by go_num, by rw [Hid, hst.out, hz.out, hget.out, H2.out]; rfl, HB3.out⟩
                case measure => simp [intOf]; omega
            · obtain rfl : k = n := by omega
              have E : errOf pool us = 0 := by
                have := hz.out
                rw [List.take_of_length_le (by omega)] at this
                unfold errOf
                rw [if_neg (by rw [HPB.out]; simp), if_neg (by omega), if_neg (by rw [hpl, this]; simp)]
              have HE := hid E; clear E
              go_wp2
              go_ret
              exact ⟨by rw [HE.out]; rfl, hB.out⟩
end Go.Proofs.YtigokanoflkinabDoor
