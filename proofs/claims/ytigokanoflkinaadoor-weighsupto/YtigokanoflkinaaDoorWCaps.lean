/- fill.areWithinCaps. (Laid by mkfill.py.) -/
import Derived.Test.YtigokanoflkinaaDoorWNeg
import Derived.Test.YtigokanoflkinaaDoorWChk
import Derived.Deep.RegionHeld3
namespace Go.Proofs.YtigokanoflkinaaDoor
set_option linter.unusedSimpArgs false
set_option linter.unusedVariables false
open Go.RowKit Por

/-- is each of the first n at most its user's cap? -/
def capAll (us : List Usr) (f : Nat → Rat) : Nat → Bool
  | 0 => true
  | n + 1 => capAll us f n && decide (f n ≤ ((ug us n).cap : Rat))
theorem capAll_false {us : List Usr} {f : Nat → Rat} {i n : Nat} (hi : i < n) (h : ((ug us i).cap : Rat) < f i) : capAll us f n = false := by
  induction n with
  | zero => omega
  | succ n ih =>
    simp only [capAll]
    by_cases e : i = n
    · subst e; rw [decide_eq_false (fun h5 => by grind)]; simp
    · rw [ih (by omega)]; rfl
/-- every user is one of k kinds -/
def Good (us : List Usr) (k : Nat) : Prop := ∀ i, i < us.length → usrB k (ug us i) = true
theorem Good.cap {us : List Usr} {k i : Nat} (h : Good us k) (hi : i < us.length) : 0 ≤ (ug us i).cap ∧ (ug us i).cap ≤ 1000 := by
  have := h i hi
  unfold usrB at this
  simp only [Bool.and_eq_true, decide_eq_true_eq] at this
  exact ⟨this.1.1.2.2.2.1, this.1.1.2.2.2.2⟩
theorem Good.wt {us : List Usr} {k i : Nat} (h : Good us k) (hi : i < us.length) : 1 ≤ (ug us i).wt ∧ (ug us i).wt ≤ 100 := by
  have := h i hi
  unfold usrB at this
  simp only [Bool.and_eq_true, decide_eq_true_eq] at this
  exact ⟨this.1.1.2.1, this.1.1.2.2.1⟩
theorem Good.len {us : List Usr} {k i : Nat} (h : Good us k) (hi : i < us.length) : (ug us i).dem.length = k := by
  have := h i hi
  unfold usrB at this
  simp only [Bool.and_eq_true, decide_eq_true_eq] at this
  exact this.1.1.1
theorem lm_amt {xs : List Int} (h : amtsB xs = true) (r : Nat) : amtB (lm xs r) = true := by
  unfold lm
  rw [List.getD_eq_getElem?_getD]
  by_cases hr : r < xs.length
  · rw [List.getElem?_eq_getElem hr]
    unfold amtsB at h
    rw [List.all_eq_true] at h
    exact h _ (List.getElem_mem hr)
  · rw [List.getElem?_eq_none (by omega)]; decide
theorem amt_rng {x : Int} (h : amtB x = true) : 0 ≤ x ∧ x ≤ 10000 := by unfold amtB at h; simpa using h
theorem Good.dem {us : List Usr} {k i : Nat} (h : Good us k) (hi : i < us.length) (r : Nat) : amtB (lm (ug us i).dem r) = true := by
  have := h i hi
  unfold usrB at this
  simp only [Bool.and_eq_true] at this
  exact lm_amt this.1.2 r
theorem Good.some {us : List Usr} {k i : Nat} (h : Good us k) (hi : i < us.length) : ∃ r, r < k ∧ 0 < lm (ug us i).dem r := by
  have h1 := h i hi
  have h2 := h.len hi
  unfold usrB at h1
  simp only [Bool.and_eq_true] at h1
  have h3 := h1.2
  unfold wantsB at h3
  rw [List.any_eq_true] at h3
  obtain ⟨x, hx, hp⟩ := h3
  obtain ⟨r, hr, rfl⟩ := List.getElem_of_mem hx
  refine ⟨r, by omega, ?_⟩
  rw [← lm_get _ hr]; simpa using hp

/-- none below 0, none above its user's cap -/
def withinB (us : List Usr) (f : Nat → Rat) (n : Nat) : Bool := !negAny f n && capAll us f n

set_option maxHeartbeats 2000000 in
set_option maxRecDepth 20000 in
theorem within_any (ao : Option Addr) (n cap : Nat) (us : List Usr) (vo : Option Addr) (cap2 kk : Nat) (f : Nat → Rat) (w : World) (hu : Users w ao n cap us) (hg : Good us kk) (hf : Frs w vo n cap2 f) (hs : ∀ i, i < n → Sm (f i) 10000) (ht : Tab w) :
    Calls Tryd.prog 71 #[.slice ao n cap, .slice vo n cap2] w fun e w' => e = .returned (.bool (withinB us f n)) ∧ Below w.heap.size w w' := by
  have hnm := hf.le
  unfold maxLen at hnm
  have hul := hu.1
  have HU := hid hu
  have HG := hid hg
  have HF := hid hf
  have HS := hid hs
  have HT := hid ht
  clear hu hg hf hs ht
  have HB_0 := hid (Below.refl w.heap.size w)
  go_enter Tryd.func71, Tryd.ntmps71
  go_wp2_with fail
  refine (isNeg_any vo n cap2 f _ HF.out HS.out HT.out).mono ?_
  rintro e0 w0 ⟨rfl, hb0⟩
  have HB_1 : Hid (Below w.heap.size w w0) := HB_0.out.trans (hb0.mono HB_0.out.size)
  clear HB_0
  clear hb0
  cases hneg : negAny f n with
  | true =>
    have HN := hid hneg
    go_wp2
    go_ret
    exact ⟨by rw [withinB, HN.out]; rfl, HB_1.out⟩
  | false =>
    have HN := hid hneg; clear hneg
    go_wp2
    go_loopw [12] (fun i wr => ∃ k : Nat, k ≤ n ∧ i = .int .i64 k ∧ Hid (capAll us f k = true) ∧ Hid (Below w.heap.size w wr)) (fun i _ => n - (intOf i).toNat)
    case atStart => exact ⟨0, Nat.zero_le _, rfl, rfl, HB_1.out⟩
    case round =>
      obtain ⟨k, hk, rfl, hz, hB⟩ := hrel
      by_cases hlt : k < n
      · obtain ⟨b, o, da, dn, dc, rfl, hbl, c0, c1, c2, hd⟩ := (HU.out.below hB.out).get hlt
        have hcp := HG.out.cap (i := k) (by omega)
        clear hd
        have XU_1 := hid (bx_new wr #[.slice da dn dc, .int .i64 (ug us k).wt, .int .i64 (ug us k).cap] 45)
        have HB_1 : Hid (Below w.heap.size w (wr.alloc (.cells #[.slice da dn dc, .int .i64 (ug us k).wt, .int .i64 (ug us k).cap] 45))) := hB.out.alloc hB.out.size (.cells #[.slice da dn dc, .int .i64 (ug us k).wt, .int .i64 (ug us k).cap] 45)
        have leU : w.heap.size ≤ wr.heap.size := hB.out.size
        clear hB
        go_wp2_with fail
        refine (whole_any (ug us k).cap (by omega) (by omega) _ (HT.out.of HB_1.out)).mono ?_
        rintro e1 w1 ⟨v1, rfl, ⟨ma, mb, mc, md, me, mf, rfl, hm1, hm2⟩, hb1⟩
        have XU_2 := hid (XU_1.out.keep hb1)
        have HB_2 : Hid (Below w.heap.size w w1) := HB_1.out.trans (hb1.mono HB_1.out.size)
        clear XU_1 HB_1
        clear hb1
        have Rm1_2 := hid hm1
        have Rm2_2 := hid hm2
        have SMm := hid (show Sm (((ug us k).cap : Rat)) 5 from Sm.int (by omega) (by omega))
        have lm1 := hm1.sm1 SMm.out
        have lm2 := hm2.sm2 SMm.out
        clear hm1 hm2
        clear c0 c1 c2
        have XU_3 := hid (bx_past XU_2.out (.cells #[.bool (negB ((ug us k).cap : Rat)), .slice ma mb mc, .slice md me mf] 76))
        have XM_3 := hid (bx_new w1 #[.bool (negB ((ug us k).cap : Rat)), .slice ma mb mc, .slice md me mf] 76)
        have Rm1_3 := hid (Rm1_2.out.alloc (.cells #[.bool (negB ((ug us k).cap : Rat)), .slice ma mb mc, .slice md me mf] 76))
        have Rm2_3 := hid (Rm2_2.out.alloc (.cells #[.bool (negB ((ug us k).cap : Rat)), .slice ma mb mc, .slice md me mf] 76))
        have HB_3 : Hid (Below w.heap.size w (w1.alloc (.cells #[.bool (negB ((ug us k).cap : Rat)), .slice ma mb mc, .slice md me mf] 76))) := HB_2.out.alloc HB_2.out.size (.cells #[.bool (negB ((ug us k).cap : Rat)), .slice ma mb mc, .slice md me mf] 76)
        have leM : w.heap.size ≤ w1.heap.size := HB_2.out.size
        clear XU_2 Rm1_2 Rm2_2 HB_2
        go_wp2_with fail
        obtain ⟨V, hV⟩ : ∃ V, V = (w1.alloc (.cells #[.bool (negB ((ug us k).cap : Rat)), .slice ma mb mc, .slice md me mf] 76)) := ⟨_, rfl⟩
        rw [← hV] at XU_3 XM_3 Rm1_3 Rm2_3 HB_3 ⊢
        clear hV
        obtain ⟨b2, o2, ua, ub, uc, ud, ue, uf, rfl, hbl2, c0, c1, c2, hu1, hu2⟩ := ((HF.out.below HB_3.out).drew).get hlt
        have lu1 := hu1.sm1 (HS.out k hlt)
        have lu2 := hu2.sm2 (HS.out k hlt)
        have m0 := XM_3.out.drew.cell 0 _ rfl
        have m1 := XM_3.out.drew.cell 1 _ rfl
        have m2 := XM_3.out.drew.cell 2 _ rfl
        have R1 := hid hu1
        have R2 := hid hu2
        clear hu1 hu2
        obtain ⟨c, hcq⟩ : ∃ c, cmpQ (f k) ((ug us k).cap : Rat) = c := ⟨_, rfl⟩
        have HCQ := hid hcq
        clear hcq
        by_cases hc : 0 < c
        · have HE := hid (capAll_false hlt (by have h9 := HCQ.out; rw [← h9] at hc; exact cmp_gt.1 hc))
          go_region_held3 (fun w' => w'.cell? ⟨b2, o2 + k * 3, none⟩ = some (.bool (negB (f k))) ∧ w'.cell? ⟨b2, o2 + k * 3 + 1, none⟩ = some (.slice ua ub uc) ∧ w'.cell? ⟨b2, o2 + k * 3 + 2, none⟩ = some (.slice ud ue uf) ∧ w'.cell? ⟨w1.heap.size, 0, none⟩ = some (.bool (negB ((ug us k).cap : Rat))) ∧ w'.cell? ⟨w1.heap.size, 1, none⟩ = some (.slice ma mb mc) ∧ w'.cell? ⟨w1.heap.size, 2, none⟩ = some (.slice md me mf)) (first | exact ⟨k0, k1, k2, k3, k4, k5⟩ | exact ⟨c0, c1, c2, m0, m1, m2⟩)
            (first | (go_at_call 60; refine (rcmp_any ua ud ma md ub uc ue uf mb mc me mf (f k) ((ug us k).cap : Rat) V.drew R1.out R2.out Rm1_3.out.drew Rm2_3.out.drew (by omega) (by omega) (by omega) (by omega)).mono ?_; rintro e7 w7 ⟨rfl, hb7⟩; rw [HCQ.out]; have k0 := (hb7.cell (p := ⟨b2, o2 + k * 3, none⟩) hbl2).trans c0; have k1 := (hb7.cell (p := ⟨b2, o2 + k * 3 + 1, none⟩) hbl2).trans c1; have k2 := (hb7.cell (p := ⟨b2, o2 + k * 3 + 2, none⟩) hbl2).trans c2; have XM_9 := XM_3.out.drew.keep hb7; have k3 := XM_9.cell 0 _ rfl; have k4 := XM_9.cell 1 _ rfl; have k5 := XM_9.cell 2 _ rfl; have HB_9 : Hid (Below w.heap.size w w7) := HB_3.out.drew.trans (hb7.mono HB_3.out.size); clear hb7 XM_9))
          go_wp2
          go_ret
          exact ⟨by rw [withinB, HN.out, HE.out]; rfl, HB_9.out⟩
        · have E : capAll us f (k + 1) = true := by
            simp only [capAll]
            rw [hz.out, decide_eq_true]; rfl
            have h9 := HCQ.out
            rw [← h9] at hc; exact Rat.not_lt.1 (fun h => hc (cmp_gt.2 h))
          have HE := hid E; clear E
          go_region_held3 (fun w' => w'.cell? ⟨b2, o2 + k * 3, none⟩ = some (.bool (negB (f k))) ∧ w'.cell? ⟨b2, o2 + k * 3 + 1, none⟩ = some (.slice ua ub uc) ∧ w'.cell? ⟨b2, o2 + k * 3 + 2, none⟩ = some (.slice ud ue uf) ∧ w'.cell? ⟨w1.heap.size, 0, none⟩ = some (.bool (negB ((ug us k).cap : Rat))) ∧ w'.cell? ⟨w1.heap.size, 1, none⟩ = some (.slice ma mb mc) ∧ w'.cell? ⟨w1.heap.size, 2, none⟩ = some (.slice md me mf)) (first | exact ⟨k0, k1, k2, k3, k4, k5⟩ | exact ⟨c0, c1, c2, m0, m1, m2⟩)
            (first | (go_at_call 60; refine (rcmp_any ua ud ma md ub uc ue uf mb mc me mf (f k) ((ug us k).cap : Rat) V.drew R1.out R2.out Rm1_3.out.drew Rm2_3.out.drew (by omega) (by omega) (by omega) (by omega)).mono ?_; rintro e7 w7 ⟨rfl, hb7⟩; rw [HCQ.out]; have k0 := (hb7.cell (p := ⟨b2, o2 + k * 3, none⟩) hbl2).trans c0; have k1 := (hb7.cell (p := ⟨b2, o2 + k * 3 + 1, none⟩) hbl2).trans c1; have k2 := (hb7.cell (p := ⟨b2, o2 + k * 3 + 2, none⟩) hbl2).trans c2; have XM_9 := XM_3.out.drew.keep hb7; have k3 := XM_9.cell 0 _ rfl; have k4 := XM_9.cell 1 _ rfl; have k5 := XM_9.cell 2 _ rfl; have HB_9 : Hid (Below w.heap.size w w7) := HB_3.out.drew.trans (hb7.mono HB_3.out.size); clear hb7 XM_9))
          go_wp2
          go_roundw
          case rel => exact ⟨k + 1, by omega, by go_num, HE.out, HB_9.out⟩
          case measure => simp [intOf]; omega
      · obtain rfl : k = n := by omega
        go_wp2
        go_ret
        exact ⟨by rw [withinB, HN.out, hz.out]; rfl, hB.out⟩

end Go.Proofs.YtigokanoflkinaaDoor
