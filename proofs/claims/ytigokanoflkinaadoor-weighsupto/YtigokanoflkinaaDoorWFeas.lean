/- fill.Feasible. (Laid by mkfill.py.) -/
import Derived.Test.YtigokanoflkinaaDoorWInAll
import Derived.Test.YtigokanoflkinaaDoorWRall
namespace Go.Proofs.YtigokanoflkinaaDoor
set_option linter.unusedSimpArgs false
set_option linter.unusedVariables false
open Go.RowKit Por

theorem errOf_zero {pool : List Int} {us : List Usr} (h : errOf pool us = 0) : poolB pool = true ∧ us.length ≤ 6 ∧ Good us pool.length ∧ (∀ i, amtB (lm pool i) = true) ∧ 1 ≤ pool.length ∧ pool.length ≤ 4 := by
  unfold errOf at h
  split at h
  · omega
  · rename_i h1
    split at h
    · omega
    · rename_i h2
      split at h
      · omega
      · rename_i h3
        have h1' : poolB pool = true := by simpa using h1
        have h3' : us.all (usrB pool.length) = true := by simpa using h3
        have h4 := h1'
        unfold poolB at h4
        simp only [Bool.and_eq_true, decide_eq_true_eq] at h4
        refine ⟨h1', by omega, fun i hi => ?_, lm_amt h4.2, h4.1.1, h4.1.2⟩
        rw [← ug_get us hi]
        rw [List.all_eq_true] at h3'
        exact h3' _ (List.getElem_mem hi)
theorem errOf_cases (pool : List Int) (us : List Usr) : errOf pool us = 0 ∨ errOf pool us = 3 ∨ errOf pool us = 4 := by
  unfold errOf; split
  · exact Or.inr (Or.inl rfl)
  · split
    · exact Or.inr (Or.inr rfl)
    · split
      · exact Or.inr (Or.inr rfl)
      · exact Or.inl rfl
theorem svs_sm {ss : List ByteArray} (h : ss.all okS = true) {i : Nat} (hi : i < ss.length) : Sm (svs ss i) 300 := by
  rw [List.all_eq_true] at h
  have h1 := h _ (List.getElem_mem hi)
  rw [tx_get ss hi] at h1
  unfold okS at h1
  unfold svs sv
  cases hr : readL (tx ss i).data.toList with
  | none => rw [hr] at h1; cases h1
  | some q => exact readL_small hr
/-- what Feasible answers -/
def feasOf (pool : List Int) (us : List Usr) (ss : List ByteArray) : Bool × Int :=
  if errOf pool us ≠ 0 then (false, errOf pool us) else if ss.length ≠ us.length ∨ ss.all okS = false then (false, 5) else (withinB us (svs ss) us.length && borneB pool us (svs ss) us.length pool.length, 0)

set_option maxHeartbeats 2000000 in
set_option maxRecDepth 20000 in
theorem feas_any (po : Option Addr) (pn pc : Nat) (pool : List Int) (ao : Option Addr) (n cap : Nat) (us : List Usr) (vo : Option Addr) (m cap2 : Nat) (ss : List ByteArray) (w : World) (hp : Arr w 1 po pn pc (ints pool)) (hu : Users w ao n cap us) (ha : Arr w 1 vo m cap2 (strs ss)) (hs : ∀ i, (tx ss i).size ≤ maxLen) (ht : Tab w) :
    Calls Tryd.prog 25 #[.slice po pn pc, .slice ao n cap, .slice vo m cap2] w fun e w' => e = .returned (.tuple #[.bool (feasOf pool us ss).1, .int .i64 (feasOf pool us ss).2]) ∧ Below w.heap.size w w' := by
  have hul := hu.1
  have hpl := hp.len
  rw [ints_len] at hpl
  have hml := ha.len
  rw [strs_len] at hml
  have hmm := Nat.le_trans ha.le ha.cm
  have hnm : n ≤ maxLen := by obtain ⟨_, vs, h1, _⟩ := hu; exact Nat.le_trans h1.le h1.cm
  unfold maxLen at hmm hnm
  have HP := hid hp
  have HU := hid hu
  have HA := hid ha
  have HS := hid hs
  have HT := hid ht
  clear hp hu ha hs ht
  have HB_0 := hid (Below.refl w.heap.size w)
  go_enter Tryd.func25, Tryd.ntmps25
  go_wp2_with fail
  refine (check_any po pn pc pool ao n cap us _ HP.out HU.out).mono ?_
  rintro e0 w0 ⟨rfl, hb0⟩
  have HB_1 : Hid (Below w.heap.size w w0) := HB_0.out.trans (hb0.mono HB_0.out.size)
  clear HB_0
  clear hb0
  by_cases he : errOf pool us = 0
  · obtain ⟨hpb, hn6, hgood, hpa, hp1, hp4⟩ := errOf_zero he
    have HG := hid hgood
    have HPA := hid hpa
    have HE := hid he
    clear hgood hpa hpb
    rw [he]
    clear he
    by_cases hl : m = n
    · subst hl
      go_wp2_with fail
      refine (readAll_any vo m cap2 ss _ (HA.out.below HB_1.out) HS.out (by omega)).mono ?_
      rintro e1 w1 hre
      unfold ReadEnd at hre
      cases hok : ss.all okS with
      | false =>
        rw [hok] at hre
        obtain ⟨rfl, hb1⟩ := hre
        have HB_9 : Hid (Below w.heap.size w w1) := HB_1.out.trans (hb1.mono HB_1.out.size)
        clear hb1
        have HOK := hid hok
        clear hok
        go_wp2
        go_ret2
        exact ⟨by unfold feasOf; rw [if_neg (fun h => h HE.out), if_pos (Or.inr HOK.out)]; rfl, HB_9.out⟩
      | true =>
        rw [hok] at hre
        obtain ⟨vo2, vc, rfl, hfr, hb1⟩ := hre
        rw [hml] at hfr ⊢
        have HB_2 : Hid (Below w.heap.size w w1) := HB_1.out.trans (hb1.mono HB_1.out.size)
        clear HB_1
        clear hb1
        have HSM := hid (fun i (hi : i < m) => svs_sm hok (i := i) (by omega))
        have HOK := hid hok
        clear hok
        have HFR := hid hfr
        clear hfr
        go_wp2_with fail
        refine (within_any ao m cap us vo2 vc pn (svs ss) _ (HU.out.below HB_2.out) (by rw [← hpl]; exact HG.out) HFR.out (fun i hi => (HSM.out i hi).mono (by omega)) (HT.out.of HB_2.out)).mono ?_
        rintro e2 w2 ⟨rfl, hb2⟩
        have Rfr_3 := hid (HFR.out.below hb2)
        have HB_3 : Hid (Below w.heap.size w w2) := HB_2.out.trans (hb2.mono HB_2.out.size)
        clear HFR HB_2
        clear hb2
        cases hw : withinB us (svs ss) m with
        | false =>
          have HW := hid hw
          clear hw
          go_wp2
          go_ret2
          exact ⟨by unfold feasOf; rw [if_neg (fun h => h HE.out), if_neg (by rw [HOK.out]; simp; omega), hul, HW.out]; rfl, HB_3.out⟩
        | true =>
          have HW := hid hw
          clear hw
          go_wp2_with fail
          refine (borne_any po pc pool ao m cap us vo2 vc pn 300 (svs ss) _ (HP.out.below HB_3.out) HPA.out (HU.out.below HB_3.out) (by rw [← hpl]; exact HG.out) Rfr_3.out HSM.out (by omega) (by omega) (HT.out.of HB_3.out)).mono ?_
          rintro e3 w3 ⟨rfl, hb3⟩
          have Rfr_4 := hid (Rfr_3.out.below hb3)
          have HB_4 : Hid (Below w.heap.size w w3) := HB_3.out.trans (hb3.mono HB_3.out.size)
          clear Rfr_3 HB_3
          clear hb3
          go_wp2
          go_ret2
          exact ⟨by unfold feasOf; rw [if_neg (fun h => h HE.out), if_neg (by rw [HOK.out]; simp; omega), hul, HW.out, hpl]; rfl, HB_4.out⟩
    · have hl2 : ((m : Int) == (n : Int)) = false := by rw [beq_eq_false_iff_ne]; omega
      go_wp2
      go_ret2
      exact ⟨by unfold feasOf; rw [if_neg (fun h => h HE.out), if_pos (Or.inl (by omega))]; rfl, HB_1.out⟩
  · have HE := hid he
    have h34 := errOf_cases pool us
    generalize hq : errOf pool us = c at he h34
    have HQ := hid hq
    clear hq
    have he2 : (c == 0) = false := by rw [beq_eq_false_iff_ne]; omega
    go_wp2
    go_ret2
    exact ⟨by unfold feasOf; rw [if_pos HE.out, HQ.out]; rfl, HB_1.out⟩

end Go.Proofs.YtigokanoflkinaaDoor
