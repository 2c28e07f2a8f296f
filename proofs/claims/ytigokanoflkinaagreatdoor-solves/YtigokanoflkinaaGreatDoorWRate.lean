/- fill.isZero, wholes, zeros, rateOf. (Laid by mksolve.py.) -/
import Derived.Test.YtigokanoflkinaaGreatDoorFFill
namespace Go.Proofs.YtigokanoflkinaaGreatDoor
set_option linter.unusedSimpArgs false
set_option linter.unusedVariables false
open Go.RowKit Por

set_option maxHeartbeats 2000000 in
set_option maxRecDepth 20000 in
theorem isZeroF_any (aa : Option Addr) (ab ac : Nat) (ad : Option Addr) (ae af : Nat) (q : Rat) (w : World) (h1 : Row w aa ab ac (limbs q.num.natAbs)) (h2 : Row w ad ae af (limbs q.den)) (b1 : ab ≤ 10000) (b2 : ae ≤ 10000) (ht : Tab w) :
    Calls Tryz.prog 52 #[.agg #[.bool (negB q), .slice aa ab ac, .slice ad ae af]] w fun e w' => e = .returned (.bool (decide (q = 0))) ∧ Below w.heap.size w w' := by
  have H1 := hid h1
  have H2 := hid h2
  have HT := hid ht
  clear h1 h2 ht
  have HB_0 := hid (Below.refl w.heap.size w)
  have XA_1 := hid (bx_new w #[.bool (negB q), .slice aa ab ac, .slice ad ae af] 90)
  have Ra1_1 := hid (H1.out.alloc (.cells #[.bool (negB q), .slice aa ab ac, .slice ad ae af] 90))
  have Ra2_1 := hid (H2.out.alloc (.cells #[.bool (negB q), .slice aa ab ac, .slice ad ae af] 90))
  have HB_1 : Hid (Below w.heap.size w (w.alloc (.cells #[.bool (negB q), .slice aa ab ac, .slice ad ae af] 90))) := HB_0.out.alloc HB_0.out.size (.cells #[.bool (negB q), .slice aa ab ac, .slice ad ae af] 90)
  have leA : w.heap.size ≤ w.heap.size := HB_0.out.size
  clear H1 H2 HB_0
  go_enter Tryz.func52, Tryz.ntmps52
  go_wp2_with fail
  refine (whole_any 0 (by omega) (by omega) _ (HT.out.of HB_1.out)).mono ?_
  rintro e1 w1 ⟨v1, rfl, ⟨za, zb, zc, zd, ze, zf, rfl, hz1, hz2⟩, hb1⟩
  have XA_2 := hid (XA_1.out.keep hb1)
  have Ra1_2 := hid (Ra1_1.out.below hb1)
  have Ra2_2 := hid (Ra2_1.out.below hb1)
  have HB_2 : Hid (Below w.heap.size w w1) := HB_1.out.trans (hb1.mono HB_1.out.size)
  clear XA_1 Ra1_1 Ra2_1 HB_1
  clear hb1
  have Rz1_2 := hid hz1
  have Rz2_2 := hid hz2
  have SMz := hid (show Sm (((0 : Int) : Rat)) 5 from Sm.zero5)
  have lz1 := hz1.sm1 SMz.out
  have lz2 := hz2.sm2 SMz.out
  clear hz1 hz2
  have ltA := XA_2.out.lt
  have cA0 := XA_2.out.cell 0 _ rfl
  have cA1 := XA_2.out.cell 1 _ rfl
  have cA2 := XA_2.out.cell 2 _ rfl
  have XA_3 := hid (bx_past XA_2.out (.cells #[.bool (negB ((0 : Int) : Rat)), .slice za zb zc, .slice zd ze zf] 90))
  have XZ_3 := hid (bx_new w1 #[.bool (negB ((0 : Int) : Rat)), .slice za zb zc, .slice zd ze zf] 90)
  have Ra1_3 := hid (Ra1_2.out.alloc (.cells #[.bool (negB ((0 : Int) : Rat)), .slice za zb zc, .slice zd ze zf] 90))
  have Ra2_3 := hid (Ra2_2.out.alloc (.cells #[.bool (negB ((0 : Int) : Rat)), .slice za zb zc, .slice zd ze zf] 90))
  have Rz1_3 := hid (Rz1_2.out.alloc (.cells #[.bool (negB ((0 : Int) : Rat)), .slice za zb zc, .slice zd ze zf] 90))
  have Rz2_3 := hid (Rz2_2.out.alloc (.cells #[.bool (negB ((0 : Int) : Rat)), .slice za zb zc, .slice zd ze zf] 90))
  have HB_3 : Hid (Below w.heap.size w (w1.alloc (.cells #[.bool (negB ((0 : Int) : Rat)), .slice za zb zc, .slice zd ze zf] 90))) := HB_2.out.alloc HB_2.out.size (.cells #[.bool (negB ((0 : Int) : Rat)), .slice za zb zc, .slice zd ze zf] 90)
  have leZ : w.heap.size ≤ w1.heap.size := HB_2.out.size
  clear XA_2 Ra1_2 Ra2_2 Rz1_2 Rz2_2 HB_2
  go_wp2_with fail
  clear ltA cA0 cA1 cA2
  refine (rcmp_any aa ad za zd ab ac ae af zb zc ze zf q ((0 : Int) : Rat) _ Ra1_3.out Ra2_3.out Rz1_3.out Rz2_3.out b1 b2 (by omega) (by omega)).mono ?_
  rintro e3 w3 ⟨rfl, hb3⟩
  have XA_4 := hid (XA_3.out.keep hb3)
  have XZ_4 := hid (XZ_3.out.keep hb3)
  have Ra1_4 := hid (Ra1_3.out.below hb3)
  have Ra2_4 := hid (Ra2_3.out.below hb3)
  have Rz1_4 := hid (Rz1_3.out.below hb3)
  have Rz2_4 := hid (Rz2_3.out.below hb3)
  have HB_4 : Hid (Below w.heap.size w w3) := HB_3.out.trans (hb3.mono HB_3.out.size)
  clear XA_3 XZ_3 Ra1_3 Ra2_3 Rz1_3 Rz2_3 HB_3
  clear hb3
  generalize hcq : cmpQ q ((0 : Int) : Rat) = c
  have HCQ := hid hcq
  clear hcq
  go_wp2
  go_ret
  refine ⟨?_, HB_4.out⟩
  have h9 := HCQ.out
  have e : (c == 0) = decide (q = 0) := by
    rw [← h9]
    by_cases hq : q = 0
    · rw [decide_eq_true hq, beq_iff_eq]; exact cmp_eq.2 hq
    · rw [decide_eq_false hq, beq_eq_false_iff_ne]; exact fun h => hq (cmp_eq.1 h)
  rw [← e]; rfl

def wholeF (pool : List Int) (i : Nat) : Rat := ((lm pool i : Int) : Rat)

set_option maxHeartbeats 2000000 in
set_option maxRecDepth 20000 in
theorem wholes_any (ao : Option Addr) (n cap : Nat) (pool : List Int) (w : World) (ha : Arr w 1 ao n cap (ints pool)) (hpa : ∀ i, amtB (lm pool i) = true) (hn : n ≤ 1000000) (ht : Tab w) :
    Calls Tryz.prog 45 #[.slice ao n cap] w fun e w' => e = .returned (.slice (some ⟨w.heap.size, 0, none⟩) n n) ∧ FB w' w.heap.size n n (wholeF pool) ∧ Below w.heap.size w w' := by
  have hlen := ha.len
  rw [ints_len] at hlen
  have hnm := Nat.le_trans ha.le ha.cm
  unfold maxLen at hnm
  have HA := hid ha
  have HPA := hid hpa
  clear ha hpa
  have HT := hid ht
  clear ht
  go_enter Tryz.func45, Tryz.ntmps45
  go_wp2_with (at_make; refine wpList_make_fras _ rfl _ _ rfl _ _ n rfl rfl rfl rfl hn ?_)
  intro w0 hfb hb0 hlt0
  have HF := hid (hfb (wholeF pool))
  have HB0 := hid hb0
  clear hfb hb0
  go_wp2
  go_loopw [11] (fun i wr => ∃ k : Nat, k ≤ n ∧ i = .int .i64 k ∧ Hid (FB wr w.heap.size n k (wholeF pool)) ∧ Hid (Below w.heap.size w wr)) (fun i _ => n - (intOf i).toNat)
  case atStart => exact ⟨0, Nat.zero_le _, rfl, HF.out, HB0.out⟩
  case round =>
    obtain ⟨k, hk, rfl, hF, hB⟩ := hrel
    by_cases hlt : k < n
    · have hB0 := hB.out.size
      obtain ⟨b, o, rfl, hbl⟩ := HA.out.head (by omega)
      have c0 := (HA.out.below hB.out).int rfl hlt
      have hpr := amt_rng (HPA.out k)
      go_wp2_with fail
      refine (whole_any (lm pool k) (by omega) (by omega) _ (HT.out.of hB.out)).mono ?_
      rintro e20 w20 ⟨v20, rfl, ⟨qa, qb, qc, qd, qe, qf, rfl, hq1, hq2⟩, hb20⟩
      have Rf_21 := hid (hF.out.below hb20)
      have HB_21 : Hid (Below w.heap.size w w20) := hB.out.trans (hb20.mono hB.out.size)
      clear hF hB
      clear hb20
      have Rq1_21 := hid hq1
      have Rq2_21 := hid hq2
      have SMq := hid (show Sm (((lm pool k : Int) : Rat)) 5 from Sm.int (by omega) (by omega))
      have lq1 := hq1.sm1 SMq.out
      have lq2 := hq2.sm2 SMq.out
      clear hq1 hq2
      obtain ⟨x0, hx0⟩ := Rf_21.out.has (j := k * 3 + 0) (by omega)
      have z0 := Rf_21.out.frozen (k * 3 + 0)
      obtain ⟨x1, hx1⟩ := Rf_21.out.has (j := k * 3 + 1) (by omega)
      have z1 := Rf_21.out.frozen (k * 3 + 1)
      obtain ⟨x2, hx2⟩ := Rf_21.out.has (j := k * 3 + 2) (by omega)
      have z2 := Rf_21.out.frozen (k * 3 + 2)
      simp only [Nat.add_zero] at hx0 z0
      have ltf := Rf_21.out.lt
      go_wp2
      go_roundw
      case rel => exact ⟨k + 1, by omega, by go_num, (by
        have h5 := Rf_21.out.put hlt (Nat.le_refl k) ((lm pool k : Int) : Rat) Rq1_21.out Rq2_21.out
        rw [if_pos rfl] at h5
        exact h5.congr (fun j hj => by
          by_cases e : j = k
          · subst e; rw [upd_same]; rfl
          · rw [upd_other _ _ e])), below_putA HB_21.out (Nat.le_refl _) _ _ _⟩
      case measure => simp [intOf]; omega
    · obtain rfl : k = n := by omega
      go_wp2
      go_ret
      exact ⟨rfl, hF.out, hB.out⟩

def zeroF (i : Nat) : Rat := ((0 : Int) : Rat)

set_option maxHeartbeats 2000000 in
set_option maxRecDepth 20000 in
theorem zeros_any (n : Nat) (w : World) (hn : n ≤ 1000000) (ht : Tab w) :
    Calls Tryz.prog 48 #[.int .i64 n] w fun e w' => e = .returned (.slice (some ⟨w.heap.size, 0, none⟩) n n) ∧ FB w' w.heap.size n n (zeroF) ∧ Below w.heap.size w w' := by
  have HT := hid ht
  clear ht
  go_enter Tryz.func48, Tryz.ntmps48
  go_wp2_with (at_make; refine wpList_make_fras _ rfl _ _ rfl _ _ n rfl rfl rfl rfl hn ?_)
  intro w0 hfb hb0 hlt0
  have HF := hid (hfb (zeroF))
  have HB0 := hid hb0
  clear hfb hb0
  go_wp2
  go_loopw [9] (fun i wr => ∃ k : Nat, k ≤ n ∧ i = .int .i64 k ∧ Hid (FB wr w.heap.size n k (zeroF)) ∧ Hid (Below w.heap.size w wr)) (fun i _ => n - (intOf i).toNat)
  case atStart => exact ⟨0, Nat.zero_le _, rfl, HF.out, HB0.out⟩
  case round =>
    obtain ⟨k, hk, rfl, hF, hB⟩ := hrel
    by_cases hlt : k < n
    · have hB0 := hB.out.size
      go_wp2_with fail
      refine (whole_any (0) (by omega) (by omega) _ (HT.out.of hB.out)).mono ?_
      rintro e20 w20 ⟨v20, rfl, ⟨qa, qb, qc, qd, qe, qf, rfl, hq1, hq2⟩, hb20⟩
      have Rf_21 := hid (hF.out.below hb20)
      have HB_21 : Hid (Below w.heap.size w w20) := hB.out.trans (hb20.mono hB.out.size)
      clear hF hB
      clear hb20
      have Rq1_21 := hid hq1
      have Rq2_21 := hid hq2
      have SMq := hid (show Sm (((0 : Int) : Rat)) 5 from Sm.int (by omega) (by omega))
      have lq1 := hq1.sm1 SMq.out
      have lq2 := hq2.sm2 SMq.out
      clear hq1 hq2
      obtain ⟨x0, hx0⟩ := Rf_21.out.has (j := k * 3 + 0) (by omega)
      have z0 := Rf_21.out.frozen (k * 3 + 0)
      obtain ⟨x1, hx1⟩ := Rf_21.out.has (j := k * 3 + 1) (by omega)
      have z1 := Rf_21.out.frozen (k * 3 + 1)
      obtain ⟨x2, hx2⟩ := Rf_21.out.has (j := k * 3 + 2) (by omega)
      have z2 := Rf_21.out.frozen (k * 3 + 2)
      simp only [Nat.add_zero] at hx0 z0
      have ltf := Rf_21.out.lt
      go_wp2
      go_roundw
      case rel => exact ⟨k + 1, by omega, by go_num, (by
        have h5 := Rf_21.out.put hlt (Nat.le_refl k) ((0 : Int) : Rat) Rq1_21.out Rq2_21.out
        rw [if_pos rfl] at h5
        exact h5.congr (fun j hj => by
          by_cases e : j = k
          · subst e; rw [upd_same]; rfl
          · rw [upd_other _ _ e])), below_putA HB_21.out (Nat.le_refl _) _ _ _⟩
      case measure => simp [intOf]; omega
    · obtain rfl : k = n := by omega
      go_wp2
      go_ret
      exact ⟨rfl, hF.out, hB.out⟩

/-- the tasks of a user by the level 1 -/
def rateQ (f : Nat → Rat) (u : Usr) (k : Nat) : Rat := leastF (rq (enL f u.dem k)) (enL f u.dem k).length * ((u.wt : Int) : Rat)
theorem enL_sm {f : Nat → Rat} {dem : List Int} {L n : Nat} (hs : ∀ i, i < n → Sm (f i) L) (hd : ∀ i, amtB (lm dem i) = true) : ∀ k, k ≤ n → ∀ x, x ∈ enL f dem k → Sm x (L + 2) := by
  intro k
  induction k with
  | zero => intro _ x hx; cases hx
  | succ k ih =>
    intro hk x hx
    simp only [enL] at hx
    split at hx
    · exact ih (by omega) x hx
    · rename_i hz
      rcases List.mem_append.1 hx with h | h
      · exact ih (by omega) x h
      · rw [List.mem_singleton] at h
        subst h
        exact (hs k (by omega)).div (Sm.amt (hd k)) (int_rat_zero hz)

set_option maxHeartbeats 2000000 in
set_option maxRecDepth 20000 in
theorem rateOf_walk (ro : Option Addr) (rn rc : Nat) (f : Nat → Rat) (da : Option Addr) (dn dc : Nat) (u : Usr) (w : World) (hf : Frs w ro rn rc f) (hs : ∀ i, i < rn → Sm (f i) 10) (hd : Arr w 1 da dn dc (ints u.dem)) (hda : ∀ i, amtB (lm u.dem i) = true) (hrn : dn ≤ rn) (hdn : dn ≤ 4) (hwt : 1 ≤ u.wt ∧ u.wt ≤ 100) (l : List Rat) (ln : Nat) (hl : Hid (enL f u.dem dn = l)) (hln : Hid (l.length = ln)) (hl0 : 0 < ln) (ht : Tab w) :
    Calls Tryz.prog 47 #[.slice ro rn rc, .agg #[.slice da dn dc, .int .i64 u.wt, .int .i64 u.cap]] w fun e w' => ∃ v, e = .returned v ∧ Frac w' v (leastF (rq l) ln * ((u.wt : Int) : Rat)) ∧ Below w.heap.size w w' := by
  have hnm := hf.le
  unfold maxLen at hnm
  have HF := hid hf
  have HS := hid hs
  have HD := hid hd
  have HDA := hid hda
  have HT := hid ht
  clear hf hs hd hda ht
  have HB_0 := hid (Below.refl w.heap.size w)
  have XU_1 := hid (bx_new w #[.slice da dn dc, .int .i64 u.wt, .int .i64 u.cap] 56)
  have HB_1 : Hid (Below w.heap.size w (w.alloc (.cells #[.slice da dn dc, .int .i64 u.wt, .int .i64 u.cap] 56))) := HB_0.out.alloc HB_0.out.size (.cells #[.slice da dn dc, .int .i64 u.wt, .int .i64 u.cap] 56)
  have leU : w.heap.size ≤ w.heap.size := HB_0.out.size
  clear HB_0
  have XU_2 := hid (bx_past XU_1.out (.cells #[.bool false, .slice none 0 0, .slice none 0 0] 90))
  have XR_2 := hid (bx_new (w.alloc (.cells #[.slice da dn dc, .int .i64 u.wt, .int .i64 u.cap] 56)) #[.bool false, .slice none 0 0, .slice none 0 0] 90)
  have HB_2 : Hid (Below w.heap.size w ((w.alloc (.cells #[.slice da dn dc, .int .i64 u.wt, .int .i64 u.cap] 56)).alloc (.cells #[.bool false, .slice none 0 0, .slice none 0 0] 90))) := HB_1.out.alloc HB_1.out.size (.cells #[.bool false, .slice none 0 0, .slice none 0 0] 90)
  have leR : w.heap.size ≤ (w.alloc (.cells #[.slice da dn dc, .int .i64 u.wt, .int .i64 u.cap] 56)).heap.size := HB_1.out.size
  clear XU_1 HB_1
  have XR_9 := hid (show Bx ((w.alloc (.cells #[.slice da dn dc, .int .i64 u.wt, .int .i64 u.cap] 56)).alloc (.cells #[.bool false, .slice none 0 0, .slice none 0 0] 90)) (w.heap.size + 1) #[.bool false, .slice none 0 0, .slice none 0 0] 90 by have h9 := XR_2.out; simp only [World.size_alloc] at h9; exact h9)
  go_enter Tryz.func47, Tryz.ntmps47
  have ltU := XU_2.out.lt
  have cU0 := XU_2.out.cell 0 _ rfl
  have cU1 := XU_2.out.cell 1 _ rfl
  have cU2 := XU_2.out.cell 2 _ rfl
  go_wp2_with fail
  clear ltU cU0 cU1 cU2
  refine (enough_any ro rn rc f da dn dc 10 u _ (HF.out.below HB_2.out) HS.out (by omega) (HD.out.below HB_2.out) HDA.out hrn (by omega) (HT.out.of HB_2.out)).mono ?_
  rintro e2 w2 ⟨v8, rfl, hfo, hb2⟩
  have XU_3 := hid (XU_2.out.keep hb2)
  have XR_3 := hid (XR_9.out.keep hb2)
  have HB_3 : Hid (Below w.heap.size w w2) := HB_2.out.trans (hb2.mono HB_2.out.size)
  clear XU_2 XR_9 HB_2
  clear hb2
  have HSL : Hid (∀ i, i < (enL f u.dem dn).length → Sm (rq (enL f u.dem dn) i) 12) := fun i hi => enL_sm (fun i hi => HS.out i (by omega)) HDA.out dn (Nat.le_refl _) _ (rq_mem hi)
  rw [hl.out] at hfo HSL
  obtain ⟨lo, lc, rfl, hfr2⟩ := hfo.frs
  rw [hln.out] at hfr2 HSL ⊢
  have HFR2 := hid hfr2
  clear hfo hfr2
  go_wp2_with fail
  refine (least_some lo ln lc (rq l) _ HFR2.out (fun i hi => (HSL.out i hi).mono (by omega)) hl0).mono ?_
  rintro e3 w3 ⟨v3, rfl, ⟨qa, qb, qc, qd, qe, qf, rfl, hq1, hq2⟩, hb3⟩
  have XU_4 := hid (XU_3.out.keep hb3)
  have XR_4 := hid (XR_3.out.keep hb3)
  have Rfr_4 := hid (HFR2.out.below hb3)
  have HB_4 : Hid (Below w.heap.size w w3) := HB_3.out.trans (hb3.mono HB_3.out.size)
  clear XU_3 XR_3 HFR2 HB_3
  clear hb3
  have Rq1_4 := hid hq1
  have Rq2_4 := hid hq2
  have SMq := hid (show Sm (leastF (rq l) ln) 12 from leastF_sm HSL.out hl0 _ (Nat.le_refl _))
  have lq1 := hq1.sm1 SMq.out
  have lq2 := hq2.sm2 SMq.out
  clear hq1 hq2
  have XU_5 := hid (bx_past XU_4.out (.cells #[.bool (negB (leastF (rq l) ln)), .slice qa qb qc, .slice qd qe qf] 90))
  have XR_5 := hid (bx_past XR_4.out (.cells #[.bool (negB (leastF (rq l) ln)), .slice qa qb qc, .slice qd qe qf] 90))
  have XQ_5 := hid (bx_new w3 #[.bool (negB (leastF (rq l) ln)), .slice qa qb qc, .slice qd qe qf] 90)
  have Rfr_5 := hid (Rfr_4.out.alloc (.cells #[.bool (negB (leastF (rq l) ln)), .slice qa qb qc, .slice qd qe qf] 90))
  have Rq1_5 := hid (Rq1_4.out.alloc (.cells #[.bool (negB (leastF (rq l) ln)), .slice qa qb qc, .slice qd qe qf] 90))
  have Rq2_5 := hid (Rq2_4.out.alloc (.cells #[.bool (negB (leastF (rq l) ln)), .slice qa qb qc, .slice qd qe qf] 90))
  have HB_5 : Hid (Below w.heap.size w (w3.alloc (.cells #[.bool (negB (leastF (rq l) ln)), .slice qa qb qc, .slice qd qe qf] 90))) := HB_4.out.alloc HB_4.out.size (.cells #[.bool (negB (leastF (rq l) ln)), .slice qa qb qc, .slice qd qe qf] 90)
  have leQ : w.heap.size ≤ w3.heap.size := HB_4.out.size
  clear XU_4 XR_4 Rfr_4 Rq1_4 Rq2_4 HB_4
  have ltU := XU_5.out.lt
  have cU0 := XU_5.out.cell 0 _ rfl
  have cU1 := XU_5.out.cell 1 _ rfl
  have cU2 := XU_5.out.cell 2 _ rfl
  go_wp2_with fail
  clear ltU cU0 cU1 cU2
  refine (whole_any u.wt (by omega) (by omega) _ (HT.out.of HB_5.out)).mono ?_
  rintro e5 w5 ⟨v5, rfl, ⟨ta, tb, tc, td, te, tf, rfl, ht1, ht2⟩, hb5⟩
  have XU_6 := hid (XU_5.out.keep hb5)
  have XR_6 := hid (XR_5.out.keep hb5)
  have XQ_6 := hid (XQ_5.out.keep hb5)
  have Rfr_6 := hid (Rfr_5.out.below hb5)
  have Rq1_6 := hid (Rq1_5.out.below hb5)
  have Rq2_6 := hid (Rq2_5.out.below hb5)
  have HB_6 : Hid (Below w.heap.size w w5) := HB_5.out.trans (hb5.mono HB_5.out.size)
  clear XU_5 XR_5 XQ_5 Rfr_5 Rq1_5 Rq2_5 HB_5
  clear hb5
  have Rt1_6 := hid ht1
  have Rt2_6 := hid ht2
  have SMt := hid (show Sm (((u.wt : Int) : Rat)) 5 from Sm.int (by omega) (by omega))
  have lt1 := ht1.sm1 SMt.out
  have lt2 := ht2.sm2 SMt.out
  clear ht1 ht2
  have ltR := XR_6.out.lt
  have cR0 := XR_6.out.cell 0 _ rfl
  have zR0 := XR_6.out.frozen 0
  have cR1 := XR_6.out.cell 1 _ rfl
  have zR1 := XR_6.out.frozen 1
  have cR2 := XR_6.out.cell 2 _ rfl
  have zR2 := XR_6.out.frozen 2
  have ltQ := XQ_6.out.lt
  have cQ0 := XQ_6.out.cell 0 _ rfl
  have cQ1 := XQ_6.out.cell 1 _ rfl
  have cQ2 := XQ_6.out.cell 2 _ rfl
  have XU_7 := hid (bx_past XU_6.out (.cells #[.bool (negB ((u.wt : Int) : Rat)), .slice ta tb tc, .slice td te tf] 90))
  have XR_7 := hid (bx_past XR_6.out (.cells #[.bool (negB ((u.wt : Int) : Rat)), .slice ta tb tc, .slice td te tf] 90))
  have XQ_7 := hid (bx_past XQ_6.out (.cells #[.bool (negB ((u.wt : Int) : Rat)), .slice ta tb tc, .slice td te tf] 90))
  have XT_7 := hid (bx_new w5 #[.bool (negB ((u.wt : Int) : Rat)), .slice ta tb tc, .slice td te tf] 90)
  have Rfr_7 := hid (Rfr_6.out.alloc (.cells #[.bool (negB ((u.wt : Int) : Rat)), .slice ta tb tc, .slice td te tf] 90))
  have Rq1_7 := hid (Rq1_6.out.alloc (.cells #[.bool (negB ((u.wt : Int) : Rat)), .slice ta tb tc, .slice td te tf] 90))
  have Rq2_7 := hid (Rq2_6.out.alloc (.cells #[.bool (negB ((u.wt : Int) : Rat)), .slice ta tb tc, .slice td te tf] 90))
  have Rt1_7 := hid (Rt1_6.out.alloc (.cells #[.bool (negB ((u.wt : Int) : Rat)), .slice ta tb tc, .slice td te tf] 90))
  have Rt2_7 := hid (Rt2_6.out.alloc (.cells #[.bool (negB ((u.wt : Int) : Rat)), .slice ta tb tc, .slice td te tf] 90))
  have HB_7 : Hid (Below w.heap.size w (w5.alloc (.cells #[.bool (negB ((u.wt : Int) : Rat)), .slice ta tb tc, .slice td te tf] 90))) := HB_6.out.alloc HB_6.out.size (.cells #[.bool (negB ((u.wt : Int) : Rat)), .slice ta tb tc, .slice td te tf] 90)
  have leT : w.heap.size ≤ w5.heap.size := HB_6.out.size
  clear XU_6 XR_6 XQ_6 Rfr_6 Rq1_6 Rq2_6 Rt1_6 Rt2_6 HB_6
  go_wp2_with fail
  clear ltR cR0 zR0 cR1 zR1 cR2 zR2 ltQ cQ0 cQ1 cQ2
  refine (rmul_any qa qd ta td qb qc qe qf tb tc te tf (leastF (rq l) ln) ((u.wt : Int) : Rat) _ Rq1_7.out Rq2_7.out Rt1_7.out Rt2_7.out (by omega) (by omega) (by omega) (by omega)).mono ?_
  rintro e7 w7 ⟨v7, rfl, ⟨ma, mb, mc, md, me, mf, rfl, hm1, hm2⟩, hb7⟩
  have XU_8 := hid (XU_7.out.keep hb7)
  have XR_8 := hid (XR_7.out.keep hb7)
  have XQ_8 := hid (XQ_7.out.keep hb7)
  have XT_8 := hid (XT_7.out.keep hb7)
  have Rfr_8 := hid (Rfr_7.out.below hb7)
  have Rq1_8 := hid (Rq1_7.out.below hb7)
  have Rq2_8 := hid (Rq2_7.out.below hb7)
  have Rt1_8 := hid (Rt1_7.out.below hb7)
  have Rt2_8 := hid (Rt2_7.out.below hb7)
  have HB_8 : Hid (Below w.heap.size w w7) := HB_7.out.trans (hb7.mono HB_7.out.size)
  clear XU_7 XR_7 XQ_7 XT_7 Rfr_7 Rq1_7 Rq2_7 Rt1_7 Rt2_7 HB_7
  clear hb7
  have Rm1_8 := hid hm1
  have Rm2_8 := hid hm2
  have SMm := hid (show Sm (leastF (rq l) ln * ((u.wt : Int) : Rat)) 17 from SMq.out.mul SMt.out)
  have lm1 := hm1.sm1 SMm.out
  have lm2 := hm2.sm2 SMm.out
  clear hm1 hm2
  have ltR := XR_8.out.lt
  have cR0 := XR_8.out.cell 0 _ rfl
  have zR0 := XR_8.out.frozen 0
  have cR1 := XR_8.out.cell 1 _ rfl
  have zR1 := XR_8.out.frozen 1
  have cR2 := XR_8.out.cell 2 _ rfl
  have zR2 := XR_8.out.frozen 2
  go_wp2
  have Z := XR_8.out.put3 (.bool (negB (leastF (rq l) ln * ((u.wt : Int) : Rat)))) (.slice ma mb mc) (.slice md me mf)
  have z0 := Z.cell 0 _ rfl
  have z1 := Z.cell 1 _ rfl
  have z2 := Z.cell 2 _ rfl
  unfold wput3 at z0 z1 z2
  exact bodyPost_ret (v := .agg #[.bool (negB (leastF (rq l) ln * ((u.wt : Int) : Rat))), .slice ma mb mc, .slice md me mf]) (by simp [results, Tryz.results47, go_sem, z0, z1, z2]) rfl ⟨_, rfl, ⟨ma, mb, mc, md, me, mf, rfl, Rm1_8.out.put3 XR_8.out (by decide) _ _ _, Rm2_8.out.put3 XR_8.out (by decide) _ _ _⟩, below_put3 HB_8.out (by omega) _ _ _⟩

theorem rateOf_any (ro : Option Addr) (rn rc : Nat) (f : Nat → Rat) (da : Option Addr) (dn dc : Nat) (u : Usr) (w : World) (hf : Frs w ro rn rc f) (hs : ∀ i, i < rn → Sm (f i) 10) (hd : Arr w 1 da dn dc (ints u.dem)) (hda : ∀ i, amtB (lm u.dem i) = true) (hrn : dn ≤ rn) (hdn : dn ≤ 4) (hwt : 1 ≤ u.wt ∧ u.wt ≤ 100) (hl0 : 0 < (enL f u.dem dn).length) (ht : Tab w) :
    Calls Tryz.prog 47 #[.slice ro rn rc, .agg #[.slice da dn dc, .int .i64 u.wt, .int .i64 u.cap]] w fun e w' => ∃ v, e = .returned v ∧ Frac w' v (rateQ f u dn) ∧ Below w.heap.size w w' :=
  rateOf_walk ro rn rc f da dn dc u w hf hs hd hda hrn hdn hwt _ _ rfl rfl hl0 ht

end Go.Proofs.YtigokanoflkinaaGreatDoor
