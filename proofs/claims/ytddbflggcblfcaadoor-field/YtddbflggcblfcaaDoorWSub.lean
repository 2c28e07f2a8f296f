/- natural.Subtract: the difference of any two numbers, 0 where it would be below 0. -/
import Derived.Test.YtddbflggcblfcaaDoorWAdd
namespace Go.Proofs.YtddbflggcblfcaaDoor
set_option linter.unusedSimpArgs false
set_option linter.unusedVariables false
open Go.RowKit Por

/-- the end of a difference -/
theorem sub_end (o : List Int) (n x y : Nat) (b : Int) (hL : Lim o) (hlen : o.length = n) (hx : (limbs x).length = n) (hy : (limbs y).length ≤ n) (hb : 0 ≤ b) (hxy : y ≤ x)
    (h : val (o.take n) - 10000 ^ n * b = val ((limbs x).take n) - val ((limbs y).take n)) : (val o).toNat = x - y := by
  rw [List.take_of_length_le (by omega), List.take_of_length_le (by omega), List.take_of_length_le (by omega), val_limbs, val_limbs] at h
  have h1 := val_lt hL
  rw [hlen] at h1
  have h2 := val_nonneg hL
  have h3 : b = 0 := by
    by_cases e : b = 0
    · exact e
    · have : (10000 : Int) ^ n * 1 ≤ 10000 ^ n * b := Int.mul_le_mul_of_nonneg_left (by omega) (by omega)
      omega
  subst h3
  omega

theorem cmp3_le (x y : Nat) (h : x ≤ y) : cmp3 x y ≤ 0 := by unfold cmp3; split <;> (try split) <;> omega
theorem cmp3_gt (x y : Nat) (h : y < x) : cmp3 x y = 1 := by unfold cmp3; rw [if_neg (by omega), if_neg (by omega)]
theorem cmp3_bd (x y : Int) : -1 ≤ cmp3 x y ∧ cmp3 x y ≤ 1 := by unfold cmp3; split <;> (try split) <;> omega

set_option maxHeartbeats 400000 in
theorem sub_le (ao bo : Option Addr) (n capa m capb : Nat) (x y : Nat) (w : World) (hr : Row w ao n capa (limbs x)) (hs : Row w bo m capb (limbs y)) (hn : n ≤ 50000) (hm : m ≤ 50000) (hxy : x ≤ y) :
    Calls Tryd.prog 90 #[.agg #[.slice ao n capa], .agg #[.slice bo m capb]] w fun e w' => ∃ v, e = .returned v ∧ Num w' v (x - y) ∧ Below w.heap.size w w' := by
  obtain ⟨c1, c2, c3, c5⟩ := boxes3 w #[.slice ao n capa] #[.slice bo m capb] #[.slice none 0 0] 74 74 74
  have hr1 := hid (hr.below c5)
  have hs1 := hid (hs.below c5)
  have H5 := hid (c5)
  have X3 := hid (c3)
  have hc := cmp3_le x y hxy
  clear hr hs c5 c1 c2 c3
  go_enter Tryd.func90, Tryd.ntmps90
  go_wp2_with fail
  refine (compare_any ao bo n capa m capb x y _ hr1.out hs1.out (by omega) (by omega)).mono ?_
  rintro e w2 ⟨rfl, hb2⟩
  have Z := hid (X3.out.below hb2 X3.out.lt)
  have z1 := Z.out.cell 0 _ rfl
  have z2 := Z.out.frozen 0
  have HB2 := hid (hb2)
  clear hb2
  go_wp2
  refine bodyPost_ret (v := .agg #[.slice none 0 0]) (by simp [results, Tryd.results90, go_sem, z1]) rfl ⟨_, rfl, ⟨_, _, _, rfl, ?_⟩, ?_⟩
  · rw [Nat.sub_eq_zero_of_le hxy]; exact Row.nil _
  · exact (H5.out.trans (HB2.out.mono (by simp; omega))).setCell (by simp; omega) _

set_option maxHeartbeats 1000000 in
theorem sub_gt (ao bo : Option Addr) (n capa m capb : Nat) (x y : Nat) (w : World) (hr : Row w ao n capa (limbs x)) (hs : Row w bo m capb (limbs y)) (hn : n ≤ 50000) (hm : m ≤ 50000) (hxy : y < x) :
    Calls Tryd.prog 90 #[.agg #[.slice ao n capa], .agg #[.slice bo m capb]] w fun e w' => ∃ v, e = .returned v ∧ Num w' v (x - y) ∧ Below w.heap.size w w' := by
  have l1 := hr.len
  have l2 := hs.len
  have hmn : m ≤ n := by rw [← l1, ← l2]; exact len_mono (by omega)
  have HR := hid (hr)
  have HS := hid (hs)
  obtain ⟨c1, c2, c3, c5⟩ := boxes3 w #[.slice ao n capa] #[.slice bo m capb] #[.slice none 0 0] 74 74 74
  have hr1 := hid (hr.below c5)
  have hs1 := hid (hs.below c5)
  have H5 := hid (c5)
  have X1 := hid (c1)
  have X2 := hid (c2)
  have X3 := hid (c3)
  have hc := cmp3_gt x y hxy
  clear hr hs c5 c1 c2 c3
  go_enter Tryd.func90, Tryd.ntmps90
  go_wp2_with fail
  refine (compare_any ao bo n capa m capb x y _ hr1.out hs1.out (by omega) (by omega)).mono ?_
  rintro e w2 ⟨rfl, hb2⟩
  have hsz := hb2.size
  simp only [World.size_alloc] at hsz
  have Y1 := hid (X1.out.below hb2 X1.out.lt)
  have Y2 := hid (X2.out.below hb2 X2.out.lt)
  have Y3 := hid (X3.out.below hb2 X3.out.lt)
  have y1 := Y1.out.cell 0 _ rfl
  have HB2 : Hid (Below w.heap.size w w2) := H5.out.trans (hb2.mono (by simp; omega))
  clear hb2 X1 X2 X3
  go_wp2_with (at_make; refine wpList_make_ints _ rfl _ _ rfl _ _ n rfl rfl (by omega) (by omega) (by omega) ?_)
  intro w1 hk1 hb1 hz1
  have X1 := hid (Y1.out.below hb1 Y1.out.lt)
  have X2 := hid (Y2.out.below hb1 Y2.out.lt)
  have X3 := hid (Y3.out.below hb1 Y3.out.lt)
  have k1 := X1.out.cell 0 _ rfl
  have HB1 : Hid (Below w.heap.size w w1) := HB2.out.trans (hb1.mono (by omega))
  obtain ⟨G, hG⟩ : ∃ G, G = w2.heap.size := ⟨_, rfl⟩
  rw [← hG] at hk1 hb1 hz1 hsz ⊢
  have HK1 := hid (hk1)
  clear hb1 hk1 hG Y1 Y2 Y3 y1 HB2
  go_wp2
  go_loopw [6, 22] (fun vc vi wr => ∃ (k : Nat) (c : Int) (out : List Int), k ≤ n ∧ vi = .int .i64 k ∧ vc = .int .i64 c ∧ 0 ≤ c ∧ c ≤ 1 ∧ out.length = n ∧ Hid (Lim out) ∧
      Hid (val (out.take k) - 10000 ^ k * c = val ((limbs x).take k) - val ((limbs y).take k)) ∧ Hid (Blk wr G out) ∧ Hid (Below G w1 wr)) (fun _ vi _ => n - (intOf vi).toNat)
  case atStart => exact ⟨0, 0, _, Nat.zero_le _, rfl, rfl, by omega, by omega, by simp, lim_replicate _, by simp [Hid, val], HK1.out, Below.refl _ _⟩
  case round =>
    obtain ⟨k, c, out, hk, rfl, rfl, hc0, hc1, hol, hLim, hval, hblk, hb⟩ := hrel
    have q2 := (X2.out.below hb.out (by omega)).cell 0 _ rfl
    have HB : Hid (Below w.heap.size w wr) := HB1.out.trans (hb.out.mono (by omega))
    have hgw : G < wr.heap.size := hblk.out.lt
    by_cases hlt2 : k < n
    · obtain ⟨ba, oa, rfl, hla⟩ := HR.out.head (by omega)
      have d1 : wr.cell? ⟨ba, oa + k, none⟩ = some (.int .i64 (lm (limbs x) k)) := (HB.out.cell (p := ⟨ba, oa + k, none⟩) hla).trans (HR.out.cell ba oa rfl k (by omega))
      have hrs : Hid (Row wr bo m capb (limbs y)) := HS.out.below HB.out
      obtain ⟨bx0, bx1⟩ := lim_getD (lim_limbs x) k
      obtain ⟨by0, by1⟩ := lim_getD (lim_limbs y) k
      by_cases hneg : lm (limbs x) k - lm (limbs y) k - c < 0
      all_goals
        go_wp2_with (go_at_call 119; refine (limbAt_any bo m capb k (limbs y) _ hrs.out (by omega) (by omega)).mono ?_; rintro e w3 ⟨rfl, hb3⟩; have g1 := (hblk.out.below hb3 hgw).cell k (by omega); have g2 := (hblk.out.below hb3 hgw).frozen k; have Hb3 := hid (hb3); clear hb3)
        go_roundw
        case rel =>
          refine ⟨k + 1, _, _, by omega, by go_num, rfl, by omega, by omega, by simpa using hol, lim_set hLim.out k _ (by omega) (by omega), sub_step out (limbs x) (limbs y) k c _ _ (by omega) (by omega) hval.out, (hblk.out.below Hb3.out hgw).set k _, ?_⟩
          exact (hb.out.trans (Hb3.out.mono (by omega))).setCell (Nat.le_refl _) _
        case measure => simp [intOf]; omega
    · obtain rfl : k = n := by omega
      have hend := hid (sub_end out k x y c hLim.out hol l1 (by omega) hc0 (by omega) hval.out)
      have hrow := hid (Blk.row0 hblk.out k k (by omega) (Nat.le_refl _) (by unfold maxLen; omega))
      go_wp2_with fail
      refine (trim_any _ k k out _ hrow.out hLim.out (by omega)).mono ?_
      rintro e w4 ⟨j, hj, hj2, rfl, hb4⟩
      have hbb : Hid (Below G w1 w4) := hb.out.trans (hb4.mono (by omega))
      have Z := hid (X3.out.below hbb.out (by omega))
      have z1 := Z.out.cell 0 _ rfl
      have z2 := Z.out.frozen 0
      have HR2 := hid (row_of_trim hrow.out hj hj2 hend.out hb4)
      clear hb4 hj2
      go_wp2
      refine bodyPost_ret (v := .agg #[.slice (some ⟨G, 0, none⟩) j k]) (by simp [results, Tryd.results90, go_sem, z1]) rfl ⟨_, rfl, ⟨_, _, _, rfl, HR2.out.other _ _ _ Z.out (by decide)⟩, ?_⟩
      exact (HB1.out.trans (hbb.out.mono (by omega))).setCell (by simp; omega) _

theorem sub_any (ao bo : Option Addr) (n capa m capb : Nat) (x y : Nat) (w : World) (hr : Row w ao n capa (limbs x)) (hs : Row w bo m capb (limbs y)) (hn : n ≤ 50000) (hm : m ≤ 50000) :
    Calls Tryd.prog 90 #[.agg #[.slice ao n capa], .agg #[.slice bo m capb]] w fun e w' => ∃ v, e = .returned v ∧ Num w' v (x - y) ∧ Below w.heap.size w w' := by
  by_cases h : x ≤ y
  · exact sub_le ao bo n capa m capb x y w hr hs hn hm h
  · exact sub_gt ao bo n capa m capb x y w hr hs hn hm (by omega)
end Go.Proofs.YtddbflggcblfcaaDoor
