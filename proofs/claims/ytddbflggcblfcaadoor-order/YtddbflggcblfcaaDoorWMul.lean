/- natural.Multiply: the product of any two numbers. -/
import Derived.Test.YtddbflggcblfcaaDoorWAdd
namespace Go.Proofs.YtddbflggcblfcaaDoor
set_option linter.unusedSimpArgs false
set_option linter.unusedVariables false
open Go.RowKit Por

theorem lm_set (xs : List Int) (k t : Nat) (v : Int) (h : t ≠ k) : lm (xs.set k v) t = lm xs t := by
  unfold lm; simp [List.getElem?_set, Ne.symm h]
theorem lm_replicate (n t : Nat) : lm (List.replicate n 0) t = 0 := by
  unfold lm; rw [List.getD_eq_getElem?_getD]
  by_cases h : t < n
  · simp [h]
  · rw [List.getElem?_eq_none (by simp; omega)]; rfl
theorem val_replicate (n : Nat) : val (List.replicate n 0) = 0 := by
  induction n with
  | zero => rfl
  | succ n ih => simp [List.replicate_succ, val, ih]

/-- the end of an outer round of a product -/
theorem mul_end (o A : List Int) (i m : Nat) (Y c : Int) (hk : i + m < o.length) (h0 : lm o (i + m) = 0)
    (h : val o + 10000 ^ (i + m) * c = val (A.take i) * Y + 10000 ^ i * (lm A i * Y)) : val (o.set (i + m) c) = val (A.take (i + 1)) * Y := by
  rw [val_set o _ _ hk, h0, val_take_succ]
  generalize (10000 : Int) ^ (i + m) = P at *
  generalize (10000 : Int) ^ i = R at *
  grind

set_option maxHeartbeats 1000000 in
theorem mul_any (ao bo : Option Addr) (n capa m capb : Nat) (x y : Nat) (w : World) (hr : Row w ao n capa (limbs x)) (hs : Row w bo m capb (limbs y)) (hnm : n + m ≤ 60000) :
    Calls Tryd.prog 86 #[.agg #[.slice ao n capa], .agg #[.slice bo m capb]] w fun e w' => ∃ v, e = .returned v ∧ Num w' v (x * y) ∧ Below w.heap.size w w' := by
  have l1 := hr.len
  have l2 := hs.len
  have HR := hid (hr)
  have HS := hid (hs)
  obtain ⟨c1, c2, c3, c5⟩ := boxes3 w #[.slice ao n capa] #[.slice bo m capb] #[.slice none 0 0] 74 74 74
  have H5 := hid (c5)
  have X1 := hid (c1)
  have X2 := hid (c2)
  have X3 := hid (c3)
  clear hr hs c5 c1 c2 c3
  go_enter Tryd.func86, Tryd.ntmps86
  go_wp2_with (at_make; refine wpList_make_ints _ rfl _ _ rfl _ _ (n + m) rfl rfl (by omega) (by omega) (by omega) ?_)
  intro w1 hk1 hb1 hz1
  have Y1 := hid (X1.out.below hb1 (by omega))
  have Y2 := hid (X2.out.below hb1 (by omega))
  have Y3 := hid (X3.out.below hb1 (by omega))
  have k1 := Y1.out.cell 0 _ rfl
  have HB1 : Hid (Below w.heap.size w w1) := H5.out.trans (hb1.mono (by omega))
  have HK1 := hid (hk1)
  obtain ⟨G, hG⟩ : ∃ G, G = w.heap.size + 1 + 1 + 1 := ⟨_, rfl⟩
  have hsz : w.heap.size + 1 + 1 + 1 ≤ G := by omega
  rw [← hG] at hk1 hb1 hz1 HK1 ⊢
  clear hb1 hk1 hG X1 X2 X3
  go_wp2
  go_loopw [23] (fun vi wr => ∃ (k : Nat) (out : List Int), k ≤ n ∧ vi = .int .i64 k ∧ out.length = n + m ∧ Hid (Lim out) ∧
      Hid (val out = val ((limbs x).take k) * (y : Int)) ∧ Hid (∀ t, k + m ≤ t → lm out t = 0) ∧ Hid (Blk wr G out) ∧ Hid (Below G w1 wr)) (fun vi _ => n - (intOf vi).toNat)
  case atStart => exact ⟨0, _, Nat.zero_le _, rfl, by simp, lim_replicate _, by simp [Hid, val, val_replicate], fun t _ => lm_replicate _ t, HK1.out, Below.refl _ _⟩
  case round =>
    obtain ⟨k, out, hk, rfl, hol, hLim, hval, hzero, hblk, hb⟩ := hrel
    have q2 := (Y2.out.below hb.out (by omega)).cell 0 _ rfl
    have HB : Hid (Below w.heap.size w wr) := HB1.out.trans (hb.out.mono (by omega))
    have hgw : G < wr.heap.size := hblk.out.lt
    by_cases hlt2 : k < n
    · obtain ⟨ba, oa, rfl, hla⟩ := HR.out.head (by omega)
      have d1 : wr.cell? ⟨ba, oa + k, none⟩ = some (.int .i64 (lm (limbs x) k)) := (HB.out.cell (p := ⟨ba, oa + k, none⟩) hla).trans (HR.out.cell ba oa rfl k (by omega))
      obtain ⟨bx0, bx1⟩ := lim_getD (lim_limbs x) k
      go_wp2
      go_loopw [8, 31] (fun vc vj wq => ∃ (j : Nat) (c : Int) (o : List Int), j ≤ m ∧ vj = .int .i64 j ∧ vc = .int .i64 c ∧ 0 ≤ c ∧ c < 10000 ∧ o.length = n + m ∧ Hid (Lim o) ∧
          Hid (val o + 10000 ^ (k + j) * c = val ((limbs x).take k) * (y : Int) + 10000 ^ k * (lm (limbs x) k * val ((limbs y).take j))) ∧ Hid (∀ t, k + m ≤ t → lm o t = 0) ∧ Hid (Blk wq G o) ∧ Hid (Below G w1 wq)) (fun _ vj _ => m - (intOf vj).toNat)
      case atStart => exact ⟨0, 0, out, Nat.zero_le _, rfl, rfl, by omega, by omega, hol, hLim.out, by simp [Hid, val, hval.out], hzero.out, hblk.out, hb.out⟩
      case round =>
        obtain ⟨j, c, o, hj, rfl, rfl, hc0, hc1, hol2, hLim2, hval2, hzero2, hblk2, hb2⟩ := hrel
        have HB2 : Hid (Below w.heap.size w wr) := HB1.out.trans (hb2.out.mono (by omega))
        have hgw2 : G < wr.heap.size := hblk2.out.lt
        by_cases hlt3 : j < m
        · obtain ⟨bb, ob, rfl, hlb⟩ := HS.out.head (by omega)
          have d2 : wr.cell? ⟨bb, ob + j, none⟩ = some (.int .i64 (lm (limbs y) j)) := (HB2.out.cell (p := ⟨bb, ob + j, none⟩) hlb).trans (HS.out.cell bb ob rfl j (by omega))
          have g1 := hblk2.out.cell (k + j) (by omega)
          have g2 := hblk2.out.frozen (k + j)
          obtain ⟨p1, p2, p3, p4⟩ := mul_bound (lm o (k + j)) (lm (limbs x) k) (lm (limbs y) j) c (lim_getD hLim2.out _) (lim_getD (lim_limbs x) _) (lim_getD (lim_limbs y) _) ⟨hc0, hc1⟩
          obtain ⟨bo0, bo1⟩ := lim_getD hLim2.out (k + j)
          clear d1 q2
          go_wp2
          go_roundw
          case rel =>
            exact ⟨j + 1, _, _, by omega, by go_num, rfl, by omega, by omega, by simpa using hol2, lim_set hLim2.out (k + j) _ (by omega) (by omega), mul_step o (limbs y) k j (lm (limbs x) k) c _ _ (by omega) rfl hval2.out, fun t ht => (lm_set o (k + j) t _ (by omega)).trans (hzero2.out t ht), hblk2.out.set (k + j) _, hb2.out.setCell (Nat.le_refl _) _⟩
          case measure => simp [intOf]; omega
        · obtain rfl : j = m := by omega
          have q3 := (Y2.out.below hb2.out (by omega)).cell 0 _ rfl
          have g1 := hblk2.out.cell (k + j) (by omega)
          have g2 := hblk2.out.frozen (k + j)
          have hvy : val ((limbs y).take j) = (y : Int) := by rw [List.take_of_length_le (by omega), val_limbs]
          have hE := hid (mul_end o (limbs x) k j y c (by omega) (hzero2.out _ (Nat.le_refl _)) (by rw [hval2.out, hvy]))
          clear hvy d1 q2
          go_wp2
          go_roundw
          case rel =>
            exact ⟨k + 1, _, by omega, by go_num, by simpa using hol2, lim_set hLim2.out (k + j) c hc0 hc1, hE.out, fun t ht => (lm_set o (k + j) t _ (by omega)).trans (hzero2.out t (by omega)), hblk2.out.set (k + j) _, hb2.out.setCell (Nat.le_refl _) _⟩
          case measure => simp [intOf]; omega
    · obtain rfl : k = n := by omega
      have hend : Hid ((val out).toNat = x * y) := by
        unfold Hid
        rw [hval.out, List.take_of_length_le (by omega), val_limbs]
        have : (x : Int) * (y : Int) = ((x * y : Nat) : Int) := by simp
        omega
      have hrow := hid (Blk.row0 hblk.out (k + m) (k + m) (by omega) (Nat.le_refl _) (by unfold maxLen; omega))
      go_wp2_with fail
      refine (trim_any _ (k + m) (k + m) out _ hrow.out hLim.out (by omega)).mono ?_
      rintro e w4 ⟨j, hj, hj2, rfl, hb4⟩
      have hbb : Hid (Below G w1 w4) := hb.out.trans (hb4.mono (by omega))
      have Z := hid (Y3.out.below hbb.out (by omega))
      have z1 := Z.out.cell 0 _ rfl
      have z2 := Z.out.frozen 0
      have HR2 := hid (row_of_trim hrow.out hj hj2 hend.out hb4)
      clear hb4 hj2
      go_wp2
      refine bodyPost_ret (v := .agg #[.slice (some ⟨G, 0, none⟩) j (k + m)]) (by simp [results, Tryd.results86, go_sem, z1]) rfl ⟨_, rfl, ⟨_, _, _, rfl, HR2.out.other _ _ _ Z.out (by decide)⟩, ?_⟩
      exact (HB1.out.trans (hbb.out.mono (by omega))).setCell (by simp; omega) _
end Go.Proofs.YtddbflggcblfcaaDoor
