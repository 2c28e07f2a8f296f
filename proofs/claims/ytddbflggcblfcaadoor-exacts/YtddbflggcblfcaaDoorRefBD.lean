/- RefB, RefC, RefD, joined. -/
import Derived.Test.YtddbflggcblfcaaDoorRefA
import Derived.Test.YtddbflggcblfcaaDoorWSub
import Derived.Test.YtddbflggcblfcaaDoorWMul
import Derived.Test.YtddbflggcblfcaaDoorPure
/- portionref.plus, less: the sum, the difference of any two numbers. (Laid by mkref.py.) -/
namespace Go.Proofs.YtddbflggcblfcaaDoor
set_option linter.unusedSimpArgs false
set_option linter.unusedVariables false
open Go.RowKit Por

theorem row_of_cut {w : World} {ao : Option Addr} {n cap m : Nat} {xs : List Int} {z : Nat} (hr : Row w ao n cap xs) (hm : m ≤ n) (he : xs.take m = limbs (val xs).toNat) (hz : (val xs).toNat = z) :
    Row w ao m cap (limbs z) := by
  have := (hr.take m hm)
  rwa [he, hz] at this

theorem plus_end (o : List Int) (n x y : Nat) (c : Int) (hL : Lim o) (hlen : o.length = n + 1) (hx : (limbs x).length ≤ n) (hy : (limbs y).length ≤ n) (hc : 0 ≤ c)
    (h : val (o.take (n + 1)) + 10000 ^ (n + 1) * c = val ((limbs x).take (n + 1)) + val ((limbs y).take (n + 1))) : (val o).toNat = x + y := by
  rw [List.take_of_length_le (by omega), List.take_of_length_le (by omega), List.take_of_length_le (by omega), val_limbs, val_limbs] at h
  have h1 := len_limbs_lt x
  have h2 := len_limbs_lt y
  have h3 : (10000 : Nat) ^ (limbs x).length ≤ 10000 ^ n := Nat.pow_le_pow_right (by omega) hx
  have h4 : (10000 : Nat) ^ (limbs y).length ≤ 10000 ^ n := Nat.pow_le_pow_right (by omega) hy
  have h5 := val_nonneg hL
  have h8 : ((10000 ^ n : Nat) : Int) = (10000 : Int) ^ n := by simp
  have h9 : x + y < 2 * 10000 ^ n := by omega
  clear h1 h2 h3 h4
  have h6 : c = 0 := by
    by_cases e : c = 0
    · exact e
    · have h7 : (10000 : Int) ^ (n + 1) * 1 ≤ 10000 ^ (n + 1) * c := Int.mul_le_mul_of_nonneg_left (by omega) (by exact Int.le_of_lt (Int.pow_pos (by omega)))
      have h10 : (10000 : Int) ^ (n + 1) = 10000 * 10000 ^ n := by rw [Int.pow_succ, Int.mul_comm]
      generalize (10000 : Int) ^ (n + 1) * c = Z at *
      rw [Int.mul_one, h10] at h7
      generalize (10000 : Int) ^ n = P at *
      omega
  subst h6
  omega

set_option maxHeartbeats 1000000 in
set_option maxRecDepth 20000 in
theorem pplus_lt (ao bo : Option Addr) (n capa m capb : Nat) (x y : Nat) (w : World) (hr : Row w ao n capa (limbs x)) (hs : Row w bo m capb (limbs y)) (hn : n ≤ 50000) (hm : m ≤ 50000) (hnm : n < m) :
    Calls Tryd.prog 95 #[.slice ao n capa, .slice bo m capb] w fun e w' => ∃ v, e = .returned v ∧ Sli w.heap.size w' v (x + y) ∧ Below w.heap.size w w' := by
  have l1 := hr.len
  have l2 := hs.len
  have HR := hid (hr)
  have HS := hid (hs)
  have hlt' : (n : Int) < (m : Int) := by omega
  clear hr hs
  go_enter Tryd.func95, Tryd.ntmps95
  go_wp2_with (at_make; refine wpList_make_ints _ rfl _ _ rfl _ _ (m + 1) rfl rfl (by omega) (by omega) (by omega) ?_)
  intro w1 hk1 hb1 hz1
  have HB1 := hid (hb1)
  have HK1 := hid (hk1)
  clear hb1 hk1
  go_wp2
  go_loopw [7, 8] (fun vc vi wr => ∃ (k : Nat) (c : Int) (out : List Int), k ≤ m + 1 ∧ vi = .int .i64 k ∧ vc = .int .i64 c ∧ 0 ≤ c ∧ c ≤ 1 ∧ out.length = m + 1 ∧ Hid (Lim out) ∧
      Hid (val (out.take k) + 10000 ^ k * c = val ((limbs x).take k) + val ((limbs y).take k)) ∧ Hid (Blk wr w.heap.size out) ∧ Hid (Below w.heap.size w wr)) (fun _ vi _ => m + 1 - (intOf vi).toNat)
  case atStart => exact ⟨0, 0, _, Nat.zero_le _, rfl, rfl, by omega, by omega, by simp, lim_replicate _, by simp [Hid, val], HK1.out, HB1.out⟩
  case round =>
    obtain ⟨k, c, out, hk, rfl, rfl, hc0, hc1, hol, hLim, hval, hblk, hb⟩ := hrel
    have hgw : w.heap.size < wr.heap.size := hblk.out.lt
    by_cases hlt2 : k ≤ m
    · have hra : Hid (Row wr ao n capa (limbs x)) := HR.out.below hb.out
      have hrs : Hid (Row wr bo m capb (limbs y)) := HS.out.below hb.out
      obtain ⟨bx0, bx1⟩ := lim_getD (lim_limbs x) k
      obtain ⟨by0, by1⟩ := lim_getD (lim_limbs y) k
      have g1 := hblk.out.cell k (by omega)
      have g2 := hblk.out.frozen k
      go_wp2_with fail
      refine (pdigit_any ao n capa k (limbs x) _ hra.out (by omega) (by omega)).mono ?_
      rintro e w2 ⟨rfl, rfl⟩
      go_wp2_with fail
      refine (pdigit_any bo m capb k (limbs y) _ hrs.out (by omega) (by omega)).mono ?_
      rintro e w2 ⟨rfl, rfl⟩
      go_wp2
      go_roundw
      case rel =>
        exact ⟨k + 1, _, _, by omega, by go_num, rfl, by omega, by omega, by simpa using hol, lim_set hLim.out k _ (by omega) (by omega), add_step out (limbs x) (limbs y) k c _ (by omega) rfl hval.out, hblk.out.set k _, hb.out.setCell (Nat.le_refl _) _⟩
      case measure => simp [intOf]; omega
    · obtain rfl : k = m + 1 := by omega
      have hend := hid (plus_end out m x y c hLim.out hol (by omega) (by omega) hc0 hval.out)
      have hrow := hid (Blk.row0 hblk.out (m + 1) (m + 1) (by omega) (Nat.le_refl _) (by unfold maxLen; omega))
      go_wp2_with fail
      refine (pcut_any _ (m + 1) (m + 1) out _ hrow.out hLim.out (by omega)).mono ?_
      rintro e w4 ⟨j, hj, hj2, rfl, rfl⟩
      have HR2 := hid (row_of_cut hrow.out hj hj2 hend.out)
      clear hj2
      go_wp2
      go_ret
      exact ⟨_, rfl, ⟨_, _, _, rfl, HR2.out, Fr.here _ _ _⟩, hb.out⟩

set_option maxHeartbeats 1000000 in
set_option maxRecDepth 20000 in
theorem pplus_ge (ao bo : Option Addr) (n capa m capb : Nat) (x y : Nat) (w : World) (hr : Row w ao n capa (limbs x)) (hs : Row w bo m capb (limbs y)) (hn : n ≤ 50000) (hm : m ≤ 50000) (hnm : m ≤ n) :
    Calls Tryd.prog 95 #[.slice ao n capa, .slice bo m capb] w fun e w' => ∃ v, e = .returned v ∧ Sli w.heap.size w' v (x + y) ∧ Below w.heap.size w w' := by
  have l1 := hr.len
  have l2 := hs.len
  have HR := hid (hr)
  have HS := hid (hs)
  have hlt' : ¬ (n : Int) < (m : Int) := by omega
  clear hr hs
  go_enter Tryd.func95, Tryd.ntmps95
  go_wp2_with (at_make; refine wpList_make_ints _ rfl _ _ rfl _ _ (n + 1) rfl rfl (by omega) (by omega) (by omega) ?_)
  intro w1 hk1 hb1 hz1
  have HB1 := hid (hb1)
  have HK1 := hid (hk1)
  clear hb1 hk1
  go_wp2
  go_loopw [7, 8] (fun vc vi wr => ∃ (k : Nat) (c : Int) (out : List Int), k ≤ n + 1 ∧ vi = .int .i64 k ∧ vc = .int .i64 c ∧ 0 ≤ c ∧ c ≤ 1 ∧ out.length = n + 1 ∧ Hid (Lim out) ∧
      Hid (val (out.take k) + 10000 ^ k * c = val ((limbs x).take k) + val ((limbs y).take k)) ∧ Hid (Blk wr w.heap.size out) ∧ Hid (Below w.heap.size w wr)) (fun _ vi _ => n + 1 - (intOf vi).toNat)
  case atStart => exact ⟨0, 0, _, Nat.zero_le _, rfl, rfl, by omega, by omega, by simp, lim_replicate _, by simp [Hid, val], HK1.out, HB1.out⟩
  case round =>
    obtain ⟨k, c, out, hk, rfl, rfl, hc0, hc1, hol, hLim, hval, hblk, hb⟩ := hrel
    have hgw : w.heap.size < wr.heap.size := hblk.out.lt
    by_cases hlt2 : k ≤ n
    · have hra : Hid (Row wr ao n capa (limbs x)) := HR.out.below hb.out
      have hrs : Hid (Row wr bo m capb (limbs y)) := HS.out.below hb.out
      obtain ⟨bx0, bx1⟩ := lim_getD (lim_limbs x) k
      obtain ⟨by0, by1⟩ := lim_getD (lim_limbs y) k
      have g1 := hblk.out.cell k (by omega)
      have g2 := hblk.out.frozen k
      go_wp2_with fail
      refine (pdigit_any ao n capa k (limbs x) _ hra.out (by omega) (by omega)).mono ?_
      rintro e w2 ⟨rfl, rfl⟩
      go_wp2_with fail
      refine (pdigit_any bo m capb k (limbs y) _ hrs.out (by omega) (by omega)).mono ?_
      rintro e w2 ⟨rfl, rfl⟩
      go_wp2
      go_roundw
      case rel =>
        exact ⟨k + 1, _, _, by omega, by go_num, rfl, by omega, by omega, by simpa using hol, lim_set hLim.out k _ (by omega) (by omega), add_step out (limbs x) (limbs y) k c _ (by omega) rfl hval.out, hblk.out.set k _, hb.out.setCell (Nat.le_refl _) _⟩
      case measure => simp [intOf]; omega
    · obtain rfl : k = n + 1 := by omega
      have hend := hid (plus_end out n x y c hLim.out hol (by omega) (by omega) hc0 hval.out)
      have hrow := hid (Blk.row0 hblk.out (n + 1) (n + 1) (by omega) (Nat.le_refl _) (by unfold maxLen; omega))
      go_wp2_with fail
      refine (pcut_any _ (n + 1) (n + 1) out _ hrow.out hLim.out (by omega)).mono ?_
      rintro e w4 ⟨j, hj, hj2, rfl, rfl⟩
      have HR2 := hid (row_of_cut hrow.out hj hj2 hend.out)
      clear hj2
      go_wp2
      go_ret
      exact ⟨_, rfl, ⟨_, _, _, rfl, HR2.out, Fr.here _ _ _⟩, hb.out⟩

theorem pplus_any (ao bo : Option Addr) (n capa m capb : Nat) (x y : Nat) (w : World) (hr : Row w ao n capa (limbs x)) (hs : Row w bo m capb (limbs y)) (hn : n ≤ 50000) (hm : m ≤ 50000) :
    Calls Tryd.prog 95 #[.slice ao n capa, .slice bo m capb] w fun e w' => ∃ v, e = .returned v ∧ Sli w.heap.size w' v (x + y) ∧ Below w.heap.size w w' := by
  rcases Nat.lt_or_ge n m with h | h
  · exact pplus_lt ao bo n capa m capb x y w hr hs hn hm h
  · exact pplus_ge ao bo n capa m capb x y w hr hs hn hm h

set_option maxHeartbeats 1000000 in
set_option maxRecDepth 20000 in
theorem pless_any (ao bo : Option Addr) (n capa m capb : Nat) (x y : Nat) (w : World) (hr : Row w ao n capa (limbs x)) (hs : Row w bo m capb (limbs y)) (hn : n ≤ 50000) (hm : m ≤ 50000) (hxy : y ≤ x) :
    Calls Tryd.prog 96 #[.slice ao n capa, .slice bo m capb] w fun e w' => ∃ v, e = .returned v ∧ Sli w.heap.size w' v (x - y) ∧ Below w.heap.size w w' := by
  have l1 := hr.len
  have l2 := hs.len
  have hmn : m ≤ n := by rw [← l1, ← l2]; exact len_mono (by omega)
  have HR := hid (hr)
  have HS := hid (hs)
  clear hr hs
  go_enter Tryd.func96, Tryd.ntmps96
  go_wp2_with (at_make; refine wpList_make_ints _ rfl _ _ rfl _ _ n rfl rfl (by omega) (by omega) (by omega) ?_)
  intro w1 hk1 hb1 hz1
  have HB1 := hid (hb1)
  have HK1 := hid (hk1)
  clear hb1 hk1
  go_wp2
  go_loopw [6, 7, 8] (fun vc vi _ wr => ∃ (k : Nat) (c : Int) (out : List Int), k ≤ n ∧ vi = .int .i64 k ∧ vc = .int .i64 c ∧ 0 ≤ c ∧ c ≤ 1 ∧ out.length = n ∧ Hid (Lim out) ∧
      Hid (val (out.take k) - 10000 ^ k * c = val ((limbs x).take k) - val ((limbs y).take k)) ∧ Hid (Blk wr w.heap.size out) ∧ Hid (Below w.heap.size w wr)) (fun _ vi _ _ => n - (intOf vi).toNat)
  case atStart => exact ⟨0, 0, _, Nat.zero_le _, rfl, rfl, by omega, by omega, by simp, lim_replicate _, by simp [Hid, val], HK1.out, HB1.out⟩
  case round =>
    obtain ⟨k, c, out, hk, rfl, rfl, hc0, hc1, hol, hLim, hval, hblk, hb⟩ := hrel
    have hgw : w.heap.size < wr.heap.size := hblk.out.lt
    by_cases hlt2 : k < n
    · obtain ⟨ba, oa, rfl, hla⟩ := HR.out.head (by omega)
      have d1 : wr.cell? ⟨ba, oa + k, none⟩ = some (.int .i64 (lm (limbs x) k)) := (hb.out.cell (p := ⟨ba, oa + k, none⟩) hla).trans (HR.out.cell ba oa rfl k (by omega))
      have hrs : Hid (Row wr bo m capb (limbs y)) := HS.out.below hb.out
      obtain ⟨bx0, bx1⟩ := lim_getD (lim_limbs x) k
      obtain ⟨by0, by1⟩ := lim_getD (lim_limbs y) k
      have hki : (k : Int) < (n : Int) := by omega
      by_cases hneg : lm (limbs x) k - lm (limbs y) k - c < 0
      all_goals
        have g1 := hblk.out.cell k (by omega)
        have g2 := hblk.out.frozen k
        go_wp2
        go_quiet ((go_at_call 101; refine Calls.quiet_of_same (pdigit_any bo m capb k (limbs y) _ (hrs.out.below (below_drewN (Below.refl _ _) _)) (by omega) (by omega))))
        go_wp2
        go_roundw
        case rel =>
          exact ⟨k + 1, _, _, by omega, by go_num, rfl, by omega, by omega, by simpa using hol, lim_set hLim.out k _ (by omega) (by omega), sub_step out (limbs x) (limbs y) k c _ _ (by omega) (by omega) hval.out, (hblk.out.below (below_drewN (Below.refl _ _) _) hgw).set k _, (below_drewN hb.out _).setCell (Nat.le_refl _) _⟩
        case measure => simp [intOf]; omega
    · obtain rfl : k = n := by omega
      have hend := hid (sub_end out k x y c hLim.out hol l1 (by omega) hc0 (by omega) hval.out)
      have hrow := hid (Blk.row0 hblk.out k k (by omega) (Nat.le_refl _) (by unfold maxLen; omega))
      go_wp2_with fail
      refine (pcut_any _ k k out _ hrow.out hLim.out (by omega)).mono ?_
      rintro e w4 ⟨j, hj, hj2, rfl, rfl⟩
      have HR2 := hid (row_of_cut hrow.out hj hj2 hend.out)
      clear hj2
      go_wp2
      go_ret
      exact ⟨_, rfl, ⟨_, _, _, rfl, HR2.out, Fr.here _ _ _⟩, hb.out⟩
end Go.Proofs.YtddbflggcblfcaaDoor

/- portionref.times: the product of any two numbers. -/
namespace Go.Proofs.YtddbflggcblfcaaDoor
set_option linter.unusedSimpArgs false
set_option linter.unusedVariables false
open Go.RowKit Por

theorem lm_past (xs : List Int) (j : Nat) (h : xs.length ≤ j) : lm xs j = 0 := by
  unfold lm; rw [List.getD_eq_getElem?_getD, List.getElem?_eq_none h]; rfl

set_option maxHeartbeats 2000000 in
set_option maxRecDepth 20000 in
theorem ptimes_any (ao bo : Option Addr) (n capa m capb : Nat) (x y : Nat) (w : World) (hr : Row w ao n capa (limbs x)) (hs : Row w bo m capb (limbs y)) (hn : n ≤ 20000) (hm : m ≤ 20000) :
    Calls Tryd.prog 58 #[.slice ao n capa, .slice bo m capb] w fun e w' => ∃ v, e = .returned v ∧ Sli w.heap.size w' v (x * y) ∧ Below w.heap.size w w' := by
  have l1 := hr.len
  have l2 := hs.len
  have HR := hid (hr)
  have HS := hid (hs)
  clear hr hs
  go_enter Tryd.func58, Tryd.ntmps58
  go_wp2_with (at_make; refine wpList_make_ints _ rfl _ _ rfl _ _ (n + m + 1) rfl rfl (by omega) (by omega) (by omega) ?_)
  intro w1 hk1 hb1 hz1
  have HB1 := hid (hb1)
  have HK1 := hid (hk1)
  clear hb1 hk1
  go_wp2
  go_loopw [6] (fun vi wr => ∃ (k : Nat) (out : List Int), k ≤ n ∧ vi = .int .i64 k ∧ out.length = n + m + 1 ∧ Hid (Lim out) ∧
      Hid (val out = val ((limbs x).take k) * (y : Int)) ∧ Hid (∀ t, k + m ≤ t → lm out t = 0) ∧ Hid (Blk wr w.heap.size out) ∧ Hid (Below w.heap.size w wr)) (fun vi _ => n - (intOf vi).toNat)
  case atStart => exact ⟨0, _, Nat.zero_le _, rfl, by simp, lim_replicate _, by simp [Hid, val, val_replicate], fun t _ => lm_replicate _ t, HK1.out, HB1.out⟩
  case round =>
    obtain ⟨k, out, hk, rfl, hol, hLim, hval, hzero, hblk, hb⟩ := hrel
    by_cases hlt2 : k < n
    · obtain ⟨ba, oa, rfl, hla⟩ := HR.out.head (by omega)
      obtain ⟨bx0, bx1⟩ := lim_getD (lim_limbs x) k
      go_wp2
      go_loopw [7, 8] (fun vc vj wq => ∃ (j : Nat) (c : Int) (o : List Int), j ≤ m + 1 ∧ (j = m + 1 → c = 0) ∧ vj = .int .i64 j ∧ vc = .int .i64 c ∧ 0 ≤ c ∧ c < 10000 ∧ o.length = n + m + 1 ∧ Hid (Lim o) ∧
          Hid (val o + 10000 ^ (k + j) * c = val ((limbs x).take k) * (y : Int) + 10000 ^ k * (lm (limbs x) k * val ((limbs y).take j))) ∧ Hid (j ≤ m → ∀ t, k + m ≤ t → lm o t = 0) ∧ Hid (∀ t, k + m + 1 ≤ t → lm o t = 0) ∧ Hid (Blk wq w.heap.size o) ∧ Hid (Below w.heap.size w wq)) (fun _ vj _ => m + 1 - (intOf vj).toNat)
      case atStart => exact ⟨0, 0, out, Nat.zero_le _, fun _ => rfl, rfl, rfl, by omega, by omega, hol, hLim.out, by simp [Hid, val, hval.out], fun _ => hzero.out, fun t ht => hzero.out t (by omega), hblk.out, hb.out⟩
      case round =>
        obtain ⟨j, c, o, hj, hjc, rfl, rfl, hc0, hc1, hol2, hLim2, hval2, hzero2, hzero3, hblk2, hb2⟩ := hrel
        have hgw2 : w.heap.size < wr.heap.size := hblk2.out.lt
        by_cases hgo : j < m ∨ (j = m ∧ 0 < c)
        · have d1 : wr.cell? ⟨ba, oa + k, none⟩ = some (.int .i64 (lm (limbs x) k)) := (hb2.out.cell (p := ⟨ba, oa + k, none⟩) hla).trans (HR.out.cell ba oa rfl k (by omega))
          have hrs : Hid (Row wr bo m capb (limbs y)) := HS.out.below hb2.out
          have g1 := hblk2.out.cell (k + j) (by omega)
          have g2 := hblk2.out.frozen (k + j)
          obtain ⟨p1, p2, p3, p4⟩ := mul_bound (lm o (k + j)) (lm (limbs x) k) (lm (limbs y) j) c (lim_getD hLim2.out _) (lim_getD (lim_limbs x) _) (lim_getD (lim_limbs y) _) ⟨hc0, hc1⟩
          obtain ⟨bo0, bo1⟩ := lim_getD hLim2.out (k + j)
          have hki : (k : Int) < (n : Int) := by omega
          have hkj : (k : Int) + (j : Int) < ((n + m + 1 : Nat) : Int) := by omega
          by_cases hjm : j < m
          · have hji : (j : Int) < (m : Int) := by omega
            go_wp2
            go_quiet ((go_at_call 101; refine Calls.quiet_of_same (pdigit_any bo m capb j (limbs y) _ (hrs.out.below (below_drewN (Below.refl _ _) _)) (by omega) (by omega))))
            go_wp2
            go_roundw
            case rel =>
              exact ⟨j + 1, _, _, by omega, fun h => by omega, by go_num, rfl, by omega, by omega, by simpa using hol2, lim_set hLim2.out (k + j) _ (by omega) (by omega), mul_step o (limbs y) k j (lm (limbs x) k) c _ _ (by omega) rfl hval2.out, fun _ t ht => (lm_set o (k + j) t _ (by omega)).trans (hzero2.out (by omega) t ht), fun t ht => (lm_set o (k + j) t _ (by omega)).trans (hzero3.out t ht), (hblk2.out.below (below_drewN (Below.refl _ _) _) hgw2).set (k + j) _, (below_drewN hb2.out _).setCell (Nat.le_refl _) _⟩
            case measure => simp [intOf]; omega
          · have hji : ¬ (j : Int) < (m : Int) := by omega
            have hcp : 0 < c := by omega
            have hs0 : Hid (lm o (k + j) + lm (limbs x) k * lm (limbs y) j + c = c) := by
              show _ = _
              rw [lm_past (limbs y) j (by omega), hzero2.out (by omega) _ (by omega)]; omega
            go_wp2
            go_quiet ((go_at_call 101; refine Calls.quiet_of_same (pdigit_any bo m capb j (limbs y) _ (hrs.out.below (below_drewN (Below.refl _ _) _)) (by omega) (by omega))))
            go_wp2
            go_roundw
            case rel =>
              exact ⟨j + 1, _, _, by omega, fun h => by rw [hs0.out]; omega, by go_num, rfl, by omega, by omega, by simpa using hol2, lim_set hLim2.out (k + j) _ (by omega) (by omega), mul_step o (limbs y) k j (lm (limbs x) k) c _ _ (by omega) rfl hval2.out, fun h => by omega, fun t ht => (lm_set o (k + j) t _ (by omega)).trans (hzero3.out t ht), (hblk2.out.below (below_drewN (Below.refl _ _) _) hgw2).set (k + j) _, (below_drewN hb2.out _).setCell (Nat.le_refl _) _⟩
            case measure => simp [intOf]; omega
        · have hji : ¬ (j : Int) < (m : Int) := by omega
          have hc9 : c = 0 := by
            by_cases h : j = m + 1
            · exact hjc h
            · omega
          subst hc9
          have hvy : val ((limbs y).take j) = (y : Int) := by rw [List.take_of_length_le (by omega), val_limbs]
          have hE : Hid (val o = val ((limbs x).take (k + 1)) * (y : Int)) := by
            show _ = _
            have h := hval2.out
            rw [hvy, Int.mul_zero, Int.add_zero] at h
            rw [h, val_take_succ, Int.add_mul, Int.mul_assoc]
          clear hvy hjc
          go_wp2
          go_roundw
          case rel =>
            exact ⟨k + 1, _, by omega, by go_num, hol2, hLim2.out, hE.out, fun t ht => hzero3.out t (by omega), hblk2.out, hb2.out⟩
          case measure => simp [intOf]; omega
    · obtain rfl : k = n := by omega
      have hend : Hid ((val out).toNat = x * y) := by
        unfold Hid
        rw [hval.out, List.take_of_length_le (by omega), val_limbs]
        have : (x : Int) * (y : Int) = ((x * y : Nat) : Int) := by simp
        omega
      have hrow := hid (Blk.row0 hblk.out (k + m + 1) (k + m + 1) (by omega) (Nat.le_refl _) (by unfold maxLen; omega))
      go_wp2_with fail
      refine (pcut_any _ (k + m + 1) (k + m + 1) out _ hrow.out hLim.out (by omega)).mono ?_
      rintro e w4 ⟨j, hj, hj2, rfl, rfl⟩
      have HR2 := hid (row_of_cut hrow.out hj hj2 hend.out)
      clear hj2
      go_wp2
      go_ret
      exact ⟨_, rfl, ⟨_, _, _, rfl, HR2.out, Fr.here _ _ _⟩, hb.out⟩
end Go.Proofs.YtddbflggcblfcaaDoor

/- portionref.even, half, often. -/
namespace Go.Proofs.YtddbflggcblfcaaDoor
set_option linter.unusedSimpArgs false
set_option linter.unusedVariables false
open Go.RowKit Por

def evB (x : Nat) : Bool := decide (x % 2 = 0)

theorem lm_zero (x : Nat) : lm (limbs x) 0 = ((x % 10000 : Nat) : Int) := by
  by_cases h : x = 0
  · subst h; rfl
  · rw [limbs_pos x h]; rfl

set_option maxHeartbeats 400000 in
theorem peven_any (ao : Option Addr) (n cap : Nat) (x : Nat) (w : World) (hr : Row w ao n cap (limbs x)) (hn : n ≤ 60000) :
    Calls Tryd.prog 126 #[.slice ao n cap] w fun e w' => e = .returned (.bool (evB x)) ∧ w' = w := by
  have HR := hid hr
  clear hr
  have h0 := lm_zero x
  have h1 : 0 ≤ lm (limbs x) 0 := by omega
  have he : Hid (evB x = (lm (limbs x) 0 % 2 == 0)) := by
    show _ = _
    unfold evB
    rw [Bool.eq_iff_iff, decide_eq_true_iff, beq_iff_eq, h0]; omega
  rw [he.out]
  clear h0
  go_enter Tryd.func126, Tryd.ntmps126
  go_wp2_with fail
  refine (pdigit_any ao n cap 0 (limbs x) _ HR.out (by omega) (by omega)).mono ?_
  rintro e w2 ⟨rfl, rfl⟩
  go_wp2
  go_ret
  exact ⟨rfl, rfl⟩

theorem drop_cons (xs : List Int) (k : Nat) (h : k < xs.length) : xs.drop k = lm xs k :: xs.drop (k + 1) := by
  rw [List.drop_eq_getElem_cons h]
  unfold lm
  rw [List.getD_eq_getElem?_getD, List.getElem?_eq_getElem h]; rfl
theorem drop_set (xs : List Int) (k : Nat) (v : Int) (h : k < xs.length) : (xs.set k v).drop k = v :: xs.drop (k + 1) := by
  rw [drop_cons _ k (by simpa using h)]
  congr 1
  · unfold lm; simp [h]
  · rw [List.drop_set_of_lt (by omega)]
theorem half_step (o A : List Int) (k : Nat) (r v : Int) (hk : k < o.length) (hA : k < A.length) (hv : v = r * 10000 + lm A k) 
    (h : 2 * val (o.drop (k + 1)) + r = val (A.drop (k + 1))) : 2 * val ((o.set k (v / 2)).drop k) + v % 2 = val (A.drop k) := by
  rw [drop_set o k _ hk, drop_cons A k hA, val, val]
  omega

set_option maxHeartbeats 1000000 in
set_option maxRecDepth 20000 in
theorem phalf_any (ao : Option Addr) (n capa : Nat) (x : Nat) (w : World) (hr : Row w ao n capa (limbs x)) (hn : n ≤ 50000) :
    Calls Tryd.prog 127 #[.slice ao n capa] w fun e w' => ∃ v, e = .returned v ∧ Sli w.heap.size w' v (x / 2) ∧ Below w.heap.size w w' := by
  have l1 := hr.len
  have HR := hid (hr)
  clear hr
  go_enter Tryd.func127, Tryd.ntmps127
  go_wp2_with (at_make; refine wpList_make_ints _ rfl _ _ rfl _ _ n rfl rfl (by omega) (by omega) (by omega) ?_)
  intro w1 hk1 hb1 hz1
  have HB1 := hid (hb1)
  have HK1 := hid (hk1)
  clear hb1 hk1
  go_wp2
  go_loopw [4, 5] (fun vr vi wr => ∃ (k : Nat) (r : Int) (out : List Int), k ≤ n ∧ vi = .int .i64 ((k : Int) - 1) ∧ vr = .int .i64 r ∧ 0 ≤ r ∧ r ≤ 1 ∧ out.length = n ∧ Hid (Lim out) ∧
      Hid (2 * val (out.drop k) + r = val ((limbs x).drop k)) ∧ Hid (Blk wr w.heap.size out) ∧ Hid (Below w.heap.size w wr)) (fun _ vi _ => (intOf vi + 1).toNat)
  case atStart => exact ⟨n, 0, _, Nat.le_refl _, rfl, rfl, by omega, by omega, by simp, lim_replicate _, by show _ = _; rw [List.drop_of_length_le (by simp), List.drop_of_length_le (by omega)]; rfl, HK1.out, HB1.out⟩
  case round =>
    obtain ⟨k, r, out, hk, rfl, rfl, hr0, hr1, hol, hLim, hval, hblk, hb⟩ := hrel
    by_cases h0 : k = 0
    · subst h0
      have hend : Hid ((val out).toNat = x / 2) := by
        show _ = _
        have h := hval.out
        rw [List.drop_zero, List.drop_zero, val_limbs] at h
        omega
      have hrow := hid (Blk.row0 hblk.out n n (by omega) (Nat.le_refl _) (by unfold maxLen; omega))
      go_wp2_with fail
      refine (pcut_any _ n n out _ hrow.out hLim.out (by omega)).mono ?_
      rintro e w4 ⟨j, hj, hj2, rfl, rfl⟩
      have HR2 := hid (row_of_cut hrow.out hj hj2 hend.out)
      clear hj2
      go_wp2
      go_ret
      exact ⟨_, rfl, ⟨_, _, _, rfl, HR2.out, Fr.here _ _ _⟩, hb.out⟩
    · obtain ⟨q, rfl⟩ : ∃ q, k = q + 1 := ⟨k - 1, by omega⟩
      obtain ⟨ba, oa, rfl, hla⟩ := HR.out.head (by omega)
      have d1 : wr.cell? ⟨ba, oa + q, none⟩ = some (.int .i64 (lm (limbs x) q)) := (hb.out.cell (p := ⟨ba, oa + q, none⟩) hla).trans (HR.out.cell ba oa rfl q (by omega))
      obtain ⟨bx0, bx1⟩ := lim_getD (lim_limbs x) q
      have g1 := hblk.out.cell q (by omega)
      have g2 := hblk.out.frozen q
      have hq1 : (0 : Int) ≤ ((q + 1 : Nat) : Int) - 1 := by omega
      go_wp2
      go_roundw
      case rel =>
        exact ⟨q, _, _, by omega, by go_num, rfl, by omega, by omega, by simpa using hol, lim_set hLim.out q _ (by omega) (by omega), half_step out (limbs x) q r _ (by omega) (by omega) rfl hval.out, hblk.out.set q _, hb.out.setCell (Nat.le_refl _) _⟩
      case measure => simp [intOf]

theorem often_end (a b lo hi : Nat) (h1 : lo * b ≤ a) (h2 : a < hi * b) (h3 : lo < hi) (h4 : hi ≤ lo + 1) : lo = a / b := by
  obtain rfl : hi = lo + 1 := by omega
  rw [Nat.add_mul] at h2
  exact (divmod_of a b lo (a - lo * b) (by omega) (by omega)).1

theorem cmp3_pos (x y : Nat) (h : y < x) : ¬ cmp3 x y ≤ 0 := by rw [cmp3_gt x y h]; omega

set_option maxHeartbeats 1000000 in
set_option maxRecDepth 20000 in
theorem poften_any (ao bo : Option Addr) (n capa m capb : Nat) (x y : Nat) (w : World) (hr : Row w ao n capa (limbs x)) (hs : Row w bo m capb (limbs y)) (hn : n ≤ 15000) (hm : m ≤ 15000) (hxy : x < 10000 * y) (Q : Nat) (hQ : Q = x / y) :
    Calls Tryd.prog 128 #[.slice ao n capa, .slice bo m capb] w fun e w' => e = .returned (.int .i64 Q) ∧ Below w.heap.size w w' := by
  have l2 := hs.len
  have HR := hid (hr)
  have HS := hid (hs)
  have HXY := hid hxy
  have HQ := hid hQ
  clear hr hs hxy hQ
  go_enter Tryd.func128, Tryd.ntmps128
  go_wp2
  go_loopw [5, 6] (fun vl vh wr => ∃ (lo hi : Nat), lo < hi ∧ hi ≤ 10000 ∧ vl = .int .i64 lo ∧ vh = .int .i64 hi ∧ Hid (lo * y ≤ x) ∧ Hid (x < hi * y) ∧ Hid (Below w.heap.size w wr)) (fun vl vh _ => (intOf vh - intOf vl).toNat)
  case atStart => exact ⟨0, 10000, by omega, Nat.le_refl _, rfl, rfl, by show _ ≤ _; omega, HXY.out, Below.refl _ _⟩
  case round =>
    obtain ⟨lo, hi, h3, h4, rfl, rfl, h1, h2, hb⟩ := hrel
    by_cases hend : hi ≤ lo + 1
    · have E := hid (often_end x y lo hi h1.out h2.out h3 hend)
      have hne : ¬ (1 : Int) < (hi : Int) - (lo : Int) := by omega
      go_wp2
      go_ret
      exact ⟨by rw [HQ.out, ← E.out]; rfl, hb.out⟩
    · have hgo : (1 : Int) < (hi : Int) - (lo : Int) := by omega
      obtain ⟨mid, hmid, hm1, hm2⟩ : ∃ mid : Nat, ((lo : Int) + (hi : Int)) / 2 = (mid : Int) ∧ lo < mid ∧ mid < hi := ⟨(lo + hi) / 2, by omega, by omega, by omega⟩
      have hms : (limbs mid).length ≤ 1 := len_limbs_le (by omega)
      have hra : Hid (Row wr ao n capa (limbs x)) := HR.out.below hb.out
      have hrs : Hid (Row wr bo m capb (limbs y)) := HS.out.below hb.out
      go_wp2_with fail
      rw [hmid]
      refine (pwhole_any mid _ (by omega)).mono ?_
      rintro e w2 ⟨v, rfl, ⟨co, p, capc, rfl, hrc, _⟩, hb2⟩
      have HRC := hid hrc
      have hrc2 := hrc.len
      have hra2 := hid (hra.out.below hb2)
      have hrs2 := hid (hrs.out.below hb2)
      have HB2 : Hid (Below w.heap.size w w2) := hb.out.trans (hb2.mono hb.out.size)
      clear hrc hb2
      go_wp2_with fail
      refine (ptimes_any bo co m capb p capc y mid _ hrs2.out HRC.out (by omega) (by omega)).mono ?_
      rintro e w3 ⟨v, rfl, ⟨eo, q, cape, rfl, hrd, _⟩, hb3⟩
      have HRD := hid hrd
      have hrd2 := hrd.len
      have hql := len_mul y mid
      have hra3 := hid (hra2.out.below hb3)
      have HB3 : Hid (Below w.heap.size w w3) := HB2.out.trans (hb3.mono HB2.out.size)
      clear hrd hb3
      go_wp2_with fail
      refine (pcmp_any eo ao q cape n capa (y * mid) x _ HRD.out hra3.out (by omega) (by omega)).mono ?_
      rintro e w4 ⟨rfl, hb4⟩
      have HB4 : Hid (Below w.heap.size w w4) := HB3.out.trans (hb4.mono HB3.out.size)
      clear hb4
      obtain ⟨c0, c1⟩ := cmp3_bd ((y * mid : Nat) : Int) (x : Int)
      have hcl := cmp3_le (y * mid) x
      have hcg := cmp3_pos (y * mid) x
      generalize cmp3 ((y * mid : Nat) : Int) (x : Int) = C at *
      by_cases hle : y * mid ≤ x
      · have hc := hcl hle
        have hle' := hid hle
        clear hle hcl hcg
        go_wp2
        go_roundw
        case rel => exact ⟨mid, hi, hm2, h4, rfl, rfl, by show _ ≤ _; rw [Nat.mul_comm]; exact hle'.out, h2.out, HB4.out⟩
        case measure => simp [intOf]; omega
      · have hc := hcg (by omega)
        have hle' := hid (show x < mid * y by rw [Nat.mul_comm]; omega)
        clear hle hcl hcg
        go_wp2
        go_roundw
        case rel => exact ⟨lo, mid, hm1, by omega, rfl, rfl, h1.out, hle'.out, HB4.out⟩
        case measure => simp [intOf]; omega
end Go.Proofs.YtddbflggcblfcaaDoor

