/- portionkeep borne. (Laid by mkfair.py.) -/
import Derived.Test.YtigokanoflkinaaDoorKFaiA
import Derived.Test.YtigokanoflkinaaDoorKFilA
namespace Go.Proofs.YtigokanoflkinaaDoor
set_option linter.unusedSimpArgs false
set_option linter.unusedVariables false
open Go.RowKit Por

set_option maxHeartbeats 2000000 in
set_option maxRecDepth 20000 in
theorem kborne_any (po : Option Addr) (pc : Nat) (pool : List Int) (ao : Option Addr) (cap : Nat) (us : List Usr) (yo : Option Addr) (yc : Nat) (ys : List Int) (m : Int) (w : World) (hp : Arr w 1 po pool.length pc (ints pool)) (hu : Users w ao us.length cap us) (hy : Row w yo us.length yc ys) (hg : Good us pool.length) (hpa : ∀ i, amtB (lm pool i) = true) (hn6 : us.length ≤ 6) (hk4 : pool.length ≤ 4) (hm : 1 ≤ m ∧ m ≤ 1000) (hs : ShrOk us m ys us.length) :
    Calls Tryd.prog 47 #[.slice po pool.length pc, .slice ao us.length cap, .slice yo us.length yc, .int .i64 m] w fun e w' => e = .returned (.bool (brnB pool us ys m pool.length)) ∧ Below w.heap.size w w' := by
  have HP := hid hp
  have HU := hid hu
  have HY := hid hy
  have HG := hid hg
  have HPA := hid hpa
  have HS := hid hs
  clear hp hu hy hg hpa hs
  have HB_0 := hid (Below.refl w.heap.size w)
  go_enter Tryd.func47, Tryd.ntmps47
  go_wp2
  go_loopg [9] pool.length (fun gg ix wr => ∃ r : Nat, gg = pool.length - r ∧ r ≤ pool.length ∧ ix = .int .i64 r ∧ Hid (brnB pool us ys m r = true) ∧ Hid (Below w.heap.size w wr))
  case atStart => exact ⟨0, rfl, Nat.zero_le _, rfl, rfl, HB_0.out⟩
  case round =>
    clear HB_0
    obtain ⟨r, hgr, hr, rfl, hz, hB⟩ := hrel
    by_cases hrt : r < pool.length
    · have hrp : (r : Int) < (pool.length : Int) := by omega
      have HRG := hid (sumY_rng HG.out hm HS.out r)
      go_wp2
      go_loopg [10, 11] us.length (fun gg sx ix wr => ∃ j : Nat, gg = us.length - j ∧ j ≤ us.length ∧ ix = .int .i64 j ∧ sx = .int .i64 (sumY us ys r j) ∧ Hid (Below w.heap.size w wr))
      case atStart => exact ⟨0, rfl, Nat.zero_le _, rfl, rfl, hB.out⟩
      case round =>
        clear hB
        obtain ⟨j, hgj, hj, rfl, rfl, hB⟩ := hrel
        have hsr := HRG.out j hj
        have HST : Hid (sumY us ys r (j + 1) = sumY us ys r j + lm ys j * lm (ug us j).dem r) := rfl
        by_cases hjt : j < us.length
        · have hjn : (j : Int) < (us.length : Int) := by omega
          obtain ⟨ub, uo, da, dn, dc, rfl, hbl, a0, a1, a2, hd⟩ := (HU.out.below hB.out).get hjt
          have hdl := hd.len
          rw [ints_len, HG.out.len hjt] at hdl
          subst hdl
          obtain ⟨db, dof, rfl, hdb⟩ := hd.head (by omega)
          have cd := hd.int rfl hrt
          clear hd a1 a2
          obtain ⟨yb, yo1, hyo, hyb⟩ := (HY.out.below hB.out).head (by omega)
          have cy := (HY.out.below hB.out).cell _ _ hyo j hjt
          subst hyo
          have htr := term_rng HG.out hm HS.out hjt r
          generalize lm (ug us j).dem r = x at cd HST htr
          generalize lm ys j = y at cy HST htr
          generalize sumY us ys r j = s at HST hsr ⊢
          obtain ⟨P, hP⟩ : ∃ P : Int, y * x = P := ⟨_, rfl⟩
          rw [hP] at HST htr
          obtain ⟨t0, t1⟩ := htr
          obtain ⟨s0, s1⟩ := hsr
          have s2 : s + P ≤ 9223372036854775807 := by omega
          have s3 : -9223372036854775808 ≤ s + P := by omega
          go_upto_region 8 with fail
          go_quiet (fail)
          go_wp2
          go_roundg (us.length - (j + 1))
          case measure => omega
          case rel => exact ⟨j + 1, rfl, by omega, by go_num, by rw [HST.out], below_drewN hB.out _⟩
        · obtain rfl : j = us.length := by omega
          obtain ⟨pb, pof, hpo, hpb⟩ := (HP.out.below hB.out).head (by omega)
          have cp := (HP.out.below hB.out).int hpo hrt
          subst hpo
          have hyr := amt_rng (HPA.out r)
          have HFA : Hid (∀ h : lm pool r * m < sumY us ys r us.length, brnB pool us ys m pool.length = false) := fun h => brnB_false hrt h
          have HTR : Hid (brnB pool us ys m (r + 1) = (brnB pool us ys m r && decide (sumY us ys r us.length ≤ lm pool r * m))) := rfl
          generalize lm pool r = y at cp hyr HFA HTR
          generalize sumY us ys r us.length = s at hsr HFA HTR ⊢
          have hym : 0 ≤ y * m ∧ y * m ≤ 10000000 := by
            have h1 : 0 ≤ y * m := Int.mul_nonneg hyr.1 (by omega)
            have h2 : y * m ≤ 10000 * 1000 := Int.mul_le_mul hyr.2 hm.2 (by omega) (by omega)
            omega
          obtain ⟨P, hP⟩ : ∃ P : Int, y * m = P := ⟨_, rfl⟩
          rw [hP] at HFA HTR hym
          obtain ⟨t0, t1⟩ := hym
          by_cases hc : P < s
          · have HE := hid (HFA.out hc)
            go_wp2
            go_ret
            exact ⟨by rw [HE.out]; rfl, hB.out⟩
          · have HE : Hid (brnB pool us ys m (r + 1) = true) := by rw [Hid, HTR.out, hz.out, decide_eq_true (by omega)]; rfl
            go_wp2
            go_roundg (pool.length - (r + 1))
            case measure => omega
            case rel => exact ⟨r + 1, rfl, by omega, by go_num, HE.out, hB.out⟩
    · obtain rfl : r = pool.length := by omega
      go_wp2
      go_ret
      exact ⟨by rw [hz.out]; rfl, hB.out⟩

end Go.Proofs.YtigokanoflkinaaDoor
