/- portionref fractions: the fractions that texts are. -/
import Derived.Test.YtigokanoflkinaaDoorRScal
namespace Go.Proofs.YtigokanoflkinaaDoor
set_option linter.unusedSimpArgs false
set_option linter.unusedVariables false
open Go.RowKit Por

def svL (ss : List ByteArray) : Nat → List Rat
  | 0 => []
  | k + 1 => svL ss k ++ [svs ss k]
theorem svL_len (ss : List ByteArray) (k : Nat) : (svL ss k).length = k := by
  induction k with
  | zero => rfl
  | succ k ih => simp only [svL, List.length_append, List.length_singleton, ih]
theorem svL_get (ss : List ByteArray) : ∀ k r, r < k → rq (svL ss k) r = svs ss r := by
  intro k
  induction k with
  | zero => intro r h; omega
  | succ k ih =>
    intro r hr
    simp only [svL, rq]
    rw [List.getD_eq_getElem?_getD]
    by_cases e : r = k
    · subst e; rw [List.getElem?_append_right (by rw [svL_len]; exact Nat.le_refl _), svL_len]; simp
    · rw [List.getElem?_append_left (by rw [svL_len]; omega)]
      have := ih r (by omega)
      unfold rq at this
      rwa [List.getD_eq_getElem?_getD] at this
def PFrEnd (w w' : World) (e : Ending) (ss : List ByteArray) : Prop :=
  (if ss.all okS = true then ∃ v, e = .returned (.tuple #[v, .bool true]) ∧ NO w.heap.size w' v (svL ss ss.length) else e = .returned (.tuple #[.slice none 0 0, .bool false])) ∧ Below w.heap.size w w'

set_option maxHeartbeats 2000000 in
set_option maxRecDepth 20000 in
theorem pfracs_any (ao : Option Addr) (n cap : Nat) (ss : List ByteArray) (w : World) (ha : Arr w 1 ao n cap (strs ss)) (hs : ∀ i, (tx ss i).size ≤ maxLen) (hn : n ≤ 1000000000) :
    Calls Tryd.prog 66 #[.slice ao n cap] w fun e w' => PFrEnd w w' e ss := by
  have hlen := ha.len
  rw [strs_len] at hlen
  subst hlen
  have HS := hid hs
  have HA := hid ha
  clear ha hs
  go_enter Tryd.func66, Tryd.ntmps66
  go_wp2
  go_loopg [4, 5] ss.length (fun gg s4 ix wr => ∃ (k : Nat) (v4 : Value), v4 = s4 ∧ gg = ss.length - k ∧ k ≤ ss.length ∧ ix = .int .i64 k ∧ Hid ((ss.take k).all okS = true) ∧ Hid (NO w.heap.size wr v4 (svL ss k)) ∧ Hid (Below w.heap.size w wr))
  case atStart => exact ⟨0, _, rfl, rfl, Nat.zero_le _, rfl, rfl, NO.nil _ _, Below.refl _ _⟩
  case round =>
    obtain ⟨k, v4, rfl, hgk, hk, rfl, hz, hO, hB⟩ := hrel
    have hol := svL_len ss k
    by_cases hlt : k < ss.length
    · obtain ⟨b, o, rfl, hb⟩ := (HA.out.below hB.out).head (by omega)
      have hc := (HA.out.below hB.out).str rfl hlt
      have hst := hid (take_all_step okS ss (i := k) (by omega))
      have hget := hid (tx_get ss (i := k) (by omega))
      have HSZ := hid (HS.out k)
      have ikn : (k : Int) < (ss.length : Int) := by omega
      cases hr : readL (tx ss k).data.toList with
      | none =>
        have E : okS (tx ss k) = false := by unfold okS; rw [hr]; rfl
        have EA : ss.all okS = false := all_false_of okS ss (i := k) (by omega) (by rw [hget.out]; exact E)
        have HE := hid EA
        have HR := hid hr
        clear E EA hr
        go_wp2_with fail
        refine (pread_no (tx ss k) _ HSZ.out HR.out).mono ?_
        rintro e1 w1 ⟨nb, na, nn, nc, oa, on, oc, rfl, hb1⟩
        have HB1 : Hid (Below w.heap.size w w1) := hB.out.trans (hb1.mono hB.out.size)
        clear hb1
        go_wp2
        go_ret2
        refine ⟨?_, HB1.out.alloc HB1.out.size _⟩
        rw [if_neg (by rw [HE.out]; simp)]
        rfl
      | some q =>
        have E : okS (tx ss k) = true := by unfold okS; rw [hr]; rfl
        have EQ : svs ss k = q := by unfold svs sv; rw [hr]; rfl
        have HE := hid E
        have HQ : Hid (svL ss (k + 1) = svL ss k ++ [q]) := by simp only [Hid, svL]; rw [EQ]
        have HR := hid hr
        clear E EQ hr
        go_wp2_with fail
        refine (pread_yes (tx ss k) _ q HR.out).mono ?_
        rintro e1 w1 ⟨v, rfl, ⟨pa, pb, pc, pd, pe, pf, rfl, hp1, hp2⟩, hb1⟩
        have HP1 := hid hp1
        have HP2 := hid hp2
        have HO1 := hid (hO.out.below hb1)
        have HB1 : Hid (Below w.heap.size w w1) := hB.out.trans (hb1.mono hB.out.size)
        clear hp1 hp2 hb1 hO hB hc
        have HX := hid (bx_new w1 #[.bool (negB q), .slice pa pb pc, .slice pd pe pf] 82)
        have HA2 := hid ((Below.refl w1.heap.size w1).alloc (Nat.le_refl _) (.cells #[.bool (negB q), .slice pa pb pc, .slice pd pe pf] 82))
        have leW : w.heap.size ≤ w1.heap.size := HB1.out.size
        have HY := hid (bx_new (w1.alloc (.cells #[.bool (negB q), .slice pa pb pc, .slice pd pe pf] 82)) #[.bool (negB q), .slice pa pb pc, .slice pd pe pf] 82)
        have HA3 := hid (HA2.out.alloc HA2.out.size (.cells #[.bool (negB q), .slice pa pb pc, .slice pd pe pf] 82))
        simp only [World.size_alloc] at HY
        go_wp2_with (at_builtin; refine wpList_append_num _ rfl _ _ rfl w.heap.size _ (svL ss k) ⟨w1.heap.size + 1, 0, none⟩ 1 q pa pb pc pd pe pf rfl rfl (HO1.out.below HA3.out) (HY.out.cell 0 _ rfl) (HY.out.cell 1 _ rfl) (HY.out.cell 2 _ rfl) (HP1.out.below HA3.out) (HP2.out.below HA3.out) (by omega) (by simp only [World.size_alloc]; omega) ?_)
        intro v' w' hO2 hB2
        have HO2 := hid hO2
        have HB2 : Hid (Below w.heap.size w w') := (HB1.out.trans (HA3.out.mono HB1.out.size)).trans hB2
        clear hO2 hB2 HO1 HP1 HP2 HX HA2 HA3 HY
        go_wp2
        go_roundg (ss.length - (k + 1))
        case measure => omega
        case rel => exact ⟨k + 1, _, rfl, rfl, by omega, by go_num, by rw [Hid, hst.out, hz.out, hget.out, HE.out]; rfl, by rw [HQ.out]; exact HO2.out, HB2.out⟩
    · obtain rfl : k = ss.length := by omega
      have EA : ss.all okS = true := by
        have := hz.out
        rwa [List.take_of_length_le (by omega)] at this
      have HE := hid EA
      clear EA
      go_wp2
      go_ret2
      refine ⟨?_, hB.out⟩
      rw [if_pos HE.out]
      exact ⟨_, rfl, hO.out⟩
end Go.Proofs.YtigokanoflkinaaDoor
