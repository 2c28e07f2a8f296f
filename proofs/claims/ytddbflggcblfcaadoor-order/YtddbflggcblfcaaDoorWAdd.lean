/- natural.Add: the sum of any two numbers. -/
import Derived.Test.YtddbflggcblfcaaDoorWNatA
namespace Go.Proofs.YtddbflggcblfcaaDoor
set_option linter.unusedSimpArgs false
set_option linter.unusedVariables false
open Go.RowKit Por

/-- the end of a sum -/
theorem add_end (o : List Int) (n x y : Nat) (c : Int) (hlen : o.length = n + 1) (hx : (limbs x).length = n) (hy : (limbs y).length ≤ n) 
    (h : val (o.take n) + 10000 ^ n * c = val ((limbs x).take n) + val ((limbs y).take n)) : (val (o.set n c)).toNat = x + y := by
  have e : (o.set n c).take (n + 1) = o.set n c := List.take_of_length_le (by simp; omega)
  rw [← e, val_set_take o n c (by omega), h, List.take_of_length_le (by omega), List.take_of_length_le (by omega), val_limbs, val_limbs]
  omega

theorem row_of_trim {w w' : World} {ao : Option Addr} {n cap m : Nat} {xs : List Int} {z : Nat} (hr : Row w ao n cap xs) (hm : m ≤ n) (he : xs.take m = limbs (val xs).toNat) (hz : (val xs).toNat = z) (hb : Below w.heap.size w w') :
    Row w' ao m cap (limbs z) := by
  have := (hr.take m hm).below hb
  rwa [he, hz] at this

set_option maxHeartbeats 1000000 in
theorem add_ge (ao bo : Option Addr) (n capa m capb : Nat) (x y : Nat) (w : World) (hr : Row w ao n capa (limbs x)) (hs : Row w bo m capb (limbs y)) (hn : n ≤ 50000) (hm : m ≤ n) :
    Calls Tryd.prog 87 #[.agg #[.slice ao n capa], .agg #[.slice bo m capb]] w fun e w' => ∃ v, e = .returned v ∧ Num w' v (x + y) ∧ Below w.heap.size w w' := by
  have l1 := hr.len
  have l2 := hs.len
  have HR := hid (hr)
  have HS := hid (hs)
  have hlt : ¬ (n : Int) < (m : Int) := by omega
  clear hr hs
  go_enter Tryd.func87, Tryd.ntmps87
  go_wp2_with (at_make; refine wpList_make_ints _ rfl _ _ rfl _ _ (n + 1) rfl rfl (by omega) (by omega) (by omega) ?_)
  intro w1 hk1 hb1 hz1
  obtain ⟨c1, c2, c3, c5⟩ := boxes3 w #[.slice ao n capa] #[.slice bo m capb] #[.slice none 0 0] 74 74 74
  have X1 := hid (c1.below hb1 (by omega))
  have X2 := hid (c2.below hb1 (by omega))
  have X3 := hid (c3.below hb1 (by omega))
  have k1 := X1.out.cell 0 _ rfl
  have bW : Below w.heap.size w w1 := c5.trans (hb1.mono (by omega))
  clear c1 c2 c3 c5
  have HB1 := hid (bW)
  have HK1 := hid (hk1)
  clear hb1 bW hk1
  go_wp2
  go_loopw [6, 28] (fun vc vi wr => ∃ (k : Nat) (c : Int) (out : List Int), k ≤ n ∧ vi = .int .i64 k ∧ vc = .int .i64 c ∧ 0 ≤ c ∧ c ≤ 1 ∧ out.length = n + 1 ∧ Hid (Lim out) ∧
      Hid (val (out.take k) + 10000 ^ k * c = val ((limbs x).take k) + val ((limbs y).take k)) ∧ Hid (Blk wr (w.heap.size + 1 + 1 + 1) out) ∧ Hid (Below (w.heap.size + 3) w1 wr)) (fun _ vi _ => n - (intOf vi).toNat)
  case atStart => exact ⟨0, 0, _, Nat.zero_le _, rfl, rfl, by omega, by omega, by simp, lim_replicate _, by simp [Hid, val], HK1.out, Below.refl _ _⟩
  case round =>
    obtain ⟨k, c, out, hk, rfl, rfl, hc0, hc1, hol, hLim, hval, hblk, hb⟩ := hrel
    have q1 := (X1.out.below hb.out (by omega)).cell 0 _ rfl
    have q2 := (X2.out.below hb.out (by omega)).cell 0 _ rfl
    have HB : Hid (Below w.heap.size w wr) := HB1.out.trans (hb.out.mono (by omega))
    by_cases hlt2 : k < n
    · obtain ⟨ba, oa, rfl, hla⟩ := HR.out.head (by omega)
      have d1 : wr.cell? ⟨ba, oa + k, none⟩ = some (.int .i64 (lm (limbs x) k)) := (HB.out.cell (p := ⟨ba, oa + k, none⟩) hla).trans (HR.out.cell ba oa rfl k (by omega))
      have hrs : Hid (Row wr bo m capb (limbs y)) := HS.out.below HB.out
      have bx := lim_getD (lim_limbs x) k
      have by' := lim_getD (lim_limbs y) k
      obtain ⟨bx0, bx1⟩ := bx
      obtain ⟨by0, by1⟩ := by'
      have hgw : w.heap.size + 1 + 1 + 1 < wr.heap.size := hblk.out.lt
      go_wp2_with (go_at_call 119; refine (limbAt_any bo m capb k (limbs y) _ hrs.out (by omega) (by omega)).mono ?_; rintro e w2 ⟨rfl, hb2⟩; have g1 := (hblk.out.below hb2 hgw).cell k (by omega); have g2 := (hblk.out.below hb2 hgw).frozen k; have Hb2 := hid (hb2); clear hb2)
      go_roundw
      case rel =>
        refine ⟨k + 1, _, _, by omega, by go_num, rfl, by omega, by omega, by simpa using hol, lim_set hLim.out k _ (by omega) (by omega), add_step out (limbs x) (limbs y) k c _ (by omega) rfl hval.out, (hblk.out.below Hb2.out hgw).set k _, ?_⟩
        exact (hb.out.trans (Hb2.out.mono (by omega))).setCell (by show w.heap.size + 3 ≤ w.heap.size + 1 + 1 + 1; omega) _
      case measure => simp [intOf]; omega
    · obtain rfl : k = n := by omega
      have g1 := hblk.out.cell k (by omega)
      have g2 := hblk.out.frozen k
      have hend := hid (add_end out k x y c hol l1 (by omega) hval.out)
      have hB2 := hid (hblk.out.set k c)
      have hrow := hid (Blk.row0 hB2.out (k + 1) (k + 1) (by simp; omega) (Nat.le_refl _) (by unfold maxLen; omega))
      have hL2 := hid (lim_set hLim.out k c hc0 (by omega))
      have hgw : w.heap.size + 1 + 1 + 1 < wr.heap.size := hblk.out.lt
      go_wp2_with fail
      refine (trim_any _ (k + 1) (k + 1) (out.set k c) _ hrow.out hL2.out (by omega)).mono ?_
      rintro e w2 ⟨j, hj, hj2, rfl, hb2⟩
      have hbb : Hid (Below (w.heap.size + 3) w1 w2) := (hb.out.setCell (by show w.heap.size + 3 ≤ w.heap.size + 1 + 1 + 1; omega) _).trans (hb2.mono (by simp; omega))
      have Z := hid (X3.out.below hbb.out (by omega))
      have z1 := Z.out.cell 0 _ rfl
      have z2 := Z.out.frozen 0
      have HR2 := hid (row_of_trim hrow.out hj hj2 hend.out hb2)
      clear hb2 hj2
      go_wp2
      refine bodyPost_ret (v := .agg #[.slice (some ⟨w.heap.size + 1 + 1 + 1, 0, none⟩) j (k + 1)]) (by simp [results, Tryd.results87, go_sem, z1]) rfl ⟨_, rfl, ⟨_, _, _, rfl, HR2.out.other _ _ _ Z.out (by decide)⟩, ?_⟩
      exact (HB1.out.trans (hbb.out.mono (by omega))).setCell (by simp; omega) _

set_option maxHeartbeats 400000 in
theorem add_any (ao bo : Option Addr) (n capa m capb : Nat) (x y : Nat) (w : World) (hr : Row w ao n capa (limbs x)) (hs : Row w bo m capb (limbs y)) (hn : n ≤ 50000) (hm : m ≤ 50000) :
    Calls Tryd.prog 87 #[.agg #[.slice ao n capa], .agg #[.slice bo m capb]] w fun e w' => ∃ v, e = .returned v ∧ Num w' v (x + y) ∧ Below w.heap.size w w' := by
  by_cases hlt : m ≤ n
  · exact add_ge ao bo n capa m capb x y w hr hs hn hlt
  · have h1 : (n : Int) < (m : Int) := by omega
    obtain ⟨c1, c2, c3, c5⟩ := boxes3 w #[.slice ao n capa] #[.slice bo m capb] #[.slice none 0 0] 74 74 74
    have hr1 := hid (hr.below c5)
    have hs1 := hid (hs.below c5)
    have H5 := hid (c5)
    have X3 := hid (c3)
    clear hr hs c5 c1 c2 c3
    go_enter Tryd.func87, Tryd.ntmps87
    go_wp2_with fail
    refine (add_ge bo ao m capb n capa y x _ hs1.out hr1.out hm (by omega)).mono ?_
    rintro e w2 ⟨v, rfl, ⟨ro, rn, rcap, rfl, hrow⟩, hb2⟩
    have Z := hid (X3.out.below hb2 X3.out.lt)
    have z1 := Z.out.cell 0 _ rfl
    have z2 := Z.out.frozen 0
    have HB2 := hid (hb2)
    have HR2 := hid (hrow)
    clear hb2 hrow
    go_wp2
    refine bodyPost_ret (v := .agg #[.slice ro rn rcap]) (by simp [results, Tryd.results87, go_sem, z1]) rfl ⟨_, rfl, ⟨_, _, _, rfl, ?_⟩, ?_⟩
    · rw [Nat.add_comm x y]; exact HR2.out.other _ _ _ Z.out (by decide)
    · exact (H5.out.trans (HB2.out.mono (by simp; omega))).setCell (by simp; omega) _
end Go.Proofs.YtddbflggcblfcaaDoor
