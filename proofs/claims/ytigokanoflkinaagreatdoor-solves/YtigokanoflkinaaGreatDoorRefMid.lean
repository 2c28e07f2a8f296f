/- RefE, RefF, RefG, RefH, RefI, joined. -/
import Derived.Test.YtigokanoflkinaaGreatDoorRefBas
import Derived.Deep.LoopGhost
import Derived.Test.YtigokanoflkinaaGreatDoorWPrs
import Derived.Test.YtigokanoflkinaaGreatDoorWTxt
/- portionref.over: the quotient and the rest of any two numbers. -/
namespace Go.Proofs.YtigokanoflkinaaGreatDoor
set_option linter.unusedSimpArgs false
set_option linter.unusedVariables false
open Go.RowKit Por

theorem Row.setInt {w : World} {ao : Option Addr} {n cap : Nat} {xs : List Int} (h : Row w ao n cap xs) (b i : Nat) (v : Value) (hne : ∀ a, ao = some a → a.block ≠ b) : Row (w.setCell ⟨b, i, none⟩ v) ao n cap xs := by
  refine ⟨h.len, h.le, h.cm, fun hn => ?_, fun b' o e hn => ?_, fun b' o e j hj => ?_⟩
  · obtain ⟨b', o, e, hlt⟩ := h.head hn
    exact ⟨b', o, e, by simpa [World.setCell] using hlt⟩
  · obtain ⟨arr, fz, hh⟩ := h.ib b' o e hn
    exact ⟨arr, fz, (heap_setCell_other w ⟨b, i, none⟩ b' v (fun e2 => hne _ e e2)).trans hh⟩
  · have h1 := h.cell b' o e j hj
    rw [← h1]
    exact World.cell?_of_block (Below.heap_setCell w _ v b' (hne _ e))
theorem own_one (w : World) (z : Int) : Own w.heap.size (w.alloc (.cells #[.int .i64 z] 3)) (.slice (some ⟨w.heap.size, 0, none⟩) 1 1) [z] :=
  ⟨rfl, .inr ⟨w.heap.size, 1, _, rfl, Nat.le_refl _, heap_alloc_new w _, Nat.le_refl _, by decide, rfl, rfl⟩⟩

theorem over_val (A o : List Int) (q r y R Q r2 : Nat) (hA : q < A.length) (ho : q < o.length) (hR : (R : Int) = lm A q + 10000 * r) (h : val (A.drop (q + 1)) = y * val (o.drop (q + 1)) + r) (hQ : R = y * Q + r2) :
    val (A.drop q) = y * val ((o.set q Q).drop q) + r2 := by
  rw [drop_cons A q hA, drop_set o q _ ho, val, val, h]
  have e : (R : Int) = y * Q + r2 := by exact_mod_cast hQ
  rw [e] at hR
  generalize val (o.drop (q + 1)) = V
  grind
theorem over_val0 (A o : List Int) (q r y R : Nat) (hA : q < A.length) (ho : q < o.length) (hR : (R : Int) = lm A q + 10000 * r) (h : val (A.drop (q + 1)) = y * val (o.drop (q + 1)) + r) (hz : lm o q = 0) :
    val (A.drop q) = y * val (o.drop q) + R := by
  rw [drop_cons A q hA, drop_cons o q ho, val, val, h, hz]
  generalize val (o.drop (q + 1)) = V
  grind
theorem lim_cons {x : Int} {xs : List Int} (h0 : 0 ≤ x) (h1 : x < 10000) (h : Lim xs) : Lim (x :: xs) := by
  intro z hz
  rcases List.mem_cons.1 hz with rfl | hz
  · exact ⟨h0, h1⟩
  · exact h z hz

set_option maxHeartbeats 2000000 in
set_option maxRecDepth 20000 in
theorem pover_any (ao bo : Option Addr) (n capa m capb : Nat) (x y : Nat) (w : World) (hr : Row w ao n capa (limbs x)) (hs : Row w bo m capb (limbs y)) (hn : n ≤ 10000) (hm : m ≤ 10000) (hy : y ≠ 0) :
    Calls Tryz.prog 88 #[.slice ao n capa, .slice bo m capb] w fun e w' => ∃ u v, e = .returned (.tuple #[u, v]) ∧ Sli w.heap.size w' u (x / y) ∧ Sli w.heap.size w' v (x % y) ∧ Below w.heap.size w w' := by
  have l1 := hr.len
  have l2 := hs.len
  have HR := hid (hr)
  have HS := hid (hs)
  have HY := hid hy
  clear hr hs hy
  go_enter Tryz.func88, Tryz.ntmps88
  go_wp2_with (at_make; refine wpList_make_ints _ rfl _ _ rfl _ _ n rfl rfl (by omega) (by omega) (by omega) ?_)
  intro w1 hk1 hb1 hz1
  have HB1 := hid (hb1)
  have HK1 := hid (hk1)
  clear hb1 hk1
  go_wp2
  go_loopw [7, 8] (fun vr vi wr => ∃ (k r : Nat) (out : List Int) (ro : Option Addr) (rn rc : Nat), k ≤ n ∧ rn ≤ m ∧ vi = .int .i64 ((k : Int) - 1) ∧ vr = .slice ro rn rc ∧ Hid (Row wr ro rn rc (limbs r)) ∧ Hid (Fr (w.heap.size + 1) ro rc) ∧ Hid (r < y) ∧ out.length = n ∧ Hid (Lim out) ∧ Hid (∀ i, i < k → lm out i = 0) ∧
      Hid (val ((limbs x).drop k) = y * val (out.drop k) + r) ∧ Hid (Blk wr w.heap.size out) ∧ Hid (Below w.heap.size w wr)) (fun _ vi _ => (intOf vi + 1).toNat)
  case atStart => exact ⟨n, 0, _, none, 0, 0, Nat.le_refl _, Nat.zero_le _, rfl, rfl, Row.nil _, ⟨fun _ => rfl, fun a h => by cases h⟩, by have := HY.out; show _ < _; omega, by simp, lim_replicate _, fun i _ => lm_replicate _ i, by show _ = _; rw [List.drop_of_length_le (by omega), List.drop_of_length_le (by simp)]; simp [val], HK1.out, HB1.out⟩
  case round =>
    obtain ⟨k, r, out, ro, rn, rc, hk, hrn, rfl, rfl, hrr, hrne, hry, hol, hLim, hz, hval, hblk, hb⟩ := hrel
    have hgw : w.heap.size < wr.heap.size := hblk.out.lt
    by_cases h0 : k = 0
    · subst h0
      have hdm : Hid ((val out).toNat = x / y ∧ r = x % y) := by
        have h := hval.out
        rw [List.drop_zero, List.drop_zero, val_limbs] at h
        have hv := val_nonneg hLim.out
        refine divmod_of x y _ r ?_ hry.out
        obtain ⟨V, hV⟩ : ∃ V : Nat, val out = V := ⟨(val out).toNat, by omega⟩
        rw [hV] at h ⊢
        rw [Int.toNat_natCast, Nat.mul_comm]
        exact_mod_cast h
      have hrow := hid (Blk.row0 hblk.out n n (by omega) (Nat.le_refl _) (by unfold maxLen; omega))
      go_wp2_with fail
      refine (pcut_any _ n n out _ hrow.out hLim.out (by omega)).mono ?_
      rintro e w4 ⟨j, hj, hj2, rfl, rfl⟩
      have HR2 := hid (row_of_cut hrow.out hj hj2 hdm.out.1)
      clear hj2
      go_wp2
      go_ret2
      exact ⟨_, _, rfl, ⟨_, _, _, rfl, HR2.out, Fr.here _ _ _⟩, ⟨_, _, _, rfl, by rw [← hdm.out.2]; exact hrr.out, hrne.out.mono (by omega)⟩, hb.out⟩
    · obtain ⟨q, rfl⟩ : ∃ q, k = q + 1 := ⟨k - 1, by omega⟩
      obtain ⟨ba, oa, rfl, hla⟩ := HR.out.head (by omega)
      have d1 : wr.cell? ⟨ba, oa + q, none⟩ = some (.int .i64 (lm (limbs x) q)) := (hb.out.cell (p := ⟨ba, oa + q, none⟩) hla).trans (HR.out.cell ba oa rfl q (by omega))
      obtain ⟨bx0, bx1⟩ := lim_getD (lim_limbs x) q
      have hq1 : (0 : Int) ≤ ((q + 1 : Nat) : Int) - 1 := by omega
      obtain ⟨R, hR⟩ : ∃ R : Nat, (R : Int) = lm (limbs x) q + 10000 * r := ⟨(lm (limbs x) q + 10000 * r).toNat, by omega⟩
      have HRR := hid hR
      have hrl := hrr.out.len
      have hRy : Hid (R < 10000 * y) := by have := hry.out; show _ < _; omega
      have hvR : Hid ((val (lm (limbs x) q :: limbs r)).toNat = R) := by show _ = _; rw [val, val_limbs]; omega
      have hLR := hid (lim_cons bx0 bx1 (lim_limbs r))
      clear hR
      have hval' := hval
      clear hval
      cases ro with
      | none =>
        have hrc := hrne.out.1 rfl
        have hrn0 : rn = 0 := by
          rcases Nat.eq_zero_or_pos rn with h | h
          · exact h
          · obtain ⟨b, o, e, _⟩ := hrr.out.head h; cases e
        subst hrc hrn0
        have hr0 : limbs r = [] := List.length_eq_zero_iff.1 hrl
        obtain ⟨po, pc, pe, hrow2, hpne⟩ := (own_one wr (lm (limbs x) q)).row
        cases pe
        have hrow3 : Row (wr.alloc (.cells #[.int .i64 (lm (limbs x) q)] 3)) (some ⟨wr.heap.size, 0, none⟩) (0 + 1) 1 (lm (limbs x) q :: limbs r) := by rw [hr0]; exact hrow2
        clear hrow2
        have HBA : Hid (Below wr.heap.size wr (wr.alloc (.cells #[.int .i64 (lm (limbs x) q)] 3))) := (Below.refl _ _).alloc (Nat.le_refl _) _
        clear hr0
        go_wp2_with (at_builtin; refine wpList_append_nil _ rfl _ _ rfl wr.heap.size _ [lm (limbs x) q] rfl rfl (own_one wr _) ?_)
        generalize wr.alloc (.cells #[.int .i64 (lm (limbs x) q)] 3) = w2 at *
        have HROW := hid hrow3
        clear hrow3
        have HB2 : Hid (Below w.heap.size w w2) := hb.out.trans (HBA.out.mono (by omega))
        have hblk2 : Hid (Blk w2 w.heap.size out) := hblk.out.below HBA.out hgw
        refine (pcut_any (some ⟨wr.heap.size, 0, none⟩) (0 + 1) 1 _ _ HROW.out hLR.out (by omega)).mono ?_
        rintro e w3 ⟨j, hj, hj2, rfl, rfl⟩
        have HR2 := hid (row_of_cut HROW.out hj hj2 hvR.out)
        have hrs : Hid (Row w3 bo m capb (limbs y)) := HS.out.below HB2.out
        have hjl := HR2.out.len
        have hjm : j ≤ m + 1 := by omega
        clear hj2 HROW HBA
        go_wp2_with fail
        refine (pcmp_any (some ⟨wr.heap.size, 0, none⟩) bo j 1 m capb R y _ HR2.out hrs.out (by omega) (by omega)).mono ?_
        rintro e w4 ⟨rfl, hb4⟩
        have HB4 : Hid (Below w.heap.size w w4) := HB2.out.trans (hb4.mono HB2.out.size)
        have hblk4 : Hid (Blk w4 w.heap.size out) := hblk2.out.below hb4 hblk2.out.lt
        have HR4 := hid (HR2.out.below hb4)
        have hrs4 := hid (hrs.out.below hb4)
        obtain ⟨c0, c1⟩ := cmp3_bd (R : Int) (y : Int)
        have hlt9 : R < y → cmp3 (R : Int) (y : Int) = -1 := fun h => by unfold cmp3; rw [if_pos (by omega)]
        have hge9 : y ≤ R → 0 ≤ cmp3 (R : Int) (y : Int) := fun h => by unfold cmp3; rw [if_neg (by omega)]; split <;> omega
        generalize cmp3 (R : Int) (y : Int) = C at *
        clear hb4
        by_cases hRy2 : R < y
        · have hc := hlt9 hRy2
          subst hc
          have HV := hid (over_val0 (limbs x) out q r y R (by omega) (by omega) HRR.out hval'.out (hz.out q (by omega)))
          have HRy2 := hid hRy2
          have hjm2 : j ≤ m := by have := @len_mono R y (by omega); omega
          clear hRy2 hlt9 hge9
          go_wp2
          go_roundw
          case rel => exact ⟨q, R, out, (some ⟨wr.heap.size, 0, none⟩), j, 1, by omega, hjm2, by go_num, rfl, HR4.out, hpne.mono (by omega), HRy2.out, hol, hLim.out, fun i hi => hz.out i (by omega), HV.out, hblk4.out, HB4.out⟩
          case measure => simp [intOf]
        · have hc := hge9 (by omega)
          obtain ⟨Q, hQ⟩ : ∃ Q : Nat, Q = R / y := ⟨_, rfl⟩
          have HQ := hid hQ
          have hQ1 : Q < 10000 := by rw [hQ]; exact Nat.div_lt_of_lt_mul (by have := hRy.out; rw [Nat.mul_comm]; exact this)
          have hdm : Hid (R = y * Q + R % y) := by show _ = _; rw [hQ]; exact (Nat.div_add_mod R y).symm
          have HV := hid (over_val (limbs x) out q r y R Q (R % y) (by omega) (by omega) HRR.out hval'.out hdm.out)
          have hle : Hid (y * Q ≤ R) := by have := hdm.out; show _ ≤ _; omega
          have hsub : Hid (R - y * Q = R % y) := by have := hdm.out; show _ = _; omega
          have hmy : Hid (R % y < y) := Nat.mod_lt _ (by have := HY.out; omega)
          have hqs : (limbs Q).length ≤ 1 := len_limbs_le (by omega)
          clear hRy2 hlt9 hge9 hQ
          go_wp2_with fail
          refine (poften_any (some ⟨wr.heap.size, 0, none⟩) bo j 1 m capb R y _ HR4.out hrs4.out (by omega) (by omega) hRy.out Q HQ.out).mono ?_
          rintro e w5 ⟨rfl, hb5⟩
          have HB5 : Hid (Below w.heap.size w w5) := HB4.out.trans (hb5.mono HB4.out.size)
          have hblk5 : Hid (Blk w5 w.heap.size out) := hblk4.out.below hb5 hblk4.out.lt
          have HR5 := hid (HR4.out.below hb5)
          have hrs5 := hid (hrs4.out.below hb5)
          clear hb5
          go_wp2_with fail
          refine (pwhole_any Q _ (by omega)).mono ?_
          rintro e w6 ⟨v, rfl, ⟨co, p, capc, rfl, hrc6, _⟩, hb6⟩
          have HRC := hid hrc6
          have hpl := hrc6.len
          have HB6 : Hid (Below w.heap.size w w6) := HB5.out.trans (hb6.mono HB5.out.size)
          have hblk6 : Hid (Blk w6 w.heap.size out) := hblk5.out.below hb6 hblk5.out.lt
          have HR6 := hid (HR5.out.below hb6)
          have hrs6 := hid (hrs5.out.below hb6)
          clear hb6 hrc6
          go_wp2_with fail
          refine (ptimes_any bo co m capb p capc y Q _ hrs6.out HRC.out (by omega) (by omega)).mono ?_
          rintro e w7 ⟨v, rfl, ⟨eo, u, cape, rfl, hrd, _⟩, hb7⟩
          have HRD := hid hrd
          have hul := hrd.len
          have hul2 := len_mul y Q
          have HB7 : Hid (Below w.heap.size w w7) := HB6.out.trans (hb7.mono HB6.out.size)
          have hblk7 : Hid (Blk w7 w.heap.size out) := hblk6.out.below hb7 hblk6.out.lt
          have HR7 := hid (HR6.out.below hb7)
          clear hb7 hrd
          go_wp2_with fail
          refine (pless_any (some ⟨wr.heap.size, 0, none⟩) eo j 1 u cape R (y * Q) _ HR7.out HRD.out (by omega) (by omega) hle.out).mono ?_
          rintro e w8 ⟨v, rfl, ⟨so, t, caps, rfl, hre, hsne⟩, hb8⟩
          rw [hsub.out] at hre
          have HRE := hid hre
          have htl := hre.len
          have htm := @len_mono (R % y) y (Nat.le_of_lt hmy.out)
          have HB8 : Hid (Below w.heap.size w w8) := HB7.out.trans (hb8.mono HB7.out.size)
          have hblk8 : Hid (Blk w8 w.heap.size out) := hblk7.out.below hb8 hblk7.out.lt
          clear hb8 hre
          have g1 := hblk8.out.cell q (by omega)
          have g2 := hblk8.out.frozen q
          have hgw8 : w.heap.size < w8.heap.size := hblk8.out.lt
          have hgw7 : w.heap.size < w7.heap.size := hblk7.out.lt
          have hqn : (q : Int) < (n : Int) := by omega
          go_wp2
          go_roundw
          case rel => exact ⟨q, R % y, _, so, t, caps, by omega, by omega, by go_num, rfl, HRE.out.setInt _ _ _ (fun a e => by have := hsne.2 a e; omega), hsne.mono (by omega), hmy.out, by simpa using hol, lim_set hLim.out q _ (by omega) (by omega), fun i hi => (lm_set out q i _ (by omega)).trans (hz.out i (by omega)), HV.out, hblk8.out.set q _, HB8.out.setCell (Nat.le_refl _) _⟩
          case measure => simp [intOf]
      | some ad =>
        have HNW : Hid (∀ j, j < rn → (wr.alloc (.cells #[.int .i64 (lm (limbs x) q)] 3)).cell? (ad.add j) = some (.int .i64 (lm (limbs r) j))) := by
          intro j hj
          have hrr2 := hrr.out.below ((Below.refl _ wr).alloc (Nat.le_refl _) (.cells #[.int .i64 (lm (limbs x) q)] 3))
          obtain ⟨b, o, e, _⟩ := hrr2.head (by omega)
          cases e
          have := hrr2.cell b o rfl j hj
          rcases Nat.eq_zero_or_pos j with h | h
          · subst h; simpa [Addr.add] using this
          · simp only [Addr.add, Nat.ne_of_gt h, if_false]; exact this
        go_wp2_with (at_builtin; refine wpList_append_ints _ rfl _ _ rfl wr.heap.size _ [lm (limbs x) q] ad rn rc (limbs r) rfl rfl (own_one wr _) hrl HNW.out (by show 1 + rn ≤ _; omega) (by simp) ?_)
        intro v2 w2 hO hB2
        have HO := hid hO
        have HBA : Hid (Below wr.heap.size wr w2) := ((Below.refl _ wr).alloc (Nat.le_refl _) _).trans hB2
        clear hO hB2 HNW
        have hcl : (lm (limbs x) q :: limbs r).length = rn + 1 := by rw [List.length_cons, hrl]
        obtain ⟨po, pc, hpe, hrow3, hpne⟩ := HO.out.row
        rw [hcl] at hpe hrow3
        subst hpe
        clear hcl HO
        go_wp2_with fail
        have HROW := hid hrow3
        clear hrow3
        have HB2 : Hid (Below w.heap.size w w2) := hb.out.trans (HBA.out.mono (by omega))
        have hblk2 : Hid (Blk w2 w.heap.size out) := hblk.out.below HBA.out hgw
        refine (pcut_any po (rn + 1) pc _ _ HROW.out hLR.out (by omega)).mono ?_
        rintro e w3 ⟨j, hj, hj2, rfl, rfl⟩
        have HR2 := hid (row_of_cut HROW.out hj hj2 hvR.out)
        have hrs : Hid (Row w3 bo m capb (limbs y)) := HS.out.below HB2.out
        have hjl := HR2.out.len
        have hjm : j ≤ m + 1 := by omega
        clear hj2 HROW HBA
        go_wp2_with fail
        refine (pcmp_any po bo j pc m capb R y _ HR2.out hrs.out (by omega) (by omega)).mono ?_
        rintro e w4 ⟨rfl, hb4⟩
        have HB4 : Hid (Below w.heap.size w w4) := HB2.out.trans (hb4.mono HB2.out.size)
        have hblk4 : Hid (Blk w4 w.heap.size out) := hblk2.out.below hb4 hblk2.out.lt
        have HR4 := hid (HR2.out.below hb4)
        have hrs4 := hid (hrs.out.below hb4)
        obtain ⟨c0, c1⟩ := cmp3_bd (R : Int) (y : Int)
        have hlt9 : R < y → cmp3 (R : Int) (y : Int) = -1 := fun h => by unfold cmp3; rw [if_pos (by omega)]
        have hge9 : y ≤ R → 0 ≤ cmp3 (R : Int) (y : Int) := fun h => by unfold cmp3; rw [if_neg (by omega)]; split <;> omega
        generalize cmp3 (R : Int) (y : Int) = C at *
        clear hb4
        by_cases hRy2 : R < y
        · have hc := hlt9 hRy2
          subst hc
          have HV := hid (over_val0 (limbs x) out q r y R (by omega) (by omega) HRR.out hval'.out (hz.out q (by omega)))
          have HRy2 := hid hRy2
          have hjm2 : j ≤ m := by have := @len_mono R y (by omega); omega
          clear hRy2 hlt9 hge9
          go_wp2
          go_roundw
          case rel => exact ⟨q, R, out, po, j, pc, by omega, hjm2, by go_num, rfl, HR4.out, hpne.mono (by omega), HRy2.out, hol, hLim.out, fun i hi => hz.out i (by omega), HV.out, hblk4.out, HB4.out⟩
          case measure => simp [intOf]
        · have hc := hge9 (by omega)
          obtain ⟨Q, hQ⟩ : ∃ Q : Nat, Q = R / y := ⟨_, rfl⟩
          have HQ := hid hQ
          have hQ1 : Q < 10000 := by rw [hQ]; exact Nat.div_lt_of_lt_mul (by have := hRy.out; rw [Nat.mul_comm]; exact this)
          have hdm : Hid (R = y * Q + R % y) := by show _ = _; rw [hQ]; exact (Nat.div_add_mod R y).symm
          have HV := hid (over_val (limbs x) out q r y R Q (R % y) (by omega) (by omega) HRR.out hval'.out hdm.out)
          have hle : Hid (y * Q ≤ R) := by have := hdm.out; show _ ≤ _; omega
          have hsub : Hid (R - y * Q = R % y) := by have := hdm.out; show _ = _; omega
          have hmy : Hid (R % y < y) := Nat.mod_lt _ (by have := HY.out; omega)
          have hqs : (limbs Q).length ≤ 1 := len_limbs_le (by omega)
          clear hRy2 hlt9 hge9 hQ
          go_wp2_with fail
          refine (poften_any po bo j pc m capb R y _ HR4.out hrs4.out (by omega) (by omega) hRy.out Q HQ.out).mono ?_
          rintro e w5 ⟨rfl, hb5⟩
          have HB5 : Hid (Below w.heap.size w w5) := HB4.out.trans (hb5.mono HB4.out.size)
          have hblk5 : Hid (Blk w5 w.heap.size out) := hblk4.out.below hb5 hblk4.out.lt
          have HR5 := hid (HR4.out.below hb5)
          have hrs5 := hid (hrs4.out.below hb5)
          clear hb5
          go_wp2_with fail
          refine (pwhole_any Q _ (by omega)).mono ?_
          rintro e w6 ⟨v, rfl, ⟨co, p, capc, rfl, hrc6, _⟩, hb6⟩
          have HRC := hid hrc6
          have hpl := hrc6.len
          have HB6 : Hid (Below w.heap.size w w6) := HB5.out.trans (hb6.mono HB5.out.size)
          have hblk6 : Hid (Blk w6 w.heap.size out) := hblk5.out.below hb6 hblk5.out.lt
          have HR6 := hid (HR5.out.below hb6)
          have hrs6 := hid (hrs5.out.below hb6)
          clear hb6 hrc6
          go_wp2_with fail
          refine (ptimes_any bo co m capb p capc y Q _ hrs6.out HRC.out (by omega) (by omega)).mono ?_
          rintro e w7 ⟨v, rfl, ⟨eo, u, cape, rfl, hrd, _⟩, hb7⟩
          have HRD := hid hrd
          have hul := hrd.len
          have hul2 := len_mul y Q
          have HB7 : Hid (Below w.heap.size w w7) := HB6.out.trans (hb7.mono HB6.out.size)
          have hblk7 : Hid (Blk w7 w.heap.size out) := hblk6.out.below hb7 hblk6.out.lt
          have HR7 := hid (HR6.out.below hb7)
          clear hb7 hrd
          go_wp2_with fail
          refine (pless_any po eo j pc u cape R (y * Q) _ HR7.out HRD.out (by omega) (by omega) hle.out).mono ?_
          rintro e w8 ⟨v, rfl, ⟨so, t, caps, rfl, hre, hsne⟩, hb8⟩
          rw [hsub.out] at hre
          have HRE := hid hre
          have htl := hre.len
          have htm := @len_mono (R % y) y (Nat.le_of_lt hmy.out)
          have HB8 : Hid (Below w.heap.size w w8) := HB7.out.trans (hb8.mono HB7.out.size)
          have hblk8 : Hid (Blk w8 w.heap.size out) := hblk7.out.below hb8 hblk7.out.lt
          clear hb8 hre
          have g1 := hblk8.out.cell q (by omega)
          have g2 := hblk8.out.frozen q
          have hgw8 : w.heap.size < w8.heap.size := hblk8.out.lt
          have hgw7 : w.heap.size < w7.heap.size := hblk7.out.lt
          have hqn : (q : Int) < (n : Int) := by omega
          go_wp2
          go_roundw
          case rel => exact ⟨q, R % y, _, so, t, caps, by omega, by omega, by go_num, rfl, HRE.out.setInt _ _ _ (fun a e => by have := hsne.2 a e; omega), hsne.mono (by omega), hmy.out, by simpa using hol, lim_set hLim.out q _ (by omega) (by omega), fun i hi => (lm_set out q i _ (by omega)).trans (hz.out i (by omega)), HV.out, hblk8.out.set q _, HB8.out.setCell (Nat.le_refl _) _⟩
          case measure => simp [intOf]
end Go.Proofs.YtigokanoflkinaaGreatDoor

/- portionref.common: the greatest common divisor of any two numbers that are not 0. (Laid by mkcommon.py.) -/
namespace Go.Proofs.YtigokanoflkinaaGreatDoor
set_option linter.unusedSimpArgs false
set_option linter.unusedVariables false
open Go.RowKit Por

theorem evB_true {x : Nat} (h : evB x = true) : x % 2 = 0 := by unfold evB at h; simpa using h
theorem evB_false {x : Nat} (h : evB x = false) : x % 2 = 1 := by unfold evB at h; simp at h; omega
theorem gcd_both (a b t G : Nat) (ha : a % 2 = 0) (hb : b % 2 = 0) (h : Nat.gcd a b * t = G) : Nat.gcd (a / 2) (b / 2) * (t + t) = G := by
  have e1 : a = 2 * (a / 2) := by omega
  have e2 : b = 2 * (b / 2) := by omega
  rw [e1, e2, Nat.gcd_mul_left] at h
  rw [← h, Nat.mul_assoc, Nat.mul_comm 2, Nat.mul_assoc, Nat.mul_two]
theorem gcd_odd (a b : Nat) (ha : a % 2 = 0) (hb : b % 2 = 1) : Nat.gcd (a / 2) b = Nat.gcd a b := by
  have e1 : a = 2 * (a / 2) := by omega
  have hc : Nat.Coprime 2 b := by
    unfold Nat.Coprime
    rw [Nat.gcd_rec, hb]
    rfl
  conv => rhs; rw [e1]
  exact (Nat.Coprime.gcd_mul_left_cancel (a / 2) hc).symm
theorem t_le (a b t G : Nat) (hb : b ≠ 0) (h : Nat.gcd a b * t = G) : t ≤ G := by
  have : 0 < Nat.gcd a b := Nat.gcd_pos_of_pos_right a (by omega)
  rw [← h]
  exact Nat.le_mul_of_pos_left t this

set_option maxHeartbeats 8000000 in
set_option maxRecDepth 20000 in
theorem pcommon_any (ao bo : Option Addr) (n capa m capb : Nat) (x y : Nat) (w : World) (hr : Row w ao n capa (limbs x)) (hs : Row w bo m capb (limbs y)) (hn : n ≤ 10000) (hm : m ≤ 10000) (hx : x ≠ 0) (hy : y ≠ 0) :
    Calls Tryz.prog 87 #[.slice ao n capa, .slice bo m capb] w fun e w' => ∃ v, e = .returned v ∧ Sli w.heap.size w' v (Nat.gcd x y) ∧ Below w.heap.size w w' := by
  have l1 := hr.len
  have l2 := hs.len
  have HX := hid hx
  have HY := hid hy
  have HR := hid hr
  have HS := hid hs
  obtain ⟨G, hG⟩ : ∃ G, G = Nat.gcd x y := ⟨_, rfl⟩
  have hGx : Hid (G ≤ x) := by rw [hG]; exact Nat.gcd_le_left y (by omega)
  rw [← hG]
  have HG := hid hG.symm
  clear hr hs hx hy hG
  go_enter Tryz.func87, Tryz.ntmps87
  go_wp2_with fail
  refine (pwhole_any 1 _ (by omega)).mono ?_
  rintro e0 w0 ⟨v0, rfl, hs0, hb0⟩
  have HS0 := hid hs0
  have HR0 := hid (HR.out.below hb0)
  have HQ0 := hid (HS.out.below hb0)
  have HB0 := hid hb0
  clear hs0 hb0 HR HS
  go_wp2
  go_loopg [0, 1, 5] x (fun g va vb vt wr => ∃ (ao bo to : Option Addr) (n capa m capb p capp a b t : Nat), g = a ∧ Hid (a ≠ 0) ∧ Hid (b ≠ 0) ∧ Hid (a ≤ x) ∧ Hid (b ≤ y) ∧ va = .slice ao n capa ∧ vb = .slice bo m capb ∧ vt = .slice to p capp ∧ Hid (Nat.gcd a b * t = G) ∧ Hid (Row wr ao n capa (limbs a)) ∧ Hid (Row wr bo m capb (limbs b)) ∧ Hid (Row wr to p capp (limbs t)) ∧ Hid (Below w.heap.size w wr))
  case atStart =>
    obtain ⟨to, p, capp, rfl, hrt, _⟩ := HS0.out
    exact ⟨ao, bo, to, n, capa, m, capb, p, capp, x, y, 1, rfl, HX.out, HY.out, Nat.le_refl _, Nat.le_refl _, rfl, rfl, rfl, by show _ = _; rw [Nat.mul_one]; exact HG.out, HR0.out, HQ0.out, hrt, HB0.out⟩
  case round =>
    obtain ⟨ao, bo, to, n, capa, m, capb, p, capp, a, b, t, hga, ha0, hb0, hax, hby, rfl, rfl, rfl, hgt, Ra, Rb, Rt, hB⟩ := hrel
    have hnl := Ra.out.len
    have hml := Rb.out.len
    have hpl := Rt.out.len
    have hnx := @len_mono a x hax.out
    have hmy := @len_mono b y hby.out
    have htx := @len_mono t x (Nat.le_trans (t_le a b t G hb0.out hgt.out) hGx.out)
    have HGA := hid hga
    clear hga
    cases hev : evB a with
    | false =>
      have HEV := hid hev
      have hodd : Hid (¬ (a % 2 = 0 ∧ b % 2 = 0)) := by have := evB_false hev; show ¬ _; omega
      clear hev
      go_wp2_with fail
      refine (peven_any ao n capa a _ Ra.out (by omega)).mono ?_
      rintro e1 w1 ⟨rfl, rfl⟩
      rw [HEV.out]
      clear HEV
      go_wp2
      go_loopg [0, 1] (a + b) (fun g va vb wr => ∃ (ao bo : Option Addr) (n capa m capb a b : Nat), g = a + b ∧ Hid (b ≠ 0) ∧ Hid (a ≤ x) ∧ Hid (b ≤ y) ∧ va = .slice ao n capa ∧ vb = .slice bo m capb ∧ Hid (Nat.gcd a b * t = G) ∧ Hid (¬ (a % 2 = 0 ∧ b % 2 = 0)) ∧ Hid (Row wr ao n capa (limbs a)) ∧ Hid (Row wr bo m capb (limbs b)) ∧ Hid (Row wr to p capp (limbs t)) ∧ Hid (Below w.heap.size w wr))
      case atStart => exact ⟨ao, bo, n, capa, m, capb, a, b, rfl, hb0.out, hax.out, hby.out, rfl, rfl, hgt.out, hodd.out, Ra.out, Rb.out, Rt.out, hB.out⟩
      case round =>
        clear HGA Ra Rb Rt hB ha0 hax hb0 hby hgt hml hmy hnl hnx hodd
        obtain ⟨ao, bo, n, capa, m, capb, a, b, hga, hb0, hax, hby, rfl, rfl, hgt, hodd, Ra, Rb, Rt, hB⟩ := hrel
        have hnl := Ra.out.len
        have hml := Rb.out.len
        have hnx := @len_mono a x hax.out
        have hmy := @len_mono b y hby.out
        have HGA := hid hga
        clear hga
        by_cases hz : a = 0
        · have hn0 : n = 0 := by rw [← hnl, hz]; rfl
          have HE : Hid (b * t = G) := by have := hgt.out; rw [hz, Nat.gcd_zero_left] at this; exact this
          subst hn0
          go_wp2_with fail
          refine (ptimes_any bo to m capb p capp b t _ Rb.out Rt.out (by omega) (by omega)).mono ?_
          rintro e1 w1 ⟨v, rfl, hsl, hb1⟩
          have HB_1 : Hid (Below w.heap.size w w1) := hB.out.trans (hb1.mono hB.out.size)
          clear hb1
          rw [HE.out] at hsl
          have HSL := hid hsl
          clear hsl
          go_wp2
          go_ret
          obtain ⟨ro, rn, rc, rfl, hrw, hfr⟩ := HSL.out
          exact ⟨_, rfl, ⟨ro, rn, rc, rfl, hrw, hfr.mono hB.out.size⟩, HB_1.out⟩
        · have hnp : (0 : Int) < (n : Int) := by
            have h1 := limbs_ne_nil hz
            have h2 := List.length_pos_iff.2 h1
            omega
          have hnp2 : 0 < n := by omega
          have HZ := hid hz
          clear hz
          go_wp2
          go_loopg [0] a (fun g va wr => ∃ (ao : Option Addr) (n capa a2 : Nat), g = a2 ∧ Hid (a2 ≠ 0) ∧ Hid (a2 ≤ a) ∧ va = .slice ao n capa ∧ Hid (Nat.gcd a2 b * t = G) ∧ Hid (¬ (a2 % 2 = 0 ∧ b % 2 = 0)) ∧ Hid (Row wr ao n capa (limbs a2)) ∧ Hid (Row wr bo m capb (limbs b)) ∧ Hid (Row wr to p capp (limbs t)) ∧ Hid (Below w.heap.size w wr))
          case atStart => exact ⟨ao, n, capa, a, rfl, HZ.out, Nat.le_refl _, rfl, hgt.out, hodd.out, Ra.out, Rb.out, Rt.out, hB.out⟩
          case round =>
            clear Ra Rb Rt hB hnl hnp hnp2 hgt hodd
            obtain ⟨ao, n, capa, a2, hg2, ha20, ha2, rfl, hgt, hodd, Ra, Rb, Rt, hB⟩ := hrel
            have hnl := Ra.out.len
            have hna := @len_mono a2 a ha2.out
            have HG2 := hid hg2
            clear hg2
            cases hev : evB a2 with
            | true =>
              have ha2e := hid (evB_true hev)
              have HEV := hid hev
              clear hev
              go_wp2_with fail
              refine (peven_any ao n capa a2 _ Ra.out (by omega)).mono ?_
              rintro e2 w2 ⟨rfl, rfl⟩
              rw [HEV.out]
              go_wp2_with fail
              refine (phalf_any ao n capa a2 _ Ra.out (by omega)).mono ?_
              rintro e3 w3 ⟨v, rfl, ⟨qo, qn, qc, rfl, hrq, _⟩, hb3⟩
              have Rb_3 := hid (Rb.out.below hb3)
              have Rt_3 := hid (Rt.out.below hb3)
              have HB_3 : Hid (Below w.heap.size w w3) := hB.out.trans (hb3.mono hB.out.size)
              clear hb3
              have HRQ := hid hrq
              clear hrq
              go_wp2
              go_roundg (a2 / 2)
              case measure => rw [HG2.out]; have := ha20.out; omega
              case rel =>
                refine ⟨qo, qn, qc, a2 / 2, rfl, ?_, ?_, rfl, ?_, ?_, HRQ.out, Rb_3.out, Rt_3.out, HB_3.out⟩
                · have := ha20.out; have := ha2e.out; show _ ≠ _; omega
                · have := ha2.out; show _ ≤ _; omega
                · show _ = _; rw [gcd_odd a2 b ha2e.out (by have := hodd.out; have := ha2e.out; omega)]; exact hgt.out
                · have h1 := hodd.out; have h2 := ha2e.out; show ¬ _; omega
            | false =>
              have ha2o := hid (evB_false hev)
              have HEV := hid hev
              clear hev hodd
              go_wp2_with fail
              refine (peven_any ao n capa a2 _ Ra.out (by omega)).mono ?_
              rintro e4 w4 ⟨rfl, rfl⟩
              rw [HEV.out]
              clear HEV
              go_wp2
              go_loopg [1] b (fun g vb wr => ∃ (bo : Option Addr) (m capb b2 : Nat), g = b2 ∧ Hid (b2 ≠ 0) ∧ Hid (b2 ≤ b) ∧ vb = .slice bo m capb ∧ Hid (Nat.gcd a2 b2 * t = G) ∧ Hid (Row wr ao n capa (limbs a2)) ∧ Hid (Row wr bo m capb (limbs b2)) ∧ Hid (Row wr to p capp (limbs t)) ∧ Hid (Below w.heap.size w wr))
              case atStart => exact ⟨bo, m, capb, b, rfl, hb0.out, Nat.le_refl _, rfl, hgt.out, Ra.out, Rb.out, Rt.out, hB.out⟩
              case round =>
                clear Ra Rb Rt hB hml hgt
                obtain ⟨bo, m, capb, b2, hg3, hb20, hb2, rfl, hgt, Ra, Rb, Rt, hB⟩ := hrel
                have hml := Rb.out.len
                have hmb := @len_mono b2 b hb2.out
                have HG3 := hid hg3
                clear hg3
                cases hev : evB b2 with
                | true =>
                  have hb2e := hid (evB_true hev)
                  have HEV := hid hev
                  clear hev
                  go_wp2_with fail
                  refine (peven_any bo m capb b2 _ Rb.out (by omega)).mono ?_
                  rintro e5 w5 ⟨rfl, rfl⟩
                  rw [HEV.out]
                  go_wp2_with fail
                  refine (phalf_any bo m capb b2 _ Rb.out (by omega)).mono ?_
                  rintro e6 w6 ⟨v, rfl, ⟨qo, qn, qc, rfl, hrq, _⟩, hb6⟩
                  have Ra_6 := hid (Ra.out.below hb6)
                  have Rt_6 := hid (Rt.out.below hb6)
                  have HB_6 : Hid (Below w.heap.size w w6) := hB.out.trans (hb6.mono hB.out.size)
                  clear hb6
                  have HRQ := hid hrq
                  clear hrq
                  go_wp2
                  go_roundg (b2 / 2)
                  case measure => rw [HG3.out]; have := hb20.out; omega
                  case rel =>
                    refine ⟨qo, qn, qc, b2 / 2, rfl, ?_, ?_, rfl, ?_, Ra_6.out, HRQ.out, Rt_6.out, HB_6.out⟩
                    · have := hb20.out; have := hb2e.out; show _ ≠ _; omega
                    · have := hb2.out; show _ ≤ _; omega
                    · show _ = _; rw [Nat.gcd_comm, gcd_odd b2 a2 hb2e.out ha2o.out, Nat.gcd_comm]; exact hgt.out
                | false =>
                  have hb2o := hid (evB_false hev)
                  have HEV := hid hev
                  clear hev
                  go_wp2_with fail
                  refine (peven_any bo m capb b2 _ Rb.out (by omega)).mono ?_
                  rintro e7 w7 ⟨rfl, rfl⟩
                  rw [HEV.out]
                  clear HEV
                  go_wp2_with fail
                  refine (pcmp_any ao bo n capa m capb a2 b2 _ Ra.out Rb.out (by omega) (by omega)).mono ?_
                  rintro e8 w8 ⟨rfl, hb8⟩
                  have Ra_8 := hid (Ra.out.below hb8)
                  have Rb_8 := hid (Rb.out.below hb8)
                  have Rt_8 := hid (Rt.out.below hb8)
                  have HB_8 : Hid (Below w.heap.size w w8) := hB.out.trans (hb8.mono hB.out.size)
                  clear hb8
                  obtain ⟨c0, c1⟩ := cmp3_bd (a2 : Int) (b2 : Int)
                  have hlt9 : a2 < b2 → cmp3 (a2 : Int) (b2 : Int) = -1 := fun h => by unfold cmp3; rw [if_pos (by omega)]
                  have hge9 : b2 ≤ a2 → 0 ≤ cmp3 (a2 : Int) (b2 : Int) := fun h => by unfold cmp3; rw [if_neg (by omega)]; split <;> omega
                  generalize cmp3 (a2 : Int) (b2 : Int) = C at *
                  by_cases hlt : a2 < b2
                  · have hc := hlt9 hlt
                    subst hc
                    have HLT := hid hlt
                    clear hlt9 hge9 hlt
                    go_wp2_with fail
                    refine (pless_any bo ao m capb n capa b2 a2 _ Rb_8.out Ra_8.out (by omega) (by omega) (Nat.le_of_lt HLT.out)).mono ?_
                    rintro e9 w9 ⟨v, rfl, ⟨qo, qn, qc, rfl, hrq, _⟩, hb9⟩
                    have Ra_9 := hid (Ra_8.out.below hb9)
                    have Rt_9 := hid (Rt_8.out.below hb9)
                    have HB_9 : Hid (Below w.heap.size w w9) := HB_8.out.trans (hb9.mono HB_8.out.size)
                    clear hb9
                    have HRQ := hid hrq
                    clear hrq
                    go_wp2
                    go_roundg (a2 + (b2 - a2))
                    case measure => rw [HGA.out]; have := HLT.out; have := HZ.out; have := hb2.out; omega
                    case rel =>
                      refine ⟨ao, qo, n, capa, qn, qc, a2, b2 - a2, rfl, ?_, ?_, ?_, rfl, rfl, ?_, ?_, Ra_9.out, HRQ.out, Rt_9.out, HB_9.out⟩
                      · have := HLT.out; show _ ≠ _; omega
                      · exact Nat.le_trans ha2.out hax.out
                      · have h1 := hb2.out; have h2 := hby.out; show _ ≤ _; omega
                      · show _ = _; rw [Nat.gcd_sub_self_right (Nat.le_of_lt HLT.out)]; exact hgt.out
                      · have := ha2o.out; show ¬ _; omega
                  · have hc := hge9 (by omega)
                    have HGE := hid (Nat.le_of_not_lt hlt)
                    clear hlt9 hge9 hlt
                    go_wp2_with fail
                    refine (pless_any ao bo n capa m capb a2 b2 _ Ra_8.out Rb_8.out (by omega) (by omega) HGE.out).mono ?_
                    rintro e10 w10 ⟨v, rfl, ⟨qo, qn, qc, rfl, hrq, _⟩, hb10⟩
                    have Rb_10 := hid (Rb_8.out.below hb10)
                    have Rt_10 := hid (Rt_8.out.below hb10)
                    have HB_10 : Hid (Below w.heap.size w w10) := HB_8.out.trans (hb10.mono HB_8.out.size)
                    clear hb10
                    have HRQ := hid hrq
                    clear hrq
                    go_wp2
                    go_roundg ((a2 - b2) + b2)
                    case measure => rw [HGA.out]; have := HGE.out; have := hb0.out; have := ha2.out; omega
                    case rel =>
                      refine ⟨qo, bo, qn, qc, m, capb, a2 - b2, b2, rfl, hb20.out, ?_, ?_, rfl, rfl, ?_, ?_, HRQ.out, Rb_10.out, Rt_10.out, HB_10.out⟩
                      · have h1 := ha2.out; have h2 := hax.out; show _ ≤ _; omega
                      · exact Nat.le_trans hb2.out hby.out
                      · show _ = _; rw [Nat.gcd_comm, Nat.gcd_sub_self_right HGE.out, Nat.gcd_comm]; exact hgt.out
                      · have := hb2o.out; show ¬ _; omega
    | true =>
      have HEV := hid hev
      have hae := hid (evB_true hev)
      clear hev
      go_wp2_with fail
      refine (peven_any ao n capa a _ Ra.out (by omega)).mono ?_
      rintro e1 w1 ⟨rfl, rfl⟩
      rw [HEV.out]
      clear HEV
      cases hev : evB b with
      | false =>
        have HEV := hid hev
        have hodd : Hid (¬ (a % 2 = 0 ∧ b % 2 = 0)) := by have := evB_false hev; show ¬ _; omega
        clear hev
        go_wp2_with fail
        refine (peven_any bo m capb b _ Rb.out (by omega)).mono ?_
        rintro e1 w1 ⟨rfl, rfl⟩
        rw [HEV.out]
        clear HEV hae
        go_wp2
        go_loopg [0, 1] (a + b) (fun g va vb wr => ∃ (ao bo : Option Addr) (n capa m capb a b : Nat), g = a + b ∧ Hid (b ≠ 0) ∧ Hid (a ≤ x) ∧ Hid (b ≤ y) ∧ va = .slice ao n capa ∧ vb = .slice bo m capb ∧ Hid (Nat.gcd a b * t = G) ∧ Hid (¬ (a % 2 = 0 ∧ b % 2 = 0)) ∧ Hid (Row wr ao n capa (limbs a)) ∧ Hid (Row wr bo m capb (limbs b)) ∧ Hid (Row wr to p capp (limbs t)) ∧ Hid (Below w.heap.size w wr))
        case atStart => exact ⟨ao, bo, n, capa, m, capb, a, b, rfl, hb0.out, hax.out, hby.out, rfl, rfl, hgt.out, hodd.out, Ra.out, Rb.out, Rt.out, hB.out⟩
        case round =>
          clear HGA Ra Rb Rt hB ha0 hax hb0 hby hgt hml hmy hnl hnx hodd
          obtain ⟨ao, bo, n, capa, m, capb, a, b, hga, hb0, hax, hby, rfl, rfl, hgt, hodd, Ra, Rb, Rt, hB⟩ := hrel
          have hnl := Ra.out.len
          have hml := Rb.out.len
          have hnx := @len_mono a x hax.out
          have hmy := @len_mono b y hby.out
          have HGA := hid hga
          clear hga
          by_cases hz : a = 0
          · have hn0 : n = 0 := by rw [← hnl, hz]; rfl
            have HE : Hid (b * t = G) := by have := hgt.out; rw [hz, Nat.gcd_zero_left] at this; exact this
            subst hn0
            go_wp2_with fail
            refine (ptimes_any bo to m capb p capp b t _ Rb.out Rt.out (by omega) (by omega)).mono ?_
            rintro e11 w11 ⟨v, rfl, hsl, hb11⟩
            have HB_11 : Hid (Below w.heap.size w w11) := hB.out.trans (hb11.mono hB.out.size)
            clear hb11
            rw [HE.out] at hsl
            have HSL := hid hsl
            clear hsl
            go_wp2
            go_ret
            obtain ⟨ro, rn, rc, rfl, hrw, hfr⟩ := HSL.out
            exact ⟨_, rfl, ⟨ro, rn, rc, rfl, hrw, hfr.mono hB.out.size⟩, HB_11.out⟩
          · have hnp : (0 : Int) < (n : Int) := by
              have h1 := limbs_ne_nil hz
              have h2 := List.length_pos_iff.2 h1
              omega
            have hnp2 : 0 < n := by omega
            have HZ := hid hz
            clear hz
            go_wp2
            go_loopg [0] a (fun g va wr => ∃ (ao : Option Addr) (n capa a2 : Nat), g = a2 ∧ Hid (a2 ≠ 0) ∧ Hid (a2 ≤ a) ∧ va = .slice ao n capa ∧ Hid (Nat.gcd a2 b * t = G) ∧ Hid (¬ (a2 % 2 = 0 ∧ b % 2 = 0)) ∧ Hid (Row wr ao n capa (limbs a2)) ∧ Hid (Row wr bo m capb (limbs b)) ∧ Hid (Row wr to p capp (limbs t)) ∧ Hid (Below w.heap.size w wr))
            case atStart => exact ⟨ao, n, capa, a, rfl, HZ.out, Nat.le_refl _, rfl, hgt.out, hodd.out, Ra.out, Rb.out, Rt.out, hB.out⟩
            case round =>
              clear Ra Rb Rt hB hnl hnp hnp2 hgt hodd
              obtain ⟨ao, n, capa, a2, hg2, ha20, ha2, rfl, hgt, hodd, Ra, Rb, Rt, hB⟩ := hrel
              have hnl := Ra.out.len
              have hna := @len_mono a2 a ha2.out
              have HG2 := hid hg2
              clear hg2
              cases hev : evB a2 with
              | true =>
                have ha2e := hid (evB_true hev)
                have HEV := hid hev
                clear hev
                go_wp2_with fail
                refine (peven_any ao n capa a2 _ Ra.out (by omega)).mono ?_
                rintro e12 w12 ⟨rfl, rfl⟩
                rw [HEV.out]
                go_wp2_with fail
                refine (phalf_any ao n capa a2 _ Ra.out (by omega)).mono ?_
                rintro e13 w13 ⟨v, rfl, ⟨qo, qn, qc, rfl, hrq, _⟩, hb13⟩
                have Rb_13 := hid (Rb.out.below hb13)
                have Rt_13 := hid (Rt.out.below hb13)
                have HB_13 : Hid (Below w.heap.size w w13) := hB.out.trans (hb13.mono hB.out.size)
                clear hb13
                have HRQ := hid hrq
                clear hrq
                go_wp2
                go_roundg (a2 / 2)
                case measure => rw [HG2.out]; have := ha20.out; omega
                case rel =>
                  refine ⟨qo, qn, qc, a2 / 2, rfl, ?_, ?_, rfl, ?_, ?_, HRQ.out, Rb_13.out, Rt_13.out, HB_13.out⟩
                  · have := ha20.out; have := ha2e.out; show _ ≠ _; omega
                  · have := ha2.out; show _ ≤ _; omega
                  · show _ = _; rw [gcd_odd a2 b ha2e.out (by have := hodd.out; have := ha2e.out; omega)]; exact hgt.out
                  · have h1 := hodd.out; have h2 := ha2e.out; show ¬ _; omega
              | false =>
                have ha2o := hid (evB_false hev)
                have HEV := hid hev
                clear hev hodd
                go_wp2_with fail
                refine (peven_any ao n capa a2 _ Ra.out (by omega)).mono ?_
                rintro e14 w14 ⟨rfl, rfl⟩
                rw [HEV.out]
                clear HEV
                go_wp2
                go_loopg [1] b (fun g vb wr => ∃ (bo : Option Addr) (m capb b2 : Nat), g = b2 ∧ Hid (b2 ≠ 0) ∧ Hid (b2 ≤ b) ∧ vb = .slice bo m capb ∧ Hid (Nat.gcd a2 b2 * t = G) ∧ Hid (Row wr ao n capa (limbs a2)) ∧ Hid (Row wr bo m capb (limbs b2)) ∧ Hid (Row wr to p capp (limbs t)) ∧ Hid (Below w.heap.size w wr))
                case atStart => exact ⟨bo, m, capb, b, rfl, hb0.out, Nat.le_refl _, rfl, hgt.out, Ra.out, Rb.out, Rt.out, hB.out⟩
                case round =>
                  clear Ra Rb Rt hB hml hgt
                  obtain ⟨bo, m, capb, b2, hg3, hb20, hb2, rfl, hgt, Ra, Rb, Rt, hB⟩ := hrel
                  have hml := Rb.out.len
                  have hmb := @len_mono b2 b hb2.out
                  have HG3 := hid hg3
                  clear hg3
                  cases hev : evB b2 with
                  | true =>
                    have hb2e := hid (evB_true hev)
                    have HEV := hid hev
                    clear hev
                    go_wp2_with fail
                    refine (peven_any bo m capb b2 _ Rb.out (by omega)).mono ?_
                    rintro e15 w15 ⟨rfl, rfl⟩
                    rw [HEV.out]
                    go_wp2_with fail
                    refine (phalf_any bo m capb b2 _ Rb.out (by omega)).mono ?_
                    rintro e16 w16 ⟨v, rfl, ⟨qo, qn, qc, rfl, hrq, _⟩, hb16⟩
                    have Ra_16 := hid (Ra.out.below hb16)
                    have Rt_16 := hid (Rt.out.below hb16)
                    have HB_16 : Hid (Below w.heap.size w w16) := hB.out.trans (hb16.mono hB.out.size)
                    clear hb16
                    have HRQ := hid hrq
                    clear hrq
                    go_wp2
                    go_roundg (b2 / 2)
                    case measure => rw [HG3.out]; have := hb20.out; omega
                    case rel =>
                      refine ⟨qo, qn, qc, b2 / 2, rfl, ?_, ?_, rfl, ?_, Ra_16.out, HRQ.out, Rt_16.out, HB_16.out⟩
                      · have := hb20.out; have := hb2e.out; show _ ≠ _; omega
                      · have := hb2.out; show _ ≤ _; omega
                      · show _ = _; rw [Nat.gcd_comm, gcd_odd b2 a2 hb2e.out ha2o.out, Nat.gcd_comm]; exact hgt.out
                  | false =>
                    have hb2o := hid (evB_false hev)
                    have HEV := hid hev
                    clear hev
                    go_wp2_with fail
                    refine (peven_any bo m capb b2 _ Rb.out (by omega)).mono ?_
                    rintro e17 w17 ⟨rfl, rfl⟩
                    rw [HEV.out]
                    clear HEV
                    go_wp2_with fail
                    refine (pcmp_any ao bo n capa m capb a2 b2 _ Ra.out Rb.out (by omega) (by omega)).mono ?_
                    rintro e18 w18 ⟨rfl, hb18⟩
                    have Ra_18 := hid (Ra.out.below hb18)
                    have Rb_18 := hid (Rb.out.below hb18)
                    have Rt_18 := hid (Rt.out.below hb18)
                    have HB_18 : Hid (Below w.heap.size w w18) := hB.out.trans (hb18.mono hB.out.size)
                    clear hb18
                    obtain ⟨c0, c1⟩ := cmp3_bd (a2 : Int) (b2 : Int)
                    have hlt9 : a2 < b2 → cmp3 (a2 : Int) (b2 : Int) = -1 := fun h => by unfold cmp3; rw [if_pos (by omega)]
                    have hge9 : b2 ≤ a2 → 0 ≤ cmp3 (a2 : Int) (b2 : Int) := fun h => by unfold cmp3; rw [if_neg (by omega)]; split <;> omega
                    generalize cmp3 (a2 : Int) (b2 : Int) = C at *
                    by_cases hlt : a2 < b2
                    · have hc := hlt9 hlt
                      subst hc
                      have HLT := hid hlt
                      clear hlt9 hge9 hlt
                      go_wp2_with fail
                      refine (pless_any bo ao m capb n capa b2 a2 _ Rb_18.out Ra_18.out (by omega) (by omega) (Nat.le_of_lt HLT.out)).mono ?_
                      rintro e19 w19 ⟨v, rfl, ⟨qo, qn, qc, rfl, hrq, _⟩, hb19⟩
                      have Ra_19 := hid (Ra_18.out.below hb19)
                      have Rt_19 := hid (Rt_18.out.below hb19)
                      have HB_19 : Hid (Below w.heap.size w w19) := HB_18.out.trans (hb19.mono HB_18.out.size)
                      clear hb19
                      have HRQ := hid hrq
                      clear hrq
                      go_wp2
                      go_roundg (a2 + (b2 - a2))
                      case measure => rw [HGA.out]; have := HLT.out; have := HZ.out; have := hb2.out; omega
                      case rel =>
                        refine ⟨ao, qo, n, capa, qn, qc, a2, b2 - a2, rfl, ?_, ?_, ?_, rfl, rfl, ?_, ?_, Ra_19.out, HRQ.out, Rt_19.out, HB_19.out⟩
                        · have := HLT.out; show _ ≠ _; omega
                        · exact Nat.le_trans ha2.out hax.out
                        · have h1 := hb2.out; have h2 := hby.out; show _ ≤ _; omega
                        · show _ = _; rw [Nat.gcd_sub_self_right (Nat.le_of_lt HLT.out)]; exact hgt.out
                        · have := ha2o.out; show ¬ _; omega
                    · have hc := hge9 (by omega)
                      have HGE := hid (Nat.le_of_not_lt hlt)
                      clear hlt9 hge9 hlt
                      go_wp2_with fail
                      refine (pless_any ao bo n capa m capb a2 b2 _ Ra_18.out Rb_18.out (by omega) (by omega) HGE.out).mono ?_
                      rintro e20 w20 ⟨v, rfl, ⟨qo, qn, qc, rfl, hrq, _⟩, hb20⟩
                      have Rb_20 := hid (Rb_18.out.below hb20)
                      have Rt_20 := hid (Rt_18.out.below hb20)
                      have HB_20 : Hid (Below w.heap.size w w20) := HB_18.out.trans (hb20.mono HB_18.out.size)
                      clear hb20
                      have HRQ := hid hrq
                      clear hrq
                      go_wp2
                      go_roundg ((a2 - b2) + b2)
                      case measure => rw [HGA.out]; have := HGE.out; have := hb0.out; have := ha2.out; omega
                      case rel =>
                        refine ⟨qo, bo, qn, qc, m, capb, a2 - b2, b2, rfl, hb20.out, ?_, ?_, rfl, rfl, ?_, ?_, HRQ.out, Rb_20.out, Rt_20.out, HB_20.out⟩
                        · have h1 := ha2.out; have h2 := hax.out; show _ ≤ _; omega
                        · exact Nat.le_trans hb2.out hby.out
                        · show _ = _; rw [Nat.gcd_comm, Nat.gcd_sub_self_right HGE.out, Nat.gcd_comm]; exact hgt.out
                        · have := hb2o.out; show ¬ _; omega
      | true =>
        have HEV := hid hev
        have hbe := hid (evB_true hev)
        clear hev
        go_wp2_with fail
        refine (peven_any bo m capb b _ Rb.out (by omega)).mono ?_
        rintro e1 w1 ⟨rfl, rfl⟩
        rw [HEV.out]
        clear HEV
        go_wp2_with fail
        refine (phalf_any ao n capa a _ Ra.out (by omega)).mono ?_
        rintro e21 w21 ⟨v, rfl, ⟨qo, qn, qc, rfl, hrq, _⟩, hb21⟩
        have Rb_21 := hid (Rb.out.below hb21)
        have Rt_21 := hid (Rt.out.below hb21)
        have HB_21 : Hid (Below w.heap.size w w21) := hB.out.trans (hb21.mono hB.out.size)
        clear hb21
        have HRQ := hid hrq
        clear hrq
        go_wp2_with fail
        refine (phalf_any bo m capb b _ Rb_21.out (by omega)).mono ?_
        rintro e22 w22 ⟨v, rfl, ⟨so, sn, sc, rfl, hrs, _⟩, hb22⟩
        have Rq_22 := hid (HRQ.out.below hb22)
        have Rt_22 := hid (Rt_21.out.below hb22)
        have HB_22 : Hid (Below w.heap.size w w22) := HB_21.out.trans (hb22.mono HB_21.out.size)
        clear hb22
        have HRS := hid hrs
        clear hrs
        go_wp2_with fail
        refine (pplus_any to to p capp p capp t t _ Rt_22.out Rt_22.out (by omega) (by omega)).mono ?_
        rintro e23 w23 ⟨v, rfl, ⟨uo, un, uc, rfl, hru, _⟩, hb23⟩
        have Rq_23 := hid (Rq_22.out.below hb23)
        have Rs_23 := hid (HRS.out.below hb23)
        have HB_23 : Hid (Below w.heap.size w w23) := HB_22.out.trans (hb23.mono HB_22.out.size)
        clear hb23
        have HRU := hid hru
        clear hru
        go_wp2
        go_roundg (a / 2)
        case measure => rw [HGA.out]; have := ha0.out; omega
        case rel =>
          refine ⟨qo, so, uo, qn, qc, sn, sc, un, uc, a / 2, b / 2, t + t, rfl, ?_, ?_, ?_, ?_, rfl, rfl, rfl, gcd_both a b t G hae.out hbe.out hgt.out, Rq_23.out, Rs_23.out, HRU.out, HB_23.out⟩
          · have := ha0.out; have := hae.out; show _ ≠ _; omega
          · have := hb0.out; have := hbe.out; show _ ≠ _; omega
          · have := hax.out; show _ ≤ _; omega
          · have := hby.out; show _ ≤ _; omega
end Go.Proofs.YtigokanoflkinaaGreatDoor

/- portionref.slash, digits: what they answer of any text. -/
namespace Go.Proofs.YtigokanoflkinaaGreatDoor
set_option linter.unusedSimpArgs false
set_option linter.unusedVariables false
open Go.RowKit Por
end Go.Proofs.YtigokanoflkinaaGreatDoor

/- portionref.heard: the number that any digits tell. -/
namespace Go.Proofs.YtigokanoflkinaaGreatDoor
set_option linter.unusedSimpArgs false
set_option linter.unusedVariables false
open Go.RowKit Por

/-- what is heard when k letters are read, c are to come -/
structure Heard (l : List UInt8) (o : List Int) (c : Nat) : Prop where
  lim : Lim o
  zero : ∀ j, j < c / 4 → lm o j = 0
  part : lm o (c / 4) % ((10 ^ (c % 4) : Nat) : Int) = 0
  val : val o = (dv (l.take (l.length - c)) * 10 ^ c : Nat)

theorem pow4 (j : Nat) (h : j < 4) : (10 : Nat) ^ j = 1 ∧ j = 0 ∨ (10 : Nat) ^ j = 10 ∧ j = 1 ∨ (10 : Nat) ^ j = 100 ∧ j = 2 ∨ (10 : Nat) ^ j = 1000 ∧ j = 3 := by
  match j, h with
  | 0, _ => simp
  | 1, _ => simp
  | 2, _ => simp
  | 3, _ => simp

theorem Heard.lt {l : List UInt8} {o : List Int} {c : Nat} (h : Heard l o (c + 1)) : 0 ≤ lm o (c / 4) ∧ lm o (c / 4) + 9 * ((10 ^ (c % 4) : Nat) : Int) < 10000 ∧ lm o (c / 4) % (10 * ((10 ^ (c % 4) : Nat) : Int)) = 0 := by
  obtain ⟨b0, b1⟩ := lim_getD h.lim (c / 4)
  rcases Nat.lt_or_ge (c % 4) 3 with h3 | h3
  · have e1 : (c + 1) / 4 = c / 4 := by omega
    have e2 : (c + 1) % 4 = c % 4 + 1 := by omega
    have hp := h.part
    rw [e1, e2] at hp
    rcases pow4 (c % 4) (by omega) with ⟨p, q⟩ | ⟨p, q⟩ | ⟨p, q⟩ | ⟨p, q⟩
    · rw [q] at hp; rw [p]; simp at hp ⊢; omega
    · rw [q] at hp; rw [p]; simp at hp ⊢; omega
    · rw [q] at hp; rw [p]; simp at hp ⊢; omega
    · omega
  · have hz := h.zero (c / 4) (by omega)
    have e : c % 4 = 3 := by omega
    rw [hz, e]; decide

theorem Heard.step {l : List UInt8} {o : List Int} {c d : Nat} (h : Heard l o (c + 1)) (hc : c + 1 ≤ l.length) (ho : c / 4 < o.length) (hd : d ≤ 9) (hl : (l[l.length - (c + 1)]'(by omega)).toNat - 48 = d) :
    Heard l (o.set (c / 4) (lm o (c / 4) + (d : Int) * ((10 ^ (c % 4) : Nat) : Int))) c := by
  obtain ⟨h0, h1, h2⟩ := h.lt
  have hb : 0 ≤ (d : Int) * ((10 ^ (c % 4) : Nat) : Int) ∧ (d : Int) * ((10 ^ (c % 4) : Nat) : Int) ≤ 9 * ((10 ^ (c % 4) : Nat) : Int) := by
    have hp : (0 : Int) ≤ ((10 ^ (c % 4) : Nat) : Int) := Int.natCast_nonneg _
    exact ⟨Int.mul_nonneg (by omega) hp, Int.mul_le_mul_of_nonneg_right (by omega) hp⟩
  refine ⟨lim_set h.lim _ _ (by omega) (by omega), fun j hj => ?_, ?_, ?_⟩
  · rw [lm_set _ _ _ _ (by omega)]
    exact h.zero j (by omega)
  · have e : lm (o.set (c / 4) (lm o (c / 4) + (d : Int) * ((10 ^ (c % 4) : Nat) : Int))) (c / 4) = lm o (c / 4) + (d : Int) * ((10 ^ (c % 4) : Nat) : Int) := by unfold lm; simp [ho]
    rw [e, Int.add_mul_emod_self_right]
    rcases pow4 (c % 4) (by omega) with ⟨p, q⟩ | ⟨p, q⟩ | ⟨p, q⟩ | ⟨p, q⟩ <;> rw [p] at h2 ⊢ <;> simp at h2 ⊢ <;> omega
  · rw [val_set o _ _ ho, h.val]
    have e1 : l.length - c = (l.length - (c + 1)) + 1 := by omega
    have e2 : l.take (l.length - c) = l.take (l.length - (c + 1)) ++ [l[l.length - (c + 1)]'(by omega)] := by
      rw [e1, List.take_succ_eq_append_getElem (by omega)]
    rw [e2, dv_snoc, hl]
    have e3 : (10000 : Int) ^ (c / 4) * ((10 ^ (c % 4) : Nat) : Int) = ((10 ^ c : Nat) : Int) := by
      have : (10 : Nat) ^ c = 10000 ^ (c / 4) * 10 ^ (c % 4) := by
        conv => lhs; rw [← Nat.div_add_mod c 4, Nat.pow_add, Nat.pow_mul]
      rw [this]; simp
    have e4 : (10000 : Int) ^ (c / 4) * (lm o (c / 4) + (d : Int) * ((10 ^ (c % 4) : Nat) : Int) - lm o (c / 4)) = d * ((10 ^ c : Nat) : Int) := by
      have e5 : lm o (c / 4) + (d : Int) * ((10 ^ (c % 4) : Nat) : Int) - lm o (c / 4) = (d : Int) * ((10 ^ (c % 4) : Nat) : Int) := by omega
      rw [e5, ← e3]
      generalize ((10 ^ (c % 4) : Nat) : Int) = R
      generalize (10000 : Int) ^ (c / 4) = P
      grind
    rw [e4, Nat.pow_succ]
    generalize (10 : Nat) ^ c = P
    generalize dv (l.take (l.length - (c + 1))) = D
    simp only [Int.natCast_mul, Int.natCast_add]
    grind

end Go.Proofs.YtigokanoflkinaaGreatDoor

/- portionref.told: the digits of any number. -/
namespace Go.Proofs.YtigokanoflkinaaGreatDoor
set_option linter.unusedSimpArgs false
set_option linter.unusedVariables false
open Go.RowKit Por
open Go.Lib (decDigits)

/-- A row of bytes of the call's own. -/
def OwnB (base : Nat) (w : World) (v : Value) (l : List UInt8) : Prop := w.ownsRow base 5 1 v l.length (l.map fun c => Value.int .u8 c.toNat)
theorem OwnB.nil (base : Nat) (w : World) : OwnB base w (.slice none 0 0) [] := ⟨rfl, .inl ⟨rfl, rfl⟩⟩
theorem OwnB.below {base : Nat} {w w' : World} {v : Value} {l : List UInt8} (h : OwnB base w v l) (hb : Below w.heap.size w w') : OwnB base w' v l := by
  obtain ⟨h0, h⟩ := h
  refine ⟨h0, ?_⟩
  rcases h with h | ⟨g, cap, cur, h1, h2, h3, h4⟩
  · exact .inl h
  · exact .inr ⟨g, cap, cur, h1, h2, (hb.block g (Array.getElem?_eq_some_iff.1 h3).1).trans h3, h4⟩
theorem OwnB.shape {base : Nat} {w : World} {v : Value} {l : List UInt8} (h : OwnB base w v l) : ∃ ao cap, v = .slice ao l.length cap := by
  rcases h.2 with ⟨rfl, h0⟩ | ⟨g, cap, cur, rfl, _⟩
  · exact ⟨none, 0, by rw [h0]⟩
  · exact ⟨_, _, rfl⟩
theorem wpList_append_b (w : World) {ops : Array Oper} {rest : List Oper} {o : Oper} {a : Act} {Q : Exit → Act → World → Prop} (hgd : o.guard = none) (s x : Operand)
    (hop : o.op = Op.call { callee := Callee.builtin Builtin.append, args := #[s, x], argTypes := #[152, 152] })
    (base : Nat) (v : Value) (l : List UInt8) (c : UInt8) (ad : Addr) (hs : a.eval s = v) (hx : a.eval x = .slice (some ad) 1 1) (hown : OwnB base w v l) (hc : w.cell? ad = some (.int .u8 c.toNat))
    (hle : l.length ≤ 1000000) (hb : base ≤ w.heap.size)
    (h : ∀ v' w', OwnB base w' v' (l ++ [c]) → Below base w w' → wpList Tryz.prog ops Q rest (a.put o.dst v') w') : wpList Tryz.prog ops Q (o :: rest) a w := by
  obtain ⟨i, hi, hz0, hz1, hz2⟩ := info_parts Tryz.infoByte
  have hob : ∀ k, v.ownBlock = some k → base ≤ k := by
    intro k hk
    rcases hown.2 with ⟨rfl, _⟩ | ⟨g, cap, cur, rfl, h2, _⟩
    · cases hk
    · cases hk; exact h2
  refine wpList_append_own w hgd s x _ hop base 5 i (.int .u8 0) 1 1 Tryz.underlying152 hi hz0 hz1 hz2 rfl (by decide) v l.length _ hs hown ad 1 1 [.int .u8 c.toNat] hx rfl ?_ ?_ (by unfold maxLen; omega) (by omega) hb ?_
  · intro j u hj
    match j, hj with
    | 0, hj => simp at hj; subst hj; simpa [Addr.add] using hc
  · intro u hu
    simp at hu; subst hu; rfl
  · intro v' w' h2 h3 _
    refine h v' w' ?_ ((Below.refl base w).grown h3 hb hob)
    unfold OwnB
    rw [List.length_append, List.map_append]
    exact h2

/-- the digits of y; none of 0 -/
def tl (y : Nat) : List UInt8 := if y = 0 then [] else decDigits y
theorem tl_more (y d : Nat) (hd : d ≤ 9) (h : y ≠ 0 ∨ d ≠ 0) : tl y ++ [UInt8.ofNat (48 + d)] = tl (10 * y + d) := by
  unfold tl
  by_cases hy : y = 0
  · subst hy
    rw [if_pos rfl, if_neg (by omega), List.nil_append, dec_small (by omega)]
    congr 2; omega
  · rw [if_neg hy, if_neg (by omega), dec_big (n := 10 * y + d) (by omega), show (10 * y + d) / 10 = y by omega, show (10 * y + d) % 10 = d by omega]
theorem lm_div (x j : Nat) : lm (limbs x) j = ((x / 10000 ^ j % 10000 : Nat) : Int) := by
  induction j generalizing x with
  | zero => rw [lm_zero]; simp
  | succ j ih =>
    by_cases h : x = 0
    · subst h; rw [lm_past _ _ (by simp [limbs_zero])]; simp
    · rw [limbs_pos x h]
      have e : lm (((x % 10000 : Nat) : Int) :: limbs (x / 10000)) (j + 1) = lm (limbs (x / 10000)) j := rfl
      rw [e, ih, Nat.div_div_eq_div_mul, Nat.pow_succ, Nat.mul_comm 10000]
theorem dig_at (x i : Nat) : x / 10 ^ i % 10 = x / 10000 ^ (i / 4) % 10000 / 10 ^ (i % 4) % 10 := by
  have e : (10 : Nat) ^ i = 10000 ^ (i / 4) * 10 ^ (i % 4) := by
    conv => lhs; rw [← Nat.div_add_mod i 4, Nat.pow_add, Nat.pow_mul]
  rw [e, ← Nat.div_div_eq_div_mul]
  generalize x / 10000 ^ (i / 4) = y
  rcases pow4 (i % 4) (by omega) with ⟨p, q⟩ | ⟨p, q⟩ | ⟨p, q⟩ | ⟨p, q⟩ <;> rw [p] <;> omega
theorem dig_step (x i : Nat) : x / 10 ^ i = 10 * (x / 10 ^ (i + 1)) + x / 10 ^ i % 10 := by
  rw [Nat.pow_succ, ← Nat.div_div_eq_div_mul]; omega

set_option maxHeartbeats 2000000 in
set_option maxRecDepth 20000 in
theorem ptold_pos (ao : Option Addr) (n cap : Nat) (x : Nat) (w : World) (hr : Row w ao n cap (limbs x)) (hn : n ≤ 50000) (hx : x ≠ 0) :
    Calls Tryz.prog 89 #[.slice ao n cap] w fun e w' => e = .returned (.string ⟨(decDigits x).toArray⟩) ∧ Below w.heap.size w w' := by
  have l1 := hr.len
  have hnp : 0 < n := by have h1 := limbs_ne_nil hx; have h2 := List.length_pos_iff.2 h1; omega
  have hn0 : ((n : Int) == 0) = false := by rw [beq_eq_false_iff_ne]; omega
  have HR := hid hr
  have HX := hid hx
  clear hr hx
  go_enter Tryz.func89, Tryz.ntmps89
  go_wp2
  go_loopw [3, 4] (fun vt vi wr => ∃ (k : Nat) (l : List UInt8), k ≤ 4 * n ∧ vi = .int .i64 ((k : Int) - 1) ∧ Hid (l = tl (x / 10 ^ k)) ∧ l.length + k ≤ 4 * n ∧ Hid (OwnB w.heap.size wr vt l) ∧ Hid (Below w.heap.size w wr)) (fun _ vi _ => (intOf vi + 1).toNat)
  case atStart =>
    refine ⟨4 * n, [], Nat.le_refl _, by go_num, ?_, by simp, OwnB.nil _ _, Below.refl _ _⟩
    have h1 := len_limbs_lt x
    rw [l1] at h1
    have h2 : (10 : Nat) ^ (4 * n) = 10000 ^ n := by rw [Nat.pow_mul]
    show [] = tl _
    rw [h2, Nat.div_eq_of_lt h1]; rfl
  case round =>
    obtain ⟨k, l, hk, rfl, hl, hlk, hO, hb⟩ := hrel
    have hBs := hb.out.size
    by_cases k0 : k = 0
    · subst k0
      have hlx : l = decDigits x := by rw [hl.out, Nat.pow_zero, Nat.div_one]; unfold tl; rw [if_neg HX.out]
      have hlp : 0 < l.length := by rw [hlx]; exact List.length_pos_iff.2 (dec_facts x).1
      have hrun := string_of_byt (byt_of_owns hO.out rfl hlp)
      rw [hlx] at hrun
      clear hlx
      go_wp2
      go_ret
      exact ⟨rfl, hb.out⟩
    · obtain ⟨i, rfl⟩ : ∃ i, k = i + 1 := ⟨k - 1, by omega⟩
      obtain ⟨b, o, rfl, hlt⟩ := HR.out.head (by omega)
      have d1 : wr.cell? ⟨b, o + i / 4, none⟩ = some (.int .i64 (lm (limbs x) (i / 4))) := (hb.out.cell (p := ⟨b, o + i / 4, none⟩) hlt).trans (HR.out.cell b o rfl (i / 4) (by omega))
      obtain ⟨V0, hV0, hV9⟩ : ∃ V0 : Nat, lm (limbs x) (i / 4) = V0 ∧ V0 < 10000 := ⟨_, lm_div x (i / 4), Nat.mod_lt _ (by omega)⟩
      have HV0 : Hid (V0 = x / 10000 ^ (i / 4) % 10000) := by have := lm_div x (i / 4); rw [hV0] at this; show _ = _; exact_mod_cast this
      rw [hV0] at d1
      have hi1 : (0 : Int) ≤ ((i + 1 : Nat) : Int) - 1 := by omega
      have hi4 : (i : Int) / 4 < (n : Int) := by omega
      obtain ⟨vo, vc, rfl⟩ := hO.out.shape
      clear hV0
      rw [show ((i + 1 : Nat) : Int) - 1 = (i : Int) by omega]
      go_wp2
      go_loopw [5, 6] (fun vv vj wq => ∃ (j V : Nat), j ≤ i % 4 ∧ V < 10000 ∧ Hid (V = V0 / 10 ^ j) ∧ vj = .int .i64 j ∧ vv = .int .i64 V ∧ wq = wr) (fun _ vj _ => i % 4 - (intOf vj).toNat)
      case atStart => exact ⟨0, V0, Nat.zero_le _, hV9, by show _ = _; simp, rfl, rfl, rfl⟩
      case round =>
        obtain ⟨j, V, hj, hV8, hV, rfl, rfl, rfl⟩ := hrel
        by_cases hj4 : j < i % 4
        · have hV2 : Hid (V / 10 = V0 / 10 ^ (j + 1)) := by show _ = _; rw [hV.out, Nat.div_div_eq_div_mul, Nat.pow_succ]
          have hji : (j : Int) < (i : Int) % 4 := by omega
          go_wp2
          go_roundw
          case rel => exact ⟨j + 1, V / 10, by omega, by omega, hV2.out, by go_num, by go_num, by first | exact trivial | exact rfl⟩
          case measure => simp [intOf]; omega
        · obtain rfl : j = i % 4 := by omega
          have hjn : ¬ ((i % 4 : Nat) : Int) < (i : Int) % 4 := by omega
          have hdg : Hid (V % 10 = x / 10 ^ i % 10) := by show _ = _; rw [hV.out, HV0.out]; exact (dig_at x i).symm
          have hds : Hid (x / 10 ^ i = 10 * (x / 10 ^ (i + 1)) + V % 10) := by show _ = _; rw [hdg.out]; exact dig_step x i
          obtain ⟨c, hc, hcn⟩ : ∃ c : UInt8, c = UInt8.ofNat (48 + V % 10) ∧ ((c.toNat : Nat) : Int) = 48 + (V : Int) % 10 := ⟨_, rfl, by rw [toNat_dig _ (by omega)]; omega⟩
          have hcell : (wr.alloc (.cells #[.int .u8 (48 + (V : Int) % 10)] 5)).cell? ⟨wr.heap.size, 0, none⟩ = some (.int .u8 (c.toNat : Nat)) := by rw [hcn]; exact (bx_new wr _ _).cell 0 _ rfl
          have HC := hid hcell
          have hmore : Hid (x / 10 ^ (i + 1) ≠ 0 ∨ V % 10 ≠ 0 → l ++ [c] = tl (x / 10 ^ i)) := by
            intro h
            rw [hl.out, hc, hds.out]
            exact tl_more _ _ (by omega) h
          have hlz : l.length = 0 ↔ x / 10 ^ (i + 1) = 0 := by
            rw [hl.out]
            unfold tl
            by_cases h : x / 10 ^ (i + 1) = 0
            · rw [if_pos h]; simp [h]
            · rw [if_neg h]
              have := List.length_pos_iff.2 (dec_facts (x / 10 ^ (i + 1))).1
              constructor
              · intro h2; omega
              · intro h2; exact absurd h2 h
          clear hc hcn hcell
          by_cases hl0 : l.length = 0
          · by_cases hv0 : V % 10 = 0
            · have hE : Hid (l = tl (x / 10 ^ i)) := by
                show _ = _
                rw [hds.out, hlz.1 hl0, hv0, List.length_eq_zero_iff.1 hl0]; rfl
              have hA : decide ((0 : Int) < (l.length : Int)) = false := by rw [decide_eq_false_iff_not]; omega
              have hB : decide ((0 : Int) < (V : Int) % 10) = false := by rw [decide_eq_false_iff_not]; omega
              have hA2 : decide (0 < l.length) = false := by rw [decide_eq_false_iff_not]; omega
              have hO2 := hid hO.out
              clear hlz hmore hl0 hv0
              go_wp2
              go_roundw
              case rel => exact ⟨i, l, by omega, by go_num, hE.out, by omega, hO2.out, hb.out⟩
              case measure => simp [intOf]
            · have hE := hid (hmore.out (.inr hv0))
              have hA : decide ((0 : Int) < (l.length : Int)) = false := by rw [decide_eq_false_iff_not]; omega
              have hA2 : decide (0 < l.length) = false := by rw [decide_eq_false_iff_not]; omega
              have hB : decide ((0 : Int) < (V : Int) % 10) = true := by rw [decide_eq_true_iff]; omega
              clear hlz hmore hl0 hv0
              go_wp2_with (at_builtin; refine wpList_append_b _ rfl _ _ rfl w.heap.size _ l c ⟨wr.heap.size, 0, none⟩ rfl rfl (hO.out.below ((Below.refl _ _).alloc (Nat.le_refl _) _)) HC.out (by omega) (Nat.le_trans hBs (by simp)) ?_)
              intro v' w' hO2 hB2
              have HO2 := hid hO2
              have HB2 : Hid (Below w.heap.size w w') := (hb.out.alloc hb.out.size _).trans hB2
              clear hO2 hB2
              go_wp2
              go_roundw
              case rel => exact ⟨i, _, by omega, by go_num, hE.out, by simp; omega, HO2.out, HB2.out⟩
              case measure => simp [intOf]
          · have hE := hid (hmore.out (.inl (fun h => hl0 (hlz.2 h))))
            have hA : decide ((0 : Int) < (l.length : Int)) = true := by rw [decide_eq_true_iff]; omega
            have hA2 : decide (0 < l.length) = true := by rw [decide_eq_true_iff]; omega
            clear hlz hmore
            go_wp2_with (at_builtin; refine wpList_append_b _ rfl _ _ rfl w.heap.size _ l c ⟨wr.heap.size, 0, none⟩ rfl rfl (hO.out.below ((Below.refl _ _).alloc (Nat.le_refl _) _)) HC.out (by omega) (Nat.le_trans hBs (by simp)) ?_)
            intro v' w' hO2 hB2
            have HO2 := hid hO2
            have HB2 : Hid (Below w.heap.size w w') := (hb.out.alloc hb.out.size _).trans hB2
            clear hO2 hB2
            go_wp2
            go_roundw
            case rel => exact ⟨i, _, by omega, by go_num, hE.out, by simp; omega, HO2.out, HB2.out⟩
            case measure => simp [intOf]

theorem ptold_zero (ao : Option Addr) (cap : Nat) (w : World) :
    Calls Tryz.prog 89 #[.slice ao 0 cap] w fun e w' => e = .returned (.string ⟨(decDigits 0).toArray⟩) ∧ Below w.heap.size w w' := by
  have e : Hid (decDigits 0 = [48]) := dec_small (by omega)
  rw [e.out]
  go_enter Tryz.func89, Tryz.ntmps89
  go_wp2
  go_ret
  exact ⟨rfl, Below.refl _ _⟩
theorem ptold_any (ao : Option Addr) (n cap : Nat) (x : Nat) (w : World) (hr : Row w ao n cap (limbs x)) (hn : n ≤ 50000) :
    Calls Tryz.prog 89 #[.slice ao n cap] w fun e w' => e = .returned (.string ⟨(decDigits x).toArray⟩) ∧ Below w.heap.size w w' := by
  by_cases hx : x = 0
  · subst hx
    have := hr.len
    obtain rfl : n = 0 := this.symm
    exact ptold_zero ao cap w
  · exact ptold_pos ao n cap x w hr hn hx
end Go.Proofs.YtigokanoflkinaaGreatDoor
