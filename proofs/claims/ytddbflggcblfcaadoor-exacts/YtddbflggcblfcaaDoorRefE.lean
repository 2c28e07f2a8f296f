/- portionref.over: the quotient and the rest of any two numbers. -/
import Derived.Test.YtddbflggcblfcaaDoorRefBD
namespace Go.Proofs.YtddbflggcblfcaaDoor
set_option linter.unusedSimpArgs false
set_option linter.unusedVariables false
open Go.RowKit Por

theorem Row.setInt {w : World} {ao : Option Addr} {n cap : Nat} {xs : List Int} (h : Row w ao n cap xs) (b i : Nat) (v : Value) (hne : ∀ a, ao = some a → a.block ≠ b) : Row (w.setCell ⟨b, i, none⟩ v) ao n cap xs := by
  refine ⟨h.len, h.le, h.cm, fun hn => ?_, fun b' o e hn => ?_, fun b' o e j hj => ?_⟩
  · obtain ⟨b', o, e, hlt⟩ := h.head hn
    exact ⟨b', o, e, by simpa [World.setCell] using hlt⟩
  · obtain ⟨arr, fz, hh⟩ := h.ib b' o e hn
    exact ⟨arr, fz, (heap_setCell_other w ⟨b, i, none⟩ b' v (fun e2 => hne _ e e2)).trans hh⟩
  · have h1 := h.cell b' o e j hj
    rw [← h1]
    exact World.cell?_of_block (Below.heap_setCell w _ v b' (hne _ e))
theorem own_one (w : World) (z : Int) : Own w.heap.size (w.alloc (.cells #[.int .i64 z] 3)) (.slice (some ⟨w.heap.size, 0, none⟩) 1 1) [z] :=
  ⟨rfl, .inr ⟨w.heap.size, 1, _, rfl, Nat.le_refl _, heap_alloc_new w _, Nat.le_refl _, by decide, rfl, rfl⟩⟩

theorem over_val (A o : List Int) (q r y R Q r2 : Nat) (hA : q < A.length) (ho : q < o.length) (hR : (R : Int) = lm A q + 10000 * r) (h : val (A.drop (q + 1)) = y * val (o.drop (q + 1)) + r) (hQ : R = y * Q + r2) :
    val (A.drop q) = y * val ((o.set q Q).drop q) + r2 := by
  rw [drop_cons A q hA, drop_set o q _ ho, val, val, h]
  have e : (R : Int) = y * Q + r2 := by exact_mod_cast hQ
  rw [e] at hR
  generalize val (o.drop (q + 1)) = V
  grind
theorem over_val0 (A o : List Int) (q r y R : Nat) (hA : q < A.length) (ho : q < o.length) (hR : (R : Int) = lm A q + 10000 * r) (h : val (A.drop (q + 1)) = y * val (o.drop (q + 1)) + r) (hz : lm o q = 0) :
    val (A.drop q) = y * val (o.drop q) + R := by
  rw [drop_cons A q hA, drop_cons o q ho, val, val, h, hz]
  generalize val (o.drop (q + 1)) = V
  grind
theorem lim_cons {x : Int} {xs : List Int} (h0 : 0 ≤ x) (h1 : x < 10000) (h : Lim xs) : Lim (x :: xs) := by
  intro z hz
  rcases List.mem_cons.1 hz with rfl | hz
  · exact ⟨h0, h1⟩
  · exact h z hz

set_option maxHeartbeats 2000000 in
set_option maxRecDepth 20000 in
theorem pover_any (ao bo : Option Addr) (n capa m capb : Nat) (x y : Nat) (w : World) (hr : Row w ao n capa (limbs x)) (hs : Row w bo m capb (limbs y)) (hn : n ≤ 10000) (hm : m ≤ 10000) (hy : y ≠ 0) :
    Calls Tryd.prog 98 #[.slice ao n capa, .slice bo m capb] w fun e w' => ∃ u v, e = .returned (.tuple #[u, v]) ∧ Sli w.heap.size w' u (x / y) ∧ Sli w.heap.size w' v (x % y) ∧ Below w.heap.size w w' := by
  have l1 := hr.len
  have l2 := hs.len
  have HR := hid (hr)
  have HS := hid (hs)
  have HY := hid hy
  clear hr hs hy
  go_enter Tryd.func98, Tryd.ntmps98
  go_wp2_with (at_make; refine wpList_make_ints _ rfl _ _ rfl _ _ n rfl rfl (by omega) (by omega) (by omega) ?_)
  intro w1 hk1 hb1 hz1
  have HB1 := hid (hb1)
  have HK1 := hid (hk1)
  clear hb1 hk1
  go_wp2
  go_loopw [7, 8] (fun vr vi wr => ∃ (k r : Nat) (out : List Int) (ro : Option Addr) (rn rc : Nat), k ≤ n ∧ rn ≤ m ∧ vi = .int .i64 ((k : Int) - 1) ∧ vr = .slice ro rn rc ∧ Hid (Row wr ro rn rc (limbs r)) ∧ Hid (Fr (w.heap.size + 1) ro rc) ∧ Hid (r < y) ∧ out.length = n ∧ Hid (Lim out) ∧ Hid (∀ i, i < k → lm out i = 0) ∧
      Hid (val ((limbs x).drop k) = y * val (out.drop k) + r) ∧ Hid (Blk wr w.heap.size out) ∧ Hid (Below w.heap.size w wr)) (fun _ vi _ => (intOf vi + 1).toNat)
  case atStart => exact ⟨n, 0, _, none, 0, 0, Nat.le_refl _, Nat.zero_le _, rfl, rfl, Row.nil _, ⟨fun _ => rfl, fun a h => by cases h⟩, by have := HY.out; show _ < _; omega, by simp, lim_replicate _, fun i _ => lm_replicate _ i, by show _ = _; rw [List.drop_of_length_le (by omega), List.drop_of_length_le (by simp)]; simp [val], HK1.out, HB1.out⟩
  case round =>
    obtain ⟨k, r, out, ro, rn, rc, hk, hrn, rfl, rfl, hrr, hrne, hry, hol, hLim, hz, hval, hblk, hb⟩ := hrel
    have hgw : w.heap.size < wr.heap.size := hblk.out.lt
    by_cases h0 : k = 0
    · subst h0
      have hdm : Hid ((val out).toNat = x / y ∧ r = x % y) := by
        have h := hval.out
        rw [List.drop_zero, List.drop_zero, val_limbs] at h
        have hv := val_nonneg hLim.out
        refine divmod_of x y _ r ?_ hry.out
        obtain ⟨V, hV⟩ : ∃ V : Nat, val out = V := ⟨(val out).toNat, by omega⟩
        rw [hV] at h ⊢
        rw [Int.toNat_natCast, Nat.mul_comm]
        exact_mod_cast h
      have hrow := hid (Blk.row0 hblk.out n n (by omega) (Nat.le_refl _) (by unfold maxLen; omega))
      go_wp2_with fail
      refine (pcut_any _ n n out _ hrow.out hLim.out (by omega)).mono ?_
      rintro e w4 ⟨j, hj, hj2, rfl, rfl⟩
      have HR2 := hid (row_of_cut hrow.out hj hj2 hdm.out.1)
      clear hj2
      go_wp2
      go_ret2
      exact ⟨_, _, rfl, ⟨_, _, _, rfl, HR2.out, Fr.here _ _ _⟩, ⟨_, _, _, rfl, by rw [← hdm.out.2]; exact hrr.out, hrne.out.mono (by omega)⟩, hb.out⟩
    · obtain ⟨q, rfl⟩ : ∃ q, k = q + 1 := ⟨k - 1, by omega⟩
      obtain ⟨ba, oa, rfl, hla⟩ := HR.out.head (by omega)
      have d1 : wr.cell? ⟨ba, oa + q, none⟩ = some (.int .i64 (lm (limbs x) q)) := (hb.out.cell (p := ⟨ba, oa + q, none⟩) hla).trans (HR.out.cell ba oa rfl q (by omega))
      obtain ⟨bx0, bx1⟩ := lim_getD (lim_limbs x) q
      have hq1 : (0 : Int) ≤ ((q + 1 : Nat) : Int) - 1 := by omega
      obtain ⟨R, hR⟩ : ∃ R : Nat, (R : Int) = lm (limbs x) q + 10000 * r := ⟨(lm (limbs x) q + 10000 * r).toNat, by omega⟩
      have HRR := hid hR
      have hrl := hrr.out.len
      have hRy : Hid (R < 10000 * y) := by have := hry.out; show _ < _; omega
      have hvR : Hid ((val (lm (limbs x) q :: limbs r)).toNat = R) := by show _ = _; rw [val, val_limbs]; omega
      have hLR := hid (lim_cons bx0 bx1 (lim_limbs r))
      clear hR
      have hval' := hval
      clear hval
      cases ro with
      | none =>
        have hrc := hrne.out.1 rfl
        have hrn0 : rn = 0 := by
          rcases Nat.eq_zero_or_pos rn with h | h
          · exact h
          · obtain ⟨b, o, e, _⟩ := hrr.out.head h; cases e
        subst hrc hrn0
        have hr0 : limbs r = [] := List.length_eq_zero_iff.1 hrl
        obtain ⟨po, pc, pe, hrow2, hpne⟩ := (own_one wr (lm (limbs x) q)).row
        cases pe
        have hrow3 : Row (wr.alloc (.cells #[.int .i64 (lm (limbs x) q)] 3)) (some ⟨wr.heap.size, 0, none⟩) (0 + 1) 1 (lm (limbs x) q :: limbs r) := by rw [hr0]; exact hrow2
        clear hrow2
        have HBA : Hid (Below wr.heap.size wr (wr.alloc (.cells #[.int .i64 (lm (limbs x) q)] 3))) := (Below.refl _ _).alloc (Nat.le_refl _) _
        clear hr0
        go_wp2_with (at_builtin; refine wpList_append_nil _ rfl _ _ rfl wr.heap.size _ [lm (limbs x) q] rfl rfl (own_one wr _) ?_)
        generalize wr.alloc (.cells #[.int .i64 (lm (limbs x) q)] 3) = w2 at *
        have HROW := hid hrow3
        clear hrow3
        have HB2 : Hid (Below w.heap.size w w2) := hb.out.trans (HBA.out.mono (by omega))
        have hblk2 : Hid (Blk w2 w.heap.size out) := hblk.out.below HBA.out hgw
        refine (pcut_any (some ⟨wr.heap.size, 0, none⟩) (0 + 1) 1 _ _ HROW.out hLR.out (by omega)).mono ?_
        rintro e w3 ⟨j, hj, hj2, rfl, rfl⟩
        have HR2 := hid (row_of_cut HROW.out hj hj2 hvR.out)
        have hrs : Hid (Row w3 bo m capb (limbs y)) := HS.out.below HB2.out
        have hjl := HR2.out.len
        have hjm : j ≤ m + 1 := by omega
        clear hj2 HROW HBA
        go_wp2_with fail
        refine (pcmp_any (some ⟨wr.heap.size, 0, none⟩) bo j 1 m capb R y _ HR2.out hrs.out (by omega) (by omega)).mono ?_
        rintro e w4 ⟨rfl, hb4⟩
        have HB4 : Hid (Below w.heap.size w w4) := HB2.out.trans (hb4.mono HB2.out.size)
        have hblk4 : Hid (Blk w4 w.heap.size out) := hblk2.out.below hb4 hblk2.out.lt
        have HR4 := hid (HR2.out.below hb4)
        have hrs4 := hid (hrs.out.below hb4)
        obtain ⟨c0, c1⟩ := cmp3_bd (R : Int) (y : Int)
        have hlt9 : R < y → cmp3 (R : Int) (y : Int) = -1 := fun h => by unfold cmp3; rw [if_pos (by omega)]
        have hge9 : y ≤ R → 0 ≤ cmp3 (R : Int) (y : Int) := fun h => by unfold cmp3; rw [if_neg (by omega)]; split <;> omega
        generalize cmp3 (R : Int) (y : Int) = C at *
        clear hb4
        by_cases hRy2 : R < y
        · have hc := hlt9 hRy2
          subst hc
          have HV := hid (over_val0 (limbs x) out q r y R (by omega) (by omega) HRR.out hval'.out (hz.out q (by omega)))
          have HRy2 := hid hRy2
          have hjm2 : j ≤ m := by have := @len_mono R y (by omega); omega
          clear hRy2 hlt9 hge9
          go_wp2
          go_roundw
          case rel => exact ⟨q, R, out, (some ⟨wr.heap.size, 0, none⟩), j, 1, by omega, hjm2, by go_num, rfl, HR4.out, hpne.mono (by omega), HRy2.out, hol, hLim.out, fun i hi => hz.out i (by omega), HV.out, hblk4.out, HB4.out⟩
          case measure => simp [intOf]
        · have hc := hge9 (by omega)
          obtain ⟨Q, hQ⟩ : ∃ Q : Nat, Q = R / y := ⟨_, rfl⟩
          have HQ := hid hQ
          have hQ1 : Q < 10000 := by rw [hQ]; exact Nat.div_lt_of_lt_mul (by have := hRy.out; rw [Nat.mul_comm]; exact this)
          have hdm : Hid (R = y * Q + R % y) := by show _ = _; rw [hQ]; exact (Nat.div_add_mod R y).symm
          have HV := hid (over_val (limbs x) out q r y R Q (R % y) (by omega) (by omega) HRR.out hval'.out hdm.out)
          have hle : Hid (y * Q ≤ R) := by have := hdm.out; show _ ≤ _; omega
          have hsub : Hid (R - y * Q = R % y) := by have := hdm.out; show _ = _; omega
          have hmy : Hid (R % y < y) := Nat.mod_lt _ (by have := HY.out; omega)
          have hqs : (limbs Q).length ≤ 1 := len_limbs_le (by omega)
          clear hRy2 hlt9 hge9 hQ
          go_wp2_with fail
          refine (poften_any (some ⟨wr.heap.size, 0, none⟩) bo j 1 m capb R y _ HR4.out hrs4.out (by omega) (by omega) hRy.out Q HQ.out).mono ?_
          rintro e w5 ⟨rfl, hb5⟩
          have HB5 : Hid (Below w.heap.size w w5) := HB4.out.trans (hb5.mono HB4.out.size)
          have hblk5 : Hid (Blk w5 w.heap.size out) := hblk4.out.below hb5 hblk4.out.lt
          have HR5 := hid (HR4.out.below hb5)
          have hrs5 := hid (hrs4.out.below hb5)
          clear hb5
          go_wp2_with fail
          refine (pwhole_any Q _ (by omega)).mono ?_
          rintro e w6 ⟨v, rfl, ⟨co, p, capc, rfl, hrc6, _⟩, hb6⟩
          have HRC := hid hrc6
          have hpl := hrc6.len
          have HB6 : Hid (Below w.heap.size w w6) := HB5.out.trans (hb6.mono HB5.out.size)
          have hblk6 : Hid (Blk w6 w.heap.size out) := hblk5.out.below hb6 hblk5.out.lt
          have HR6 := hid (HR5.out.below hb6)
          have hrs6 := hid (hrs5.out.below hb6)
          clear hb6 hrc6
          go_wp2_with fail
          refine (ptimes_any bo co m capb p capc y Q _ hrs6.out HRC.out (by omega) (by omega)).mono ?_
          rintro e w7 ⟨v, rfl, ⟨eo, u, cape, rfl, hrd, _⟩, hb7⟩
          have HRD := hid hrd
          have hul := hrd.len
          have hul2 := len_mul y Q
          have HB7 : Hid (Below w.heap.size w w7) := HB6.out.trans (hb7.mono HB6.out.size)
          have hblk7 : Hid (Blk w7 w.heap.size out) := hblk6.out.below hb7 hblk6.out.lt
          have HR7 := hid (HR6.out.below hb7)
          clear hb7 hrd
          go_wp2_with fail
          refine (pless_any (some ⟨wr.heap.size, 0, none⟩) eo j 1 u cape R (y * Q) _ HR7.out HRD.out (by omega) (by omega) hle.out).mono ?_
          rintro e w8 ⟨v, rfl, ⟨so, t, caps, rfl, hre, hsne⟩, hb8⟩
          rw [hsub.out] at hre
          have HRE := hid hre
          have htl := hre.len
          have htm := @len_mono (R % y) y (Nat.le_of_lt hmy.out)
          have HB8 : Hid (Below w.heap.size w w8) := HB7.out.trans (hb8.mono HB7.out.size)
          have hblk8 : Hid (Blk w8 w.heap.size out) := hblk7.out.below hb8 hblk7.out.lt
          clear hb8 hre
          have g1 := hblk8.out.cell q (by omega)
          have g2 := hblk8.out.frozen q
          have hgw8 : w.heap.size < w8.heap.size := hblk8.out.lt
          have hgw7 : w.heap.size < w7.heap.size := hblk7.out.lt
          have hqn : (q : Int) < (n : Int) := by omega
          go_wp2
          go_roundw
          case rel => exact ⟨q, R % y, _, so, t, caps, by omega, by omega, by go_num, rfl, HRE.out.setInt _ _ _ (fun a e => by have := hsne.2 a e; omega), hsne.mono (by omega), hmy.out, by simpa using hol, lim_set hLim.out q _ (by omega) (by omega), fun i hi => (lm_set out q i _ (by omega)).trans (hz.out i (by omega)), HV.out, hblk8.out.set q _, HB8.out.setCell (Nat.le_refl _) _⟩
          case measure => simp [intOf]
      | some ad =>
        have HNW : Hid (∀ j, j < rn → (wr.alloc (.cells #[.int .i64 (lm (limbs x) q)] 3)).cell? (ad.add j) = some (.int .i64 (lm (limbs r) j))) := by
          intro j hj
          have hrr2 := hrr.out.below ((Below.refl _ wr).alloc (Nat.le_refl _) (.cells #[.int .i64 (lm (limbs x) q)] 3))
          obtain ⟨b, o, e, _⟩ := hrr2.head (by omega)
          cases e
          have := hrr2.cell b o rfl j hj
          rcases Nat.eq_zero_or_pos j with h | h
          · subst h; simpa [Addr.add] using this
          · simp only [Addr.add, Nat.ne_of_gt h, if_false]; exact this
        go_wp2_with (at_builtin; refine wpList_append_ints _ rfl _ _ rfl wr.heap.size _ [lm (limbs x) q] ad rn rc (limbs r) rfl rfl (own_one wr _) hrl HNW.out (by show 1 + rn ≤ _; omega) (by simp) ?_)
        intro v2 w2 hO hB2
        have HO := hid hO
        have HBA : Hid (Below wr.heap.size wr w2) := ((Below.refl _ wr).alloc (Nat.le_refl _) _).trans hB2
        clear hO hB2 HNW
        have hcl : (lm (limbs x) q :: limbs r).length = rn + 1 := by rw [List.length_cons, hrl]
        obtain ⟨po, pc, hpe, hrow3, hpne⟩ := HO.out.row
        rw [hcl] at hpe hrow3
        subst hpe
        clear hcl HO
        go_wp2_with fail
        have HROW := hid hrow3
        clear hrow3
        have HB2 : Hid (Below w.heap.size w w2) := hb.out.trans (HBA.out.mono (by omega))
        have hblk2 : Hid (Blk w2 w.heap.size out) := hblk.out.below HBA.out hgw
        refine (pcut_any po (rn + 1) pc _ _ HROW.out hLR.out (by omega)).mono ?_
        rintro e w3 ⟨j, hj, hj2, rfl, rfl⟩
        have HR2 := hid (row_of_cut HROW.out hj hj2 hvR.out)
        have hrs : Hid (Row w3 bo m capb (limbs y)) := HS.out.below HB2.out
        have hjl := HR2.out.len
        have hjm : j ≤ m + 1 := by omega
        clear hj2 HROW HBA
        go_wp2_with fail
        refine (pcmp_any po bo j pc m capb R y _ HR2.out hrs.out (by omega) (by omega)).mono ?_
        rintro e w4 ⟨rfl, hb4⟩
        have HB4 : Hid (Below w.heap.size w w4) := HB2.out.trans (hb4.mono HB2.out.size)
        have hblk4 : Hid (Blk w4 w.heap.size out) := hblk2.out.below hb4 hblk2.out.lt
        have HR4 := hid (HR2.out.below hb4)
        have hrs4 := hid (hrs.out.below hb4)
        obtain ⟨c0, c1⟩ := cmp3_bd (R : Int) (y : Int)
        have hlt9 : R < y → cmp3 (R : Int) (y : Int) = -1 := fun h => by unfold cmp3; rw [if_pos (by omega)]
        have hge9 : y ≤ R → 0 ≤ cmp3 (R : Int) (y : Int) := fun h => by unfold cmp3; rw [if_neg (by omega)]; split <;> omega
        generalize cmp3 (R : Int) (y : Int) = C at *
        clear hb4
        by_cases hRy2 : R < y
        · have hc := hlt9 hRy2
          subst hc
          have HV := hid (over_val0 (limbs x) out q r y R (by omega) (by omega) HRR.out hval'.out (hz.out q (by omega)))
          have HRy2 := hid hRy2
          have hjm2 : j ≤ m := by have := @len_mono R y (by omega); omega
          clear hRy2 hlt9 hge9
          go_wp2
          go_roundw
          case rel => exact ⟨q, R, out, po, j, pc, by omega, hjm2, by go_num, rfl, HR4.out, hpne.mono (by omega), HRy2.out, hol, hLim.out, fun i hi => hz.out i (by omega), HV.out, hblk4.out, HB4.out⟩
          case measure => simp [intOf]
        · have hc := hge9 (by omega)
          obtain ⟨Q, hQ⟩ : ∃ Q : Nat, Q = R / y := ⟨_, rfl⟩
          have HQ := hid hQ
          have hQ1 : Q < 10000 := by rw [hQ]; exact Nat.div_lt_of_lt_mul (by have := hRy.out; rw [Nat.mul_comm]; exact this)
          have hdm : Hid (R = y * Q + R % y) := by show _ = _; rw [hQ]; exact (Nat.div_add_mod R y).symm
          have HV := hid (over_val (limbs x) out q r y R Q (R % y) (by omega) (by omega) HRR.out hval'.out hdm.out)
          have hle : Hid (y * Q ≤ R) := by have := hdm.out; show _ ≤ _; omega
          have hsub : Hid (R - y * Q = R % y) := by have := hdm.out; show _ = _; omega
          have hmy : Hid (R % y < y) := Nat.mod_lt _ (by have := HY.out; omega)
          have hqs : (limbs Q).length ≤ 1 := len_limbs_le (by omega)
          clear hRy2 hlt9 hge9 hQ
          go_wp2_with fail
          refine (poften_any po bo j pc m capb R y _ HR4.out hrs4.out (by omega) (by omega) hRy.out Q HQ.out).mono ?_
          rintro e w5 ⟨rfl, hb5⟩
          have HB5 : Hid (Below w.heap.size w w5) := HB4.out.trans (hb5.mono HB4.out.size)
          have hblk5 : Hid (Blk w5 w.heap.size out) := hblk4.out.below hb5 hblk4.out.lt
          have HR5 := hid (HR4.out.below hb5)
          have hrs5 := hid (hrs4.out.below hb5)
          clear hb5
          go_wp2_with fail
          refine (pwhole_any Q _ (by omega)).mono ?_
          rintro e w6 ⟨v, rfl, ⟨co, p, capc, rfl, hrc6, _⟩, hb6⟩
          have HRC := hid hrc6
          have hpl := hrc6.len
          have HB6 : Hid (Below w.heap.size w w6) := HB5.out.trans (hb6.mono HB5.out.size)
          have hblk6 : Hid (Blk w6 w.heap.size out) := hblk5.out.below hb6 hblk5.out.lt
          have HR6 := hid (HR5.out.below hb6)
          have hrs6 := hid (hrs5.out.below hb6)
          clear hb6 hrc6
          go_wp2_with fail
          refine (ptimes_any bo co m capb p capc y Q _ hrs6.out HRC.out (by omega) (by omega)).mono ?_
          rintro e w7 ⟨v, rfl, ⟨eo, u, cape, rfl, hrd, _⟩, hb7⟩
          have HRD := hid hrd
          have hul := hrd.len
          have hul2 := len_mul y Q
          have HB7 : Hid (Below w.heap.size w w7) := HB6.out.trans (hb7.mono HB6.out.size)
          have hblk7 : Hid (Blk w7 w.heap.size out) := hblk6.out.below hb7 hblk6.out.lt
          have HR7 := hid (HR6.out.below hb7)
          clear hb7 hrd
          go_wp2_with fail
          refine (pless_any po eo j pc u cape R (y * Q) _ HR7.out HRD.out (by omega) (by omega) hle.out).mono ?_
          rintro e w8 ⟨v, rfl, ⟨so, t, caps, rfl, hre, hsne⟩, hb8⟩
          rw [hsub.out] at hre
          have HRE := hid hre
          have htl := hre.len
          have htm := @len_mono (R % y) y (Nat.le_of_lt hmy.out)
          have HB8 : Hid (Below w.heap.size w w8) := HB7.out.trans (hb8.mono HB7.out.size)
          have hblk8 : Hid (Blk w8 w.heap.size out) := hblk7.out.below hb8 hblk7.out.lt
          clear hb8 hre
          have g1 := hblk8.out.cell q (by omega)
          have g2 := hblk8.out.frozen q
          have hgw8 : w.heap.size < w8.heap.size := hblk8.out.lt
          have hgw7 : w.heap.size < w7.heap.size := hblk7.out.lt
          have hqn : (q : Int) < (n : Int) := by omega
          go_wp2
          go_roundw
          case rel => exact ⟨q, R % y, _, so, t, caps, by omega, by omega, by go_num, rfl, HRE.out.setInt _ _ _ (fun a e => by have := hsne.2 a e; omega), hsne.mono (by omega), hmy.out, by simpa using hol, lim_set hLim.out q _ (by omega) (by omega), fun i hi => (lm_set out q i _ (by omega)).trans (hz.out i (by omega)), HV.out, hblk8.out.set q _, HB8.out.setCell (Nat.le_refl _) _⟩
          case measure => simp [intOf]
end Go.Proofs.YtddbflggcblfcaaDoor
