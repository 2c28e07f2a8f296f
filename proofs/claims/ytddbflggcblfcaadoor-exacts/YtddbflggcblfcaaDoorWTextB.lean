/- Number.Text of package natural: the decimal numeral of any number. -/
import Derived.Test.YtddbflggcblfcaaDoorWText
namespace Go.Proofs.YtddbflggcblfcaaDoor
set_option linter.unusedSimpArgs false
set_option linter.unusedVariables false
open Go.RowKit Por
open Go.Lib (decDigits)

theorem val_drop_step (xs : List Int) (i : Nat) (h : i < xs.length) : val (xs.drop i) = lm xs i + 10000 * val (xs.drop (i + 1)) := by
  rw [List.drop_eq_getElem_cons h, val]
  unfold lm; simp [h]

theorem drop_pos (m k : Nat) (hk : k < (limbs m).length) : 1 ≤ val ((limbs m).drop k) := by
  have hL := lim_drop (lim_limbs m) k
  have h0 := val_nonneg hL
  by_cases h : 1 ≤ val ((limbs m).drop k)
  · exact h
  · exfalso
    have e : val ((limbs m).drop k) = 0 := by omega
    have ht : Topped ((limbs m).drop k) := by
      have := topped_limbs m
      unfold Topped at *
      rw [List.getLast?_drop, if_neg (by omega)]
      exact this
    have := limbs_of hL ht
    rw [e] at this
    have h2 := congrArg List.length this
    rw [List.length_drop] at h2
    have : (limbs (Int.toNat 0)).length = 0 := rfl
    omega

theorem text_step (m k : Nat) (hk : k + 1 < (limbs m).length) : decDigits (val ((limbs m).drop (k + 1))).toNat ++ pad4 (lm (limbs m) k).toNat = decDigits (val ((limbs m).drop k)).toNat := by
  have h1 := drop_pos m (k + 1) hk
  have h2 := lim_getD (lim_limbs m) k
  have h3 := val_drop_step (limbs m) k (by omega)
  rw [← dec_pad _ _ (by omega) (by omega)]
  congr 1
  omega

theorem dec_len_of (m n : Nat) (h : (limbs m).length = n) : (decDigits m).length ≤ 4 * n + 1 := by
  refine len_dec_lt (by omega) ?_
  have := len_limbs_lt m
  rw [h] at this
  have e : (10000 : Nat) ^ n = 10 ^ (4 * n) := by rw [Nat.pow_mul]
  rw [Nat.pow_succ]; omega

set_option maxHeartbeats 1000000 in
theorem text_any (ao : Option Addr) (n cap m : Nat) (w : World) (hr : Row w ao n cap (limbs m)) (hn : n ≤ 40000) (ht : Tab w) :
    Calls Tryd.prog 91 #[.agg #[.slice ao n cap]] w fun e w' => e = .returned (.string ⟨(decDigits m).toArray⟩) ∧ Below w.heap.size w w' := by
  have l1 := hr.len
  have X0 := hid (bx_new w #[.slice ao n cap] 74)
  have hb0 := hid ((Below.refl _ w).alloc (Nat.le_refl _) (.cells #[.slice ao n cap] 74))
  by_cases h0 : n = 0
  · have hm : m = 0 := limbs_eq_nil.1 (List.eq_nil_of_length_eq_zero (by omega))
    subst h0
    have e : decDigits 0 = [48] := by rw [dec_small (by omega)]; rfl
    rw [hm, e]
    clear hr
    go_enter Tryd.func91, Tryd.ntmps91
    go_wp2
    go_ret
    exact ⟨rfl, hb0.out⟩
  · obtain ⟨b, o, rfl, hlt⟩ := hr.head (by omega)
    obtain ⟨q, rfl⟩ : ∃ q, n = q + 1 := ⟨n - 1, by omega⟩
    have d1 := hr.cell b o rfl q (by omega)
    have HR := hid hr
    have HT := hid (ht.below hb0.out)
    obtain ⟨t0, t1⟩ := lim_getD (lim_limbs m) q
    have hit : Hid (Go.Lib.itoa (lm (limbs m) q) = decDigits (lm (limbs m) q).toNat) := by show _ = _; unfold Go.Lib.itoa; rw [if_neg (by omega)]
    have hil : Hid ((Go.Lib.itoa (lm (limbs m) q)).length ≤ 4) := by
      show _ ≤ _
      rw [hit.out]; exact len_dec_lt (by omega) (by omega)
    have h0' : (((q : Int) + 1) == 0) = false := by rw [beq_eq_false_iff_ne]; omega
    clear hr ht
    go_enter Tryd.func91, Tryd.ntmps91
    go_wp2_with fail
    refine (itoa_any _ (by omega) (by omega) _ HT.out).mono ?_
    rintro e w2 ⟨rfl, hb2⟩
    obtain ⟨v, w3, hrun, hB, hb3⟩ := byt_of_string w2 ⟨(Go.Lib.itoa (lm (limbs m) q)).toArray⟩ (by
      have := hil.out
      show (Go.Lib.itoa (lm (limbs m) q)).toArray.size ≤ _
      rw [List.size_toArray]; omega)
    have hs2 := hb2.size
    simp only [World.size_alloc] at hs2
    have HB3 : Hid (Below w.heap.size w w3) := hb0.out.trans ((hb2.mono (by simp)).trans (hb3.mono (by omega)))
    have X3 : Hid (Bx w3 w.heap.size #[.slice (some ⟨b, o, none⟩) (q + 1) cap] 74) := (X0.out.below hb2 X0.out.lt).below hb3 (by omega)
    have HB : Hid (Byt (w.heap.size + 1) w3 v (decDigits (val ((limbs m).drop q)).toNat)) := by
      have e1 : val ((limbs m).drop q) = lm (limbs m) q := by
        rw [val_drop_step _ q (by omega), List.drop_of_length_le (by omega)]; simp [val]
      rw [e1, ← hit.out]
      exact hB.mono (by omega)
    clear hb2 hb3 hB
    go_wp2
    go_loopw [5, 6] (fun vt vi wr => ∃ k : Nat, k ≤ q ∧ vi = .int .i64 ((k : Int) - 1) ∧ Hid (Byt (w.heap.size + 1) wr vt (decDigits (val ((limbs m).drop k)).toNat)) ∧ Hid (Below (w.heap.size + 1) w3 wr)) (fun _ vi _ => (intOf vi + 1).toNat)
    case atStart => exact ⟨q, Nat.le_refl _, by go_num, HB.out, Below.refl _ _⟩
    case round =>
      obtain ⟨k, hk, rfl, hB, hb⟩ := hrel
      by_cases k0 : k = 0
      · subst k0
        have hrun2 := string_of_byt hB.out
        have e : Hid ((val ((limbs m).drop 0)).toNat = m) := by
          show _ = _
          rw [List.drop_zero, val_limbs]; omega
        rw [e.out] at hrun2
        go_wp2
        go_ret
        exact ⟨rfl, HB3.out.trans (hb.out.mono (by omega))⟩
      · obtain ⟨p, rfl⟩ : ∃ p, k = p + 1 := ⟨k - 1, by omega⟩
        have hq1 : (0 : Int) ≤ ((p + 1 : Nat) : Int) - 1 := by omega
        have x1 := (X3.out.below hb.out (by omega)).cell 0 _ rfl
        have HBw : Hid (Below w.heap.size w wr) := HB3.out.trans (hb.out.mono (by omega))
        have d2 : wr.cell? ⟨b, o + p, none⟩ = some (.int .i64 (lm (limbs m) p)) := (HBw.out.cell (p := ⟨b, o + p, none⟩) hlt).trans (HR.out.cell b o rfl p (by omega))
        have hst := hid (text_step m p (by omega))
        obtain ⟨u0, u1⟩ := lim_getD (lim_limbs m) p
        have hlen : Hid ((decDigits (val ((limbs m).drop (p + 1))).toNat).length ≤ 900000) := by
          have h1 := len_dec_lt (n := (val ((limbs m).drop (p + 1))).toNat) (k := 4 * ((limbs m).length - (p + 1)) + 1) (by omega) (by
            have h2 := val_lt (lim_drop (lim_limbs m) (p + 1))
            rw [List.length_drop] at h2
            have e1 : ((10000 ^ ((limbs m).length - (p + 1)) : Nat) : Int) = 10000 ^ ((limbs m).length - (p + 1)) := Int.natCast_pow 10000 _
            have e2 : (10000 : Nat) ^ ((limbs m).length - (p + 1)) = 10 ^ (4 * ((limbs m).length - (p + 1))) := by rw [Nat.pow_mul]
            have hp : 0 < (10000 : Nat) ^ ((limbs m).length - (p + 1)) := Nat.pow_pos (by omega)
            rw [Nat.pow_succ, ← e2]
            generalize (10000 : Nat) ^ ((limbs m).length - (p + 1)) = P at *
            omega)
          show _ ≤ _
          omega
        have hsw : w.heap.size + 1 ≤ wr.heap.size := by
          obtain ⟨g, cap', _, h1, h2, _⟩ := hB.out
          omega
        clear d1
        go_wp2_with fail
        rw [show lm (limbs m) p = ((lm (limbs m) p).toNat : Int) from by omega]
        refine (appendLimb_any (w.heap.size + 1) _ _ (lm (limbs m) p).toNat _ hB.out (by omega) hlen.out hsw).mono ?_
        rintro e w4 ⟨v', rfl, hB4, hb4⟩
        rw [hst.out] at hB4
        have HB4 := hid hB4
        have Hb4 := hid hb4
        clear hB4 hb4
        go_wp2
        go_roundw
        case rel => exact ⟨p, by omega, by go_num, HB4.out, hb.out.trans Hb4.out⟩
        case measure => simp [intOf]
end Go.Proofs.YtddbflggcblfcaaDoor
