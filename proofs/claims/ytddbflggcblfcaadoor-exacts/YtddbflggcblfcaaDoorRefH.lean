/- portionref.heard: the number that any digits tell. -/
import Derived.Test.YtddbflggcblfcaaDoorRefBD
import Derived.Test.YtddbflggcblfcaaDoorRefG
namespace Go.Proofs.YtddbflggcblfcaaDoor
set_option linter.unusedSimpArgs false
set_option linter.unusedVariables false
open Go.RowKit Por

/-- what is heard when k letters are read, c are to come -/
structure Heard (l : List UInt8) (o : List Int) (c : Nat) : Prop where
  lim : Lim o
  zero : ∀ j, j < c / 4 → lm o j = 0
  part : lm o (c / 4) % ((10 ^ (c % 4) : Nat) : Int) = 0
  val : val o = (dv (l.take (l.length - c)) * 10 ^ c : Nat)

theorem pow4 (j : Nat) (h : j < 4) : (10 : Nat) ^ j = 1 ∧ j = 0 ∨ (10 : Nat) ^ j = 10 ∧ j = 1 ∨ (10 : Nat) ^ j = 100 ∧ j = 2 ∨ (10 : Nat) ^ j = 1000 ∧ j = 3 := by
  match j, h with
  | 0, _ => simp
  | 1, _ => simp
  | 2, _ => simp
  | 3, _ => simp

theorem Heard.lt {l : List UInt8} {o : List Int} {c : Nat} (h : Heard l o (c + 1)) : 0 ≤ lm o (c / 4) ∧ lm o (c / 4) + 9 * ((10 ^ (c % 4) : Nat) : Int) < 10000 ∧ lm o (c / 4) % (10 * ((10 ^ (c % 4) : Nat) : Int)) = 0 := by
  obtain ⟨b0, b1⟩ := lim_getD h.lim (c / 4)
  rcases Nat.lt_or_ge (c % 4) 3 with h3 | h3
  · have e1 : (c + 1) / 4 = c / 4 := by omega
    have e2 : (c + 1) % 4 = c % 4 + 1 := by omega
    have hp := h.part
    rw [e1, e2] at hp
    rcases pow4 (c % 4) (by omega) with ⟨p, q⟩ | ⟨p, q⟩ | ⟨p, q⟩ | ⟨p, q⟩
    · rw [q] at hp; rw [p]; simp at hp ⊢; omega
    · rw [q] at hp; rw [p]; simp at hp ⊢; omega
    · rw [q] at hp; rw [p]; simp at hp ⊢; omega
    · omega
  · have hz := h.zero (c / 4) (by omega)
    have e : c % 4 = 3 := by omega
    rw [hz, e]; decide

theorem Heard.step {l : List UInt8} {o : List Int} {c d : Nat} (h : Heard l o (c + 1)) (hc : c + 1 ≤ l.length) (ho : c / 4 < o.length) (hd : d ≤ 9) (hl : (l[l.length - (c + 1)]'(by omega)).toNat - 48 = d) :
    Heard l (o.set (c / 4) (lm o (c / 4) + (d : Int) * ((10 ^ (c % 4) : Nat) : Int))) c := by
  obtain ⟨h0, h1, h2⟩ := h.lt
  have hb : 0 ≤ (d : Int) * ((10 ^ (c % 4) : Nat) : Int) ∧ (d : Int) * ((10 ^ (c % 4) : Nat) : Int) ≤ 9 * ((10 ^ (c % 4) : Nat) : Int) := by
    have hp : (0 : Int) ≤ ((10 ^ (c % 4) : Nat) : Int) := Int.natCast_nonneg _
    exact ⟨Int.mul_nonneg (by omega) hp, Int.mul_le_mul_of_nonneg_right (by omega) hp⟩
  refine ⟨lim_set h.lim _ _ (by omega) (by omega), fun j hj => ?_, ?_, ?_⟩
  · rw [lm_set _ _ _ _ (by omega)]
    exact h.zero j (by omega)
  · have e : lm (o.set (c / 4) (lm o (c / 4) + (d : Int) * ((10 ^ (c % 4) : Nat) : Int))) (c / 4) = lm o (c / 4) + (d : Int) * ((10 ^ (c % 4) : Nat) : Int) := by unfold lm; simp [ho]
    rw [e, Int.add_mul_emod_self_right]
    rcases pow4 (c % 4) (by omega) with ⟨p, q⟩ | ⟨p, q⟩ | ⟨p, q⟩ | ⟨p, q⟩ <;> rw [p] at h2 ⊢ <;> simp at h2 ⊢ <;> omega
  · rw [val_set o _ _ ho, h.val]
    have e1 : l.length - c = (l.length - (c + 1)) + 1 := by omega
    have e2 : l.take (l.length - c) = l.take (l.length - (c + 1)) ++ [l[l.length - (c + 1)]'(by omega)] := by
      rw [e1, List.take_succ_eq_append_getElem (by omega)]
    rw [e2, dv_snoc, hl]
    have e3 : (10000 : Int) ^ (c / 4) * ((10 ^ (c % 4) : Nat) : Int) = ((10 ^ c : Nat) : Int) := by
      have : (10 : Nat) ^ c = 10000 ^ (c / 4) * 10 ^ (c % 4) := by
        conv => lhs; rw [← Nat.div_add_mod c 4, Nat.pow_add, Nat.pow_mul]
      rw [this]; simp
    have e4 : (10000 : Int) ^ (c / 4) * (lm o (c / 4) + (d : Int) * ((10 ^ (c % 4) : Nat) : Int) - lm o (c / 4)) = d * ((10 ^ c : Nat) : Int) := by
      have e5 : lm o (c / 4) + (d : Int) * ((10 ^ (c % 4) : Nat) : Int) - lm o (c / 4) = (d : Int) * ((10 ^ (c % 4) : Nat) : Int) := by omega
      rw [e5, ← e3]
      generalize ((10 ^ (c % 4) : Nat) : Int) = R
      generalize (10000 : Int) ^ (c / 4) = P
      grind
    rw [e4, Nat.pow_succ]
    generalize (10 : Nat) ^ c = P
    generalize dv (l.take (l.length - (c + 1))) = D
    simp only [Int.natCast_mul, Int.natCast_add]
    grind

theorem heard_nil (l : List UInt8) (n : Nat) : Heard l (List.replicate n 0) l.length := by
  refine ⟨lim_replicate _, fun j _ => lm_replicate _ _, by rw [lm_replicate]; simp, ?_⟩
  rw [val_replicate, Nat.sub_self]; simp [dv_nil]

set_option maxHeartbeats 1000000 in
set_option maxRecDepth 20000 in
theorem pheard_any (s : ByteArray) (w : World) (hs : s.size ≤ 10000) (hd : s.data.toList.all isDig = true) :
    Calls Tryd.prog 125 #[.string s] w fun e w' => ∃ v, e = .returned v ∧ Sli w.heap.size w' v (dv s.data.toList) ∧ Below w.heap.size w w' := by
  have HD := hid hd
  have hsl : s.data.toList.length = s.size := by simp
  have HSL := hid hsl
  clear hd hsl
  go_enter Tryd.func125, Tryd.ntmps125
  go_wp2_with (at_make; refine wpList_make_ints _ rfl _ _ rfl _ _ (s.size / 4 + 1) rfl rfl (by omega) (by omega) (by omega) ?_)
  intro w1 hk1 hb1 hz1
  have HB1 := hid (hb1)
  have HK1 := hid (hk1)
  clear hb1 hk1
  go_wp2
  go_loopw [4] (fun vi wr => ∃ (k : Nat) (o : List Int), k ≤ s.size ∧ vi = .int .i64 k ∧ o.length = s.size / 4 + 1 ∧ Hid (Heard s.data.toList o (s.size - k)) ∧ Hid (Blk wr w.heap.size o) ∧ Hid (Below w.heap.size w wr)) (fun vi _ => s.size - (intOf vi).toNat)
  case atStart => exact ⟨0, _, Nat.zero_le _, rfl, by simp, by show Heard _ _ _; have := heard_nil s.data.toList (s.size / 4 + 1); rw [HSL.out] at this; exact this, HK1.out, HB1.out⟩
  case round =>
    obtain ⟨k, o, hk, rfl, hol, hH, hblk, hb⟩ := hrel
    by_cases hlt : k < s.size
    · obtain ⟨c, hc⟩ : ∃ c : Nat, s.size = k + c + 1 := ⟨s.size - k - 1, by omega⟩
      have hat : (s.size : Int) - 1 - (k : Int) = (c : Int) := by omega
      have hbb : 48 ≤ s[k].toNat ∧ s[k].toNat ≤ 57 := by
        have := List.all_eq_true.1 HD.out s[k] (List.getElem_mem (l := s.data.toList) (n := k) (by simpa using hlt))
        exact (isDig_iff _).1 this
      obtain ⟨hb0, hb1⟩ := hbb
      obtain ⟨d, hd0⟩ : ∃ d : Nat, s[k].toNat = d + 48 := ⟨s[k].toNat - 48, by omega⟩
      have hd9 : d ≤ 9 := by omega
      have HC := hid hc
      clear hc
      go_wp2
      go_loopw [6, 7] (fun vv vj wq => ∃ (j V : Nat), j ≤ c % 4 ∧ V ≤ 9000 ∧ Hid (V = d * 10 ^ j) ∧ vj = .int .i64 j ∧ vv = .int .i64 V ∧ wq = wr) (fun _ vj _ => c % 4 - (intOf vj).toNat)
      case atStart => exact ⟨0, d, Nat.zero_le _, by omega, by show _ = _; simp, rfl, rfl, rfl⟩
      case round =>
        obtain ⟨j, V, hj, hV9, hV, rfl, rfl, rfl⟩ := hrel
        by_cases hj4 : j < c % 4
        · have hV2 : Hid (10 * V = d * 10 ^ (j + 1)) := by show _ = _; rw [hV.out, Nat.pow_succ]; generalize 10 ^ j = P; grind
          have hV3 : 10 * V ≤ 9000 := by
            rw [hV2.out]
            have h1 : d * 10 ^ (j + 1) ≤ 9 * 10 ^ (j + 1) := Nat.mul_le_mul_right _ hd9
            have h2 : (10 : Nat) ^ (j + 1) ≤ 10 ^ 3 := Nat.pow_le_pow_right (by omega) (by omega)
            omega
          have hji : (j : Int) < (c : Int) % 4 := by omega
          go_wp2
          go_roundw
          case rel => exact ⟨j + 1, 10 * V, by omega, hV3, hV2.out, by go_num, by go_num, by first | exact trivial | exact rfl⟩
          case measure => simp [intOf]; omega
        · obtain rfl : j = c % 4 := by omega
          have hc4 : c / 4 < s.size / 4 + 1 := by have := HC.out; omega
          have hH2 : Heard s.data.toList o (c + 1) := by have := hH.out; rw [show s.size - k = c + 1 by have := HC.out; omega] at this; exact this
          have hst := hid (hH2.step (d := d) (by have := HC.out; have := HSL.out; omega) (by omega) hd9 (by
            have e : s.data.toList.length - (c + 1) = k := by have := HC.out; have := HSL.out; omega
            have e2 : s.data.toList[s.data.toList.length - (c + 1)]'(by have := HC.out; have := HSL.out; omega) = s[k] := by simp only [e]; rfl
            rw [e2, hd0]; omega))
          obtain ⟨g3, g4, g5⟩ := hH2.lt
          have g1 := hblk.out.cell (c / 4) (by omega)
          have g2 := hblk.out.frozen (c / 4)
          have hVd : Hid ((d : Int) * ((10 ^ (c % 4) : Nat) : Int) = (V : Int)) := by show _ = _; rw [hV.out]; simp
          have hlb : lm o (c / 4) < 10000 := (lim_getD hH2.lim _).2
          have hjn : ¬ ((c % 4 : Nat) : Int) < (c : Int) % 4 := by omega
          rw [hVd.out] at hst
          clear hH2 g4 g5
          go_wp2
          go_roundw
          case rel => exact ⟨k + 1, _, by omega, by go_num, by simpa using hol, by show Heard _ _ _; rw [show s.size - (k + 1) = c by have := HC.out; omega]; exact hst.out, hblk.out.set _ _, hb.out.setCell (Nat.le_refl _) _⟩
          case measure => simp [intOf]; have := HC.out; omega
    · obtain rfl : k = s.size := by omega
      have hend : Hid ((val o).toNat = dv s.data.toList) := by
        have h := hH.out.val
        rw [Nat.sub_self, Nat.pow_zero, Nat.mul_one, Nat.sub_zero, List.take_of_length_le (Nat.le_refl _)] at h
        show _ = _
        omega
      have hrow := hid (Blk.row0 hblk.out (s.size / 4 + 1) (s.size / 4 + 1) (by omega) (Nat.le_refl _) (by unfold maxLen; omega))
      go_wp2_with fail
      refine (pcut_any _ (s.size / 4 + 1) (s.size / 4 + 1) o _ hrow.out hH.out.lim (by omega)).mono ?_
      rintro e w4 ⟨j, hj, hj2, rfl, rfl⟩
      have HR2 := hid (row_of_cut hrow.out hj hj2 hend.out)
      clear hj2
      go_wp2
      go_ret
      exact ⟨_, rfl, ⟨_, _, _, rfl, HR2.out, Fr.here _ _ _⟩, hb.out⟩
end Go.Proofs.YtddbflggcblfcaaDoor
