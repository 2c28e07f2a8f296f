/- portionref.slash, digits: what they answer of any text. -/
import Derived.Test.YtddbflggcblfcaaDoorWPrsA
namespace Go.Proofs.YtddbflggcblfcaaDoor
set_option linter.unusedSimpArgs false
set_option linter.unusedVariables false
open Go.RowKit Por

set_option maxHeartbeats 400000 in
theorem pslash_any (s : ByteArray) (w : World) (hs : s.size ≤ 100000) :
    Calls Tryd.prog 123 #[.string s] w fun e w' => e = .returned (.int .i64 (slashAt s.data.toList : Nat)) ∧ w' = w := by
  have hsl : s.data.toList.length = s.size := by simp
  go_enter Tryd.func123, Tryd.ntmps123
  go_wp2
  go_loop [3] (fun i => ∃ k : Nat, k ≤ s.size ∧ i = .int .i64 k ∧ Hid ((s.data.toList.take k).all (fun c => c != 47) = true)) (fun i => s.size - (intOf i).toNat)
  case atStart => exact ⟨0, Nat.zero_le _, rfl, rfl⟩
  case round =>
    obtain ⟨k, hk, rfl, hd⟩ := hrel
    by_cases hlt : k < s.size
    · have HS := hid (take_snoc s k hlt)
      by_cases hc : s[k].toNat = 47
      · have hA : ((s[k].toNat : Int) == 47) = true := by rw [beq_iff_eq]; omega
        have E : Hid (slashAt s.data.toList = k) := takeWhile_of (by omega) hd.out (.inr (by
          rw [List.getElem?_eq_getElem (by omega)]
          congr 1
          apply UInt8.toNat_inj.1
          exact hc))
        clear hc
        go_wp2
        go_ret
        exact ⟨by rw [E.out]; rfl, rfl⟩
      · have hA : ((s[k].toNat : Int) == 47) = false := by rw [beq_eq_false_iff_ne]; omega
        have HD : Hid ((s.data.toList.take (k + 1)).all (fun c => c != 47) = true) := by
          show _ = _
          rw [HS.out, List.all_append, hd.out]
          have : (s[k] != 47) = true := by rw [bne_iff_ne]; intro e; apply hc; rw [e]; rfl
          simp [this]
        clear hc
        go_wp2
        exact ⟨⟨k + 1, by omega, by go_num, HD.out⟩, by simp [intOf]; omega⟩
    · obtain rfl : k = s.size := by omega
      have E : Hid (slashAt s.data.toList = s.size) := takeWhile_of (by omega) hd.out (.inl hsl.symm)
      go_wp2
      go_ret
      exact ⟨by rw [E.out]; rfl, rfl⟩
set_option maxHeartbeats 400000 in
theorem pdigits_any (s : ByteArray) (w : World) (hs : s.size ≤ 100000) :
    Calls Tryd.prog 124 #[.string s] w fun e w' => e = .returned (.bool (wholeB s.data.toList)) ∧ w' = w := by
  go_enter Tryd.func124, Tryd.ntmps124
  go_wp2
  go_loop [3] (fun i => ∃ k : Nat, k ≤ s.size ∧ i = .int .i64 k ∧ Hid ((s.data.toList.take k).all isDig = true)) (fun i => s.size - (intOf i).toNat)
  case atStart => exact ⟨0, Nat.zero_le _, rfl, rfl⟩
  case round =>
    obtain ⟨k, hk, rfl, hd⟩ := hrel
    by_cases hlt : k < s.size
    · have hts := take_snoc s k hlt
      have HS := hid hts
      clear hts
      have hbad : ¬ (48 ≤ s[k].toNat ∧ s[k].toNat ≤ 57) → Hid (wholeB s.data.toList = false) := by
        intro hb
        show _ = _
        cases hq : wholeB s.data.toList with
        | false => rfl
        | true =>
          exfalso
          have h1 := ((wholeB_iff _).1 hq).2.1
          have h2 := List.all_eq_true.1 h1 s[k] (by
            have := List.getElem_mem (l := s.data.toList) (n := k) (by simpa using hlt)
            exact this)
          exact hb ((isDig_iff _).1 h2)
      rcases Nat.lt_or_ge s[k].toNat 48 with hc | hc
      · have E := hbad (by omega)
        have hA : decide ((s[k].toNat : Int) < 48) = true := by simp; omega
        clear hbad
        go_wp2
        go_ret
        exact ⟨by rw [E.out]; rfl, rfl⟩
      · have hA : decide ((s[k].toNat : Int) < 48) = false := by simp; omega
        rcases Nat.lt_or_ge 57 s[k].toNat with hc2 | hc2
        · have E := hbad (by omega)
          have hB : decide (57 < (s[k].toNat : Int)) = true := by simp; omega
          clear hbad
          go_wp2
          go_ret
          exact ⟨by rw [E.out]; rfl, rfl⟩
        · have hB : decide (57 < (s[k].toNat : Int)) = false := by simp; omega
          have HD : Hid ((s.data.toList.take (k + 1)).all isDig = true) := by
            show _ = _
            rw [HS.out, List.all_append, hd.out]
            simp [isDig, hc, hc2]
          clear hbad
          go_wp2
          exact ⟨⟨k + 1, by omega, by go_num, HD.out⟩, by simp [intOf]; omega⟩
    · obtain rfl : k = s.size := by omega
      have hall : Hid (s.data.toList.all isDig = true) := by
        have := hd.out
        rwa [List.take_of_length_le (by simp)] at this
      by_cases h0 : s.size = 0
      · have E : Hid (wholeB s.data.toList = false) := by
          have : s.data.toList = [] := List.eq_nil_of_length_eq_zero (by simpa using h0)
          show _ = _
          rw [this]; rfl
        have h0' : decide ((0 : Int) < (s.size : Int)) = false := by rw [decide_eq_false_iff_not]; omega
        go_wp2
        go_ret
        exact ⟨by rw [E.out]; rfl, rfl⟩
      · have hp : 0 < s.size := by omega
        have h0' : decide ((0 : Int) < (s.size : Int)) = true := by rw [decide_eq_true_iff]; omega
        have hh : s.data.toList.head? = some s[0] := by
          rw [List.head?_eq_getElem?, List.getElem?_eq_getElem (by simpa using hp)]; rfl
        have E : Hid (wholeB s.data.toList = ((s[0].toNat : Int) != 48 || (s.size : Int) == 1)) := by
          show _ = _
          rw [Bool.eq_iff_iff, wholeB_iff, hh]
          have h2 : s.data.toList.length = s.size := by simp
          have h1 : s.data.toList ≠ [] := by intro hc; rw [hc, List.length_nil] at h2; omega
          have h3 : (some s[0] ≠ some (48 : UInt8)) ↔ (s[0].toNat : Int) ≠ 48 := by
            constructor
            · intro h hc; apply h; congr 1; apply UInt8.toNat_inj.1; have e : (48 : UInt8).toNat = 48 := rfl; omega
            · intro h hc; apply h; have := Option.some.inj hc; rw [this]; rfl
          rw [h2, h3]
          simp only [hall.out, h1, ne_eq, not_false_eq_true, true_and, Bool.or_eq_true, beq_iff_eq, bne_iff_ne]
          omega
        by_cases h1 : (s[0].toNat : Int) = 48
        · have h1' : ((s[0].toNat : Int) != 48) = false := by simpa using h1
          have h1'' : ((s[0].toNat : Int) == 48) = true := by simpa using h1
          clear h1 hh
          go_wp2
          go_ret
          exact ⟨by rw [E.out, h1']; rfl, rfl⟩
        · have h1' : ((s[0].toNat : Int) != 48) = true := by simpa using h1
          have h1'' : ((s[0].toNat : Int) == 48) = false := by simpa using h1
          clear h1 hh
          go_wp2
          go_ret
          exact ⟨by rw [E.out, h1']; rfl, rfl⟩
end Go.Proofs.YtddbflggcblfcaaDoor
