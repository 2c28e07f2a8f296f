/- ratio.slashIn, areLowest. -/
import Derived.Test.YtddbflggcblfcaaDoorWGcd
import Derived.Test.YtddbflggcblfcaaDoorWParse
import Derived.Test.YtddbflggcblfcaaDoorRatB
import Derived.Test.YtddbflggcblfcaaDoorWRatA
namespace Go.Proofs.YtddbflggcblfcaaDoor
set_option linter.unusedSimpArgs false
set_option linter.unusedVariables false
open Go.RowKit Por

theorem takeWhile_of {l : List UInt8} {k : Nat} (hk : k ≤ l.length) (h1 : (l.take k).all (fun c => c != 47) = true) (h2 : k = l.length ∨ l[k]? = some 47) : slashAt l = k := by
  unfold slashAt
  have : l.takeWhile (fun c => c != 47) = l.take k := by
    induction l generalizing k with
    | nil => simp
    | cons c l ih =>
      cases k with
      | zero =>
        rcases h2 with h2 | h2
        · simp at h2
        · simp at h2; subst h2; rfl
      | succ k =>
        rw [List.take_succ_cons, List.all_cons, Bool.and_eq_true] at h1
        rw [List.takeWhile_cons, if_pos h1.1, List.take_succ_cons, ih (by simpa using hk) h1.2 (by simpa using h2)]
  rw [this, List.length_take]; omega

set_option maxHeartbeats 400000 in
theorem slashIn_any (s : ByteArray) (w : World) (hs : s.size ≤ 100000) :
    Calls Tryd.prog 130 #[.string s] w fun e w' => e = .returned (.int .i64 (slashAt s.data.toList : Nat)) ∧ w' = w := by
  have hsl : s.data.toList.length = s.size := by simp
  go_enter Tryd.func130, Tryd.ntmps130
  go_wp2
  go_loop [3] (fun i => ∃ k : Nat, k ≤ s.size ∧ i = .int .i64 k ∧ Hid ((s.data.toList.take k).all (fun c => c != 47) = true)) (fun i => s.size - (intOf i).toNat)
  case atStart => exact ⟨0, Nat.zero_le _, rfl, rfl⟩
  case round =>
    obtain ⟨k, hk, rfl, hd⟩ := hrel
    by_cases hlt : k < s.size
    · have HS := hid (take_snoc s k hlt)
      by_cases hc : s[k].toNat = 47
      · have hA : ((s[k].toNat : Int) == 47) = true := by rw [beq_iff_eq]; omega
        have E : Hid (slashAt s.data.toList = k) := takeWhile_of (by omega) hd.out (.inr (by
          rw [List.getElem?_eq_getElem (by omega)]
          congr 1
          apply UInt8.toNat_inj.1
          exact hc))
        clear hc
        go_wp2
        go_ret
        exact ⟨by rw [E.out]; rfl, rfl⟩
      · have hA : ((s[k].toNat : Int) == 47) = false := by rw [beq_eq_false_iff_ne]; omega
        have HD : Hid ((s.data.toList.take (k + 1)).all (fun c => c != 47) = true) := by
          show _ = _
          rw [HS.out, List.all_append, hd.out]
          have : (s[k] != 47) = true := by rw [bne_iff_ne]; intro e; apply hc; rw [e]; rfl
          simp [this]
        clear hc
        go_wp2
        exact ⟨⟨k + 1, by omega, by go_num, HD.out⟩, by simp [intOf]; omega⟩
    · obtain rfl : k = s.size := by omega
      have E : Hid (slashAt s.data.toList = s.size) := takeWhile_of (by omega) hd.out (.inl hsl.symm)
      go_wp2
      go_ret
      exact ⟨by rw [E.out]; rfl, rfl⟩
end Go.Proofs.YtddbflggcblfcaaDoor
