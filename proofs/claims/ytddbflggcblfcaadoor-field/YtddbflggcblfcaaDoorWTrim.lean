/- natural.trim: what it answers of any row of limbs. -/
import Derived.Test.YtddbflggcblfcaaDoorBase
namespace Go.Proofs.YtddbflggcblfcaaDoor
set_option linter.unusedSimpArgs false
set_option linter.unusedVariables false
open Go.RowKit Por
set_option maxHeartbeats 400000 in
set_option maxRecDepth 10000 in
theorem trim_any (ao : Option Addr) (n cap : Nat) (xs : List Int) (w : World) (hr : Row w ao n cap xs) (hL : Lim xs) (hn : n ≤ 60000) :
    Calls Tryd.prog 118 #[.slice ao n cap] w fun e w' =>
      ∃ m, m ≤ n ∧ xs.take m = limbs (val xs).toNat ∧ e = .returned (.agg #[.slice ao m cap]) ∧ Below w.heap.size w w' := by
  have hlen := hr.len
  have hle := hr.le
  have hcm := hr.cm
  unfold maxLen at hcm
  go_enter Tryd.func118, Tryd.ntmps118
  go_wp2
  go_loop [3] (fun v => ∃ m : Nat, m ≤ n ∧ v = .int .i64 m ∧ Hid (∀ i, m ≤ i → i < xs.length → lm xs i = 0)) (fun v => (intOf v).toNat)
  case atStart => exact ⟨n, Nat.le_refl _, rfl, fun i h1 h2 => by omega⟩
  case round =>
    obtain ⟨m, hm, rfl, hz⟩ := hrel
    by_cases h0 : m = 0
    · subst h0
      have E := trim_eq xs 0 hL (by omega) (fun i h1 h2 => hz.out i h1 h2) (.inl rfl)
      have HE := hid (E); clear E
      go_wp2
      refine bodyPost_ret (v := .agg #[.slice ao 0 cap]) (by simp [results, Tryd.results118, go_sem]) rfl ⟨0, by omega, HE.out, rfl, ?_⟩
      exact ((Below.refl _ _).alloc (Nat.le_refl _) _)
    · obtain ⟨b, o, rfl, hlt⟩ := hr.head (by omega)
      have hc := hr.cell b o rfl (m - 1) (by omega)
      obtain ⟨q, rfl⟩ : ∃ q, m = q + 1 := ⟨m - 1, by omega⟩
      simp only [Nat.add_sub_cancel] at hc
      by_cases hx : lm xs q = 0
      · rw [hx] at hc
        have hx' := hid (hx)
        clear hr hx
        go_wp2
        exact ⟨⟨q, by omega, rfl, fun i h1 h2 => by
          by_cases e : i = q
          · rw [e]; exact hx'.out
          · exact hz.out i (by omega) h2⟩, by simp [intOf]⟩
      · have hx0 : (lm xs q == 0) = false := by simpa using hx
        have E := trim_eq xs (q + 1) hL (by omega) (fun i h1 h2 => hz.out i h1 h2) (.inr hx)
        have HE := hid (E); clear E
        clear hr
        go_wp2
        refine bodyPost_ret (v := .agg #[.slice (some ⟨b, o, none⟩) (q + 1) cap]) (by simp [results, Tryd.results118, go_sem]) rfl ⟨q + 1, by omega, HE.out, rfl, ?_⟩
        exact ((Below.refl _ _).alloc (Nat.le_refl _) _)
end Go.Proofs.YtddbflggcblfcaaDoor
