/- natural.limbAt, IsZero, One, Compare: what they answer of any numbers. -/
import Derived.Test.YtddbflggcblfcaaDoorWTrim
namespace Go.Proofs.YtddbflggcblfcaaDoor
set_option linter.unusedSimpArgs false
set_option linter.unusedVariables false
open Go.RowKit Por

/-- A number of package natural in memory. -/
def Num (w : World) (v : Value) (m : Nat) : Prop := ∃ ao n cap, v = .agg #[.slice ao n cap] ∧ Row w ao n cap (limbs m)

theorem Num.below {w w' : World} {v : Value} {m : Nat} (h : Num w v m) (hb : Below w.heap.size w w') : Num w' v m := by
  obtain ⟨ao, n, cap, rfl, hr⟩ := h
  exact ⟨ao, n, cap, rfl, hr.below hb⟩

set_option maxHeartbeats 400000 in
theorem limbAt_any (ao : Option Addr) (n cap i : Nat) (xs : List Int) (w : World) (hr : Row w ao n cap xs) (hn : n ≤ 60000) (hi : i ≤ 60000) :
    Calls Tryd.prog 119 #[.agg #[.slice ao n cap], .int .i64 i] w fun e w' => e = .returned (.int .i64 (lm xs i)) ∧ Below w.heap.size w w' := by
  by_cases h : i < n
  · obtain ⟨b, o, rfl, hlt⟩ := hr.head (by omega)
    have hc := hr.cell b o rfl i h
    clear hr
    go_enter Tryd.func119, Tryd.ntmps119
    go_wp2
    go_ret
    exact ⟨rfl, (Below.refl _ _).alloc (Nat.le_refl _) _⟩
  · have e : lm xs i = 0 := by
      have := hr.len
      unfold lm; rw [List.getD_eq_getElem?_getD, List.getElem?_eq_none (by omega)]; rfl
    rw [e]
    clear hr e
    go_enter Tryd.func119, Tryd.ntmps119
    go_wp2
    go_ret
    exact ⟨rfl, (Below.refl _ _).alloc (Nat.le_refl _) _⟩

def isZ (m : Nat) : Bool := m == 0

set_option maxHeartbeats 400000 in
theorem isZero_any (ao : Option Addr) (n cap : Nat) (m : Nat) (w : World) (hr : Row w ao n cap (limbs m)) (hn : n ≤ 60000) :
    Calls Tryd.prog 100 #[.agg #[.slice ao n cap]] w fun e w' => e = .returned (.bool (isZ m)) ∧ Below w.heap.size w w' := by
  have e : isZ m = ((n : Int) == 0) := by
    have h1 := hr.len
    have h2 := @limbs_eq_nil m
    unfold isZ
    rw [Bool.eq_iff_iff, beq_iff_eq, beq_iff_eq, ← h2, ← List.length_eq_zero_iff, h1]; omega
  rw [e]
  clear hr e
  go_enter Tryd.func100, Tryd.ntmps100
  go_wp2
  go_ret
  exact ⟨rfl, (Below.refl _ _).alloc (Nat.le_refl _) _⟩

theorem limbs_one : limbs 1 = [1] := by rw [limbs_pos 1 (by omega), show 1 / 10000 = 0 from rfl, limbs_zero]; rfl

set_option maxHeartbeats 400000 in
theorem one_any (w : World) :
    Calls Tryd.prog 92 #[] w fun e w' => ∃ v, e = .returned v ∧ Num w' v 1 ∧ Below w.heap.size w w' := by
  go_enter Tryd.func92, Tryd.ntmps92
  go_wp2
  refine bodyPost_ret (v := .agg #[.slice (some ⟨w.heap.size + 1, 0, none⟩) 1 1]) (by simp [results, Tryd.results92, go_sem]) rfl ⟨_, rfl, ⟨_, _, _, rfl, ?_⟩, ((Below.refl _ _).alloc (Nat.le_refl _) _).alloc (by simp) _⟩
  rw [limbs_one]
  refine ⟨rfl, Nat.le_refl _, by decide, fun _ => ⟨_, _, rfl, by simp⟩, fun b o e _ => (by cases e; exact ⟨_, _, (boxes2 w _ #[.int .i64 1] _ 3).2.1⟩), fun b o e j hj => ?_⟩
  cases e
  obtain rfl : j = 0 := by omega
  simp [lm]

/-- -1, 0, 1 -/
def cmp3 (a b : Int) : Int := if a < b then -1 else if a = b then 0 else 1

set_option maxHeartbeats 400000 in
theorem compare_any (ao bo : Option Addr) (n capa m capb : Nat) (x y : Nat) (w : World) (hr : Row w ao n capa (limbs x)) (hs : Row w bo m capb (limbs y)) (hn : n ≤ 60000) (hm : m ≤ 60000) :
    Calls Tryd.prog 89 #[.agg #[.slice ao n capa], .agg #[.slice bo m capb]] w fun e w' => e = .returned (.int .i64 (cmp3 x y)) ∧ Below w.heap.size w w' := by
  have l1 := hr.len
  have l2 := hs.len
  have vx := val_limbs x
  have vy := val_limbs y
  rcases Nat.lt_trichotomy n m with h | h | h
  · have e : cmp3 x y = -1 := by
      have := val_lt_of_len (lim_limbs x) (lim_limbs y) (topped_limbs y) (by omega)
      unfold cmp3; rw [if_pos (by omega)]
    rw [e]
    clear e hr hs l1 l2 vx vy
    go_enter Tryd.func89, Tryd.ntmps89
    go_wp2
    go_ret
    exact ⟨rfl, ((Below.refl _ _).alloc (Nat.le_refl _) _).alloc (by simp) _⟩
  · subst h
    have HR := hid (hr)
    have HS := hid (hs)
    have HX := hid (vx)
    have HY := hid (vy)
    have h0 : ∀ b o, ao = some ⟨b, o, none⟩ → 0 < n → b < w.heap.size := fun b o e h => by obtain ⟨b', o', e', hl⟩ := hr.head h; rw [e] at e'; cases e'; exact hl
    have g0 : ∀ b o, bo = some ⟨b, o, none⟩ → 0 < n → b < w.heap.size := fun b o e h => by obtain ⟨b', o', e', hl⟩ := hs.head h; rw [e] at e'; cases e'; exact hl
    clear hr hs vx vy
    go_enter Tryd.func89, Tryd.ntmps89
    go_wp2
    go_loopw [5] (fun v wr => ∃ k : Nat, k ≤ n ∧ v = .int .i64 ((k : Int) - 1) ∧ Hid (∀ j, k ≤ j → j < n → lm (limbs x) j = lm (limbs y) j) ∧
        Below (w.heap.size + 2) ((w.alloc (.cells #[.slice ao n capa] 74)).alloc (.cells #[.slice bo n capb] 74)) wr) (fun v _ => (intOf v + 1).toNat)
    case atStart => exact ⟨n, Nat.le_refl _, rfl, fun j h1 h2 => by omega, Below.refl _ _⟩
    case round =>
      obtain ⟨k, hk, rfl, hz, hb⟩ := hrel
      have hB : Below w.heap.size w wr := (((Below.refl _ _).alloc (Nat.le_refl _) _).alloc (by simp) _).trans (hb.mono (by omega))
      have HB := hid (hB)
      have c1 : wr.cell? ⟨w.heap.size, 0, none⟩ = some (.slice ao n capa) := (hb.cell (p := ⟨w.heap.size, 0, none⟩) (by simp)).trans (by simp)
      have c2 : wr.cell? ⟨w.heap.size + 1, 0, none⟩ = some (.slice bo n capb) := (hb.cell (p := ⟨w.heap.size + 1, 0, none⟩) (by simp)).trans (by simp)
      have Hb := hid (hb)
      clear hb
      by_cases k0 : k = 0
      · subst k0
        have e : cmp3 x y = 0 := by
          have := ext_getD n l1 l2 (fun i hi => hz.out i (by omega) hi)
          have : (x : Int) = y := by rw [← HX.out, ← HY.out, this]
          unfold cmp3; rw [if_neg (by omega), if_pos this]
        clear hB
        go_wp2
        go_ret
        exact ⟨by rw [e]; rfl, HB.out⟩
      · obtain ⟨q, rfl⟩ : ∃ q, k = q + 1 := ⟨k - 1, by omega⟩
        obtain ⟨ba, oa, rfl, hla⟩ := HR.out.head (by omega)
        obtain ⟨bb, ob, rfl, hlb⟩ := HS.out.head (by omega)
        have d1 : wr.cell? ⟨ba, oa + q, none⟩ = some (.int .i64 (lm (limbs x) q)) := (hB.cell (p := ⟨ba, oa + q, none⟩) hla).trans (HR.out.cell ba oa rfl q (by omega))
        have d2 : wr.cell? ⟨bb, ob + q, none⟩ = some (.int .i64 (lm (limbs y) q)) := (hB.cell (p := ⟨bb, ob + q, none⟩) hlb).trans (HS.out.cell bb ob rfl q (by omega))
        clear hB
        have hq1 : (0 : Int) ≤ ((q + 1 : Nat) : Int) - 1 := by omega
        rcases Int.lt_trichotomy (lm (limbs x) q) (lm (limbs y) q) with hlt | heq | hgt
        · have e : cmp3 x y = -1 := by
            have := val_cmp_lt _ _ (lim_limbs x) (lim_limbs y) n l1 l2 q (by omega) (fun i h1 h2 => hz.out i (by omega) h2) hlt
            rw [HX.out, HY.out] at this
            unfold cmp3; rw [if_pos this]
          have He := hid (e); clear e
          go_wp2
          go_quiet (fail)
          go_wp2
          go_ret
          exact ⟨by rw [He.out]; rfl, below_drewN HB.out _⟩
        · have hlt1 : ¬ lm (limbs x) q < lm (limbs y) q := by omega
          have hlt2 : ¬ lm (limbs y) q < lm (limbs x) q := by omega
          have He := hid (heq); clear heq
          go_wp2
          go_quiet (fail)
          go_wp2
          go_quiet (fail)
          go_wp2
          go_roundw
          case rel => exact ⟨q, by omega, by go_num, fun j h1 h2 => (by
            by_cases e : j = q
            · rw [e]; exact He.out
            · exact hz.out j (by omega) h2), below_drewN Hb.out _⟩
          case measure => simp [intOf]
        · have hlt1 : ¬ lm (limbs x) q < lm (limbs y) q := by omega
          have e : cmp3 x y = 1 := by
            have := val_cmp_lt _ _ (lim_limbs y) (lim_limbs x) n l2 l1 q (by omega) (fun i h1 h2 => (hz.out i (by omega) h2).symm) hgt
            rw [HX.out, HY.out] at this
            unfold cmp3; rw [if_neg (by omega), if_neg (by omega)]
          have He := hid (e); clear e
          go_wp2
          go_quiet (fail)
          go_wp2
          go_quiet (fail)
          go_wp2
          go_ret
          exact ⟨by rw [He.out]; rfl, by first | exact below_drewN HB.out _ | exact below_drewN (below_drewN HB.out _) _⟩
  · have e : cmp3 x y = 1 := by
      have := val_lt_of_len (lim_limbs y) (lim_limbs x) (topped_limbs x) (by omega)
      unfold cmp3; rw [if_neg (by omega), if_neg (by omega)]
    rw [e]
    clear e hr hs l1 l2 vx vy
    go_enter Tryd.func89, Tryd.ntmps89
    go_wp2
    go_ret
    exact ⟨rfl, ((Below.refl _ _).alloc (Nat.le_refl _) _).alloc (by simp) _⟩
end Go.Proofs.YtddbflggcblfcaaDoor
