/- portionkeep.Order answers true, whatever four ints it is given. (Laid by mkord.py.) -/
import Derived.Test.YtigokanoflkinaaDoorWExD
import Derived.Test.YtigokanoflkinaaDoorWField
namespace Go.Proofs.YtigokanoflkinaaDoor
set_option linter.unusedSimpArgs false
set_option linter.unusedVariables false
open Go.RowKit Por

theorem Dg.floor {x : Rat} {a : Nat} (hx : Dg x a) : Dg (flQ x) a := ⟨Nat.lt_of_le_of_lt (fl_le x).1 hx.1, Nat.lt_of_le_of_lt (fl_le x).2 hx.2⟩
theorem fl_int (n : Int) : flQ (n : Rat) = (n : Rat) := by
  unfold flQ flZ
  rw [Rat.num_intCast, Rat.den_intCast]
  simp
theorem int_lt (a b : Int) : (a : Rat) < (b : Rat) ↔ a < b := by
  rw [Rat.lt_iff, Rat.num_intCast, Rat.num_intCast, Rat.den_intCast, Rat.den_intCast]; simp
theorem int_eq (a b : Int) : (a : Rat) = (b : Rat) ↔ a = b := by
  constructor
  · intro h
    have := congrArg Rat.num h
    rwa [Rat.num_intCast, Rat.num_intCast] at this
  · intro h; rw [h]
theorem cmp_int (a b : Int) : cmpQ (a : Rat) (b : Rat) = cmp3 a b := cmpQ_of _ _ a b (int_lt a b) (int_eq a b)
theorem int_lt_mul (k : Int) (x : Rat) : (k : Rat) < x ↔ k * x.den < x.num := by
  rw [Rat.lt_iff, Rat.num_intCast, Rat.den_intCast]; simp
theorem lt_int_mul (k : Int) (x : Rat) : x < (k : Rat) ↔ x.num < k * x.den := by
  rw [Rat.lt_iff, Rat.num_intCast, Rat.den_intCast]; simp
theorem fl_above (x : Rat) : x < flQ x + 1 := by
  have e : flQ x + 1 = ((flZ x + 1 : Int) : Rat) := by unfold flQ; rw [Rat.intCast_add]; rfl
  rw [e, lt_int_mul]
  unfold flZ
  exact Int.lt_ediv_add_one_mul_self _ (by have := den_pos x; omega)
theorem fl_below (x : Rat) : ¬ x < flQ x := by
  unfold flQ
  rw [lt_int_mul]
  unfold flZ
  have := Int.ediv_mul_le x.num (show (x.den : Int) ≠ 0 by have := den_pos x; omega)
  omega
/-- the floor is the one whole number with x from it to below the next -/
theorem fl_only (x : Rat) (k : Int) (h1 : ¬ x < (k : Rat)) (h2 : x < ((k + 1 : Int) : Rat)) : flQ x = (k : Rat) := by
  rw [lt_int_mul] at h1 h2
  unfold flQ
  rw [int_eq]
  unfold flZ
  have hd : (0 : Int) < (x.den : Int) := by have := den_pos x; omega
  have e1 : k ≤ x.num / (x.den : Int) := (Int.le_ediv_iff_mul_le hd).2 (by omega)
  have e2 : x.num / (x.den : Int) < k + 1 := (Int.ediv_lt_iff_lt_mul hd).2 h2
  omega
theorem cmp_lt {x y : Rat} (h : x < y) : cmpQ x y = -1 := by unfold cmpQ; rw [if_pos h]
theorem cmp_self (x : Rat) : cmpQ x x = 0 := by unfold cmpQ; rw [if_neg Rat.lt_irrefl, if_pos rfl]
theorem cmp_gt {x y : Rat} (h : y < x) : cmpQ x y = 1 := by
  unfold cmpQ
  rw [if_neg (fun hc => by rw [Rat.lt_iff] at h hc; omega), if_neg (fun hc => by rw [hc] at h; exact Rat.lt_irrefl h)]
theorem q_tri (x y : Rat) : x < y ∨ x = y ∨ y < x := by
  by_cases h1 : x < y
  · exact Or.inl h1
  · have h1 := Rat.not_lt.1 h1
    by_cases h2 : y < x
    · exact Or.inr (Or.inr h2)
    · exact Or.inr (Or.inl (Rat.le_antisymm (Rat.not_lt.1 h2) h1))
theorem cmp_swap (x y : Rat) : cmpQ y x = -cmpQ x y := by
  rcases q_tri x y with h | h | h
  · rw [cmp_lt h, cmp_gt h]; rfl
  · rw [h, cmp_self]; rfl
  · rw [cmp_lt h, cmp_gt h]
theorem add_lt (x y z : Rat) (h : x < y) : x + z < y + z := by
  have := (Rat.add_lt_add_right (c := z)).2 h
  exact this
theorem cmp_add (x y z : Rat) : cmpQ (x + z) (y + z) = cmpQ x y := by
  rcases q_tri x y with h | h | h
  · rw [cmp_lt h, cmp_lt (add_lt _ _ z h)]
  · rw [h, cmp_self, cmp_self]
  · rw [cmp_gt h, cmp_gt (add_lt _ _ z h)]
theorem cmp_sub (x y : Rat) : cmpQ (x - y) 0 = cmpQ x y := by
  have := cmp_add x y (-y)
  rwa [← Rat.sub_eq_add_neg, Rat.add_neg_cancel] at this
theorem cmp_b (x y : Rat) : -1 ≤ cmpQ x y ∧ cmpQ x y ≤ 1 := by
  rcases q_tri x y with h | h | h
  · rw [cmp_lt h]; omega
  · rw [h, cmp_self]; omega
  · rw [cmp_gt h]; omega
theorem cmp_zero (x y : Rat) : cmpQ x y = 0 ↔ x = y := by
  rcases q_tri x y with h | h | h
  · rw [cmp_lt h]; exact ⟨fun hc => by omega, fun hc => by rw [hc] at h; exact absurd h Rat.lt_irrefl⟩
  · rw [h, cmp_self]; simp
  · rw [cmp_gt h]; exact ⟨fun hc => by omega, fun hc => by rw [hc] at h; exact absurd h Rat.lt_irrefl⟩
theorem txt_one : txt (1 : Rat) = [49] := by
  have := txt_int 1
  rw [show ((1 : Int) : Rat) = 1 from rfl] at this
  rw [this]; unfold Go.Lib.itoa; rw [if_neg (by omega)]; exact dec_small (by omega)
theorem Dg.txt_ne {x y : Rat} {i j : Nat} (hx : Dg x i) (hy : Dg y j) (hi : 1 ≤ i) (hj : 1 ≤ j) (hi2 : i ≤ 149) (hj2 : j ≤ 149) (h : x ≠ y) : (⟨(Por.txt x).toArray⟩ : ByteArray) ≠ ⟨(Por.txt y).toArray⟩ := by
  intro hc
  have h1 := hx.ok hi hi2
  have h2 := hy.ok hj hj2
  rw [hc] at h1
  exact h (Option.some.inj (h1.symm.trans h2))

set_option maxHeartbeats 4000000 in
set_option maxRecDepth 20000 in
theorem k_floor (p : Value) (x : Rat) (i : Nat) (w : World) (hx : Dg x i) (hi : 1 ≤ i) (hi2 : i ≤ 149) (ht : Tab w) :
    Calls Tryd.prog 40 #[p, .string ⟨(txt (x)).toArray⟩] w fun e w' => e = .returned (.string ⟨(txt (flQ x)).toArray⟩) ∧ Below w.heap.size w w' := by
  have C := fun w ht => xFloor_yes ⟨(txt x).toArray⟩ w x (hx.ok hi hi2) ht
  have HC := hid C
  have HT := hid ht
  clear C ht hx
  go_enter Tryd.func40, Tryd.ntmps40
  go_wp2_with fail
  refine (HC.out _ HT.out).mono ?_
  rintro e w1 ⟨rfl, hb1⟩
  have HB := hid hb1
  clear hb1
  go_wp2_with fail
  refine (look_ok p _).mono ?_
  rintro e w2 ⟨rfl, rfl⟩
  go_wp2
  go_ret
  exact ⟨rfl, HB.out⟩

set_option maxHeartbeats 4000000 in
set_option maxRecDepth 20000 in
theorem sign_lt (a b : Int) (w : World) (h : a < b) :
    Calls Tryd.prog 39 #[.int .i64 a, .int .i64 b] w fun e w' => e = .returned (.int .i64 (-1)) ∧ Below w.heap.size w w' := by
  have h2 : ¬ b < a := by omega
  go_enter Tryd.func39, Tryd.ntmps39
  go_wp2
  go_ret
  exact ⟨rfl, Below.refl _ _⟩

set_option maxHeartbeats 4000000 in
set_option maxRecDepth 20000 in
theorem sign_eq (a b : Int) (w : World) (h : a = b) :
    Calls Tryd.prog 39 #[.int .i64 a, .int .i64 b] w fun e w' => e = .returned (.int .i64 (0)) ∧ Below w.heap.size w w' := by
  subst h
  go_enter Tryd.func39, Tryd.ntmps39
  go_wp2
  go_ret
  exact ⟨rfl, Below.refl _ _⟩

set_option maxHeartbeats 4000000 in
set_option maxRecDepth 20000 in
theorem sign_gt (a b : Int) (w : World) (h : b < a) :
    Calls Tryd.prog 39 #[.int .i64 a, .int .i64 b] w fun e w' => e = .returned (.int .i64 (1)) ∧ Below w.heap.size w w' := by
  have h2 : ¬ a < b := by omega
  go_enter Tryd.func39, Tryd.ntmps39
  go_wp2
  go_ret
  exact ⟨rfl, Below.refl _ _⟩

theorem sign_any (a b : Int) (w : World) :
    Calls Tryd.prog 39 #[.int .i64 a, .int .i64 b] w fun e w' => e = .returned (.int .i64 (cmp3 a b)) ∧ Below w.heap.size w w' := by
  unfold cmp3
  by_cases h1 : a < b
  · rw [if_pos h1]; exact sign_lt a b w h1
  · rw [if_neg h1]
    by_cases h2 : a = b
    · rw [if_pos h2]; exact sign_eq a b w h2
    · rw [if_neg h2]; exact sign_gt a b w (by omega)

end Go.Proofs.YtigokanoflkinaaDoor
