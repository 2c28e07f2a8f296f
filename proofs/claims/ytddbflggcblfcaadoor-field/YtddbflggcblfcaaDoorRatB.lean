/- What texts are fractions, as a plain function. -/
import Derived.Test.YtddbflggcblfcaaDoorRatA
namespace Go.Proofs.YtddbflggcblfcaaDoor.Por
set_option linter.unusedSimpArgs false
set_option linter.unusedVariables false
open Go.Lib (decDigits)

/-- where the first slash stands; the length, if there is none -/
def slashAt (l : List UInt8) : Nat := (l.takeWhile (fun c => c != 47)).length
theorem slashAt_le (l : List UInt8) : slashAt l ≤ l.length := by
  unfold slashAt
  exact (List.takeWhile_sublist _).length_le
/-- below 1 in no case, and no common divisor -/
def lowB (x y : Nat) : Bool := decide (1 < y) && (Nat.gcd x y == 1)
def zeroB (neg : Bool) (x : Nat) : Bool := neg && (x == 0)

def parseU (neg : Bool) (t : List UInt8) : Option Rat :=
  if wholeB (t.take (slashAt t)) then
    if zeroB neg (dv (t.take (slashAt t))) then none
    else if slashAt t = t.length then some (mkRat (sg neg (dv (t.take (slashAt t)))) 1)
    else if wholeB (t.drop (slashAt t + 1)) then
      if lowB (dv (t.take (slashAt t))) (dv (t.drop (slashAt t + 1))) then some (mkRat (sg neg (dv (t.take (slashAt t)))) (dv (t.drop (slashAt t + 1)))) else none
    else none
  else none
def parseL (l : List UInt8) : Option Rat := if l.head? = some 45 then parseU true l.tail else parseU false l
/-- the fraction that a text is -/
def readL (l : List UInt8) : Option Rat := if l.length ≤ 300 then parseL l else none

theorem low_canon (m : Bool) (x y : Nat) (hy : y ≠ 0) (hg : Nat.gcd x y = 1) (hz : zeroB m x = false) :
    (mkRat (sg m x) y).num.natAbs = x ∧ (mkRat (sg m x) y).den = y ∧ negB (mkRat (sg m x) y) = m := by
  obtain ⟨h1, h2, h3⟩ := low_eq m x y hy
  rw [hg, Nat.div_one] at h1 h2 h3
  refine ⟨h1, h2, ?_⟩
  rw [h3]
  unfold zeroB at hz
  cases m
  · rfl
  · simpa using hz

/-- a text of the form digits, or digits and a slash and digits, falls apart as it was made -/
theorem slashAt_none {l : List UInt8} (h : l.all isDig = true) : slashAt l = l.length := by
  unfold slashAt
  have : l.takeWhile (fun c => c != 47) = l := by
    induction l with
    | nil => rfl
    | cons c l ih =>
      rw [List.all_cons, Bool.and_eq_true, isDig_iff] at h
      have hc : (c != 47) = true := by
        rw [bne_iff_ne]; intro e; rw [e] at h; have : (47 : UInt8).toNat = 47 := rfl; omega
      rw [List.takeWhile_cons, if_pos hc, ih h.2]
  rw [this]
theorem slashAt_some {a b : List UInt8} (h : a.all isDig = true) : slashAt (a ++ 47 :: b) = a.length := by
  unfold slashAt
  have : (a ++ 47 :: b).takeWhile (fun c => c != 47) = a := by
    induction a with
    | nil => rfl
    | cons c l ih =>
      rw [List.all_cons, Bool.and_eq_true, isDig_iff] at h
      have hc : (c != 47) = true := by
        rw [bne_iff_ne]; intro e; rw [e] at h; have : (47 : UInt8).toNat = 47 := rfl; omega
      rw [List.cons_append, List.takeWhile_cons, if_pos hc, ih h.2]
  rw [this]

theorem whole_all {l : List UInt8} (h : wholeB l = true) : l.all isDig = true := ((wholeB_iff l).1 h).2.1

theorem parseU_txt (q : Rat) : parseU (negB q) (decDigits q.num.natAbs ++ (if 1 < q.den then 47 :: decDigits q.den else [])) = some q := by
  have hw := whole_dec q.num.natAbs
  have hz : zeroB (negB q) q.num.natAbs = false := by
    unfold zeroB negB
    by_cases h : q.num < 0
    · rw [decide_eq_true h, beq_eq_false_iff_ne.2 (by omega : q.num.natAbs ≠ 0)]; rfl
    · rw [decide_eq_false h]; rfl
  by_cases hd : 1 < q.den
  · rw [if_pos hd]
    have hs : slashAt (decDigits q.num.natAbs ++ 47 :: decDigits q.den) = (decDigits q.num.natAbs).length := slashAt_some (whole_all hw)
    unfold parseU
    rw [hs]
    have e1 : (decDigits q.num.natAbs ++ 47 :: decDigits q.den).take (decDigits q.num.natAbs).length = decDigits q.num.natAbs := List.take_left
    have e2 : (decDigits q.num.natAbs ++ 47 :: decDigits q.den).drop ((decDigits q.num.natAbs).length + 1) = decDigits q.den := by
      rw [← List.drop_drop, List.drop_left]; rfl
    have hl : lowB q.num.natAbs q.den = true := by
      unfold lowB
      have := q.reduced
      unfold Nat.Coprime at this
      simp [hd, this]
    have hne : ¬ (decDigits q.num.natAbs).length = (decDigits q.num.natAbs ++ 47 :: decDigits q.den).length := by simp
    rw [e1, e2, hw, whole_dec, dv_dec, dv_dec, hz, hl, if_neg hne, rat_mk]
    simp
  · have h1 : q.den = 1 := by have := den_pos q; omega
    rw [if_neg hd, List.append_nil]
    unfold parseU
    rw [slashAt_none (whole_all hw), List.take_length, hw, dv_dec, hz]
    simp
    rw [← h1, rat_mk]

theorem parseL_txt (q : Rat) : parseL (txt q) = some q := by
  have h := parseU_txt q
  unfold parseL txt
  cases hn : negB q with
  | true =>
    rw [hn] at h
    simp only [if_true, List.singleton_append, List.cons_append, List.head?_cons, List.tail_cons]
    exact h
  | false =>
    rw [hn] at h
    simp only [Bool.false_eq_true, if_false, List.nil_append]
    rw [if_neg]
    · exact h
    · have hw := whole_dec q.num.natAbs
      have h1 := whole_all hw
      have h2 := ((wholeB_iff _).1 hw).1
      cases hq : decDigits q.num.natAbs with
      | nil => exact absurd hq h2
      | cons c l =>
        rw [hq, List.all_cons, Bool.and_eq_true, isDig_iff] at h1
        intro hc
        simp at hc
        rw [hc] at h1
        have : (45 : UInt8).toNat = 45 := rfl
        omega

theorem readL_txt (q : Rat) (h : (txt q).length ≤ 300) : readL (txt q) = some q := by unfold readL; rw [if_pos h]; exact parseL_txt q
end Go.Proofs.YtddbflggcblfcaaDoor.Por
