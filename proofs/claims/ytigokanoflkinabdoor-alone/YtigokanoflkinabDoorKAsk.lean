/- portionkeep.ask: Solve refuses or gives just as it must; nobody is due 0 but who must be. -/
import Derived.Test.YtigokanoflkinabDoorKAskA
namespace Go.Proofs.YtigokanoflkinabDoor
set_option linter.unusedSimpArgs false
set_option linter.unusedVariables false
open Go.RowKit Por

/-- may user u grow, by the first k kinds? -/
def openR (pool : List Int) (u : Usr) : Nat → Bool
  | 0 => decide (0 < u.cap)
  | k + 1 => openR pool u k && (decide (lm u.dem k = 0) || decide (0 < lm pool k))
theorem openR_iff (pool : List Int) (u : Usr) : ∀ k, openR pool u k = true ↔ 0 < u.cap ∧ ∀ r, r < k → (lm u.dem r = 0 ∨ 0 < lm pool r) := by
  intro k
  induction k with
  | zero => simp [openR]
  | succ k ih =>
    simp only [openR, Bool.and_eq_true, Bool.or_eq_true, decide_eq_true_eq]
    rw [ih]
    constructor
    · rintro ⟨⟨h1, h2⟩, h3⟩
      refine ⟨h1, fun r hr => ?_⟩
      by_cases e : r = k
      · subst e; exact h3
      · exact h2 r (by omega)
    · rintro ⟨h1, h2⟩
      exact ⟨⟨h1, fun r hr => h2 r (by omega)⟩, h2 k (by omega)⟩
theorem open_zero {pool : List Int} {us : List Usr} (hg : Good us pool.length) (hpa : ∀ i, amtB (lm pool i) = true) {i : Nat} (hi : i < us.length) : (endS pool us).ts i = 0 ↔ openR pool (ug us i) pool.length = false := by
  have h := zero_iff (prb_ok hg hpa) (prb_rate hg hpa) (endS_fair hg hpa).1 (i := i) hi
  rw [h, ← Bool.not_eq_true, openR_iff]
  have e : (0 < (prb pool us).C i ∧ ∀ r, r < (prb pool us).k → ((prb pool us).D i r = 0 ∨ 0 < (prb pool us).P r)) ↔ (0 < (ug us i).cap ∧ ∀ r, r < pool.length → (lm (ug us i).dem r = 0 ∨ 0 < lm pool r)) := by
    constructor
    · rintro ⟨h1, h2⟩
      refine ⟨int_pos.1 h1, fun r hr => ?_⟩
      rcases h2 r hr with h3 | h3
      · left
        apply Classical.byContradiction
        intro h5
        exact int_rat_zero h5 h3
      · right; exact int_pos.1 h3
    · rintro ⟨h1, h2⟩
      refine ⟨int_pos.2 h1, fun r hr => ?_⟩
      rcases h2 r hr with h3 | h3
      · left; show ((lm (ug us i).dem r : Int) : Rat) = 0; rw [h3]; rfl
      · right; exact int_pos.2 h3
  rw [e]
theorem dec_ne_nil (n : Nat) : Go.Lib.decDigits n ≠ [] := by
  intro h
  have := congrArg List.length h
  have h2 : 0 < (Go.Lib.decDigits n).length := by unfold Go.Lib.decDigits; split <;> simp
  rw [h] at h2; simp at h2
theorem txt_ne_nil (q : Rat) : txt q ≠ [] := by
  unfold txt
  intro h
  have h2 := List.append_eq_nil_iff.1 (List.append_eq_nil_iff.1 h).1
  exact dec_ne_nil _ h2.2
theorem txt_zero : txt 0 = [48] := by
  have e : txt ((0 : Int) : Rat) = Go.Lib.itoa 0 := txt_int 0
  have e2 : Go.Lib.decDigits 0 = [48] := by unfold Go.Lib.decDigits; rfl
  have e3 : Go.Lib.itoa 0 = [48] := by unfold Go.Lib.itoa; rw [if_neg (by decide)]; exact e2
  exact e.trans e3
theorem txt_inj {x y : Rat} (h : txt x = txt y) : x = y := by
  have h1 := parseL_txt x
  rw [h, parseL_txt y] at h1
  cases h1; rfl
theorem txt_eq_zero (q : Rat) : (txt q == [48]) = decide (q = 0) := by
  by_cases e : q = 0
  · subst e; rw [txt_zero]; simp
  · rw [decide_eq_false e, beq_eq_false_iff_ne]
    intro h
    rw [← txt_zero] at h
    exact e (txt_inj h)
theorem ShB.cells {w : World} {g n k i : Nat} {ts lv : Nat → Rat} {st : Nat → Int} (h : ShB w g n k ts lv st) (hi : i < k) : w.cell? ⟨g, i * 3, none⟩ = some (.string ⟨(txt (ts i)).toArray⟩) ∧ w.cell? ⟨g, i * 3 + 1, none⟩ = some (.string ⟨(txt (lv i)).toArray⟩) ∧ w.cell? ⟨g, i * 3 + 2, none⟩ = some (.int .i64 (st i)) := by
  obtain ⟨arr, h1, h2, h3⟩ := h
  obtain ⟨c0, c1, c2⟩ := h3 i hi
  exact ⟨(cell_of_row w g _ _ _ _ h1).trans c0, (cell_of_row w g _ _ _ _ h1).trans c1, (cell_of_row w g _ _ _ _ h1).trans c2⟩

def AskEnd (w w' : World) (e : Ending) (pool : List Int) (us : List Usr) : Prop :=
  if errOf pool us = 0 then ∃ g d, e = .returned (.tuple #[.slice (some ⟨g, 0, none⟩) us.length us.length, .bool true, .bool true]) ∧ Solved w w' pool us g d
  else e = .returned (.tuple #[.slice none 0 0, .bool true, .bool false]) ∧ Below w.heap.size w w'

theorem Solved.later {w w1 w' : World} {pool : List Int} {us : List Usr} {g : Nat} {d : FD} (h : Solved w1 w' pool us g d) (hb : Below w.heap.size w w1) : Solved w w' pool us g d := ⟨h.of, Nat.le_trans hb.size h.low, h.sh, hb.trans (h.bel.mono hb.size)⟩

set_option maxHeartbeats 4000000 in
set_option maxRecDepth 20000 in
theorem ask_any (po : Option Addr) (pn pc : Nat) (pool : List Int) (ao : Option Addr) (n cap : Nat) (us : List Usr) (w : World) (hp : Arr w 1 po pn pc (ints pool)) (hu : Users w ao n cap us) (ht : Tab w) :
    Calls Tryd.prog 5 #[.slice po pn pc, .slice ao n cap] w fun e w' => AskEnd w w' e pool us := by
  have hpl := hp.len
  rw [ints_len] at hpl
  have hul := hu.1
  have hnm : n ≤ maxLen := by obtain ⟨_, vs, h1, _⟩ := hu; exact Nat.le_trans h1.le h1.cm
  unfold maxLen at hnm
  have HP := hid hp
  have HU := hid hu
  have HT := hid ht
  clear hp hu ht
  go_enter Tryd.func5, Tryd.ntmps5
  go_wp2_with fail
  refine (refusal_any po pn pc pool ao n cap us _ HP.out HU.out).mono ?_
  rintro e1 w1 ⟨rfl, hb1⟩
  have HB1 := hid hb1
  clear hb1
  go_wp2_with fail
  refine (solve_any po pn pc pool ao n cap us _ (HP.out.below HB1.out) (HU.out.below HB1.out) (HT.out.of HB1.out)).mono ?_
  rintro e2 w2 hse
  unfold SolveEnd at hse
  by_cases he : errOf pool us = 0
  · rw [if_pos he] at hse
    obtain ⟨g, d, rfl, hsol⟩ := hse
    obtain ⟨hpb, hn6, hgood, hpa, hp1, hp4⟩ := errOf_zero he
    rw [he]
    have HG := hid hgood
    have HPA := hid hpa
    have HE := hid he
    have HSOL := hid hsol
    have HB2 : Hid (Below w.heap.size w w2) := HB1.out.trans (hsol.bel.mono HB1.out.size)
    have hsl := hsol.sh.lt
    clear hgood hpa hpb he hsol
    rw [hul]
    go_wp2
    go_loop [10] (fun i => ∃ k : Nat, k ≤ n ∧ i = .int .i64 k) (fun i => n - (intOf i).toNat)
    case atStart => exact ⟨0, Nat.zero_le _, rfl⟩
    case round =>
      obtain ⟨k, hk, rfl⟩ := hrel
      by_cases hlt : k < n
      · obtain ⟨b, o, da, dn, dc, rfl, hb, c0, c1, c2, hd⟩ := (HU.out.below HB2.out).get hlt
        have hdl := hd.len
        rw [ints_len, HG.out.len (i := k) (by omega), hpl] at hdl
        have HDL := hid hdl
        clear hdl
        have HD := hid hd
        clear hd
        have HCP := hid c2
        have hkn : (k : Int) < (n : Int) := by omega
        go_wp2
        go_loop [11, 12] (fun op ix => ∃ r : Nat, r ≤ pn ∧ ix = .int .i64 r ∧ op = .bool (openR pool (ug us k) r)) (fun _ ix => pn - (intOf ix).toNat)
        case atStart => exact ⟨0, Nat.zero_le _, rfl, rfl⟩
        case round =>
          obtain ⟨r, hr, rfl, rfl⟩ := hrel
          by_cases hrlt : r < pn
          · obtain ⟨db, dof, rfl, hdb⟩ := HD.out.head (by have := HDL.out; omega)
            have cd := HD.out.int rfl (i := r) (by have := HDL.out; omega)
            have hrdn : (r : Int) < (dn : Int) := by have := HDL.out; omega
            obtain ⟨pb, pof, rfl, hpbl⟩ := HP.out.head (by omega)
            have cp := (HP.out.below HB2.out).int rfl hrlt
            have hrpn : (r : Int) < (pn : Int) := by omega
            have hstep : openR pool (ug us k) (r + 1) = (openR pool (ug us k) r && (decide (lm (ug us k).dem r = 0) || decide (0 < lm pool r))) := rfl
            have HST := hid hstep
            clear hstep
            generalize hx : lm (ug us k).dem r = x at cd
            have HX := hid hx
            clear hx
            generalize hy : lm pool r = y at cp
            have HY := hid hy
            clear hy
            cases ho : openR pool (ug us k) r with
            | false =>
              have HO := hid ho
              clear ho
              go_wp2
              exact ⟨⟨r + 1, by omega, by go_num, by rw [HST.out, HO.out]; rfl⟩, by simp [intOf]; omega⟩
            | true =>
              have HO := hid ho
              clear ho
              by_cases hx0 : x = 0
              · subst hx0
                go_wp2
                exact ⟨⟨r + 1, by omega, by go_num, by rw [HST.out, HO.out, HX.out]; rfl⟩, by simp [intOf]; omega⟩
              · have hxb : (x == 0) = false := by rw [beq_eq_false_iff_ne]; exact hx0
                have hxd : decide (x = 0) = false := decide_eq_false hx0
                by_cases hy0 : 0 < y
                · have hyd : decide (0 < y) = true := decide_eq_true hy0
                  have HYD := hid hyd
                  have HXD := hid hxd
                  go_wp2
                  exact ⟨⟨r + 1, by omega, by go_num, by rw [HST.out, HO.out, HX.out, HY.out, HYD.out, HXD.out]; rfl⟩, by simp [intOf]; omega⟩
                · have hyd : decide (0 < y) = false := decide_eq_false hy0
                  have HYD := hid hyd
                  have HXD := hid hxd
                  go_wp2
                  exact ⟨⟨r + 1, by omega, by go_num, by rw [HST.out, HO.out, HX.out, HY.out, HYD.out, HXD.out]; rfl⟩, by simp [intOf]; omega⟩
          · obtain rfl : r = pn := by omega
            have hoz := open_zero HG.out HPA.out (i := k) (by omega)
            rw [hpl] at hoz
            obtain ⟨s0, s1, s2⟩ := HSOL.out.sh.cells (i := k) (by omega)
            have t1 : (txt ((endS pool us).ts k) == []) = false := by rw [beq_eq_false_iff_ne]; exact txt_ne_nil _
            have t2 := txt_eq_zero ((endS pool us).ts k)
            have HS0 := hid s0
            clear s1 s2
            generalize (endS pool us).ts k = X at s0 hoz t1 t2
            by_cases hx : X = 0
            · have ho := hoz.1 hx
              rw [ho]
              rw [decide_eq_true hx] at t2
              have t3 : txt X = [48] := by simpa using t2
              have t4 : txt X ≠ [] := by simpa using t1
              clear hoz ho hx
              go_wp2
              exact ⟨⟨k + 1, by omega, by go_num⟩, by simp [intOf]; omega⟩
            · have ho : openR pool (ug us k) r = true := by
                rw [← Bool.not_eq_false]; exact fun h => hx (hoz.2 h)
              rw [ho]
              rw [decide_eq_false hx] at t2
              have t3 : txt X ≠ [48] := by simpa using t2
              have t4 : txt X ≠ [] := by simpa using t1
              clear hoz ho hx
              go_wp2
              exact ⟨⟨k + 1, by omega, by go_num⟩, by simp [intOf]; omega⟩
      · obtain rfl : k = n := by omega
        go_wp2
        go_ret3
        unfold AskEnd
        rw [if_pos HE.out, hul]
        exact ⟨g, d, rfl, HSOL.out.later HB1.out⟩
  · rw [if_neg he] at hse
    obtain ⟨rfl, hb2⟩ := hse
    have HE := hid he
    have HB2 : Hid (Below w.heap.size w w2) := HB1.out.trans (hb2.mono HB1.out.size)
    have h34 := errOf_cases pool us
    generalize hq : errOf pool us = c at he h34
    have he2 : (c == 0) = false := by rw [beq_eq_false_iff_ne]; omega
    have HQ := hid hq
    clear hq hb2
    go_wp2
    go_ret3
    unfold AskEnd
    rw [if_neg HE.out]
    exact ⟨by simp, HB2.out⟩
end Go.Proofs.YtigokanoflkinabDoor
