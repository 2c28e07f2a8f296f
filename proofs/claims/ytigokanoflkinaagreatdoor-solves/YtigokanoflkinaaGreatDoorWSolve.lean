/- fill.Solve: what users are due is a fair filling. (Laid by mksolve.py.) -/
import Derived.Test.YtigokanoflkinaaGreatDoorFBrgB
namespace Go.Proofs.YtigokanoflkinaaGreatDoor
set_option linter.unusedSimpArgs false
set_option linter.unusedVariables false
open Go.RowKit Por

/-- the end of the program's rises -/
noncomputable def endS (pool : List Int) (us : List Usr) : St := risesN (prb pool us) (st0 pool us) us.length
theorem endS_fair {pool : List Int} {us : List Usr} (hg : Good us pool.length) (hpa : ∀ i, amtB (lm pool i) = true) : FairFill (prb pool us) (rateU pool us pool.length) (endS pool us).ts ∧ ∀ i, i < us.length → (endS pool us).lv i = (endS pool us).ts i / rateU pool us pool.length i := by
  have ho := prb_ok hg hpa
  have hr := prb_rate hg hpa
  have hi := rises_inv ho hr (st0_inv hg hpa) us.length
  exact hi.last hr (rises_end ho hr (st0_inv hg hpa))
/-- what Solve gives where there is no error -/
structure Solved (w w' : World) (pool : List Int) (us : List Usr) (g : Nat) (d : FD) : Prop where
  of : d.Of pool us
  low : w.heap.size ≤ g
  sh : ShB w' g us.length us.length (endS pool us).ts (endS pool us).lv (stopV d (endS pool us))
  bel : Below w.heap.size w w'

def SolveEnd (w w' : World) (e : Ending) (pool : List Int) (us : List Usr) : Prop :=
  if errOf pool us = 0 then ∃ g d, e = .returned (.tuple #[.slice (some ⟨g, 0, none⟩) us.length us.length, .int .i64 0]) ∧ Solved w w' pool us g d
  else e = .returned (.tuple #[.slice none 0 0, .int .i64 (errOf pool us)]) ∧ Below w.heap.size w w'

set_option maxHeartbeats 2000000 in
set_option maxRecDepth 20000 in
theorem solve_any (po : Option Addr) (pn pc : Nat) (pool : List Int) (ao : Option Addr) (n cap : Nat) (us : List Usr) (w : World) (hp : Arr w 1 po pn pc (ints pool)) (hu : Users w ao n cap us) (ht : Tab w) :
    Calls Tryz.prog 11 #[.slice po pn pc, .slice ao n cap] w fun e w' => SolveEnd w w' e pool us := by
  have hpl := hp.len
  rw [ints_len] at hpl
  have hul := hu.1
  subst hpl
  have hnm : n ≤ maxLen := by obtain ⟨_, vs, h1, _⟩ := hu; exact Nat.le_trans h1.le h1.cm
  unfold maxLen at hnm
  have HP := hid hp
  have HU := hid hu
  have HT := hid ht
  clear hp hu ht
  have HB_0 := hid (Below.refl w.heap.size w)
  go_enter Tryz.func11, Tryz.ntmps11
  go_wp2_with fail
  refine (check_any po pool.length pc pool ao n cap us _ HP.out HU.out).mono ?_
  rintro e10 w10 ⟨rfl, hb10⟩
  have HB_11 : Hid (Below w.heap.size w w10) := HB_0.out.trans (hb10.mono HB_0.out.size)
  clear HB_0
  clear hb10
  by_cases he : errOf pool us = 0
  · obtain ⟨hpb, hn6, hgood, hpa, hp1, hp4⟩ := errOf_zero he
    have HG := hid hgood
    have HPA := hid hpa
    have HE := hid he
    clear hgood hpa hpb
    rw [he]
    clear he
    go_wp2_with fail
    refine (start_any po pc pool ao n cap us pool.length _ (HP.out.below HB_11.out) HPA.out (HU.out.below HB_11.out) HG.out (by omega) hp4 hp1 (HT.out.of HB_11.out)).mono ?_
    rintro e2 w2 ⟨d, rfl, ⟨hd1, hd2, hd3, hd4⟩, hok, hfs⟩
    have HOF := hid (show d.Of pool us from ⟨by omega, hd2, hd3, hd4⟩)
    have HOK := hid hok
    have HFS := hid (show FS _ d w2 (st0 pool us) from hfs)
    clear hd1 hd2 hd3 hd4 hok hfs
    go_wp2
    go_loopg [19] n (fun g ix wr => ∃ k : Nat, g = n - k ∧ k ≤ n ∧ ix = .int .i64 k ∧ Hid (FS w10 d wr (risesN (prb pool us) (st0 pool us) k)))
    case atStart => exact ⟨0, rfl, Nat.zero_le _, rfl, HFS.out⟩
    case round =>
      clear HFS
      obtain ⟨k, hgk, hk, rfl, hF⟩ := hrel
      by_cases hlt : k < n
      · go_wp2_with fail
        refine (rise_walk w10 d (risesN (prb pool us) (st0 pool us) k) _ hF.out HOK.out (rises_small HOF.out HG.out HPA.out hn6 (by omega)) _ _ rfl rfl).mono ?_
        rintro e3 w3 ⟨rfl, hf3⟩
        have HF3 : Hid (FS w10 d w3 (risesN (prb pool us) (st0 pool us) (k + 1))) := rise_eq HOF.out hf3
        clear hf3
        go_wp2
        go_roundg (n - (k + 1))
        case measure => omega
        case rel => exact ⟨k + 1, rfl, by omega, by go_num, HF3.out⟩
      · obtain rfl : k = n := by omega
        have hFE : Hid (FS w10 d wr (endS pool us)) := by have h9 := hF.out; rw [← hul] at h9; exact h9
        have HSME : Hid (Small d (endS pool us) 60) := rises_small HOF.out HG.out HPA.out hn6 hn6
        go_wp2_with fail
        refine (shares_any w10 d (endS pool us) _ hFE.out HOK.out HSME.out).mono ?_
        rintro e4 w4 ⟨g, hg, rfl, hsh, hb4⟩
        have HB4 : Hid (Below w10.heap.size w10 w4) := hFE.out.bel.trans (hb4.mono hFE.out.bel.size)
        have HB5 : Hid (Below w.heap.size w w4) := HB_11.out.trans (HB4.out.mono HB_11.out.size)
        have hgl : w.heap.size ≤ g := Nat.le_trans (Nat.le_trans HB_11.out.size hFE.out.bel.size) hg
        have HSH := hid hsh
        clear hsh hb4
        go_wp2
        go_ret2
        unfold SolveEnd
        rw [if_pos HE.out]
        have hdn : d.n = us.length := HOF.out.n
        refine ⟨g, d, ?_, HOF.out, hgl, ?_, HB5.out⟩
        · rw [hdn]; rfl
        · have h9 := HSH.out; rw [hdn] at h9; exact h9
  · have HE := hid he
    have h34 := errOf_cases pool us
    generalize hq : errOf pool us = c at he h34
    have HQ := hid hq
    clear hq
    have he2 : (c == 0) = false := by rw [beq_eq_false_iff_ne]; omega
    go_wp2
    go_ret2
    unfold SolveEnd
    rw [if_neg HE.out]
    exact ⟨by rw [HQ.out]; rfl, HB_11.out⟩

end Go.Proofs.YtigokanoflkinaaGreatDoor
