/- RSol, LSol, joined. -/
import Derived.Test.YtigokanoflkinaaGreatDoorRRsJ
import Derived.Test.YtigokanoflkinaaGreatDoorRRisF
import Derived.Test.YtigokanoflkinaaGreatDoorLHnd
/- portionref Solve. (Laid by mkrisel.py.) -/
namespace Go.Proofs.YtigokanoflkinaaGreatDoor
set_option linter.unusedSimpArgs false
set_option linter.unusedVariables false
open Go.RowKit Por

/-- the cells of the first k shares -/
def shL (ts lv : Nat → Rat) (st : Nat → Int) : Nat → List Value
  | 0 => []
  | k + 1 => shL ts lv st k ++ [.string ⟨(txt (ts k)).toArray⟩, .string ⟨(txt (lv k)).toArray⟩, .int .i64 (st k)]
theorem shL_len (ts lv : Nat → Rat) (st : Nat → Int) (k : Nat) : (shL ts lv st k).length = k * 3 := by
  induction k with
  | zero => rfl
  | succ k ih => simp only [shL, List.length_append, ih]; simp; omega
theorem shL_get {ts lv : Nat → Rat} {st : Nat → Int} : ∀ {k i : Nat}, i < k → (shL ts lv st k)[i * 3]? = some (.string ⟨(txt (ts i)).toArray⟩) ∧ (shL ts lv st k)[i * 3 + 1]? = some (.string ⟨(txt (lv i)).toArray⟩) ∧ (shL ts lv st k)[i * 3 + 2]? = some (.int .i64 (st i)) := by
  intro k
  induction k with
  | zero => intro i h; omega
  | succ k ih =>
    intro i h
    have hl := shL_len ts lv st k
    simp only [shL]
    by_cases e : i = k
    · subst e
      refine ⟨?_, ?_, ?_⟩
      · rw [List.getElem?_append_right (by omega), hl]; simp
      · rw [List.getElem?_append_right (by omega), hl, show i * 3 + 1 - i * 3 = 1 by omega]; rfl
      · rw [List.getElem?_append_right (by omega), hl, show i * 3 + 2 - i * 3 = 2 by omega]; rfl
    · obtain ⟨h1, h2, h3⟩ := ih (i := i) (by omega)
      rw [List.getElem?_append_left (by omega), List.getElem?_append_left (by omega), List.getElem?_append_left (by omega)]
      exact ⟨h1, h2, h3⟩
/-- out = append(out, x), of shares -/
theorem wpList_append_shr (w : World) {ops : Array Oper} {rest : List Oper} {o : Oper} {a : Act} {Q : Exit → Act → World → Prop} (hgd : o.guard = none) (s x : Operand)
    (hop : o.op = Op.call { callee := Callee.builtin Builtin.append, args := #[s, x], argTypes := #[24, 24] })
    (base : Nat) (v : Value) (n : Nat) (l : List Value) (ad : Addr) (c : Nat) (t1 t2 : ByteArray) (z : Int) (hs : a.eval s = v) (hx : a.eval x = .slice (some ad) 1 c) (hown : w.ownsRow base 35 3 v n l)
    (h0 : w.cell? (ad.add 0) = some (.string t1)) (h1 : w.cell? (ad.add 1) = some (.string t2)) (h2 : w.cell? (ad.add 2) = some (.int .i64 z)) (hle : n + 1 ≤ 1000000) (hb : base ≤ w.heap.size)
    (h : ∀ v' w', w'.ownsRow base 35 3 v' (n + 1) (l ++ [.string t1, .string t2, .int .i64 z]) → Below base w w' → wpList Tryz.prog ops Q rest (a.put o.dst v') w') : wpList Tryz.prog ops Q (o :: rest) a w := by
  obtain ⟨i, hi, hz0, hz1, hz2⟩ := info_parts Tryz.infoShare
  have hob : ∀ k, v.ownBlock = some k → base ≤ k := by
    intro k hk
    rcases hown.2 with ⟨rfl, _⟩ | ⟨g, cap, cur, rfl, h2, _⟩
    · cases hk
    · cases hk; exact h2
  refine wpList_append_own w hgd s x _ hop base 35 i (.agg #[.string ⟨#[]⟩, .string ⟨#[]⟩, .int .i64 0]) 3 40 Tryz.underlying24 hi hz0 hz1 hz2 rfl (by decide) v n l hs hown ad 1 c [.string t1, .string t2, .int .i64 z] hx (by simp) ?_ ?_ (by unfold maxLen; omega) (by omega) hb ?_
  · intro j u hj
    match j with
    | 0 => rw [h0]; simpa using hj
    | 1 => rw [h1]; simpa using hj
    | 2 => rw [h2]; simpa using hj
    | j + 3 => simp at hj
  · intro u hu
    simp at hu
    rcases hu with rfl | rfl | rfl <;> rfl
  · intro v' w' g1 g2 _
    exact h v' w' g1 ((Below.refl base w).grown g2 hb hob)
/-- the cells of a list of shares -/
def ShV (w : World) (ao : Option Addr) (n : Nat) (ts lv : Nat → Rat) (st : Nat → Int) : Prop :=
  ∀ i, i < n → ∃ b o, ao = some ⟨b, o, none⟩ ∧ b < w.heap.size ∧ w.cell? ⟨b, o + i * 3, none⟩ = some (.string ⟨(txt (ts i)).toArray⟩) ∧ w.cell? ⟨b, o + i * 3 + 1, none⟩ = some (.string ⟨(txt (lv i)).toArray⟩) ∧ w.cell? ⟨b, o + i * 3 + 2, none⟩ = some (.int .i64 (st i))
theorem ShV.below {w w' : World} {ao : Option Addr} {n : Nat} {ts lv : Nat → Rat} {st : Nat → Int} (h : ShV w ao n ts lv st) (hb : Below w.heap.size w w') : ShV w' ao n ts lv st := by
  intro i hi
  obtain ⟨b, o, e, h1, h2, h3, h4⟩ := h i hi
  exact ⟨b, o, e, Nat.lt_of_lt_of_le h1 hb.size, (hb.cell (p := ⟨b, o + i * 3, none⟩) h1).trans h2, (hb.cell (p := ⟨b, o + i * 3 + 1, none⟩) h1).trans h3, (hb.cell (p := ⟨b, o + i * 3 + 2, none⟩) h1).trans h4⟩
theorem own_shv {w : World} {base n : Nat} {v : Value} {ts lv : Nat → Rat} {st : Nat → Int} (h : w.ownsRow base 35 3 v n (shL ts lv st n)) : ∃ ao cap, v = .slice ao n cap ∧ ShV w ao n ts lv st := by
  rcases h.2 with ⟨rfl, h0⟩ | ⟨g, cap, cur, rfl, h2, h3, h4, h5, h6, h7⟩
  · subst h0; exact ⟨none, 0, rfl, fun i hi => by omega⟩
  · refine ⟨_, _, rfl, fun i hi => ⟨g, 0, rfl, (Array.getElem?_eq_some_iff.1 h3).1, ?_⟩⟩
    have key : ∀ j, j < n * 3 → w.cell? ⟨g, 0 + j, none⟩ = (shL ts lv st n)[j]? := fun j hj => by
      rw [Nat.zero_add, cell_of_row w g j _ _ _ h3, ← Array.getElem?_toList, ← h7, List.getElem?_take, if_pos hj]
    obtain ⟨g1, g2, g3⟩ := shL_get (ts := ts) (lv := lv) (st := st) hi
    refine ⟨(key (i * 3) (by omega)).trans g1, ?_, ?_⟩
    · have := key (i * 3 + 1) (by omega); rw [← Nat.add_assoc] at this; exact this.trans g2
    · have := key (i * 3 + 2) (by omega); rw [← Nat.add_assoc] at this; exact this.trans g3
theorem shb_shv {w : World} {g n : Nat} {ts lv : Nat → Rat} {st : Nat → Int} (h : ShB w g n n ts lv st) : ShV w (some ⟨g, 0, none⟩) n ts lv st := by
  obtain ⟨arr, h1, h2, h3⟩ := h
  intro i hi
  obtain ⟨g1, g2, g3⟩ := h3 i hi
  refine ⟨g, 0, rfl, (Array.getElem?_eq_some_iff.1 h1).1, ?_, ?_, ?_⟩
  · rw [Nat.zero_add, cell_of_row w g _ _ _ _ h1]; exact g1
  · rw [Nat.zero_add, cell_of_row w g _ _ _ _ h1]; exact g2
  · rw [Nat.zero_add, cell_of_row w g _ _ _ _ h1]; exact g3
noncomputable def tsE (pool : List Int) (us : List Usr) : Nat → Rat := (endS pool us).ts
noncomputable def lvE (pool : List Int) (us : List Usr) : Nat → Rat := (endS pool us).lv
noncomputable def fdE (pool : List Int) (us : List Usr) : FD := ⟨none, us.length, 0, us, pool.length, wholeF pool, 0, 0, 0, 0, 0⟩
noncomputable def stE (pool : List Int) (us : List Usr) : Nat → Int := stopV (fdE pool us) (endS pool us)
theorem fdE_of (pool : List Int) (us : List Usr) : (fdE pool us).Of pool us := ⟨rfl, rfl, rfl, rfl⟩
/-- what the reference's Solve gives -/
def PSolveEnd (w w' : World) (e : Ending) (pool : List Int) (us : List Usr) : Prop :=
  (if errOf pool us = 0 then ∃ ao cap, e = .returned (.tuple #[.slice ao us.length cap, .int .i64 0]) ∧ ShV w' ao us.length (tsE pool us) (lvE pool us) (stE pool us)
  else e = .returned (.tuple #[.slice none 0 0, .int .i64 (errOf pool us)])) ∧ Below w.heap.size w w'

set_option maxHeartbeats 20000000 in
set_option maxRecDepth 20000 in
theorem psolve_any (po : Option Addr) (pn pc : Nat) (pool : List Int) (ao : Option Addr) (n cap : Nat) (us : List Usr) (w : World) (hp : Arr w 1 po pn pc (ints pool)) (hu : Users w ao n cap us) :
    Calls Tryz.prog 8 #[.slice po pn pc, .slice ao n cap] w fun e w' => PSolveEnd w w' e pool us := by
  have hpl := hp.len
  rw [ints_len] at hpl
  have hul := hu.1
  subst hpl
  subst hul
  have HP := hid hp
  have HU := hid hu
  clear hp hu
  have HB_0 := hid (Below.refl w.heap.size w)
  go_enter Tryz.func8, Tryz.ntmps8
  go_wp2_with fail
  refine (perrs_any po pool.length pc pool ao us.length cap us _ HP.out HU.out).mono ?_
  rintro e1 w1 ⟨rfl, hb1⟩
  have HB_6 : Hid (Below (w.heap.size) w w1) := HB_0.out.trans (hb1.mono (HB_0.out.size))
  clear HB_0
  clear hb1
  by_cases he : errOf pool us = 0
  · obtain ⟨hpb, hn6, hgood, hpa, hk1, hk4⟩ := errOf_zero he
    have HG := hid hgood
    have HPA := hid hpa
    have HE := hid he
    clear hgood hpa hpb
    rw [he]
    clear he
    go_wp2_with fail
    refine (pbegin_any po pc pool ao cap us _ (HP.out.below HB_6.out) (HU.out.below HB_6.out) HG.out HPA.out hn6 hk1 hk4).mono ?_
    rintro e2 w2 ⟨pb, B1, B2, s0, rfl, hM0, hBg, hb2⟩
    obtain ⟨d, hd⟩ : ∃ d : RD, d = ⟨w1, po, pc, pool, ao, cap, us, pb, B1, B2⟩ := ⟨_, rfl⟩
    rw [← hd] at hM0 hBg
    have hdp : d.pool = pool := by rw [hd]
    have hdu : d.us = us := by rw [hd]
    have hdb : d.pb = pb := by rw [hd]
    have hdw : d.w0 = w1 := by rw [hd]
    have HOK : Hid d.Ok := ⟨by rw [hdp, hdu]; exact HG.out, by rw [hdp]; exact HPA.out, by rw [hdu]; exact hn6, by rw [hdp]; exact hk1, by rw [hdp]; exact hk4⟩
    have HI0 := hid (hBg.inn HOK.out)
    have HM0 := hid hM0
    have HDU := hid hdu
    have HDP := hid hdp
    have HLO : Hid (w.heap.size ≤ d.pb) := by show w.heap.size ≤ d.pb; have h8 := hM0.low; rw [hdw] at h8; have h9 := HB_6.out.size; omega
    rw [← hdb]
    clear hd hdp hdb hdw hM0 hBg hdu
    have HB_7 : Hid (Below (w.heap.size) w w2) := HB_6.out.trans (hb2.mono (HB_6.out.size))
    clear HB_6
    clear hb2
    go_wp2
    go_loopg [8] (us.length + 1) (fun gg s8 wr => ∃ (t : Nat) (s : RV) (b : Bool), s8 = .bool b ∧ Hid (RIn d s t) ∧ Hid (RisM wr d s) ∧ Hid (Below w.heap.size w wr) ∧ ((b = true ∧ gg = us.length + 1 - t) ∨ (b = false ∧ gg = 0 ∧ Hid (REnd d s))))
    case atStart => exact ⟨0, s0, true, rfl, HI0.out, HM0.out, HB_7.out, Or.inl ⟨rfl, rfl⟩⟩
    case round =>
      clear HI0 HM0 HB_7
      obtain ⟨t, s, b, rfl, HI, HM, hB, hcase⟩ := hrel
      rcases hcase with ⟨rfl, hgg⟩ | ⟨rfl, hgg, HEN⟩
      · have htn : t ≤ us.length := by have h9 := HI.out.cnt; rw [HDU.out] at h9; omega
        go_wp2_with fail
        refine (pstop_any d s _ HM.out HOK.out (HI.out.ok HOK.out) HI.out.hle).mono ?_
        rintro e3 w3 (⟨hz, rfl, hb3⟩ | ⟨hne, hSl, rfl, t2, hM2, e1, e2, e3, e4, hT, hb3⟩)
        · have HEN := hid (HI.out.fin HOK.out hz)
          have HM3 := hid (HM.out.below hb3)
          have HB3 : Hid (Below w.heap.size w w3) := hB.out.trans (hb3.mono hB.out.size)
          clear hb3 hz
          go_wp2
          go_roundg 0
          case measure => omega
          case rel => exact ⟨t, s, false, rfl, HI.out, HM3.out, HB3.out, Or.inr ⟨rfl, rfl, HEN.out⟩⟩
        · have HI2 := hid (HI.out.turn HOK.out hne hSl e1 e2 e3 e4 hT)
          have HM3 := hid hM2
          have HB3 : Hid (Below w.heap.size w w3) := hB.out.trans (hb3.mono HLO.out)
          clear hb3 hne hSl e1 e2 e3 e4 hT hM2
          go_wp2
          go_roundg (us.length + 1 - (t + 1))
          case measure => omega
          case rel => exact ⟨t + 1, t2, true, rfl, HI2.out, HM3.out, HB3.out, Or.inl ⟨rfl, rfl⟩⟩
      · have HS := hid (HI.out.ok HOK.out)
        have HLE := hid HI.out.hle
        obtain ⟨w4, hw4⟩ : ∃ w4, w4 = wr := ⟨_, rfl⟩
        rw [← hw4] at HM hB ⊢
        clear hw4
        go_wp2
        go_loopg [9, 10] us.length (fun gg s9 ix wr => ∃ (i : Nat), gg = us.length - i ∧ i ≤ us.length ∧ ix = .int .i64 i ∧ Hid (wr.ownsRow w4.heap.size 35 3 s9 i (shL (tsE pool us) (lvE pool us) (stE pool us) i)) ∧ Hid (Below w4.heap.size w4 wr))
        case atStart => exact ⟨0, rfl, Nat.zero_le _, rfl, ⟨rfl, .inl ⟨rfl, rfl⟩⟩, Below.refl _ _⟩
        case round =>
          obtain ⟨i, hgi, hi, rfl, HO, hB4⟩ := hrel
          by_cases hit : i < us.length
          · have hin : (i : Int) < (us.length : Int) := by omega
            go_wp2_with fail
            refine (pshare_any d s i _ (HM.out.below hB4.out) HOK.out HS.out HEN.out HLE.out (by rw [HDU.out]; exact hit)).mono ?_
            rintro e5 w5 ⟨rfl, hb5⟩
            have HO5 := hid (own_below HO.out hb5)
            have HB5 : Hid (Below w4.heap.size w4 w5) := hB4.out.trans (hb5.mono hB4.out.size)
            clear hb5 HO hB4
            obtain ⟨a1, ha1⟩ : ∃ a : ByteArray, a = ⟨(txt (d.ts i)).toArray⟩ := ⟨_, rfl⟩
            obtain ⟨a2, ha2⟩ : ∃ a : ByteArray, a = ⟨(txt (d.lv i)).toArray⟩ := ⟨_, rfl⟩
            obtain ⟨z, hz⟩ : ∃ z : Int, z = stopV d.fd (endS d.pool d.us) i := ⟨_, rfl⟩
            rw [← ha1, ← ha2, ← hz]
            have HL : Hid (shL (tsE pool us) (lvE pool us) (stE pool us) (i + 1) = shL (tsE pool us) (lvE pool us) (stE pool us) i ++ [.string a1, .string a2, .int .i64 z]) := by
              show shL _ _ _ i ++ _ = _
              rw [ha1, ha2, hz]
              show _ ++ [_, _, Value.int .i64 (stopV (fdE pool us) (endS pool us) i)] = _
              rw [stopV_of (fdE_of pool us) (by rw [← HDP.out, ← HDU.out]; exact d.fd_of : d.fd.Of pool us)]
              unfold RD.ts RD.lv
              rw [HDP.out, HDU.out]
              rfl
            clear ha1 ha2 hz
            have HOX := hid (own_below (own_below HO5.out ((Below.refl w5.heap.size w5).alloc (Nat.le_refl _) (.cells #[.string a1, .string a2, .int .i64 z] 35))) ((Below.refl _ (w5.alloc (.cells #[.string a1, .string a2, .int .i64 z] 35))).alloc (Nat.le_refl _) (.cells #[.string a1, .string a2, .int .i64 z] 35)))
            have HTB : Hid (Bx ((w5.alloc (.cells #[.string a1, .string a2, .int .i64 z] 35)).alloc (.cells #[.string a1, .string a2, .int .i64 z] 35)) (w5.heap.size + 1) #[.string a1, .string a2, .int .i64 z] 35) := by have h9 := bx_new (w5.alloc (.cells #[.string a1, .string a2, .int .i64 z] 35)) #[.string a1, .string a2, .int .i64 z] 35; rw [World.size_alloc] at h9; exact h9
            go_wp2_with (at_builtin; refine wpList_append_shr _ rfl _ _ rfl w4.heap.size _ i (shL (tsE pool us) (lvE pool us) (stE pool us) i) ⟨w5.heap.size + 1, 0, none⟩ 1 a1 a2 z rfl rfl HOX.out (HTB.out.cell 0 _ rfl) (HTB.out.cell 1 _ rfl) (HTB.out.cell 2 _ rfl) (by omega) (by have := HB5.out.size; simp only [World.size_alloc]; omega) ?_)
            intro v6 w6 hO6 hB6
            have HO6 : Hid (w6.ownsRow w4.heap.size 35 3 v6 (i + 1) (shL (tsE pool us) (lvE pool us) (stE pool us) (i + 1))) := by rw [HL.out]; exact hO6
            have HB6 : Hid (Below w4.heap.size w4 w6) := ((HB5.out.alloc HB5.out.size _).alloc (Nat.le_trans HB5.out.size (by rw [World.size_alloc]; omega)) _).trans hB6
            clear hO6 hB6 HOX HTB
            go_wp2
            go_roundg (us.length - (i + 1))
            case measure => omega
            case rel => exact ⟨i + 1, rfl, by omega, by go_num, HO6.out, HB6.out⟩
          · obtain rfl : i = us.length := by omega
            obtain ⟨so, sc, hv, HV⟩ := own_shv HO.out
            subst hv
            have HVV := hid HV
            clear HV
            go_wp2
            skip
            first | go_ret2 | go_ret
            unfold PSolveEnd
            rw [if_pos HE.out]
            exact ⟨⟨so, sc, rfl, HVV.out⟩, hB.out.trans (hB4.out.mono hB.out.size)⟩
  · have HE := hid he
    have hne : (errOf pool us == 0) = false := by rw [beq_eq_false_iff_ne]; exact he
    have hne2 : errOf pool us ≠ 0 := he
    clear he
    generalize hg : errOf pool us = g at hne hne2 ⊢
    have HGE := hid hg
    clear hg
    go_wp2
    first | go_ret2 | go_ret
    unfold PSolveEnd
    rw [if_neg HE.out, HGE.out]
    exact ⟨rfl, HB_6.out⟩

end Go.Proofs.YtigokanoflkinaaGreatDoor

/- portionlaw shares, Solves. (Laid by mksolves.py.) -/
namespace Go.Proofs.YtigokanoflkinaaGreatDoor
set_option linter.unusedSimpArgs false
set_option linter.unusedVariables false
open Go.RowKit Por

set_option maxHeartbeats 2000000 in
set_option maxRecDepth 20000 in
theorem lshares_any (ao bo : Option Addr) (n ca cb : Nat) (ts lv : Nat → Rat) (st : Nat → Int) (w : World) (hA : ShV w ao n ts lv st) (hB : ShV w bo n ts lv st) (hn : n ≤ 1000000) :
    Calls Tryz.prog 12 #[.slice ao n ca, .slice bo n cb] w fun e w' => e = .returned (.bool true) ∧ Below w.heap.size w w' := by
  have HA := hid hA
  have HB := hid hB
  clear hA hB
  have HB_0 := hid (Below.refl w.heap.size w)
  go_enter Tryz.func12, Tryz.ntmps12
  go_wp2
  go_loopg [5] n (fun gg ix wr => ∃ i : Nat, gg = n - i ∧ i ≤ n ∧ ix = .int .i64 i ∧ Hid (Below w.heap.size w wr))
  case atStart => exact ⟨0, rfl, Nat.zero_le _, rfl, HB_0.out⟩
  case round =>
    clear HB_0
    obtain ⟨i, hgi, hi, rfl, hB⟩ := hrel
    by_cases hit : i < n
    · have hin : (i : Int) < (n : Int) := by omega
      obtain ⟨b1, o1, h1, l1, x0, x1, x2⟩ := (HA.out.below hB.out) i hit
      obtain ⟨b2, o2, h2, l2, y0, y1, y2⟩ := (HB.out.below hB.out) i hit
      generalize (⟨(txt (ts i)).toArray⟩ : ByteArray) = ta at x0 y0
      generalize (⟨(txt (lv i)).toArray⟩ : ByteArray) = la at x1 y1
      generalize st i = z at x2 y2
      have t1 : (ta.toList == ta.toList) = true := by simp
      have t2 : (!(ta.toList == ta.toList)) = false := by simp
      have t3 : (la.toList == la.toList) = true := by simp
      have t4 : (!(la.toList == la.toList)) = false := by simp
      subst h1
      subst h2
      go_upto_region 6 with fail
      go_quiet (fail)
      go_wp2
      go_roundg (n - (i + 1))
      case measure => omega
      case rel => exact ⟨i + 1, rfl, by omega, by go_num, below_drewN hB.out _⟩
    · obtain rfl : i = n := by omega
      go_wp2
      go_ret
      exact ⟨rfl, hB.out⟩

theorem ShB.otherB {w : World} {g n k : Nat} {ts lv : Nat → Rat} {st : Nat → Int} (h : ShB w g n k ts lv st) (a : Addr) (v : Value) (ha : a.block ≠ g) : ShB (w.setCell a v) g n k ts lv st := by
  obtain ⟨arr, h1, h2, h3⟩ := h
  exact ⟨arr, (heap_setCell_other w a g v (fun e => ha e.symm)).trans h1, h2, h3⟩
/-- block g is one of n shares, of whatever contents -/
def ShX (w : World) (g n : Nat) : Prop := ∃ arr, w.heap[g]? = some (.cells arr 35 (0, 0)) ∧ arr.size = n * 3
theorem ShX.lt {w : World} {g n : Nat} (h : ShX w g n) : g < w.heap.size := by obtain ⟨arr, h1, _⟩ := h; exact (Array.getElem?_eq_some_iff.1 h1).1
theorem ShX.has {w : World} {g n j : Nat} (h : ShX w g n) (hj : j < n * 3) : (∃ u, w.cell? ⟨g, j, none⟩ = some u) ∧ w.frozen? ⟨g, j, none⟩ = false := by
  obtain ⟨arr, h1, h2⟩ := h
  refine ⟨⟨arr[j]'(by omega), ?_⟩, frozen_of_row w g j _ _ h1⟩
  rw [cell_of_row w g j _ _ _ h1]; exact Array.getElem?_eq_getElem (by omega)
theorem ShX.set {w : World} {g n : Nat} (h : ShX w g n) (j : Nat) (v : Value) : ShX (w.setCell ⟨g, j, none⟩ v) g n := by
  obtain ⟨arr, h1, h2⟩ := h
  exact ⟨arr.setIfInBounds j v, heap_setCell_same w g j _ _ v h1, by simpa using h2⟩
theorem ShX.below {w w' : World} {g n : Nat} (h : ShX w g n) (hb : Below w.heap.size w w') : ShX w' g n := by
  have hl := h.lt
  obtain ⟨arr, h1, h2⟩ := h
  exact ⟨arr, (hb.block g hl).trans h1, h2⟩

set_option maxHeartbeats 20000000 in
set_option maxRecDepth 20000 in
theorem solves_any (po : Option Addr) (pn pc : Nat) (pool : List Int) (ao : Option Addr) (n cap : Nat) (us : List Usr) (w : World) (hp : Arr w 1 po pn pc (ints pool)) (hu : Users w ao n cap us) (ht : Tab w) (hpn : pn ≤ 17592186044416) (hn : n ≤ 3518437208882) (hdl : ∀ i, i < us.length → (ug us i).dem.length ≤ 17592186044416) :
    Calls Tryz.prog 3 #[.slice po pn pc, .slice ao n cap] w fun e w' => e = .returned (.bool true) ∧ Below w.heap.size w w' := by
  have hpl := hp.len
  rw [ints_len] at hpl
  have hul := hu.1
  subst hpl
  subst hul
  have HP := hid hp
  have HU := hid hu
  have HT := hid ht
  have HDL := hid hdl
  clear hp hu ht hdl
  have HB_0 := hid (Below.refl w.heap.size w)
  go_enter Tryz.func3, Tryz.ntmps3
  go_wp2_with fail
  refine (psolve_any po pool.length pc pool ao us.length cap us _ (HP.out.below HB_0.out) (HU.out.below HB_0.out)).mono ?_
  rintro e0 w0 ⟨hps, hb0⟩
  have HB_6 : Hid (Below (w.heap.size) w w0) := HB_0.out.trans (hb0.mono (HB_0.out.size))
  clear HB_0
  clear hb0
  have HPS := hid hps
  clear hps
  by_cases he : errOf pool us = 0
  · have h9 := HPS.out
    rw [if_pos he] at h9
    obtain ⟨wo, wc, rfl, hwv⟩ := h9
    have HW := hid hwv
    obtain ⟨_, hn6, _⟩ := errOf_zero he
    have HE := hid he
    clear hwv he HPS
    go_wp2_with fail
    refine (handed_any po pool.length pc pool _ (HP.out.below HB_6.out) hpn).mono ?_
    rintro e1 w1 ⟨pg, hpg, rfl, hpk, hb1⟩
    have Rw_7 := hid (HW.out.below hb1)
    have HB_7 : Hid (Below w.heap.size w w1) := HB_6.out.trans (hb1.mono HB_6.out.size)
    clear HB_6 HW
    have HPK := hid hpk
    clear hb1 hpk
    go_wp2_with fail
    refine (users_any ao us.length cap us _ (HU.out.below HB_7.out) hn HDL.out).mono ?_
    rintro e2 w2 ⟨og, dv, dl, hog, rfl, hcr, how, hb2⟩
    have Rw_8 := hid (Rw_7.out.below hb2)
    have Rpk_8 := hid (HPK.out.below hb2 HPK.out.lt)
    have HB_8 : Hid (Below w.heap.size w w2) := HB_7.out.trans (hb2.mono HB_7.out.size)
    clear HB_7 Rw_7 HPK
    have HCR := hid hcr
    have HOW := hid how
    clear hb2 hcr how
    obtain ⟨dvo, dvc, rfl⟩ := own_shape HOW.out
    obtain ⟨dvn, hdvn⟩ : ∃ dvn, dvn = dl.length := ⟨_, rfl⟩
    rw [← hdvn] at HOW ⊢
    have HDN := hid hdvn
    clear hdvn
    have HXC := hid (bx_new w2 #[.slice (some ⟨og, 0, none⟩) us.length (us.length + 1), .slice dvo dvn dvc] 31)
    have hal := (Below.refl w2.heap.size w2).alloc (Nat.le_refl _) (.cells #[.slice (some ⟨og, 0, none⟩) us.length (us.length + 1), .slice dvo dvn dvc] 31)
    have Rw_9 := hid (Rw_8.out.below hal)
    have Rpk_9 := hid (Rpk_8.out.below hal Rpk_8.out.lt)
    have Rcr_9 := hid (HCR.out.below hal)
    have Row_9 := hid (own_below HOW.out hal)
    have HB_9 : Hid (Below w.heap.size w (w2.alloc (.cells #[.slice (some ⟨og, 0, none⟩) us.length (us.length + 1), .slice dvo dvn dvc] 31))) := HB_8.out.trans (hal.mono HB_8.out.size)
    clear HB_8 Rw_8 Rpk_8 HCR HOW
    clear hal
    have HMX : Hid (∀ i, i < us.length → (ug us i).dem.length + 2 ≤ maxLen) := fun i hi => by have := HDL.out i hi; unfold maxLen; omega
    have ltC := HXC.out.lt
    have cC0 := HXC.out.cell 0 _ rfl
    have cC1 := HXC.out.cell 1 _ rfl
    go_wp2_with fail
    clear ltC cC0 cC1
    obtain ⟨wL, hwL⟩ : ∃ wL, wL = (w2.alloc (.cells #[.slice (some ⟨og, 0, none⟩) us.length (us.length + 1), .slice dvo dvn dvc] 31)) := ⟨_, rfl⟩
    have HLW := hid Rw_9.out
    have HLPK := hid Rpk_9.out
    have HLCR := hid Rcr_9.out
    have HLOW := hid Row_9.out
    have HLXC := hid HXC.out
    rw [← hwL] at HLW HLPK HLCR HLOW HLXC
    have HBA0 : Hid (Below wL.heap.size wL (w2.alloc (.cells #[.slice (some ⟨og, 0, none⟩) us.length (us.length + 1), .slice dvo dvn dvc] 31))) := by rw [hwL]; exact Below.refl _ _
    have HWL : Hid (wL.heap.size = (w2.alloc (.cells #[.slice (some ⟨og, 0, none⟩) us.length (us.length + 1), .slice dvo dvn dvc] 31)).heap.size) := by rw [Hid, hwL]
    clear hwL
    refine (solve_any (some ⟨pg, 0, none⟩) pool.length (pool.length + 2) pool (some ⟨og, 0, none⟩) us.length (us.length + 1) us _ (Blk.arr Rpk_9.out (by unfold maxLen; omega)) (Rcr_9.out.users (by unfold maxLen; omega) HMX.out) (HT.out.of HB_9.out)).mono ?_
    rintro e3 w3 hse3
    unfold SolveEnd at hse3
    rw [if_pos HE.out] at hse3
    obtain ⟨g3, d3, rfl, hsv3⟩ := hse3
    have hlow3 := hsv3.low
    have hb3 := hsv3.bel
    have hsh3 : ShB w3 g3 us.length us.length (tsE pool us) (lvE pool us) (stE pool us) := by have h9 := hsv3.sh; have e9 : stopV d3 (endS pool us) = (stE pool us) := funext fun i => stopV_of hsv3.of (fdE_of pool us) (endS pool us) i; rw [e9] at h9; exact h9
    have HSH3 := hid hsh3
    clear hsh3 hsv3
    have HG3L : Hid (wL.heap.size ≤ g3) := by show wL.heap.size ≤ g3; have h9 := HWL.out; omega
    have HG3 : Hid (w.heap.size ≤ g3) := by show w.heap.size ≤ g3; have h9 := HB_9.out.size; omega
    have HBA1 : Hid (Below wL.heap.size wL w3) := HBA0.out.trans (hb3.mono (by have h9 := HWL.out; omega))
    have XC_10 := hid (HXC.out.keep hb3)
    have Rw_10 := hid (Rw_9.out.below hb3)
    have Rpk_10 := hid (Rpk_9.out.below hb3 Rpk_9.out.lt)
    have Rcr_10 := hid (Rcr_9.out.below hb3)
    have Row_10 := hid (own_below Row_9.out hb3)
    have HB_10 : Hid (Below w.heap.size w w3) := HB_9.out.trans (hb3.mono HB_9.out.size)
    clear HB_9 HXC Rw_9 Rpk_9 Rcr_9 Row_9
    clear hb3
    have hg3 := HSH3.out.lt
    have ltC := XC_10.out.lt
    have cC0 := XC_10.out.cell 0 _ rfl
    have cC1 := XC_10.out.cell 1 _ rfl
    go_wp2_with fail
    clear ltC cC0 cC1
    have HSZ := hid hg3
    refine (solve_any (some ⟨pg, 0, none⟩) pool.length (pool.length + 2) pool (some ⟨og, 0, none⟩) us.length (us.length + 1) us _ (Blk.arr Rpk_10.out (by unfold maxLen; omega)) (Rcr_10.out.users (by unfold maxLen; omega) HMX.out) (HT.out.of HB_10.out)).mono ?_
    rintro e4 w4 hse4
    unfold SolveEnd at hse4
    rw [if_pos HE.out] at hse4
    obtain ⟨g4, d4, rfl, hsv4⟩ := hse4
    have hlow4 := hsv4.low
    have hb4 := hsv4.bel
    have hsh4 : ShB w4 g4 us.length us.length (tsE pool us) (lvE pool us) (stE pool us) := by have h9 := hsv4.sh; have e9 : stopV d4 (endS pool us) = (stE pool us) := funext fun i => stopV_of hsv4.of (fdE_of pool us) (endS pool us) i; rw [e9] at h9; exact h9
    have HSH4 := hid hsh4
    clear hsh4 hsv4
    have HBA2 : Hid (Below wL.heap.size wL w4) := HBA1.out.trans (hb4.mono HBA1.out.size)
    have XC_11 := hid (XC_10.out.keep hb4)
    have Rw_11 := hid (Rw_10.out.below hb4)
    have Rpk_11 := hid (Rpk_10.out.below hb4 Rpk_10.out.lt)
    have Rcr_11 := hid (Rcr_10.out.below hb4)
    have Row_11 := hid (own_below Row_10.out hb4)
    have Rsh3_11 := hid (HSH3.out.below hb4)
    have HB_11 : Hid (Below w.heap.size w w4) := HB_10.out.trans (hb4.mono HB_10.out.size)
    clear HB_10 XC_10 Rw_10 Rpk_10 Rcr_10 Row_10 HSH3
    clear hb4
    have hg34 : g3 < g4 := by have h9 := HSZ.out; omega
    go_wp2_with fail
    refine (lshares_any (some ⟨g3, 0, none⟩) wo us.length us.length wc (tsE pool us) (lvE pool us) (stE pool us) _ (shb_shv Rsh3_11.out) Rw_11.out (by omega)).mono ?_
    rintro e5 w5 ⟨rfl, hb5⟩
    have HBA : Hid (Below wL.heap.size wL w5) := HBA2.out.trans (hb5.mono HBA2.out.size)
    have XC_12 := hid (XC_11.out.keep hb5)
    have Rw_12 := hid (Rw_11.out.below hb5)
    have Rpk_12 := hid (Rpk_11.out.below hb5 Rpk_11.out.lt)
    have Rcr_12 := hid (Rcr_11.out.below hb5)
    have Row_12 := hid (own_below Row_11.out hb5)
    have Rsh3_12 := hid (Rsh3_11.out.below hb5)
    have Rsh4_12 := hid (HSH4.out.below hb5)
    have HB_12 : Hid (Below w.heap.size w w5) := HB_11.out.trans (hb5.mono HB_11.out.size)
    clear HB_11 XC_11 Rw_11 Rpk_11 Rcr_11 Row_11 Rsh3_11 HSH4
    clear hb5
    have t1 : ((0 : Int) != 0) = false := by decide
    go_wp2
    have HX0 : Hid (ShX w5 g3 us.length) := by obtain ⟨arr, h1, h2, _⟩ := Rsh3_12.out; exact ⟨arr, h1, h2⟩
    obtain ⟨wS, hwS⟩ : ∃ wS, wS = w5 := ⟨_, rfl⟩
    go_loopg [14] us.length (fun gg ix wr => ∃ i : Nat, gg = us.length - i ∧ i ≤ us.length ∧ ix = .int .i64 i ∧ Hid (ShX wr g3 us.length) ∧ Hid (ShB wr g4 us.length us.length (tsE pool us) (lvE pool us) (stE pool us)) ∧ Hid (Below g3 w5 wr))
    case atStart => exact ⟨0, rfl, Nat.zero_le _, rfl, HX0.out, Rsh4_12.out, Below.refl _ _⟩
    case round =>
      clear HX0
      obtain ⟨i, hgi, hi, rfl, HX, H4, hB⟩ := hrel
      by_cases hit : i < us.length
      · have hin : (i : Int) < (us.length : Int) := by omega
        obtain ⟨⟨u0, x0⟩, z0⟩ := HX.out.has (j := i * 3) (by omega)
        obtain ⟨⟨u1, x1⟩, z1⟩ := HX.out.has (j := i * 3 + 1) (by omega)
        obtain ⟨⟨u2, x2⟩, z2⟩ := HX.out.has (j := i * 3 + 2) (by omega)
        have lx := HX.out.lt
        go_wp2
        go_roundg (us.length - (i + 1))
        case measure => omega
        case rel => exact ⟨i + 1, rfl, by omega, by go_num, ((HX.out.set _ _).set _ _).set _ _, ((H4.out.otherB _ _ (by show g3 ≠ g4; omega)).otherB _ _ (by show g3 ≠ g4; omega)).otherB _ _ (by show g3 ≠ g4; omega), ((hB.out.setCell (Nat.le_refl _) _).setCell (Nat.le_refl _) _).setCell (Nat.le_refl _) _⟩
      · obtain rfl : i = us.length := by omega
        skip
        skip
        have HBW : Hid (Below w.heap.size w wr) := HB_12.out.trans (hB.out.mono HG3.out)
        have HBL : Hid (Below wL.heap.size wL wr) := HBA.out.trans (hB.out.mono HG3L.out)
        have LW := hid (HLW.out.below HBL.out)
        have LPK := hid (HLPK.out.below HBL.out HLPK.out.lt)
        have LCR := hid (HLCR.out.below HBL.out)
        have LOW := hid (own_below HLOW.out HBL.out)
        have LXC := hid (HLXC.out.keep HBL.out)
        go_wp2_with fail
        refine (lshares_any (some ⟨g4, 0, none⟩) wo us.length us.length wc (tsE pool us) (lvE pool us) (stE pool us) _ (shb_shv H4.out) LW.out (by omega)).mono ?_
        rintro e6 w6 ⟨rfl, hb6⟩
        have XC_14 := hid (LXC.out.keep hb6)
        have Rw_14 := hid (LW.out.below hb6)
        have Rpk_14 := hid (LPK.out.below hb6 LPK.out.lt)
        have Rcr_14 := hid (LCR.out.below hb6)
        have Row_14 := hid (own_below LOW.out hb6)
        have Rsh4_14 := hid (H4.out.below hb6)
        have HB_14 : Hid (Below w.heap.size w w6) := HBW.out.trans (hb6.mono HBW.out.size)
        clear HBW LXC LW LPK LCR LOW H4
        clear hb6
        go_wp2_with fail
        refine (intact_any pg po pool.length pc pool _ Rpk_14.out (HP.out.below HB_14.out) hpn).mono ?_
        rintro e7 w7 ⟨rfl, hb7⟩
        have XC_15 := hid (XC_14.out.keep hb7)
        have Rw_15 := hid (Rw_14.out.below hb7)
        have Rpk_15 := hid (Rpk_14.out.below hb7 Rpk_14.out.lt)
        have Rcr_15 := hid (Rcr_14.out.below hb7)
        have Row_15 := hid (own_below Row_14.out hb7)
        have Rsh4_15 := hid (Rsh4_14.out.below hb7)
        have HB_15 : Hid (Below w.heap.size w w7) := HB_14.out.trans (hb7.mono HB_14.out.size)
        clear HB_14 XC_14 Rw_14 Rpk_14 Rcr_14 Row_14 Rsh4_14
        clear hb7
        have ltC := XC_15.out.lt
        have cC0 := XC_15.out.cell 0 _ rfl
        have cC1 := XC_15.out.cell 1 _ rfl
        go_wp2_with fail
        clear ltC cC0 cC1
        refine (lwhole_any ao us.length cap us og (.slice dvo dvn dvc) dl _ _ (HU.out.below HB_15.out) Rcr_15.out (by rw [← HDN.out]; exact Row_15.out) hn HDL.out).mono ?_
        rintro e8 w8 ⟨rfl, hb8⟩
        have XC_16 := hid (XC_15.out.keep hb8)
        have Rw_16 := hid (Rw_15.out.below hb8)
        have Rpk_16 := hid (Rpk_15.out.below hb8 Rpk_15.out.lt)
        have Rcr_16 := hid (Rcr_15.out.below hb8)
        have Row_16 := hid (own_below Row_15.out hb8)
        have Rsh4_16 := hid (Rsh4_15.out.below hb8)
        have HB_16 : Hid (Below w.heap.size w w8) := HB_15.out.trans (hb8.mono HB_15.out.size)
        clear HB_15 XC_15 Rw_15 Rpk_15 Rcr_15 Row_15 Rsh4_15
        clear hb8
        have t3 : ((0 : Int) == 0) = true := by decide
        go_wp2
        go_ret
        exact ⟨rfl, HB_16.out⟩
  · have h9 := HPS.out
    rw [if_neg he] at h9
    subst h9
    have HE := hid he
    have HW : Hid (ShV w0 none 0 (tsE pool us) (lvE pool us) (stE pool us)) := fun i hi => by omega
    have hne : (errOf pool us == 0) = false := by rw [beq_eq_false_iff_ne]; exact he
    generalize hge : errOf pool us = ge at hne ⊢
    have HGE := hid hge
    clear hge he HPS
    go_wp2_with fail
    refine (handed_any po pool.length pc pool _ (HP.out.below HB_6.out) hpn).mono ?_
    rintro e1 w1 ⟨pg, hpg, rfl, hpk, hb1⟩
    have Rw_7 := hid (HW.out.below hb1)
    have HB_7 : Hid (Below w.heap.size w w1) := HB_6.out.trans (hb1.mono HB_6.out.size)
    clear HB_6 HW
    have HPK := hid hpk
    clear hb1 hpk
    go_wp2_with fail
    refine (users_any ao us.length cap us _ (HU.out.below HB_7.out) hn HDL.out).mono ?_
    rintro e2 w2 ⟨og, dv, dl, hog, rfl, hcr, how, hb2⟩
    have Rw_8 := hid (Rw_7.out.below hb2)
    have Rpk_8 := hid (HPK.out.below hb2 HPK.out.lt)
    have HB_8 : Hid (Below w.heap.size w w2) := HB_7.out.trans (hb2.mono HB_7.out.size)
    clear HB_7 Rw_7 HPK
    have HCR := hid hcr
    have HOW := hid how
    clear hb2 hcr how
    obtain ⟨dvo, dvc, rfl⟩ := own_shape HOW.out
    obtain ⟨dvn, hdvn⟩ : ∃ dvn, dvn = dl.length := ⟨_, rfl⟩
    rw [← hdvn] at HOW ⊢
    have HDN := hid hdvn
    clear hdvn
    have HXC := hid (bx_new w2 #[.slice (some ⟨og, 0, none⟩) us.length (us.length + 1), .slice dvo dvn dvc] 31)
    have hal := (Below.refl w2.heap.size w2).alloc (Nat.le_refl _) (.cells #[.slice (some ⟨og, 0, none⟩) us.length (us.length + 1), .slice dvo dvn dvc] 31)
    have Rw_9 := hid (Rw_8.out.below hal)
    have Rpk_9 := hid (Rpk_8.out.below hal Rpk_8.out.lt)
    have Rcr_9 := hid (HCR.out.below hal)
    have Row_9 := hid (own_below HOW.out hal)
    have HB_9 : Hid (Below w.heap.size w (w2.alloc (.cells #[.slice (some ⟨og, 0, none⟩) us.length (us.length + 1), .slice dvo dvn dvc] 31))) := HB_8.out.trans (hal.mono HB_8.out.size)
    clear HB_8 Rw_8 Rpk_8 HCR HOW
    clear hal
    have HMX : Hid (∀ i, i < us.length → (ug us i).dem.length + 2 ≤ maxLen) := fun i hi => by have := HDL.out i hi; unfold maxLen; omega
    have ltC := HXC.out.lt
    have cC0 := HXC.out.cell 0 _ rfl
    have cC1 := HXC.out.cell 1 _ rfl
    go_wp2_with fail
    clear ltC cC0 cC1
    refine (solve_any (some ⟨pg, 0, none⟩) pool.length (pool.length + 2) pool (some ⟨og, 0, none⟩) us.length (us.length + 1) us _ (Blk.arr Rpk_9.out (by unfold maxLen; omega)) (Rcr_9.out.users (by unfold maxLen; omega) HMX.out) (HT.out.of HB_9.out)).mono ?_
    rintro e3 w3 hse3
    unfold SolveEnd at hse3
    rw [if_neg HE.out, HGE.out] at hse3
    obtain ⟨rfl, hb3⟩ := hse3
    have XC_10 := hid (HXC.out.keep hb3)
    have Rw_10 := hid (Rw_9.out.below hb3)
    have Rpk_10 := hid (Rpk_9.out.below hb3 Rpk_9.out.lt)
    have Rcr_10 := hid (Rcr_9.out.below hb3)
    have Row_10 := hid (own_below Row_9.out hb3)
    have HB_10 : Hid (Below w.heap.size w w3) := HB_9.out.trans (hb3.mono HB_9.out.size)
    clear HB_9 HXC Rw_9 Rpk_9 Rcr_9 Row_9
    clear hb3
    have ltC := XC_10.out.lt
    have cC0 := XC_10.out.cell 0 _ rfl
    have cC1 := XC_10.out.cell 1 _ rfl
    go_wp2_with fail
    clear ltC cC0 cC1
    skip
    refine (solve_any (some ⟨pg, 0, none⟩) pool.length (pool.length + 2) pool (some ⟨og, 0, none⟩) us.length (us.length + 1) us _ (Blk.arr Rpk_10.out (by unfold maxLen; omega)) (Rcr_10.out.users (by unfold maxLen; omega) HMX.out) (HT.out.of HB_10.out)).mono ?_
    rintro e4 w4 hse4
    unfold SolveEnd at hse4
    rw [if_neg HE.out, HGE.out] at hse4
    obtain ⟨rfl, hb4⟩ := hse4
    have XC_11 := hid (XC_10.out.keep hb4)
    have Rw_11 := hid (Rw_10.out.below hb4)
    have Rpk_11 := hid (Rpk_10.out.below hb4 Rpk_10.out.lt)
    have Rcr_11 := hid (Rcr_10.out.below hb4)
    have Row_11 := hid (own_below Row_10.out hb4)
    have HB_11 : Hid (Below w.heap.size w w4) := HB_10.out.trans (hb4.mono HB_10.out.size)
    clear HB_10 XC_10 Rw_10 Rpk_10 Rcr_10 Row_10
    clear hb4
    go_wp2_with fail
    refine (lshares_any none none 0 0 0 (tsE pool us) (lvE pool us) (stE pool us) _ (show ShV _ none 0 (tsE pool us) (lvE pool us) (stE pool us) from fun i hi => by omega) Rw_11.out (by omega)).mono ?_
    rintro e5 w5 ⟨rfl, hb5⟩
    have XC_12 := hid (XC_11.out.keep hb5)
    have Rw_12 := hid (Rw_11.out.below hb5)
    have Rpk_12 := hid (Rpk_11.out.below hb5 Rpk_11.out.lt)
    have Rcr_12 := hid (Rcr_11.out.below hb5)
    have Row_12 := hid (own_below Row_11.out hb5)
    have HB_12 : Hid (Below w.heap.size w w5) := HB_11.out.trans (hb5.mono HB_11.out.size)
    clear HB_11 XC_11 Rw_11 Rpk_11 Rcr_11 Row_11
    clear hb5
    have t1 : (ge != ge) = false := by simp
    have t2 : (ge != 0) = true := by simp [bne, hne]
    go_wp2
    go_loopg [14] 0 (fun gg ix wr => gg = 0 ∧ ix = .int .i64 0 ∧ wr = w5)
    case atStart => exact ⟨rfl, rfl, rfl⟩
    case round =>
      obtain ⟨_, rfl, rfl⟩ := hrel
      go_wp2_with fail
      refine (lshares_any none none 0 0 0 (tsE pool us) (lvE pool us) (stE pool us) _ (show ShV _ none 0 (tsE pool us) (lvE pool us) (stE pool us) from fun i hi => by omega) Rw_12.out (by omega)).mono ?_
      rintro e6 w6 ⟨rfl, hb6⟩
      have XC_13 := hid (XC_12.out.keep hb6)
      have Rw_13 := hid (Rw_12.out.below hb6)
      have Rpk_13 := hid (Rpk_12.out.below hb6 Rpk_12.out.lt)
      have Rcr_13 := hid (Rcr_12.out.below hb6)
      have Row_13 := hid (own_below Row_12.out hb6)
      have HB_13 : Hid (Below w.heap.size w w6) := HB_12.out.trans (hb6.mono HB_12.out.size)
      clear HB_12 XC_12 Rw_12 Rpk_12 Rcr_12 Row_12
      clear hb6
      go_wp2_with fail
      refine (intact_any pg po pool.length pc pool _ Rpk_13.out (HP.out.below HB_13.out) hpn).mono ?_
      rintro e7 w7 ⟨rfl, hb7⟩
      have XC_14 := hid (XC_13.out.keep hb7)
      have Rw_14 := hid (Rw_13.out.below hb7)
      have Rpk_14 := hid (Rpk_13.out.below hb7 Rpk_13.out.lt)
      have Rcr_14 := hid (Rcr_13.out.below hb7)
      have Row_14 := hid (own_below Row_13.out hb7)
      have HB_14 : Hid (Below w.heap.size w w7) := HB_13.out.trans (hb7.mono HB_13.out.size)
      clear HB_13 XC_13 Rw_13 Rpk_13 Rcr_13 Row_13
      clear hb7
      have ltC := XC_14.out.lt
      have cC0 := XC_14.out.cell 0 _ rfl
      have cC1 := XC_14.out.cell 1 _ rfl
      go_wp2_with fail
      clear ltC cC0 cC1
      refine (lwhole_any ao us.length cap us og (.slice dvo dvn dvc) dl _ _ (HU.out.below HB_14.out) Rcr_14.out (by rw [← HDN.out]; exact Row_14.out) hn HDL.out).mono ?_
      rintro e8 w8 ⟨rfl, hb8⟩
      have XC_15 := hid (XC_14.out.keep hb8)
      have Rw_15 := hid (Rw_14.out.below hb8)
      have Rpk_15 := hid (Rpk_14.out.below hb8 Rpk_14.out.lt)
      have Rcr_15 := hid (Rcr_14.out.below hb8)
      have Row_15 := hid (own_below Row_14.out hb8)
      have HB_15 : Hid (Below w.heap.size w w8) := HB_14.out.trans (hb8.mono HB_14.out.size)
      clear HB_14 XC_14 Rw_14 Rpk_14 Rcr_14 Row_14
      clear hb8
      have t3 : (ge == ge) = true := by simp
      go_wp2
      go_ret
      exact ⟨rfl, HB_15.out⟩

end Go.Proofs.YtigokanoflkinaaGreatDoor
