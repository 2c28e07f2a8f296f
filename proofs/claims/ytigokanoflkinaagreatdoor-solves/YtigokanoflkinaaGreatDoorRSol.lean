/- portionref Solve. (Laid by mkrisel.py.) -/
import Derived.Test.YtigokanoflkinaaGreatDoorRRisK
import Derived.Test.YtigokanoflkinaaGreatDoorRRisF
namespace Go.Proofs.YtigokanoflkinaaGreatDoor
set_option linter.unusedSimpArgs false
set_option linter.unusedVariables false
open Go.RowKit Por

/-- the cells of the first k shares -/
def shL (ts lv : Nat → Rat) (st : Nat → Int) : Nat → List Value
  | 0 => []
  | k + 1 => shL ts lv st k ++ [.string ⟨(txt (ts k)).toArray⟩, .string ⟨(txt (lv k)).toArray⟩, .int .i64 (st k)]
theorem shL_len (ts lv : Nat → Rat) (st : Nat → Int) (k : Nat) : (shL ts lv st k).length = k * 3 := by
  induction k with
  | zero => rfl
  | succ k ih => simp only [shL, List.length_append, ih]; simp; omega
theorem shL_get {ts lv : Nat → Rat} {st : Nat → Int} : ∀ {k i : Nat}, i < k → (shL ts lv st k)[i * 3]? = some (.string ⟨(txt (ts i)).toArray⟩) ∧ (shL ts lv st k)[i * 3 + 1]? = some (.string ⟨(txt (lv i)).toArray⟩) ∧ (shL ts lv st k)[i * 3 + 2]? = some (.int .i64 (st i)) := by
  intro k
  induction k with
  | zero => intro i h; omega
  | succ k ih =>
    intro i h
    have hl := shL_len ts lv st k
    simp only [shL]
    by_cases e : i = k
    · subst e
      refine ⟨?_, ?_, ?_⟩
      · rw [List.getElem?_append_right (by omega), hl]; simp
      · rw [List.getElem?_append_right (by omega), hl, show i * 3 + 1 - i * 3 = 1 by omega]; rfl
      · rw [List.getElem?_append_right (by omega), hl, show i * 3 + 2 - i * 3 = 2 by omega]; rfl
    · obtain ⟨h1, h2, h3⟩ := ih (i := i) (by omega)
      rw [List.getElem?_append_left (by omega), List.getElem?_append_left (by omega), List.getElem?_append_left (by omega)]
      exact ⟨h1, h2, h3⟩
/-- out = append(out, x), of shares -/
theorem wpList_append_shr (w : World) {ops : Array Oper} {rest : List Oper} {o : Oper} {a : Act} {Q : Exit → Act → World → Prop} (hgd : o.guard = none) (s x : Operand)
    (hop : o.op = Op.call { callee := Callee.builtin Builtin.append, args := #[s, x], argTypes := #[24, 24] })
    (base : Nat) (v : Value) (n : Nat) (l : List Value) (ad : Addr) (c : Nat) (t1 t2 : ByteArray) (z : Int) (hs : a.eval s = v) (hx : a.eval x = .slice (some ad) 1 c) (hown : w.ownsRow base 35 3 v n l)
    (h0 : w.cell? (ad.add 0) = some (.string t1)) (h1 : w.cell? (ad.add 1) = some (.string t2)) (h2 : w.cell? (ad.add 2) = some (.int .i64 z)) (hle : n + 1 ≤ 1000000) (hb : base ≤ w.heap.size)
    (h : ∀ v' w', w'.ownsRow base 35 3 v' (n + 1) (l ++ [.string t1, .string t2, .int .i64 z]) → Below base w w' → wpList Tryz.prog ops Q rest (a.put o.dst v') w') : wpList Tryz.prog ops Q (o :: rest) a w := by
  obtain ⟨i, hi, hz0, hz1, hz2⟩ := info_parts Tryz.infoShare
  have hob : ∀ k, v.ownBlock = some k → base ≤ k := by
    intro k hk
    rcases hown.2 with ⟨rfl, _⟩ | ⟨g, cap, cur, rfl, h2, _⟩
    · cases hk
    · cases hk; exact h2
  refine wpList_append_own w hgd s x _ hop base 35 i (.agg #[.string ⟨#[]⟩, .string ⟨#[]⟩, .int .i64 0]) 3 40 Tryz.underlying24 hi hz0 hz1 hz2 rfl (by decide) v n l hs hown ad 1 c [.string t1, .string t2, .int .i64 z] hx (by simp) ?_ ?_ (by unfold maxLen; omega) (by omega) hb ?_
  · intro j u hj
    match j with
    | 0 => rw [h0]; simpa using hj
    | 1 => rw [h1]; simpa using hj
    | 2 => rw [h2]; simpa using hj
    | j + 3 => simp at hj
  · intro u hu
    simp at hu
    rcases hu with rfl | rfl | rfl <;> rfl
  · intro v' w' g1 g2 _
    exact h v' w' g1 ((Below.refl base w).grown g2 hb hob)
/-- the cells of a list of shares -/
def ShV (w : World) (ao : Option Addr) (n : Nat) (ts lv : Nat → Rat) (st : Nat → Int) : Prop :=
  ∀ i, i < n → ∃ b o, ao = some ⟨b, o, none⟩ ∧ b < w.heap.size ∧ w.cell? ⟨b, o + i * 3, none⟩ = some (.string ⟨(txt (ts i)).toArray⟩) ∧ w.cell? ⟨b, o + i * 3 + 1, none⟩ = some (.string ⟨(txt (lv i)).toArray⟩) ∧ w.cell? ⟨b, o + i * 3 + 2, none⟩ = some (.int .i64 (st i))
theorem ShV.below {w w' : World} {ao : Option Addr} {n : Nat} {ts lv : Nat → Rat} {st : Nat → Int} (h : ShV w ao n ts lv st) (hb : Below w.heap.size w w') : ShV w' ao n ts lv st := by
  intro i hi
  obtain ⟨b, o, e, h1, h2, h3, h4⟩ := h i hi
  exact ⟨b, o, e, Nat.lt_of_lt_of_le h1 hb.size, (hb.cell (p := ⟨b, o + i * 3, none⟩) h1).trans h2, (hb.cell (p := ⟨b, o + i * 3 + 1, none⟩) h1).trans h3, (hb.cell (p := ⟨b, o + i * 3 + 2, none⟩) h1).trans h4⟩
theorem own_shv {w : World} {base n : Nat} {v : Value} {ts lv : Nat → Rat} {st : Nat → Int} (h : w.ownsRow base 35 3 v n (shL ts lv st n)) : ∃ ao cap, v = .slice ao n cap ∧ ShV w ao n ts lv st := by
  rcases h.2 with ⟨rfl, h0⟩ | ⟨g, cap, cur, rfl, h2, h3, h4, h5, h6, h7⟩
  · subst h0; exact ⟨none, 0, rfl, fun i hi => by omega⟩
  · refine ⟨_, _, rfl, fun i hi => ⟨g, 0, rfl, (Array.getElem?_eq_some_iff.1 h3).1, ?_⟩⟩
    have key : ∀ j, j < n * 3 → w.cell? ⟨g, 0 + j, none⟩ = (shL ts lv st n)[j]? := fun j hj => by
      rw [Nat.zero_add, cell_of_row w g j _ _ _ h3, ← Array.getElem?_toList, ← h7, List.getElem?_take, if_pos hj]
    obtain ⟨g1, g2, g3⟩ := shL_get (ts := ts) (lv := lv) (st := st) hi
    refine ⟨(key (i * 3) (by omega)).trans g1, ?_, ?_⟩
    · have := key (i * 3 + 1) (by omega); rw [← Nat.add_assoc] at this; exact this.trans g2
    · have := key (i * 3 + 2) (by omega); rw [← Nat.add_assoc] at this; exact this.trans g3
theorem shb_shv {w : World} {g n : Nat} {ts lv : Nat → Rat} {st : Nat → Int} (h : ShB w g n n ts lv st) : ShV w (some ⟨g, 0, none⟩) n ts lv st := by
  obtain ⟨arr, h1, h2, h3⟩ := h
  intro i hi
  obtain ⟨g1, g2, g3⟩ := h3 i hi
  refine ⟨g, 0, rfl, (Array.getElem?_eq_some_iff.1 h1).1, ?_, ?_, ?_⟩
  · rw [Nat.zero_add, cell_of_row w g _ _ _ _ h1]; exact g1
  · rw [Nat.zero_add, cell_of_row w g _ _ _ _ h1]; exact g2
  · rw [Nat.zero_add, cell_of_row w g _ _ _ _ h1]; exact g3
noncomputable def tsE (pool : List Int) (us : List Usr) : Nat → Rat := (endS pool us).ts
noncomputable def lvE (pool : List Int) (us : List Usr) : Nat → Rat := (endS pool us).lv
noncomputable def fdE (pool : List Int) (us : List Usr) : FD := ⟨none, us.length, 0, us, pool.length, wholeF pool, 0, 0, 0, 0, 0⟩
noncomputable def stE (pool : List Int) (us : List Usr) : Nat → Int := stopV (fdE pool us) (endS pool us)
theorem fdE_of (pool : List Int) (us : List Usr) : (fdE pool us).Of pool us := ⟨rfl, rfl, rfl, rfl⟩
/-- what the reference's Solve gives -/
def PSolveEnd (w w' : World) (e : Ending) (pool : List Int) (us : List Usr) : Prop :=
  (if errOf pool us = 0 then ∃ ao cap, e = .returned (.tuple #[.slice ao us.length cap, .int .i64 0]) ∧ ShV w' ao us.length (tsE pool us) (lvE pool us) (stE pool us)
  else e = .returned (.tuple #[.slice none 0 0, .int .i64 (errOf pool us)])) ∧ Below w.heap.size w w'

set_option maxHeartbeats 20000000 in
set_option maxRecDepth 20000 in
theorem psolve_any (po : Option Addr) (pn pc : Nat) (pool : List Int) (ao : Option Addr) (n cap : Nat) (us : List Usr) (w : World) (hp : Arr w 1 po pn pc (ints pool)) (hu : Users w ao n cap us) :
    Calls Tryz.prog 8 #[.slice po pn pc, .slice ao n cap] w fun e w' => PSolveEnd w w' e pool us := by
  have hpl := hp.len
  rw [ints_len] at hpl
  have hul := hu.1
  subst hpl
  subst hul
  have HP := hid hp
  have HU := hid hu
  clear hp hu
  have HB_0 := hid (Below.refl w.heap.size w)
  go_enter Tryz.func8, Tryz.ntmps8
  go_wp2_with fail
  refine (perrs_any po pool.length pc pool ao us.length cap us _ HP.out HU.out).mono ?_
  rintro e1 w1 ⟨rfl, hb1⟩
  have HB_6 : Hid (Below (w.heap.size) w w1) := HB_0.out.trans (hb1.mono (HB_0.out.size))
  clear HB_0
  clear hb1
  by_cases he : errOf pool us = 0
  · obtain ⟨hpb, hn6, hgood, hpa, hk1, hk4⟩ := errOf_zero he
    have HG := hid hgood
    have HPA := hid hpa
    have HE := hid he
    clear hgood hpa hpb
    rw [he]
    clear he
    go_wp2_with fail
    refine (pbegin_any po pc pool ao cap us _ (HP.out.below HB_6.out) (HU.out.below HB_6.out) HG.out HPA.out hn6 hk1 hk4).mono ?_
    rintro e2 w2 ⟨pb, B1, B2, s0, rfl, hM0, hBg, hb2⟩
    obtain ⟨d, hd⟩ : ∃ d : RD, d = ⟨w1, po, pc, pool, ao, cap, us, pb, B1, B2⟩ := ⟨_, rfl⟩
    rw [← hd] at hM0 hBg
    have hdp : d.pool = pool := by rw [hd]
    have hdu : d.us = us := by rw [hd]
    have hdb : d.pb = pb := by rw [hd]
    have hdw : d.w0 = w1 := by rw [hd]
    have HOK : Hid d.Ok := ⟨by rw [hdp, hdu]; exact HG.out, by rw [hdp]; exact HPA.out, by rw [hdu]; exact hn6, by rw [hdp]; exact hk1, by rw [hdp]; exact hk4⟩
    have HI0 := hid (hBg.inn HOK.out)
    have HM0 := hid hM0
    have HDU := hid hdu
    have HDP := hid hdp
    have HLO : Hid (w.heap.size ≤ d.pb) := by show w.heap.size ≤ d.pb; have h8 := hM0.low; rw [hdw] at h8; have h9 := HB_6.out.size; omega
    rw [← hdb]
    clear hd hdp hdb hdw hM0 hBg hdu
    have HB_7 : Hid (Below (w.heap.size) w w2) := HB_6.out.trans (hb2.mono (HB_6.out.size))
    clear HB_6
    clear hb2
    go_wp2
    go_loopg [8] (us.length + 1) (fun gg s8 wr => ∃ (t : Nat) (s : RV) (b : Bool), s8 = .bool b ∧ Hid (RIn d s t) ∧ Hid (RisM wr d s) ∧ Hid (Below w.heap.size w wr) ∧ ((b = true ∧ gg = us.length + 1 - t) ∨ (b = false ∧ gg = 0 ∧ Hid (REnd d s))))
    case atStart => exact ⟨0, s0, true, rfl, HI0.out, HM0.out, HB_7.out, Or.inl ⟨rfl, rfl⟩⟩
    case round =>
      clear HI0 HM0 HB_7
      obtain ⟨t, s, b, rfl, HI, HM, hB, hcase⟩ := hrel
      rcases hcase with ⟨rfl, hgg⟩ | ⟨rfl, hgg, HEN⟩
      · have htn : t ≤ us.length := by have h9 := HI.out.cnt; rw [HDU.out] at h9; omega
        go_wp2_with fail
        refine (pstop_any d s _ HM.out HOK.out (HI.out.ok HOK.out) HI.out.hle).mono ?_
        rintro e3 w3 (⟨hz, rfl, hb3⟩ | ⟨hne, hSl, rfl, t2, hM2, e1, e2, e3, e4, hT, hb3⟩)
        · have HEN := hid (HI.out.fin HOK.out hz)
          have HM3 := hid (HM.out.below hb3)
          have HB3 : Hid (Below w.heap.size w w3) := hB.out.trans (hb3.mono hB.out.size)
          clear hb3 hz
          go_wp2
          go_roundg 0
          case measure => omega
          case rel => exact ⟨t, s, false, rfl, HI.out, HM3.out, HB3.out, Or.inr ⟨rfl, rfl, HEN.out⟩⟩
        · have HI2 := hid (HI.out.turn HOK.out hne hSl e1 e2 e3 e4 hT)
          have HM3 := hid hM2
          have HB3 : Hid (Below w.heap.size w w3) := hB.out.trans (hb3.mono HLO.out)
          clear hb3 hne hSl e1 e2 e3 e4 hT hM2
          go_wp2
          go_roundg (us.length + 1 - (t + 1))
          case measure => omega
          case rel => exact ⟨t + 1, t2, true, rfl, HI2.out, HM3.out, HB3.out, Or.inl ⟨rfl, rfl⟩⟩
      · have HS := hid (HI.out.ok HOK.out)
        have HLE := hid HI.out.hle
        obtain ⟨w4, hw4⟩ : ∃ w4, w4 = wr := ⟨_, rfl⟩
        rw [← hw4] at HM hB ⊢
        clear hw4
        go_wp2
        go_loopg [9, 10] us.length (fun gg s9 ix wr => ∃ (i : Nat), gg = us.length - i ∧ i ≤ us.length ∧ ix = .int .i64 i ∧ Hid (wr.ownsRow w4.heap.size 35 3 s9 i (shL (tsE pool us) (lvE pool us) (stE pool us) i)) ∧ Hid (Below w4.heap.size w4 wr))
        case atStart => exact ⟨0, rfl, Nat.zero_le _, rfl, ⟨rfl, .inl ⟨rfl, rfl⟩⟩, Below.refl _ _⟩
        case round =>
          obtain ⟨i, hgi, hi, rfl, HO, hB4⟩ := hrel
          by_cases hit : i < us.length
          · have hin : (i : Int) < (us.length : Int) := by omega
            go_wp2_with fail
            refine (pshare_any d s i _ (HM.out.below hB4.out) HOK.out HS.out HEN.out HLE.out (by rw [HDU.out]; exact hit)).mono ?_
            rintro e5 w5 ⟨rfl, hb5⟩
            have HO5 := hid (own_below HO.out hb5)
            have HB5 : Hid (Below w4.heap.size w4 w5) := hB4.out.trans (hb5.mono hB4.out.size)
            clear hb5 HO hB4
            obtain ⟨a1, ha1⟩ : ∃ a : ByteArray, a = ⟨(txt (d.ts i)).toArray⟩ := ⟨_, rfl⟩
            obtain ⟨a2, ha2⟩ : ∃ a : ByteArray, a = ⟨(txt (d.lv i)).toArray⟩ := ⟨_, rfl⟩
            obtain ⟨z, hz⟩ : ∃ z : Int, z = stopV d.fd (endS d.pool d.us) i := ⟨_, rfl⟩
            rw [← ha1, ← ha2, ← hz]
            have HL : Hid (shL (tsE pool us) (lvE pool us) (stE pool us) (i + 1) = shL (tsE pool us) (lvE pool us) (stE pool us) i ++ [.string a1, .string a2, .int .i64 z]) := by
              show shL _ _ _ i ++ _ = _
              rw [ha1, ha2, hz]
              show _ ++ [_, _, Value.int .i64 (stopV (fdE pool us) (endS pool us) i)] = _
              rw [stopV_of (fdE_of pool us) (by rw [← HDP.out, ← HDU.out]; exact d.fd_of : d.fd.Of pool us)]
              unfold RD.ts RD.lv
              rw [HDP.out, HDU.out]
              rfl
            clear ha1 ha2 hz
            have HOX := hid (own_below (own_below HO5.out ((Below.refl w5.heap.size w5).alloc (Nat.le_refl _) (.cells #[.string a1, .string a2, .int .i64 z] 35))) ((Below.refl _ (w5.alloc (.cells #[.string a1, .string a2, .int .i64 z] 35))).alloc (Nat.le_refl _) (.cells #[.string a1, .string a2, .int .i64 z] 35)))
            have HTB : Hid (Bx ((w5.alloc (.cells #[.string a1, .string a2, .int .i64 z] 35)).alloc (.cells #[.string a1, .string a2, .int .i64 z] 35)) (w5.heap.size + 1) #[.string a1, .string a2, .int .i64 z] 35) := by have h9 := bx_new (w5.alloc (.cells #[.string a1, .string a2, .int .i64 z] 35)) #[.string a1, .string a2, .int .i64 z] 35; rw [World.size_alloc] at h9; exact h9
            go_wp2_with (at_builtin; refine wpList_append_shr _ rfl _ _ rfl w4.heap.size _ i (shL (tsE pool us) (lvE pool us) (stE pool us) i) ⟨w5.heap.size + 1, 0, none⟩ 1 a1 a2 z rfl rfl HOX.out (HTB.out.cell 0 _ rfl) (HTB.out.cell 1 _ rfl) (HTB.out.cell 2 _ rfl) (by omega) (by have := HB5.out.size; simp only [World.size_alloc]; omega) ?_)
            intro v6 w6 hO6 hB6
            have HO6 : Hid (w6.ownsRow w4.heap.size 35 3 v6 (i + 1) (shL (tsE pool us) (lvE pool us) (stE pool us) (i + 1))) := by rw [HL.out]; exact hO6
            have HB6 : Hid (Below w4.heap.size w4 w6) := ((HB5.out.alloc HB5.out.size _).alloc (Nat.le_trans HB5.out.size (by rw [World.size_alloc]; omega)) _).trans hB6
            clear hO6 hB6 HOX HTB
            go_wp2
            go_roundg (us.length - (i + 1))
            case measure => omega
            case rel => exact ⟨i + 1, rfl, by omega, by go_num, HO6.out, HB6.out⟩
          · obtain rfl : i = us.length := by omega
            obtain ⟨so, sc, hv, HV⟩ := own_shv HO.out
            subst hv
            have HVV := hid HV
            clear HV
            go_wp2
            skip
            first | go_ret2 | go_ret
            unfold PSolveEnd
            rw [if_pos HE.out]
            exact ⟨⟨so, sc, rfl, HVV.out⟩, hB.out.trans (hB4.out.mono hB.out.size)⟩
  · have HE := hid he
    have hne : (errOf pool us == 0) = false := by rw [beq_eq_false_iff_ne]; exact he
    have hne2 : errOf pool us ≠ 0 := he
    clear he
    generalize hg : errOf pool us = g at hne hne2 ⊢
    have HGE := hid hg
    clear hg
    go_wp2
    first | go_ret2 | go_ret
    unfold PSolveEnd
    rw [if_neg HE.out, HGE.out]
    exact ⟨rfl, HB_6.out⟩

end Go.Proofs.YtigokanoflkinaaGreatDoor
