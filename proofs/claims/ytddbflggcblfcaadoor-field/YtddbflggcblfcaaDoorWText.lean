/- Bytes that a call gathers, natural.appendLimb and Number.Text: the decimal numeral of any number. -/
import Derived.Test.YtddbflggcblfcaaDoorWItoa
import Derived.ArgAppend
import Derived.Laws.IdiomStrings
namespace Go.Proofs.YtddbflggcblfcaaDoor
set_option linter.unusedSimpArgs false
set_option linter.unusedVariables false
open Go.RowKit Por

/-- The slice value v, in a block of the call's own (from base on), reads as the bytes l, and may be appended to. -/
def Byt (base : Nat) (w : World) (v : Value) (l : List UInt8) : Prop :=
  ∃ g cap, v = .slice (some ⟨g, 0, none⟩) l.length cap ∧ base ≤ g ∧ g < w.heap.size ∧ l.length ≤ cap ∧ cap ≤ maxLen ∧
    (∀ j, j < cap → (w.cell? ⟨g, j, none⟩).isSome = true ∧ w.frozen? ⟨g, j, none⟩ = false) ∧ (∀ j (hj : j < l.length), w.cell? ⟨g, j, none⟩ = some (.int .u8 (l[j].toNat : Int)))

theorem Byt.below {base : Nat} {w w' : World} {v : Value} {l : List UInt8} (h : Byt base w v l) (hb : Below w.heap.size w w') : Byt base w' v l := by
  obtain ⟨g, cap, rfl, h1, h2, h3, h4, h5, h6⟩ := h
  refine ⟨g, cap, rfl, h1, Nat.lt_of_lt_of_le h2 hb.size, h3, h4, fun j hj => ?_, fun j hj => ?_⟩
  · rw [hb.cell (p := ⟨g, j, none⟩) h2, hb.frozen (p := ⟨g, j, none⟩) h2]; exact h5 j hj
  · rw [hb.cell (p := ⟨g, j, none⟩) h2]; exact h6 j hj

theorem Tryd.infoByte : (Tryd.prog.info? 5).map (fun i => (i.zero, i.size, i.bytes)) = some (some (.int .u8 0), 1, 1) := by kernel_rfl

theorem byt_of_owns {base n : Nat} {w : World} {v : Value} {l : List UInt8} (h : w.ownsRow base 5 1 v n (l.map fun c => Value.int .u8 c.toNat)) (hn : n = l.length) (hp : 0 < n) : Byt base w v l := by
  rcases h.2 with ⟨_, h0⟩ | ⟨g, cap, cur, rfl, hb, hh, h1, h2, h3, h4⟩
  · omega
  · subst hn
    rw [Nat.mul_one] at h3 h4
    refine ⟨g, cap, rfl, hb, (Array.getElem?_eq_some_iff.1 hh).1, h1, h2, fun j hj => ⟨?_, frozen_of_row w g j _ _ hh⟩, fun j hj => ?_⟩
    · rw [cell_of_row w g j _ _ _ hh, Array.getElem?_eq_getElem (by omega)]; rfl
    · rw [cell_of_row w g j _ _ _ hh]
      have e : (cur.toList.take l.length)[j]? = (l.map fun c => Value.int .u8 c.toNat)[j]? := by rw [h4]
      rw [List.getElem?_take, if_pos hj, Array.getElem?_toList] at e
      rw [e]; simp [hj]

/-- text = append(text, c) -/
theorem wpList_append_byte (w : World) {ops : Array Oper} {rest : List Oper} {o : Oper} {a : Act} {Q : Exit → Act → World → Prop} (hgd : o.guard = none) (s x : Operand)
    (hop : o.op = Op.call { callee := Callee.builtin Builtin.append, args := #[s, x], argTypes := #[140, 140] })
    (base : Nat) (v : Value) (l : List UInt8) (c : UInt8) (ad : Addr) (hs : a.eval s = v) (hx : a.eval x = .slice (some ad) 1 1) (hb : Byt base w v l) (hc : w.cell? ad = some (.int .u8 c.toNat)) (hl : l.length ≤ 1000000) (hbase : base ≤ w.heap.size)
    (hK : ∀ v' w', Byt base w' v' (l ++ [c]) → Below base w w' → wpList Tryd.prog ops Q rest (a.put o.dst v') w') : wpList Tryd.prog ops Q (o :: rest) a w := by
  obtain ⟨i, hi, hz0, hz1, hz2⟩ := info_parts Tryd.infoByte
  obtain ⟨g, cap, rfl, h1, h2, h3, h4, h5, h6⟩ := hb
  have hnew : ∀ j u, [Value.int .u8 (c.toNat : Int)][j]? = some u → w.cell? (ad.add j) = some u := by
    intro j u hj
    match j, hj with
    | 0, hj => simp at hj; subst hj; simpa [Addr.add] using hc
  refine wpList_append_arg w hgd s x _ hop 5 i (.int .u8 0) 1 1 Tryd.underlying140 hi hz0 hz1 hz2 rfl (by decide) g 0 l.length cap (l.map fun c => Value.int .u8 c.toNat) hs (by simp) ?_ ad 1 1 [.int .u8 c.toNat] hx rfl hnew (fun u hu => by simp at hu; subst hu; rfl) ?_ (by unfold maxLen; omega) (by omega) ?_ ?_
  · intro j u hj
    have hjl : j < l.length := by have := (List.getElem?_eq_some_iff.1 hj).1; simpa using this
    rw [Nat.zero_add, h6 j hjl, ← hj]; simp [hjl]
  · intro hr j hj
    have e0 : j = 0 := by simpa using hj
    subst e0
    exact h5 _ (by omega)
  · intro hr
    have hset : w.setCells g (0 + l.length * 1) [Value.int .u8 (c.toNat : Int)] = w.setCell ⟨g, l.length, none⟩ (.int .u8 c.toNat) := by simp [World.setCells]
    rw [hset]
    refine hK _ _ ⟨g, cap, by simp, h1, by simpa [World.setCell] using h2, by simpa using hr, h4, fun j hj => ?_, fun j hj => ?_⟩ ((Below.refl _ _).setCell h1 _)
    · have := World.frozen?_setCells g [Value.int .u8 (c.toNat : Int)] l.length w ⟨g, j, none⟩
      rw [show w.setCells g l.length [Value.int .u8 (c.toNat : Int)] = w.setCell ⟨g, l.length, none⟩ (.int .u8 c.toNat) from rfl] at this
      refine ⟨?_, this.trans (h5 j hj).2⟩
      by_cases e : j = l.length
      · subst e
        have := World.cell?_setCells_in g [Value.int .u8 (c.toNat : Int)] l.length w (fun j hj => by have e0 : j = 0 := by simpa using hj
                                                                                                     subst e0; exact (h5 _ (by omega)).1) 0 (by simp)
        rw [show w.setCells g l.length [Value.int .u8 (c.toNat : Int)] = w.setCell ⟨g, l.length, none⟩ (.int .u8 c.toNat) from rfl, Nat.add_zero] at this
        rw [this]; rfl
      · have := World.cell?_setCells_out g [Value.int .u8 (c.toNat : Int)] l.length w ⟨g, j, none⟩ (fun _ _ => by simp; omega)
        rw [show w.setCells g l.length [Value.int .u8 (c.toNat : Int)] = w.setCell ⟨g, l.length, none⟩ (.int .u8 c.toNat) from rfl] at this
        rw [this]; exact (h5 j hj).1
    · by_cases e : j = l.length
      · subst e
        have := World.cell?_setCells_in g [Value.int .u8 (c.toNat : Int)] l.length w (fun j hj => by have e0 : j = 0 := by simpa using hj
                                                                                                     subst e0; exact (h5 _ (by omega)).1) 0 (by simp)
        rw [show w.setCells g l.length [Value.int .u8 (c.toNat : Int)] = w.setCell ⟨g, l.length, none⟩ (.int .u8 c.toNat) from rfl, Nat.add_zero] at this
        rw [this]; simp
      · have hjl : j < l.length := by simp at hj; omega
        have := World.cell?_setCells_out g [Value.int .u8 (c.toNat : Int)] l.length w ⟨g, j, none⟩ (fun _ _ => by simp; omega)
        rw [show w.setCells g l.length [Value.int .u8 (c.toNat : Int)] = w.setCell ⟨g, l.length, none⟩ (.int .u8 c.toNat) from rfl] at this
        rw [this, h6 j hjl, List.getElem_append_left hjl]
  · intro hr v' w' ho hg
    have hB := byt_of_owns (l := l ++ [c]) (by simpa using ho) (by simp) (by omega)
    obtain ⟨g', cap', e, h1', rest⟩ := hB
    exact hK v' w' ⟨g', cap', e, by omega, rest⟩ ((Below.refl base w).grown hg hbase (fun k e => by cases e))

/-- []byte(s) -/
theorem byt_of_string (w : World) (s : ByteArray) (hs : s.size ≤ 1000000) : ∃ v w', (convert 9 140 (.string s)).run Tryd.prog w = .ok v w' ∧ Byt w.heap.size w' v s.data.toList ∧ Below w.heap.size w w' := by
  refine ⟨_, _, run_bytes_of_string w _ _ 5 s Tryd.underlying9 Tryd.underlying140 Tryd.underlying5, ?_, ?_⟩
  · have hge := grownCap_ge w s.size 0 5
    have hcm := grownCap_le_maxLen w s.size 0 5 (by unfold maxLen; omega)
    generalize grownCap w s.size 0 5 = C at *
    have hsl : s.data.toList.length = s.size := by simp
    have hsz : (bytesRow s C).size = C := by
      have : s.data.size = s.size := rfl
      simp [bytesRow]; omega
    have hh : (w.drew.alloc (.cells (bytesRow s C) 5 ((bytesRow s C).size, (bytesRow s C).size + 1))).heap[w.heap.size]? = some (.cells (bytesRow s C) 5 ((bytesRow s C).size, (bytesRow s C).size + 1)) := heap_alloc_new w.drew _
    refine ⟨w.heap.size, C, by rw [hsl], Nat.le_refl _, (Array.getElem?_eq_some_iff.1 hh).1, by omega, hcm, fun j hj => ⟨?_, ?_⟩, fun j hj => ?_⟩
    · rw [cell_of_row _ _ j _ _ _ hh, Array.getElem?_eq_getElem (by omega)]; rfl
    · have hnj : ¬ C ≤ j := by omega
      unfold World.frozen?
      simp only []
      rw [hh]
      simp [hsz, hnj]
    · rw [cell_of_row _ _ j _ _ _ hh]
      have hj2 : j < s.data.size := by simpa using hj
      unfold bytesRow
      rw [Array.getElem?_append_left (by simpa using hj2), Array.getElem?_map, Array.getElem?_eq_getElem hj2]
      rfl
  · exact (Below.refl _ _).drew.alloc (Nat.le_refl _) _

/-- string(b) -/
theorem string_of_byt {base : Nat} {w : World} {v : Value} {l : List UInt8} (h : Byt base w v l) : (convert 140 9 v).run Tryd.prog w = .ok (.string ⟨l.toArray⟩) w := by
  obtain ⟨g, cap, rfl, h1, h2, h3, h4, h5, h6⟩ := h
  exact run_convert_bytes_back w _ _ 5 ⟨g, 0, none⟩ cap l Tryd.underlying140 Tryd.underlying5 Tryd.underlying9 (fun j hj => by rw [Addr.add_lit, Nat.zero_add]; exact h6 j hj)

theorem Byt.mono {base base' : Nat} {w : World} {v : Value} {l : List UInt8} (h : Byt base w v l) (hb : base' ≤ base) : Byt base' w v l := by
  obtain ⟨g, cap, e, h1, rest⟩ := h
  exact ⟨g, cap, e, Nat.le_trans hb h1, rest⟩

theorem pad4_step (m : Nat) : pad4 m = ([] : List UInt8) ++ [UInt8.ofNat (48 + m / 1000 % 10)] ++ [UInt8.ofNat (48 + m / 100 % 10)] ++ [UInt8.ofNat (48 + m / 10 % 10)] ++ [UInt8.ofNat (48 + m % 10)] := rfl

set_option maxHeartbeats 1000000 in
set_option maxRecDepth 10000 in
theorem appendLimb_any (base : Nat) (v : Value) (l : List UInt8) (m : Nat) (w : World) (hv : Byt base w v l) (hm : m < 10000) (hl : l.length ≤ 900000) (hb : base ≤ w.heap.size) :
    Calls Tryd.prog 122 #[v, .int .i64 m] w fun e w' => ∃ v', e = .returned v' ∧ Byt base w' v' (l ++ pad4 m) ∧ Below base w w' := by
  have HV := hid hv
  clear hv
  go_enter Tryd.func122, Tryd.ntmps122
  go_wp2
  go_loopw [0, 5] (fun v0 vu wr => ∃ (j u : Nat), ((j = 0 ∧ u = 1000) ∨ (j = 1 ∧ u = 100) ∨ (j = 2 ∧ u = 10) ∨ (j = 3 ∧ u = 1) ∨ (j = 4 ∧ u = 0)) ∧ vu = .int .i64 u ∧ Hid (Byt base wr v0 (l ++ (pad4 m).take j)) ∧ Hid (Below base w wr)) (fun _ vu _ => (intOf vu).toNat)
  case atStart => exact ⟨0, 1000, .inl ⟨rfl, rfl⟩, rfl, by simpa [Hid] using HV.out, Below.refl _ _⟩
  case round =>
    obtain ⟨j, u, hju, rfl, hB, hb1⟩ := hrel
    rcases hju with ⟨rfl, rfl⟩ | ⟨rfl, rfl⟩ | ⟨rfl, rfl⟩ | ⟨rfl, rfl⟩ | ⟨rfl, rfl⟩
    · have hc : (((UInt8.ofNat (48 + m / 1000 % 10)).toNat : Nat) : Int) = 48 + (m : Int) / 1000 % 10 := by rw [toNat_dig _ (by omega)]; omega
      have hcell : (wr.alloc (.cells #[.int .u8 (48 + (m : Int) / 1000 % 10)] 5)).cell? ⟨wr.heap.size, 0, none⟩ = some (.int .u8 ((UInt8.ofNat (48 + m / 1000 % 10)).toNat : Nat)) := by rw [hc]; exact (bx_new wr _ _).cell 0 _ rfl
      have HC := hid hcell
      clear hc hcell
      go_wp2_with (at_builtin; refine wpList_append_byte _ rfl _ _ rfl base _ (l ++ (pad4 m).take 0) (UInt8.ofNat (48 + m / 1000 % 10)) ⟨wr.heap.size, 0, none⟩ rfl rfl (hB.out.below ((Below.refl _ _).alloc (Nat.le_refl _) _)) HC.out (by simp [pad4]; omega) (by have := hb1.out.size; simp; omega) ?_)
      intro v' w' hB' hb'
      have HB' := hid hB'
      have Hb' : Hid (Below base w w') := hb1.out.trans (((Below.refl _ _).alloc (by have := hb1.out.size; omega) _).trans hb')
      clear hB' hb' hB hb1
      go_wp2
      go_roundw
      case rel => exact ⟨1, 100, by simp, rfl, by simpa [pad4, Hid] using HB'.out, Hb'.out⟩
      case measure => simp [intOf]
    · have hc : (((UInt8.ofNat (48 + m / 100 % 10)).toNat : Nat) : Int) = 48 + (m : Int) / 100 % 10 := by rw [toNat_dig _ (by omega)]; omega
      have hcell : (wr.alloc (.cells #[.int .u8 (48 + (m : Int) / 100 % 10)] 5)).cell? ⟨wr.heap.size, 0, none⟩ = some (.int .u8 ((UInt8.ofNat (48 + m / 100 % 10)).toNat : Nat)) := by rw [hc]; exact (bx_new wr _ _).cell 0 _ rfl
      have HC := hid hcell
      clear hc hcell
      go_wp2_with (at_builtin; refine wpList_append_byte _ rfl _ _ rfl base _ (l ++ (pad4 m).take 1) (UInt8.ofNat (48 + m / 100 % 10)) ⟨wr.heap.size, 0, none⟩ rfl rfl (hB.out.below ((Below.refl _ _).alloc (Nat.le_refl _) _)) HC.out (by simp [pad4]; omega) (by have := hb1.out.size; simp; omega) ?_)
      intro v' w' hB' hb'
      have HB' := hid hB'
      have Hb' : Hid (Below base w w') := hb1.out.trans (((Below.refl _ _).alloc (by have := hb1.out.size; omega) _).trans hb')
      clear hB' hb' hB hb1
      go_wp2
      go_roundw
      case rel => exact ⟨2, 10, by simp, rfl, by simpa [pad4, Hid] using HB'.out, Hb'.out⟩
      case measure => simp [intOf]
    · have hc : (((UInt8.ofNat (48 + m / 10 % 10)).toNat : Nat) : Int) = 48 + (m : Int) / 10 % 10 := by rw [toNat_dig _ (by omega)]; omega
      have hcell : (wr.alloc (.cells #[.int .u8 (48 + (m : Int) / 10 % 10)] 5)).cell? ⟨wr.heap.size, 0, none⟩ = some (.int .u8 ((UInt8.ofNat (48 + m / 10 % 10)).toNat : Nat)) := by rw [hc]; exact (bx_new wr _ _).cell 0 _ rfl
      have HC := hid hcell
      clear hc hcell
      go_wp2_with (at_builtin; refine wpList_append_byte _ rfl _ _ rfl base _ (l ++ (pad4 m).take 2) (UInt8.ofNat (48 + m / 10 % 10)) ⟨wr.heap.size, 0, none⟩ rfl rfl (hB.out.below ((Below.refl _ _).alloc (Nat.le_refl _) _)) HC.out (by simp [pad4]; omega) (by have := hb1.out.size; simp; omega) ?_)
      intro v' w' hB' hb'
      have HB' := hid hB'
      have Hb' : Hid (Below base w w') := hb1.out.trans (((Below.refl _ _).alloc (by have := hb1.out.size; omega) _).trans hb')
      clear hB' hb' hB hb1
      go_wp2
      go_roundw
      case rel => exact ⟨3, 1, by simp, rfl, by simpa [pad4, Hid] using HB'.out, Hb'.out⟩
      case measure => simp [intOf]
    · have hc : (((UInt8.ofNat (48 + m % 10)).toNat : Nat) : Int) = 48 + (m : Int) % 10 := by rw [toNat_dig _ (by omega)]; omega
      have hcell : (wr.alloc (.cells #[.int .u8 (48 + (m : Int) % 10)] 5)).cell? ⟨wr.heap.size, 0, none⟩ = some (.int .u8 ((UInt8.ofNat (48 + m % 10)).toNat : Nat)) := by rw [hc]; exact (bx_new wr _ _).cell 0 _ rfl
      have HC := hid hcell
      clear hc hcell
      go_wp2_with (at_builtin; refine wpList_append_byte _ rfl _ _ rfl base _ (l ++ (pad4 m).take 3) (UInt8.ofNat (48 + m % 10)) ⟨wr.heap.size, 0, none⟩ rfl rfl (hB.out.below ((Below.refl _ _).alloc (Nat.le_refl _) _)) HC.out (by simp [pad4]; omega) (by have := hb1.out.size; simp; omega) ?_)
      intro v' w' hB' hb'
      have HB' := hid hB'
      have Hb' : Hid (Below base w w') := hb1.out.trans (((Below.refl _ _).alloc (by have := hb1.out.size; omega) _).trans hb')
      clear hB' hb' hB hb1
      go_wp2
      go_roundw
      case rel => exact ⟨4, 0, by simp, rfl, by simpa [pad4, Hid] using HB'.out, Hb'.out⟩
      case measure => simp [intOf]
    · go_wp2
      go_ret
      exact ⟨_, rfl, by have := hB.out; simpa [pad4] using this, hb1.out⟩
end Go.Proofs.YtddbflggcblfcaaDoor
