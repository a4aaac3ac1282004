/- Machines and words that came in; which are long: the laws of chapter 3. -/
import Derived.Test.YtkboeldafppicaaMAcc
import Derived.Test.YtkboeldafppicaaOpenI
import Derived.Deep.SlicePairs
set_option linter.unusedVariables false
set_option linter.unusedSimpArgs false
namespace Go.Proofs.Ytkboeldafppicaa
open Go.ChangeShapes Go.WideShapes Go.ChangeAt Go.RowKit Go.Joins Go.Deep

def SetRaw (w : World) (A : Option Addr) (xs : List Int) : Prop := xs.length ≤ 9223372036854775807 ∧ (xs.length ≤ 140737488355328 → Ints w A xs)
def RowsRaw (w : World) (a : Option Addr) (t : List (List Int)) : Prop := t = [] ∨ ∃ b off, a = some ⟨b, off, none⟩ ∧ ∀ i, i < t.length → ∃ A c, w.cell? ⟨b, off + i, none⟩ = some (.slice A (t[i]?.getD []).length c) ∧ SetRaw w A (t[i]?.getD [])
def MarkRaw (w : World) (a : Option Addr) (l : List Bool) : Prop := l = [] ∨ ∃ b off, a = some ⟨b, off, none⟩ ∧ ∀ i, i < l.length → w.cell? ⟨b, off + i, none⟩ = some (.bool (l[i]?.getD false))
/-- A machine that may be too long to be read. -/
def MachRaw (w : World) (Na : Option Addr) (rows : List (List Int)) (Aa : Option Addr) (accs : List Bool) : Prop := rows.length ≤ 9223372036854775807 ∧ accs.length ≤ 9223372036854775807 ∧ (rows.length ≤ 140737488355328 → RowsRaw w Na rows) ∧ (accs.length ≤ 140737488355328 → MarkRaw w Aa accs)
theorem MachRaw.below {w w' : World} {Na Aa : Option Addr} {rows : List (List Int)} {accs : List Bool} (h : MachRaw w Na rows Aa accs) (hb : Below w.heap.size w w') : MachRaw w' Na rows Aa accs := by
  obtain ⟨h1, h2, h3, h4⟩ := h
  refine ⟨h1, h2, fun g => ?_, fun g => ?_⟩
  · rcases h3 g with e | ⟨b, off, ha, hc⟩
    · exact .inl e
    · refine .inr ⟨b, off, ha, fun i hi => ?_⟩
      obtain ⟨A, c, e1, e2⟩ := hc i hi
      exact ⟨A, c, (hb.cell (cell_lt e1)).trans e1, e2.1, fun hh => (e2.2 hh).below hb⟩
  · rcases h4 g with e | ⟨b, off, ha, hc⟩
    · exact .inl e
    · exact .inr ⟨b, off, ha, fun i hi => (hb.cell (cell_lt (hc i hi))).trans (hc i hi)⟩
theorem pick_list {α : Type} (d : α) (n : Nat) (Pr : Nat → α → Prop) (h : ∀ i, i < n → ∃ x, Pr i x) : ∃ l : List α, l.length = n ∧ ∀ i, i < n → Pr i (l[i]?.getD d) := by
  induction n with
  | zero => exact ⟨[], rfl, fun i hi => by omega⟩
  | succ n ih =>
    obtain ⟨l, h1, h2⟩ := ih (fun i hi => h i (by omega))
    obtain ⟨x, hx⟩ := h n (by omega)
    refine ⟨l ++ [x], by simp [h1], fun i hi => ?_⟩
    rcases Nat.lt_or_ge i n with hh | hh
    · rw [List.getElem?_append_left (by omega)]; exact h2 i hh
    · obtain rfl : i = n := by omega
      rw [List.getElem?_append_right (by omega), h1]
      simpa using hx
theorem addM_none (b off i : Nat) : (⟨b, off, none⟩ : Addr).add i = ⟨b, off + i, none⟩ := by
  unfold Addr.add; split
  · simp_all
  · rfl
theorem cells_intsM : Try.prog.cellsOf 26 = 1 := by kernel_rfl
theorem cells_boolM : Try.prog.cellsOf 4 = 1 := by kernel_rfl
set_option maxRecDepth 100000 in
theorem open_rows_at {H : Type} {enc : TypeId × Value → H} {W : World} {fuel : Nat} {v : Value} {y : DataW H × List MemPlace}
    (hf : DataW.trod enc Try.prog W 0 (fun _ => true) true fuel 22 [v] = some y) :
    ∃ (a : Option Addr) (t : List (List Int)) (cap : Nat), v = .slice a t.length cap ∧ t.length ≤ 9223372036854775807 ∧ (t.length ≤ 140737488355328 → RowsRaw W a t) := by
  rcases open_slice1 Try.underlying22 cells_intsM hf with ⟨hc, _⟩ | ⟨a, len, cap, m, n, V, D, Pl, hc, _, hl, hm, hmm, _, hall⟩
  · simp at hc
    exact ⟨none, [], 0, hc, by simp, fun _ => .inl rfl⟩
  · simp at hc hmm
    unfold maxLen at hm
    obtain ⟨t, h1, h2⟩ := pick_list ([] : List Int) len (fun i x => ∃ A c, W.cell? (a.add i) = some (.slice A x.length c) ∧ SetRaw W A x) (by
      intro i hi
      obtain ⟨c0, t0⟩ := hall i (by omega)
      obtain ⟨A, xs, c, e0, l0, g0⟩ := open_ints_at t0
      exact ⟨xs, A, c, by rw [c0, e0], ⟨l0, g0⟩⟩)
    refine ⟨some a, t, cap, by rw [h1, hc], by omega, fun hb => ?_⟩
    by_cases h0 : len = 0
    · left; exact List.eq_nil_of_length_eq_zero (by omega)
    · right
      obtain ⟨b, off, spot⟩ := a
      obtain ⟨_, _, hc0, _⟩ := h2 0 (by omega)
      have hspot : spot = none := by simpa [Addr.add] using World.cell?_spot hc0
      subst hspot
      refine ⟨b, off, rfl, fun i hi => ?_⟩
      have := h2 i (by omega)
      simp only [addM_none] at this
      exact this
set_option maxRecDepth 100000 in
theorem open_boolsM_at {H : Type} {enc : TypeId × Value → H} {W : World} {fuel : Nat} {v : Value} {y : DataW H × List MemPlace}
    (hf : DataW.trod enc Try.prog W 0 (fun _ => true) true fuel 23 [v] = some y) :
    ∃ (a : Option Addr) (l : List Bool) (cap : Nat), v = .slice a l.length cap ∧ l.length ≤ 9223372036854775807 ∧ (l.length ≤ 140737488355328 → MarkRaw W a l) := by
  rcases open_slice Try.underlying23 hf with ⟨hc, _⟩ | ⟨a, len, cap, m, n, D, Pl, hc, _, hl, hm, hmm, _, hi⟩
  · simp at hc
    exact ⟨none, [], 0, hc, by simp, fun _ => .inl rfl⟩
  · simp at hc hmm
    unfold maxLen at hm
    obtain ⟨l, h1, h2⟩ := pick_list false len (fun i x => W.cell? (a.add i) = some (.bool x)) (fun i hil => by
      obtain ⟨cs', hcs, ht'⟩ := hi i (by omega)
      rw [cells_boolM] at hcs
      obtain ⟨_, hcl, hat⟩ := World.cells?_some hcs
      obtain ⟨x, rfl, _⟩ := DataW.trod_bool Try.underlying4 ht'
      have := hat 0 (by simp)
      refine ⟨x, ?_⟩
      rw [Go.Deep.add_add] at this
      simpa using this)
    refine ⟨some a, l, cap, by rw [h1, hc], by omega, fun hb => ?_⟩
    by_cases h0 : len = 0
    · left; exact List.eq_nil_of_length_eq_zero (by omega)
    · right
      obtain ⟨b, off, spot⟩ := a
      have hc0 := h2 0 (by omega)
      have hspot : spot = none := by simpa [Addr.add] using World.cell?_spot hc0
      subst hspot
      refine ⟨b, off, rfl, fun i hi => ?_⟩
      have := h2 i (by omega)
      rw [addM_none] at this
      exact this
set_option maxRecDepth 100000 in
theorem open_machine {H : Type} {enc : TypeId × Value → H} {W : World} {r : Go.Reach} {b0 : Nat} {v : Value} {d : DataW H} {p : List MemPlace} (hv : Value.okWide Try.prog W r b0 25 v)
    (h : DataW.Trod enc Try.prog W 0 (fun _ => true) true 25 v d p) :
    ∃ (L : Int) (Na : Option Addr) (rows : List (List Int)) (nc : Nat) (Aa : Option Addr) (accs : List Bool) (ac : Nat), v = .agg #[.int .i64 L, .slice Na rows.length nc, .slice Aa accs.length ac] ∧ (-9223372036854775808 ≤ L ∧ L ≤ 9223372036854775807) ∧ MachRaw W Na rows Aa accs := by
  obtain ⟨c0, c1, c2, y0, y1, y2, m, rfl, _, _, hy0, hy1, hy2⟩ := open_agg3 Try.underlying25 (by kernel_rfl) (by kernel_rfl) hv h
  obtain ⟨x, e0, _, wx⟩ := DataW.trod_int Try.underlying3 hy0
  simp at e0
  subst e0
  obtain ⟨a1, t, cap1, rfl, l1, k1⟩ := open_rows_at hy1
  obtain ⟨a2, l, cap2, rfl, l2, k2⟩ := open_boolsM_at hy2
  exact ⟨x, a1, t, cap1, a2, l, cap2, rfl, wf_i64 wx, l1, l2, k1, k2⟩
/-- Whether a machine has long lists. -/
def largeM (rows : List (List Int)) (accs : List Bool) : Bool := decide (200 < rows.length) || decide (400 < accs.length) || rows.any (fun r => decide (50 < r.length))
set_option maxRecDepth 100000 in
set_option maxHeartbeats 1000000 in
theorem lLarge_any (L : Int) (nc ac : Nat) (Na Aa : Option Addr) (rows : List (List Int)) (accs : List Bool) (w : World) (h : MachRaw w Na rows Aa accs) :
    Calls Try.prog 18 #[machV L Na rows.length nc Aa accs.length ac] w fun e w' => w' = w.alloc (amachO L Na rows.length nc Aa accs.length ac) ∧ e = .returned (.bool (largeM rows accs)) := by
  have hn := h.1
  have hal := h.2.1
  have hA : Below w.heap.size w (w.alloc (amachO L Na rows.length nc Aa accs.length ac)) := (Below.refl _ _).alloc (Nat.le_refl _) _
  have HH := hid (fun hb => h.2.2.1 hb)
  have HA := hid hA
  have HL := hid (show largeM rows accs = (decide (200 < rows.length) || decide (400 < accs.length) || rows.any (fun r => decide (50 < r.length))) from rfl)
  clear h hA
  unfold machV
  by_cases h1 : 200 < rows.length
  · have HL := hid (show largeM rows accs = true by rw [HL.out]; simp [h1])
    have h1' : (200 : Int) < (rows.length : Int) := by omega
    go_enter Try.func18, Try.ntmps18
    go_wp2
    go_ret
    exact ⟨rfl, by rw [HL.out]; rfl⟩
  · have h1' : ¬ (200 : Int) < (rows.length : Int) := by omega
    by_cases h2 : 400 < accs.length
    · have HL := hid (show largeM rows accs = true by rw [HL.out]; simp [h2])
      have h2' : (400 : Int) < (accs.length : Int) := by omega
      go_enter Try.func18, Try.ntmps18
      go_wp2
      go_ret
      exact ⟨rfl, by rw [HL.out]; rfl⟩
    · have h2' : ¬ (400 : Int) < (accs.length : Int) := by omega
      have HL := hid (show largeM rows accs = rows.any (fun r => decide (50 < r.length)) by rw [HL.out]; simp [h1, h2])
      have c1 : (w.alloc (amachO L Na rows.length nc Aa accs.length ac)).cell? ⟨w.heap.size, 1, none⟩ = some (.slice Na rows.length nc) := by go_simp
      go_enter Try.func18, Try.ntmps18
      go_wp2
      go_loopw [3] (fun i wr => ∃ (k : Nat), k ≤ rows.length ∧ i = .int .i64 k ∧ Hid ((rows.take k).any (fun r => decide (50 < r.length)) = false) ∧ Hid (wr = w.alloc (amachO L Na rows.length nc Aa accs.length ac)) ∧ wr.cell? ⟨w.heap.size, 1, none⟩ = some (.slice Na rows.length nc)) (fun i _ => rows.length - (intOf i).toNat)
      case atStart => exact ⟨0, Nat.zero_le _, rfl, rfl, rfl, c1⟩
      case round =>
        clear c1
        obtain ⟨k, hk, rfl, HT, HW, c1⟩ := hrel
        by_cases hlt : k < rows.length
        · rcases HH.out (by omega) with e | ⟨b, off, rfl, hc⟩
          · rw [e] at hlt; simp at hlt
          obtain ⟨A, cc, g0, g2⟩ := hc k hlt
          have g1 : wr.cell? ⟨b, off + k, none⟩ = some (.slice A (rows[k]?.getD []).length cc) := by rw [HW.out, HA.out.cell (cell_lt g0)]; exact g0
          clear g0
          have hmem : rows[k]?.getD [] ∈ rows := by rw [List.getElem?_eq_getElem hlt]; exact List.getElem_mem hlt
          have HT2 := hid (fun (hq : ¬ 50 < (rows[k]?.getD []).length) => (show (rows.take (k + 1)).any (fun r => decide (50 < r.length)) = false from by
            rw [List.take_succ_eq_append_getElem hlt, List.any_append, HT.out]
            rw [List.getElem?_eq_getElem hlt] at hq
            simpa using hq))
          have HBad := hid (fun (hq : 50 < (rows[k]?.getD []).length) => (show largeM rows accs = true from HL.out.trans (List.any_eq_true.2 ⟨_, hmem, by simpa using hq⟩)))
          have hrl := g2.1
          clear hc hmem HT g2
          generalize rows[k]?.getD [] = r at *
          have hk0 : (0 : Int) ≤ (k : Int) := by omega
          have hk1 : (k : Int) < (rows.length : Int) := by omega
          by_cases hq : 50 < r.length
          · have HT3 := hid (HBad.out hq)
            have hq' : (50 : Int) < (r.length : Int) := by omega
            clear HT2 HBad
            go_wp2
            go_ret
            exact ⟨HW.out, by rw [HT3.out]; rfl⟩
          · have HT3 := hid (HT2.out hq)
            have hq' : ¬ (50 : Int) < (r.length : Int) := by omega
            clear HT2 HBad
            go_wp2
            go_roundw
            case rel => exact ⟨k + 1, by omega, by go_num, HT3.out, HW.out, c1⟩
            case measure => simp [intOf]; omega
        · obtain rfl : k = rows.length := by omega
          have hT := HT.out
          rw [List.take_length] at hT
          have HL9 := hid (HL.out.trans hT)
          clear hT HT
          go_wp2
          go_ret
          exact ⟨HW.out, by rw [HL9.out]; rfl⟩
theorem largeM_mach {w : World} {Na Aa : Option Addr} {rows : List (List Int)} {accs : List Bool} (h : MachRaw w Na rows Aa accs) (hl : largeM rows accs = false) : MachAt w Na rows Aa accs ∧ rows.length ≤ 200 := by
  unfold largeM at hl
  simp only [Bool.or_eq_false_iff, decide_eq_false_iff_not] at hl
  obtain ⟨⟨h1, h2⟩, h3⟩ := hl
  obtain ⟨_, _, k1, k2⟩ := h
  refine ⟨⟨by omega, ?_, by omega, k2 (by omega)⟩, by omega⟩
  rcases k1 (by omega) with e | ⟨b, off, ha, hc⟩
  · exact .inl e
  · refine .inr ⟨b, off, ha, fun i hi => ?_⟩
    obtain ⟨A, c, g1, g2⟩ := hc i hi
    refine ⟨A, c, g1, g2.2 ?_⟩
    have := List.any_eq_false.1 h3 (rows[i]?.getD []) (by rw [List.getElem?_eq_getElem hi]; exact List.getElem_mem hi)
    simp at this
    omega
theorem llong_any (A : Option Addr) (n c : Nat) (w : World) (hn : n ≤ 9223372036854775807) : Calls Try.prog 19 #[.slice A n c] w fun e w' => w' = w ∧ e = .returned (.bool (decide (200 < n))) := by
  by_cases h1 : 200 < n
  · have h1' : (200 : Int) < (n : Int) := by omega
    rw [decide_eq_true h1]
    clear h1
    go_enter Try.func19, Try.ntmps19
    go_wp2
    go_ret
    exact ⟨rfl, by first | rfl | (apply ret_bool; simp; omega)⟩
  · have h1' : (n : Int) ≤ 200 := by omega
    rw [decide_eq_false h1]
    clear h1
    go_enter Try.func19, Try.ntmps19
    go_wp2
    go_ret
    exact ⟨rfl, by first | rfl | (apply ret_bool; simp; omega)⟩
end Go.Proofs.Ytkboeldafppicaa
