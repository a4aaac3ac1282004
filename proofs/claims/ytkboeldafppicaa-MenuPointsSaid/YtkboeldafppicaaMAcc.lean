/- Where a word leads, and whether it is accepted: package menu. -/
import Derived.Test.YtkboeldafppicaaMaP
import Derived.Deep.RegionHeld3
/- Errors of words, lengths and pairs of machines; where a word leads: package menu. -/
/- What is asked of machines, words and lengths: package menu. -/
set_option linter.unusedVariables false
set_option linter.unusedSimpArgs false
namespace Go.Proofs.Ytkboeldafppicaa
open Go.RowKit

theorem mIsLetters_any (n : Int) (w : World) : Calls Try.prog 68 #[.int .i64 n] w fun e w' => w' = w ∧ e = .returned (.bool (decide (1 ≤ n ∧ n ≤ 6))) := by
  by_cases h1 : 1 ≤ n
  · by_cases h2 : n ≤ 6
    · go_enter Try.func68, Try.ntmps68
      go_wp2
      go_ret
      exact ⟨rfl, ret_bool (by simp [h1, h2])⟩
    · go_enter Try.func68, Try.ntmps68
      go_wp2
      go_ret
      exact ⟨rfl, ret_bool (by simp [h1, h2])⟩
  · go_enter Try.func68, Try.ntmps68
    go_wp2
    go_ret
    exact ⟨rfl, ret_bool (by simp; omega)⟩
theorem mIsBelow_any (x n : Int) (w : World) : Calls Try.prog 96 #[.int .i64 x, .int .i64 n] w fun e w' => w' = w ∧ e = .returned (.bool (decide (0 ≤ x ∧ x < n))) := by
  by_cases h1 : 0 ≤ x
  · by_cases h2 : x < n
    · go_enter Try.func96, Try.ntmps96
      go_wp2
      go_ret
      exact ⟨rfl, ret_bool (by simp [h1, h2])⟩
    · go_enter Try.func96, Try.ntmps96
      go_wp2
      go_ret
      exact ⟨rfl, ret_bool (by simp [h1, h2])⟩
  · go_enter Try.func96, Try.ntmps96
    go_wp2
    go_ret
    exact ⟨rfl, ret_bool (by simp; omega)⟩
/-- All numbers of a list are from 0 to n - 1. -/
def allB (l : List Int) (n : Int) : Bool := l.all (fun x => decide (0 ≤ x ∧ x < n))
theorem allB_iff {l : List Int} {n : Int} : allB l n = true ↔ ∀ x ∈ l, 0 ≤ x ∧ x < n := by unfold allB; simp
theorem allB_take {l : List Int} {n : Int} {k : Nat} (h : allB (l.take k) n = true) (hk : k < l.length) (hx : 0 ≤ l[k]?.getD 0 ∧ l[k]?.getD 0 < n) : allB (l.take (k + 1)) n = true := by
  rw [List.take_succ_eq_append_getElem hk]
  rw [List.getElem?_eq_getElem hk] at hx
  unfold allB at h ⊢
  rw [List.all_append, h]
  simpa using hx
theorem allB_bad {l : List Int} {n : Int} {k : Nat} (hk : k < l.length) (hx : ¬ (0 ≤ l[k]?.getD 0 ∧ l[k]?.getD 0 < n)) : allB l n = false := by
  rw [List.getElem?_eq_getElem hk] at hx
  cases h : allB l n with
  | false => rfl
  | true => exact absurd (allB_iff.1 h _ (List.getElem_mem hk)) (by simpa using hx)
set_option maxRecDepth 100000 in
set_option maxHeartbeats 1000000 in
theorem mAreBelow_any (A : Option Addr) (l : List Int) (cap : Nat) (n : Int) (w : World) (h : Ints w A l) : Calls Try.prog 69 #[.slice A l.length cap, .int .i64 n] w fun e w' => w' = w ∧ e = .returned (.bool (allB l n)) := by
  have hl := h.len
  have HH := hid h
  clear h
  go_enter Try.func69, Try.ntmps69
  go_wp2
  go_loopw [9] (fun i wr => ∃ (k : Nat), k ≤ l.length ∧ i = .int .i64 k ∧ Hid (allB (l.take k) n = true) ∧ wr = w) (fun i _ => l.length - (intOf i).toNat)
  case atStart => exact ⟨0, Nat.zero_le _, rfl, rfl, rfl⟩
  case round =>
    obtain ⟨k, hk, rfl, HT, rfl⟩ := hrel
    by_cases hlt : k < l.length
    · rcases HH.out.at_ with e | ⟨b, off, rfl, hc⟩
      · rw [e] at hlt; simp at hlt
      have c0 := hc k hlt
      have hT := hid (fun hx => allB_take HT.out hlt hx)
      have hBd := hid (fun hx => allB_bad (n := n) hlt hx)
      clear hc HT
      generalize l[k]?.getD 0 = x at *
      by_cases hx : 0 ≤ x ∧ x < n
      · have HT2 := hid (hT.out hx)
        have hd : decide (0 ≤ x ∧ x < n) = true := by simpa using hx
        clear hT hBd
        go_wp2_with fail
        refine (mIsBelow_any x n _).mono ?_
        rintro e w1 ⟨rfl, rfl⟩
        rw [hd]
        clear hd hx
        go_wp2
        go_roundw
        case rel => exact ⟨k + 1, by omega, by go_num, HT2.out, trivial⟩
        case measure => simp [intOf]; omega
      · have HB := hid (hBd.out hx)
        have hd : decide (0 ≤ x ∧ x < n) = false := by simpa using hx
        clear hT hBd
        go_wp2_with fail
        refine (mIsBelow_any x n _).mono ?_
        rintro e w1 ⟨rfl, rfl⟩
        rw [hd]
        clear hd hx
        go_wp2
        go_ret
        exact ⟨rfl, ret_bool HB.out.symm⟩
    · obtain rfl : k = l.length := by omega
      have hT := HT.out
      rw [List.take_length] at hT
      have HT := hid hT
      clear hT
      go_wp2
      go_ret
      exact ⟨rfl, ret_bool HT.out.symm⟩

/-- The error of a machine. -/
def vE (L : Int) (rows : List (List Int)) (accs : List Bool) : Int :=
  if ¬ (1 ≤ L ∧ L ≤ 6) then 1 else if 64 < rows.length then 4 else if rows.length = 0 ∨ accs.length ≠ rows.length then 1 else if ∀ r ∈ rows, (r.length : Int) = L ∧ allB r rows.length = true then 0 else 1
theorem vE_ok {L : Nat} {rows : List (List Int)} {accs : List Bool} (h : vE L rows accs = 0) : GoodM L rows accs ∧ rows.length ≤ 64 := by
  unfold vE at h
  split at h
  · cases h
  rename_i h1
  split at h
  · cases h
  rename_i h2
  split at h
  · cases h
  rename_i h3
  split at h
  · rename_i h4
    refine ⟨⟨by omega, by omega, by omega, by omega, fun s hs => ?_, fun s c hs hc => ?_⟩, by omega⟩
    · have := h4 (rows[s]?.getD []) (by rw [List.getElem?_eq_getElem hs]; exact List.getElem_mem hs)
      omega
    · obtain ⟨g1, g2⟩ := h4 (rows[s]?.getD []) (by rw [List.getElem?_eq_getElem hs]; exact List.getElem_mem hs)
      have hc' : c < (rows[s]?.getD []).length := by omega
      have := allB_iff.1 g2 ((rows[s]?.getD [])[c]?.getD 0) (getD_mem _ _ hc')
      unfold mN
      omega
  · cases h
theorem vE_cases (L : Int) (rows : List (List Int)) (accs : List Bool) : vE L rows accs = 0 ∨ vE L rows accs = 1 ∨ vE L rows accs = 4 := by
  unfold vE
  split
  · simp
  split
  · simp
  split
  · simp
  split <;> simp
abbrev amachO (L : Int) (Na : Option Addr) (rn nc : Nat) (Aa : Option Addr) (an ac : Nat) : Obj := .cells #[.int .i64 L, .slice Na rn nc, .slice Aa an ac] 25
set_option maxRecDepth 100000 in
set_option maxHeartbeats 4000000 in
theorem mValidate_any (L : Int) (nc ac : Nat) (Na Aa : Option Addr) (rows : List (List Int)) (accs : List Bool) (w : World) (h : MachAt w Na rows Aa accs) :
    Calls Try.prog 23 #[machV L Na rows.length nc Aa accs.length ac] w fun e w' => w' = w.alloc (amachO L Na rows.length nc Aa accs.length ac) ∧ e = .returned (.int .i64 (vE L rows accs)) := by
  have hn := h.nlen
  have hal := h.alen
  have hA : Below w.heap.size w (w.alloc (amachO L Na rows.length nc Aa accs.length ac)) := (Below.refl _ _).alloc (Nat.le_refl _) _
  have HH := hid (h.below hA)
  have HV := hid (show vE L rows accs = if ¬ (1 ≤ L ∧ L ≤ 6) then 1 else if 64 < rows.length then 4 else if rows.length = 0 ∨ accs.length ≠ rows.length then 1 else if ∀ r ∈ rows, (r.length : Int) = L ∧ allB r rows.length = true then 0 else 1 from rfl)
  clear h hA
  unfold machV
  go_enter Try.func23, Try.ntmps23
  go_wp2_with fail
  refine (mIsLetters_any L _).mono ?_
  rintro e w1 ⟨rfl, rfl⟩
  by_cases h1 : (1 ≤ L ∧ L ≤ 6)
  · have hd : decide (1 ≤ L ∧ L ≤ 6) = true := by simpa using h1
    have HV := hid (HV.out.trans (if_neg (fun hh => hh h1)))
    rw [hd]
    clear hd
    by_cases h2 : 64 < rows.length
    · have HV := hid (HV.out.trans (if_pos h2))
      have h2' : (64 : Int) < (rows.length : Int) := by omega
      go_wp2
      go_ret
      exact ⟨rfl, by rw [HV.out]; rfl⟩
    · have HV := hid (HV.out.trans (if_neg h2))
      have h2' : ¬ (64 : Int) < (rows.length : Int) := by omega
      by_cases h3 : rows.length = 0
      · have HV := hid (HV.out.trans (if_pos (.inl h3)))
        have h3' : ((rows.length : Int) == 0) = true := by simp [h3]
        clear h3
        go_wp2
        go_ret
        exact ⟨rfl, by rw [HV.out]; rfl⟩
      · have h3' : ((rows.length : Int) == 0) = false := by rw [beq_eq_false_iff_ne]; omega
        by_cases h4 : accs.length = rows.length
        · have HV := hid (HV.out.trans (if_neg (by simp [h3, h4])))
          have h4' : ((accs.length : Int) != (rows.length : Int)) = false := by simp [h4]
          clear h4
          have c0 : (w.alloc (amachO L Na rows.length nc Aa accs.length ac)).cell? ⟨w.heap.size, 0, none⟩ = some (.int .i64 L) := by go_simp
          have c1 : (w.alloc (amachO L Na rows.length nc Aa accs.length ac)).cell? ⟨w.heap.size, 1, none⟩ = some (.slice Na rows.length nc) := by go_simp
          go_wp2
          go_loopw [29] (fun i wr => ∃ (k : Nat), k ≤ rows.length ∧ i = .int .i64 k ∧ Hid (∀ r ∈ rows.take k, (r.length : Int) = L ∧ allB r rows.length = true) ∧ Hid (wr = w.alloc (amachO L Na rows.length nc Aa accs.length ac)) ∧ wr.cell? ⟨w.heap.size, 0, none⟩ = some (.int .i64 L) ∧ wr.cell? ⟨w.heap.size, 1, none⟩ = some (.slice Na rows.length nc)) (fun i _ => rows.length - (intOf i).toNat)
          case atStart => exact ⟨0, Nat.zero_le _, rfl, (fun r hr => by simp at hr), rfl, c0, c1⟩
          case round =>
            clear c0 c1
            obtain ⟨k, hk, rfl, HT, HW, c0, c1⟩ := hrel
            by_cases hlt : k < rows.length
            · have HH2 := hid (show MachAt wr Na rows Aa accs by rw [HW.out]; exact HH.out)
              rcases HH2.out.nat_ with e | ⟨b, off, rfl, hc⟩
              · rw [e] at hlt; simp at hlt
              obtain ⟨A, cc, g1, g2⟩ := hc k hlt
              have hmem : rows[k]?.getD [] ∈ rows := by rw [List.getElem?_eq_getElem hlt]; exact List.getElem_mem hlt
              have HT2 := hid (fun (hq : ((rows[k]?.getD []).length : Int) = L ∧ allB (rows[k]?.getD []) rows.length = true) => (show ∀ r ∈ rows.take (k + 1), (r.length : Int) = L ∧ allB r rows.length = true from fun r hr => by
                rw [List.take_succ_eq_append_getElem hlt] at hr
                rcases List.mem_append.1 hr with hr | hr
                · exact HT.out r hr
                · rw [List.getElem?_eq_getElem hlt] at hq
                  simp at hr; subst hr; exact hq))
              have HBad := hid (fun (hq : ¬ (((rows[k]?.getD []).length : Int) = L ∧ allB (rows[k]?.getD []) rows.length = true)) => HV.out.trans (if_neg (fun hh => hq (hh _ hmem))))
              have hrl := g2.len
              clear hc hmem HT HH2
              generalize rows[k]?.getD [] = r at *
              have hk0 : (0 : Int) ≤ (k : Int) := by omega
              have hk1 : (k : Int) < (rows.length : Int) := by omega
              by_cases hq1 : (r.length : Int) = L
              · have hq1' : ((r.length : Int) != L) = false := by simp [hq1]
                have Hq1 := hid hq1
                clear hq1
                go_wp2_with fail
                refine (mAreBelow_any A r cc (rows.length : Int) wr g2).mono ?_
                rintro e w1 ⟨rfl, rfl⟩
                cases hb : allB r rows.length with
                | true =>
                  have HT3 := hid (HT2.out ⟨Hq1.out, hb⟩)
                  clear HT2 HBad hb Hq1
                  go_wp2
                  go_roundw
                  case rel => exact ⟨k + 1, by omega, by go_num, HT3.out, HW.out, c0, c1⟩
                  case measure => simp [intOf]; omega
                | false =>
                  have HT3 := hid (HBad.out (fun hh => by rw [hh.2] at hb; cases hb))
                  clear HT2 HBad hb Hq1
                  go_wp2
                  go_ret
                  exact ⟨HW.out, by rw [HT3.out]; rfl⟩
              · have hq1' : ((r.length : Int) != L) = true := by simp; exact hq1
                have HT3 := hid (HBad.out (fun hh => hq1 hh.1))
                clear HT2 HBad hq1
                go_wp2
                go_ret
                exact ⟨HW.out, by rw [HT3.out]; rfl⟩
            · obtain rfl : k = rows.length := by omega
              have hT := HT.out
              rw [List.take_length] at hT
              have HV9 := hid (HV.out.trans (if_pos hT))
              clear hT HT
              go_wp2
              go_ret
              exact ⟨HW.out, by rw [HV9.out]; rfl⟩
        · have HV := hid (HV.out.trans (if_pos (.inr h4)))
          have h4' : ((accs.length : Int) != (rows.length : Int)) = true := by simp; omega
          clear h4
          go_wp2
          go_ret
          exact ⟨rfl, by rw [HV.out]; rfl⟩
  · have hd : decide (1 ≤ L ∧ L ≤ 6) = false := by simpa using h1
    have HV := hid (HV.out.trans (if_pos h1))
    rw [hd]
    clear hd
    go_wp2
    go_ret
    exact ⟨rfl, by rw [HV.out]; rfl⟩
end Go.Proofs.Ytkboeldafppicaa
set_option linter.unusedVariables false
set_option linter.unusedSimpArgs false
namespace Go.Proofs.Ytkboeldafppicaa
open Go.RowKit

def lE (word : List Int) (n : Int) : Int := if 20 < word.length then 4 else if allB word n = true then 0 else 1
def wordE (L : Int) (rows : List (List Int)) (accs : List Bool) (word : List Int) : Int := if vE L rows accs ≠ 0 then vE L rows accs else lE word L
def lenE (L : Int) (rows : List (List Int)) (accs : List Bool) (n : Int) : Int := if vE L rows accs ≠ 0 then vE L rows accs else if n < 0 ∨ 20 < n then 1 else 0
def twoE (L : Int) (rows : List (List Int)) (accs : List Bool) (L' : Int) (rows' : List (List Int)) (accs' : List Bool) : Int := if vE L rows accs ≠ 0 then vE L rows accs else if vE L' rows' accs' ≠ 0 then vE L' rows' accs' else if L ≠ L' then 1 else 0
set_option maxRecDepth 100000 in
set_option maxHeartbeats 1000000 in
theorem mCheckLetters_any (A : Option Addr) (l : List Int) (cap : Nat) (n : Int) (w : World) (h : Ints w A l) : Calls Try.prog 115 #[.slice A l.length cap, .int .i64 n] w fun e w' => w' = w ∧ e = .returned (.int .i64 (lE l n)) := by
  have hl := h.len
  have HL := hid (show lE l n = if 20 < l.length then 4 else if allB l n = true then 0 else 1 from rfl)
  by_cases h1 : 20 < l.length
  · have HL := hid (HL.out.trans (if_pos h1))
    have h1' : (20 : Int) < (l.length : Int) := by omega
    clear h
    go_enter Try.func115, Try.ntmps115
    go_wp2
    go_ret
    exact ⟨rfl, by rw [HL.out]; rfl⟩
  · have HL := hid (HL.out.trans (if_neg h1))
    have h1' : ¬ (20 : Int) < (l.length : Int) := by omega
    have HH := hid h
    clear h h1
    go_enter Try.func115, Try.ntmps115
    go_wp2_with fail
    refine (mAreBelow_any A l cap n w HH.out).mono ?_
    rintro e w1 ⟨rfl, rfl⟩
    cases hb : allB l n with
    | true =>
      rw [hb] at HL
      clear hb
      go_wp2
      go_ret
      exact ⟨rfl, by rw [HL.out]; rfl⟩
    | false =>
      rw [hb] at HL
      clear hb
      go_wp2
      go_ret
      exact ⟨rfl, by rw [HL.out]; rfl⟩
set_option maxRecDepth 100000 in
set_option maxHeartbeats 1000000 in
theorem mCheckWord_any (L : Int) (nc ac : Nat) (Na Aa : Option Addr) (rows : List (List Int)) (accs : List Bool) (A : Option Addr) (l : List Int) (cap : Nat) (w : World) (h : MachAt w Na rows Aa accs) (hw : Ints w A l) :
    Calls Try.prog 64 #[machV L Na rows.length nc Aa accs.length ac, .slice A l.length cap] w fun e w' => Below w.heap.size w w' ∧ e = .returned (.int .i64 (wordE L rows accs l)) := by
  have hn := h.nlen
  have hal := h.alen
  have hl := hw.len
  have hA : Below w.heap.size w (w.alloc (amachO L Na rows.length nc Aa accs.length ac)) := (Below.refl _ _).alloc (Nat.le_refl _) _
  have hB := hid (hA.alloc hA.size (amachO L Na rows.length nc Aa accs.length ac))
  have HH := hid (h.below hA)
  have HI := hid (hw.below hB.out)
  have HW := hid (show wordE L rows accs l = if vE L rows accs ≠ 0 then vE L rows accs else lE l L from rfl)
  have hc := vE_cases L rows accs
  clear h hw hA
  unfold machV
  go_enter Try.func64, Try.ntmps64
  go_wp2_with fail
  refine (mValidate_any L nc ac Na Aa rows accs _ HH.out).mono ?_
  rintro e w1 ⟨rfl, rfl⟩
  generalize vE L rows accs = v at *
  by_cases hv : v = 0
  · subst hv
    have HW := hid (HW.out.trans (if_neg (fun h => h rfl)))
    go_wp2_with fail
    refine (mCheckLetters_any A l cap L _ HI.out).mono ?_
    rintro e w2 ⟨rfl, rfl⟩
    go_wp2
    go_ret
    exact ⟨hB.out, by rw [HW.out]; rfl⟩
  · have HW := hid (HW.out.trans (if_pos hv))
    have hv' : (v != 0) = true := by simpa using hv
    clear hv hc
    go_wp2
    go_ret
    exact ⟨hB.out, by rw [HW.out]; rfl⟩
set_option maxRecDepth 100000 in
set_option maxHeartbeats 1000000 in
theorem mCheckLength_any (L : Int) (nc ac : Nat) (Na Aa : Option Addr) (rows : List (List Int)) (accs : List Bool) (n : Int) (w : World) (h : MachAt w Na rows Aa accs) :
    Calls Try.prog 105 #[machV L Na rows.length nc Aa accs.length ac, .int .i64 n] w fun e w' => Below w.heap.size w w' ∧ e = .returned (.int .i64 (lenE L rows accs n)) := by
  have hn := h.nlen
  have hal := h.alen
  have hA : Below w.heap.size w (w.alloc (amachO L Na rows.length nc Aa accs.length ac)) := (Below.refl _ _).alloc (Nat.le_refl _) _
  have hB := hid (hA.alloc hA.size (amachO L Na rows.length nc Aa accs.length ac))
  have HH := hid (h.below hA)
  have HW := hid (show lenE L rows accs n = if vE L rows accs ≠ 0 then vE L rows accs else if n < 0 ∨ 20 < n then 1 else 0 from rfl)
  have hc := vE_cases L rows accs
  clear h hA
  unfold machV
  go_enter Try.func105, Try.ntmps105
  go_wp2_with fail
  refine (mValidate_any L nc ac Na Aa rows accs _ HH.out).mono ?_
  rintro e w1 ⟨rfl, rfl⟩
  generalize vE L rows accs = v at *
  by_cases hv : v = 0
  · subst hv
    have HW := hid (HW.out.trans (if_neg (fun h => h rfl)))
    clear hc
    by_cases h1 : n < 0
    · have HW := hid (HW.out.trans (if_pos (.inl h1)))
      go_wp2
      go_ret
      exact ⟨hB.out, by rw [HW.out]; rfl⟩
    · by_cases h2 : 20 < n
      · have HW := hid (HW.out.trans (if_pos (.inr h2)))
        go_wp2
        go_ret
        exact ⟨hB.out, by rw [HW.out]; rfl⟩
      · have HW := hid (HW.out.trans (if_neg (by omega)))
        go_wp2
        go_ret
        exact ⟨hB.out, by rw [HW.out]; rfl⟩
  · have HW := hid (HW.out.trans (if_pos hv))
    have hv' : (v != 0) = true := by simpa using hv
    clear hv hc
    go_wp2
    go_ret
    exact ⟨hB.out, by rw [HW.out]; rfl⟩
set_option maxRecDepth 100000 in
set_option maxHeartbeats 1000000 in
theorem mCheckTwo_any (L : Int) (nc ac : Nat) (Na Aa : Option Addr) (rows : List (List Int)) (accs : List Bool) (L' : Int) (nc' ac' : Nat) (Na' Aa' : Option Addr) (rows' : List (List Int)) (accs' : List Bool) (w : World) (h : MachAt w Na rows Aa accs) (h' : MachAt w Na' rows' Aa' accs') :
    Calls Try.prog 75 #[machV L Na rows.length nc Aa accs.length ac, machV L' Na' rows'.length nc' Aa' accs'.length ac'] w fun e w' => Below w.heap.size w w' ∧ e = .returned (.int .i64 (twoE L rows accs L' rows' accs')) := by
  have hn := h.nlen
  have hal := h.alen
  have hn' := h'.nlen
  have hal' := h'.alen
  have hA : Below w.heap.size w ((w.alloc (amachO L Na rows.length nc Aa accs.length ac)).alloc (amachO L' Na' rows'.length nc' Aa' accs'.length ac')) := ((Below.refl _ _).alloc (Nat.le_refl _) _).alloc (by simp) _
  have hB : Below w.heap.size w (((w.alloc (amachO L Na rows.length nc Aa accs.length ac)).alloc (amachO L' Na' rows'.length nc' Aa' accs'.length ac')).alloc (amachO L Na rows.length nc Aa accs.length ac)) := hA.alloc hA.size _
  have HB := hid hB
  have HC := hid (hB.alloc hB.size (amachO L' Na' rows'.length nc' Aa' accs'.length ac'))
  have HH := hid (h.below hA)
  have HH' := hid (h'.below hB)
  have HW := hid (show twoE L rows accs L' rows' accs' = if vE L rows accs ≠ 0 then vE L rows accs else if vE L' rows' accs' ≠ 0 then vE L' rows' accs' else if L ≠ L' then 1 else 0 from rfl)
  clear h h' hA hB
  unfold machV
  go_enter Try.func75, Try.ntmps75
  go_wp2_with fail
  refine (mValidate_any L nc ac Na Aa rows accs _ HH.out).mono ?_
  rintro e w1 ⟨rfl, rfl⟩
  generalize vE L rows accs = v at *
  by_cases hv : v = 0
  · subst hv
    have HW := hid (HW.out.trans (if_neg (fun h => h rfl)))
    go_wp2_with fail
    refine (mValidate_any L' nc' ac' Na' Aa' rows' accs' _ HH'.out).mono ?_
    rintro e w2 ⟨rfl, rfl⟩
    generalize vE L' rows' accs' = v' at *
    by_cases hv : v' = 0
    · subst hv
      have HW := hid (HW.out.trans (if_neg (fun h => h rfl)))
      by_cases hL : L = L'
      · have HW := hid (HW.out.trans (if_neg (fun h => h hL)))
        have hL' : (L != L') = false := by simpa using hL
        clear hL
        go_wp2
        go_ret
        exact ⟨HC.out, by rw [HW.out]; rfl⟩
      · have HW := hid (HW.out.trans (if_pos hL))
        have hL' : (L != L') = true := by simpa using hL
        clear hL
        go_wp2
        go_ret
        exact ⟨HC.out, by rw [HW.out]; rfl⟩
    · have HW := hid (HW.out.trans (if_pos hv))
      have hv' : (v' != 0) = true := by simpa using hv
      clear hv
      go_wp2
      go_ret
      exact ⟨HC.out, by rw [HW.out]; rfl⟩
  · have HW := hid (HW.out.trans (if_pos hv))
    have hv' : (v != 0) = true := by simpa using hv
    clear hv
    go_wp2
    go_ret
    exact ⟨HB.out, by rw [HW.out]; rfl⟩
end Go.Proofs.Ytkboeldafppicaa
set_option linter.unusedVariables false
set_option linter.unusedSimpArgs false
namespace Go.Proofs.Ytkboeldafppicaa
open Go.RowKit

/-- The state behind the first k letters of a word. -/
def runK (rows : List (List Int)) (s : Nat) (l : List Int) : Nat → Nat
  | 0 => s
  | k + 1 => mN rows (runK rows s l k) (l[k]?.getD 0).toNat
theorem runK_lt {L : Nat} {rows : List (List Int)} {accs : List Bool} (hg : GoodM L rows accs) (s : Nat) (l : List Int) (hs : s < rows.length) (hl : allB l L = true) (k : Nat) (hk : k ≤ l.length) : runK rows s l k < rows.length := by
  induction k with
  | zero => exact hs
  | succ k ih =>
    have := allB_iff.1 hl _ (getD_mem l k (by omega))
    exact (hg.ent _ _ (ih (by omega)) (by omega)).1
set_option maxRecDepth 100000 in
set_option maxHeartbeats 2000000 in
theorem mAfter_any (L s nc ac cap : Nat) (Na Aa A : Option Addr) (rows : List (List Int)) (accs : List Bool) (l : List Int) (w : World) (h : MachAt w Na rows Aa accs) (hg : GoodM L rows accs) (hw : Ints w A l) (hl : allB l L = true) (hs : s < rows.length) :
    Calls Try.prog 109 #[machV L Na rows.length nc Aa rows.length ac, .int .i64 s, .slice A l.length cap] w fun e w' => Below w.heap.size w w' ∧ e = .returned (.int .i64 (runK rows s l l.length : Int)) := by
  have hn := h.nlen
  have hll := hw.len
  have hA : Below w.heap.size w (w.alloc (machO L Na rows.length nc Aa rows.length ac)) := (Below.refl _ _).alloc (Nat.le_refl _) _
  have HA := hid hA
  have HH := hid h
  have HI := hid hw
  have HG := hid hg
  have HR := hid (fun k hk => runK_lt hg s l hs hl k hk)
  have HL := hid (fun k (hk : k < l.length) => allB_iff.1 hl _ (getD_mem l k hk))
  clear h hg hw hl hs hA
  have c0 : (w.alloc (machO L Na rows.length nc Aa rows.length ac)).cell? ⟨w.heap.size, 0, none⟩ = some (.int .i64 (L : Int)) := by go_simp
  have c1 : (w.alloc (machO L Na rows.length nc Aa rows.length ac)).cell? ⟨w.heap.size, 1, none⟩ = some (.slice Na rows.length nc) := by go_simp
  have c2 : (w.alloc (machO L Na rows.length nc Aa rows.length ac)).cell? ⟨w.heap.size, 2, none⟩ = some (.slice Aa rows.length ac) := by go_simp
  unfold machV
  go_enter Try.func109, Try.ntmps109
  go_wp2
  go_loopw [1, 11] (fun q i wr => ∃ (k : Nat), k ≤ l.length ∧ i = .int .i64 k ∧ q = .int .i64 (runK rows s l k : Int) ∧ Hid (Below w.heap.size w wr) ∧ w.heap.size < wr.heap.size ∧ wr.cell? ⟨w.heap.size, 0, none⟩ = some (.int .i64 (L : Int)) ∧ wr.cell? ⟨w.heap.size, 1, none⟩ = some (.slice Na rows.length nc) ∧ wr.cell? ⟨w.heap.size, 2, none⟩ = some (.slice Aa rows.length ac)) (fun _ i _ => l.length - (intOf i).toNat)
  case atStart => exact ⟨0, Nat.zero_le _, rfl, rfl, HA.out, by simp, c0, c1, c2⟩
  case round =>
    clear c0 c1 c2 HA
    obtain ⟨k, hk, rfl, rfl, HB, hsz, c0, c1, c2⟩ := hrel
    by_cases hlt : k < l.length
    · have hI := HI.out.below HB.out
      rcases hI.at_ with e | ⟨b, off, rfl, hc⟩
      · rw [e] at hlt; simp at hlt
      have d0 := hc k hlt
      have hlk := HL.out k hlt
      have hrk := HR.out k hk
      have HSt := hid (show runK rows s l (k + 1) = mN rows (runK rows s l k) (l[k]?.getD 0).toNat from rfl)
      clear hI hc
      generalize runK rows s l k = q at *
      obtain ⟨x, hx⟩ := Int.eq_ofNat_of_zero_le hlk.1
      rw [hx] at d0 hlk HSt
      clear hx
      rw [Int.toNat_natCast] at HSt
      have hxL : x < L := by omega
      have hrow := HG.out.row q hrk
      obtain ⟨he1, he2⟩ := HG.out.ent q x hrk hxL
      have HNx := hid (next_any L q x nc ac rows.length Na Aa rows accs wr (HH.out.below HB.out) hrk (by rw [hrow]; exact hxL))
      rw [he2] at HNx
      rw [← HSt.out] at HNx
      clear hrow he1 he2
      have hA1 : Below wr.heap.size wr (wr.alloc (machO L Na rows.length nc Aa rows.length ac)) := (Below.refl _ _).alloc (Nat.le_refl _) _
      have e0 := (hA1.cell (cell_lt c0)).trans c0
      have e1 := (hA1.cell (cell_lt c1)).trans c1
      have e2 := (hA1.cell (cell_lt c2)).trans c2
      have HB1 := hid (HB.out.trans (hA1.mono HB.out.size))
      have hsz1 : w.heap.size < (wr.alloc (machO L Na rows.length nc Aa rows.length ac)).heap.size := by simp; omega
      clear hA1
      go_wp2_with fail
      refine HNx.out.mono ?_
      rintro e w1 ⟨rfl, rfl⟩
      generalize wr.alloc (machO L Na rows.length nc Aa rows.length ac) = wz at *
      clear c0 c1 c2 HNx
      go_wp2
      go_roundw
      case rel => exact ⟨k + 1, by omega, by go_num, rfl, HB1.out, hsz1, e0, e1, e2⟩
      case measure => simp [intOf]; omega
    · obtain rfl : k = l.length := by omega
      go_wp2
      go_ret
      exact ⟨HB.out, rfl⟩
theorem tkS_keep {w0 w w' : World} {pM : Nat} {L rn : Nat} {Na : Option Addr} {nc : Nat} {Aa : Option Addr} {ac : Nat} (h : w.cell? ⟨pM, 0, none⟩ = some (.int .i64 (L : Int)) ∧ w.cell? ⟨pM, 1, none⟩ = some (.slice Na rn nc) ∧ w.cell? ⟨pM, 2, none⟩ = some (.slice Aa rn ac) ∧ Below w0.heap.size w0 w) (hb : Below w.heap.size w w') : w'.cell? ⟨pM, 0, none⟩ = some (.int .i64 (L : Int)) ∧ w'.cell? ⟨pM, 1, none⟩ = some (.slice Na rn nc) ∧ w'.cell? ⟨pM, 2, none⟩ = some (.slice Aa rn ac) ∧ Below w0.heap.size w0 w' := by
  obtain ⟨h2, h3, h4, h6⟩ := h
  exact ⟨(hb.cell (cell_lt h2)).trans h2, (hb.cell (cell_lt h3)).trans h3, (hb.cell (cell_lt h4)).trans h4, h6.trans (hb.mono h6.size)⟩
set_option maxRecDepth 100000 in
set_option maxHeartbeats 2000000 in
theorem mTakes_any (L nc ac cap : Nat) (Na Aa A : Option Addr) (rows : List (List Int)) (accs : List Bool) (l : List Int) (w : World) (h : MachAt w Na rows Aa accs) (hg : GoodM L rows accs) (hw : Ints w A l) (hl : allB l L = true) :
    Calls Try.prog 65 #[machV L Na rows.length nc Aa rows.length ac, .slice A l.length cap] w fun e w' => Below w.heap.size w w' ∧ e = .returned (.bool (mA accs (runK rows 0 l l.length))) := by
  have hn := h.nlen
  have hll := hw.len
  have hA : Below w.heap.size w (w.alloc (machO L Na rows.length nc Aa rows.length ac)) := (Below.refl _ _).alloc (Nat.le_refl _) _
  have HAf := hid (fun wx (hb : Below w.heap.size w wx) => mAfter_any L 0 nc ac cap Na Aa A rows accs l wx (h.below hb) hg (hw.below hb) hl hg.pos)
  have HAc := hid (fun wx (hb : Below w.heap.size w wx) => (accepts_any L (runK rows 0 l l.length) nc ac rows.length rows.length Na Aa rows accs wx (h.below hb) (by rw [hg.acc]; exact runK_lt hg 0 l hg.pos hl _ (Nat.le_refl _)) hg.acc.symm).mono (R' := fun e w' => Below wx.heap.size wx w' ∧ e = .returned (.bool (mA accs (runK rows 0 l l.length)))) (by rintro e w' ⟨rfl, rfl⟩; exact ⟨(Below.refl _ _).alloc (Nat.le_refl _) _, rfl⟩))
  have c0 : (w.alloc (machO L Na rows.length nc Aa rows.length ac)).cell? ⟨w.heap.size, 0, none⟩ = some (.int .i64 (L : Int)) := by go_simp
  have c1 : (w.alloc (machO L Na rows.length nc Aa rows.length ac)).cell? ⟨w.heap.size, 1, none⟩ = some (.slice Na rows.length nc) := by go_simp
  have c2 : (w.alloc (machO L Na rows.length nc Aa rows.length ac)).cell? ⟨w.heap.size, 2, none⟩ = some (.slice Aa rows.length ac) := by go_simp
  have S0 := hid (show _ ∧ _ ∧ _ ∧ _ from ⟨c0, c1, c2, hA⟩)
  clear h hg hw hl hA c0 c1 c2
  generalize mA accs (runK rows 0 l l.length) = bz at *
  unfold machV at *
  generalize runK rows 0 l l.length = q at *
  go_enter Try.func65, Try.ntmps65
  go_wp2_with fail
  go_region_held3 (fun w' => w'.cell? ⟨w.heap.size, 0, none⟩ = some (.int .i64 (L : Int)) ∧ w'.cell? ⟨w.heap.size, 1, none⟩ = some (.slice Na rows.length nc) ∧ w'.cell? ⟨w.heap.size, 2, none⟩ = some (.slice Aa rows.length ac) ∧ Below w.heap.size w w') (first | exact tkS_keep S0.out (Below.refl _ _).drew | exact S0.out | exact tkS_keep (by assumption) (by assumption)) ((first | (go_at_call 109; refine (HAf.out _ ?_).mono ?_; (exact (And.right (And.right (And.right (by assumption))))); rintro e w5 ⟨hb5, rfl⟩) | (go_at_call 72; refine (HAc.out _ ?_).mono ?_; (exact (And.right (And.right (And.right (by assumption))))); rintro e w6 ⟨hb6, rfl⟩)))
  rename _ ∧ _ => hHeld
  have hBz := hHeld.2.2.2
  clear hb6 hHeld S0 HAf HAc
  go_wp2
  go_ret
  exact ⟨hBz, rfl⟩
/-- Whether a word is accepted, if it is right. -/
def accB (L : Int) (rows : List (List Int)) (accs : List Bool) (l : List Int) : Bool := decide (wordE L rows accs l = 0) && mA accs (runK rows 0 l l.length)
theorem wordE_ok {L : Int} {rows : List (List Int)} {accs : List Bool} {l : List Int} (h : wordE L rows accs l = 0) : vE L rows accs = 0 ∧ l.length ≤ 20 ∧ allB l L = true ∧ ∃ n : Nat, L = n := by
  unfold wordE at h
  split at h
  · rename_i h1; exact absurd h h1
  · rename_i h1
    have hv : vE L rows accs = 0 := Classical.byContradiction h1
    unfold lE at h
    split at h
    · cases h
    · rename_i h2
      split at h
      · rename_i h3
        refine ⟨hv, by omega, h3, ?_⟩
        have : 1 ≤ L := by
          unfold vE at hv
          split at hv
          · cases hv
          · rename_i h4; omega
        exact ⟨L.toNat, by omega⟩
      · cases h
set_option maxRecDepth 100000 in
set_option maxHeartbeats 2000000 in
theorem mAccepts_any (L : Int) (nc ac : Nat) (Na Aa : Option Addr) (rows : List (List Int)) (accs : List Bool) (A : Option Addr) (l : List Int) (cap : Nat) (w : World) (h : MachAt w Na rows Aa accs) (hw : Ints w A l) :
    Calls Try.prog 21 #[machV L Na rows.length nc Aa accs.length ac, .slice A l.length cap] w fun e w' => Below w.heap.size w w' ∧ e = .returned (.tuple #[.bool (accB L rows accs l), .int .i64 (wordE L rows accs l)]) := by
  have hn := h.nlen
  have hal := h.alen
  have hl := hw.len
  have hA : Below w.heap.size w (w.alloc (amachO L Na rows.length nc Aa accs.length ac)) := (Below.refl _ _).alloc (Nat.le_refl _) _
  have HA := hid hA
  have HH := hid h
  have HI := hid hw
  have HE := hid (show accB L rows accs l = (decide (wordE L rows accs l = 0) && mA accs (runK rows 0 l l.length)) from rfl)
  have HO := hid (wordE_ok (L := L) (rows := rows) (accs := accs) (l := l))
  have HC := hid (mCheckWord_any L nc ac Na Aa rows accs A l cap _ (h.below hA) (hw.below hA))
  clear h hw
  have c0 : (w.alloc (amachO L Na rows.length nc Aa accs.length ac)).cell? ⟨w.heap.size, 0, none⟩ = some (.int .i64 L) := by go_simp
  have c1 : (w.alloc (amachO L Na rows.length nc Aa accs.length ac)).cell? ⟨w.heap.size, 1, none⟩ = some (.slice Na rows.length nc) := by go_simp
  have c2 : (w.alloc (amachO L Na rows.length nc Aa accs.length ac)).cell? ⟨w.heap.size, 2, none⟩ = some (.slice Aa accs.length ac) := by go_simp
  unfold machV at *
  go_enter Try.func21, Try.ntmps21
  go_wp2_with fail
  refine HC.out.mono ?_
  rintro e w1 ⟨hb1, rfl⟩
  have d0 := (hb1.cell (cell_lt c0)).trans c0
  have d1 := (hb1.cell (cell_lt c1)).trans c1
  have d2 := (hb1.cell (cell_lt c2)).trans c2
  have HB1 := hid (HA.out.trans (hb1.mono HA.out.size))
  clear hb1 c0 c1 c2 hA HC HA
  generalize hv0 : wordE L rows accs l = v at *
  have HV0 := hid hv0
  clear hv0
  by_cases hv : v = 0
  · subst hv
    obtain ⟨hV, hl20, hall, n, rfl⟩ := HO.out rfl
    obtain ⟨hg, _⟩ := vE_ok hV
    have hacc := hg.acc
    have HE := hid (show accB n rows accs l = mA accs (runK rows 0 l l.length) by rw [HE.out]; simp)
    have HT := hid (mTakes_any n nc ac cap Na Aa A rows accs l w1 (HH.out.below HB1.out) hg (HI.out.below HB1.out) hall)
    rw [hacc] at d2
    unfold machV at HT
    clear hV hl20 hall hg hacc HO
    go_wp2_with fail
    refine HT.out.mono ?_
    rintro e w2 ⟨hb2, rfl⟩
    have HB2 := hid (HB1.out.trans (hb2.mono HB1.out.size))
    go_wp2
    go_ret2
    exact ⟨HB2.out, by rw [HE.out, HV0.out]; rfl⟩
  · have HE := hid (show accB L rows accs l = false by rw [HE.out]; simp [hv])
    have hv' : (v != 0) = true := by simpa using hv
    clear hv HO
    go_wp2
    go_ret2
    exact ⟨HB1.out, by rw [HE.out, HV0.out]; rfl⟩
end Go.Proofs.Ytkboeldafppicaa
