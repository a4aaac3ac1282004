/- What is asked of machines, words and lengths: package menu. -/
import Derived.Test.YtkboeldafppicaaMaP
set_option linter.unusedVariables false
set_option linter.unusedSimpArgs false
namespace Go.Proofs.Ytkboeldafppicaa
open Go.RowKit

theorem mIsLetters_any (n : Int) (w : World) : Calls Try.prog 68 #[.int .i64 n] w fun e w' => w' = w ∧ e = .returned (.bool (decide (1 ≤ n ∧ n ≤ 6))) := by
  by_cases h1 : 1 ≤ n
  · by_cases h2 : n ≤ 6
    · go_enter Try.func68, Try.ntmps68
      go_wp2
      go_ret
      exact ⟨rfl, ret_bool (by simp [h1, h2])⟩
    · go_enter Try.func68, Try.ntmps68
      go_wp2
      go_ret
      exact ⟨rfl, ret_bool (by simp [h1, h2])⟩
  · go_enter Try.func68, Try.ntmps68
    go_wp2
    go_ret
    exact ⟨rfl, ret_bool (by simp; omega)⟩
theorem mIsBelow_any (x n : Int) (w : World) : Calls Try.prog 96 #[.int .i64 x, .int .i64 n] w fun e w' => w' = w ∧ e = .returned (.bool (decide (0 ≤ x ∧ x < n))) := by
  by_cases h1 : 0 ≤ x
  · by_cases h2 : x < n
    · go_enter Try.func96, Try.ntmps96
      go_wp2
      go_ret
      exact ⟨rfl, ret_bool (by simp [h1, h2])⟩
    · go_enter Try.func96, Try.ntmps96
      go_wp2
      go_ret
      exact ⟨rfl, ret_bool (by simp [h1, h2])⟩
  · go_enter Try.func96, Try.ntmps96
    go_wp2
    go_ret
    exact ⟨rfl, ret_bool (by simp; omega)⟩
/-- All numbers of a list are from 0 to n - 1. -/
def allB (l : List Int) (n : Int) : Bool := l.all (fun x => decide (0 ≤ x ∧ x < n))
theorem allB_iff {l : List Int} {n : Int} : allB l n = true ↔ ∀ x ∈ l, 0 ≤ x ∧ x < n := by unfold allB; simp
theorem allB_take {l : List Int} {n : Int} {k : Nat} (h : allB (l.take k) n = true) (hk : k < l.length) (hx : 0 ≤ l[k]?.getD 0 ∧ l[k]?.getD 0 < n) : allB (l.take (k + 1)) n = true := by
  rw [List.take_succ_eq_append_getElem hk]
  rw [List.getElem?_eq_getElem hk] at hx
  unfold allB at h ⊢
  rw [List.all_append, h]
  simpa using hx
theorem allB_bad {l : List Int} {n : Int} {k : Nat} (hk : k < l.length) (hx : ¬ (0 ≤ l[k]?.getD 0 ∧ l[k]?.getD 0 < n)) : allB l n = false := by
  rw [List.getElem?_eq_getElem hk] at hx
  cases h : allB l n with
  | false => rfl
  | true => exact absurd (allB_iff.1 h _ (List.getElem_mem hk)) (by simpa using hx)
set_option maxRecDepth 100000 in
set_option maxHeartbeats 1000000 in
theorem mAreBelow_any (A : Option Addr) (l : List Int) (cap : Nat) (n : Int) (w : World) (h : Ints w A l) : Calls Try.prog 69 #[.slice A l.length cap, .int .i64 n] w fun e w' => w' = w ∧ e = .returned (.bool (allB l n)) := by
  have hl := h.len
  have HH := hid h
  clear h
  go_enter Try.func69, Try.ntmps69
  go_wp2
  go_loopw [9] (fun i wr => ∃ (k : Nat), k ≤ l.length ∧ i = .int .i64 k ∧ Hid (allB (l.take k) n = true) ∧ wr = w) (fun i _ => l.length - (intOf i).toNat)
  case atStart => exact ⟨0, Nat.zero_le _, rfl, rfl, rfl⟩
  case round =>
    obtain ⟨k, hk, rfl, HT, rfl⟩ := hrel
    by_cases hlt : k < l.length
    · rcases HH.out.at_ with e | ⟨b, off, rfl, hc⟩
      · rw [e] at hlt; simp at hlt
      have c0 := hc k hlt
      have hT := hid (fun hx => allB_take HT.out hlt hx)
      have hBd := hid (fun hx => allB_bad (n := n) hlt hx)
      clear hc HT
      generalize l[k]?.getD 0 = x at *
      by_cases hx : 0 ≤ x ∧ x < n
      · have HT2 := hid (hT.out hx)
        have hd : decide (0 ≤ x ∧ x < n) = true := by simpa using hx
        clear hT hBd
        go_wp2_with fail
        refine (mIsBelow_any x n _).mono ?_
        rintro e w1 ⟨rfl, rfl⟩
        rw [hd]
        clear hd hx
        go_wp2
        go_roundw
        case rel => exact ⟨k + 1, by omega, by go_num, HT2.out, trivial⟩
        case measure => simp [intOf]; omega
      · have HB := hid (hBd.out hx)
        have hd : decide (0 ≤ x ∧ x < n) = false := by simpa using hx
        clear hT hBd
        go_wp2_with fail
        refine (mIsBelow_any x n _).mono ?_
        rintro e w1 ⟨rfl, rfl⟩
        rw [hd]
        clear hd hx
        go_wp2
        go_ret
        exact ⟨rfl, ret_bool HB.out.symm⟩
    · obtain rfl : k = l.length := by omega
      have hT := HT.out
      rw [List.take_length] at hT
      have HT := hid hT
      clear hT
      go_wp2
      go_ret
      exact ⟨rfl, ret_bool HT.out.symm⟩

/-- The error of a machine. -/
def vE (L : Int) (rows : List (List Int)) (accs : List Bool) : Int :=
  if ¬ (1 ≤ L ∧ L ≤ 6) then 1 else if 64 < rows.length then 4 else if rows.length = 0 ∨ accs.length ≠ rows.length then 1 else if ∀ r ∈ rows, (r.length : Int) = L ∧ allB r rows.length = true then 0 else 1
theorem vE_ok {L : Nat} {rows : List (List Int)} {accs : List Bool} (h : vE L rows accs = 0) : GoodM L rows accs ∧ rows.length ≤ 64 := by
  unfold vE at h
  split at h
  · cases h
  rename_i h1
  split at h
  · cases h
  rename_i h2
  split at h
  · cases h
  rename_i h3
  split at h
  · rename_i h4
    refine ⟨⟨by omega, by omega, by omega, by omega, fun s hs => ?_, fun s c hs hc => ?_⟩, by omega⟩
    · have := h4 (rows[s]?.getD []) (by rw [List.getElem?_eq_getElem hs]; exact List.getElem_mem hs)
      omega
    · obtain ⟨g1, g2⟩ := h4 (rows[s]?.getD []) (by rw [List.getElem?_eq_getElem hs]; exact List.getElem_mem hs)
      have hc' : c < (rows[s]?.getD []).length := by omega
      have := allB_iff.1 g2 ((rows[s]?.getD [])[c]?.getD 0) (getD_mem _ _ hc')
      unfold mN
      omega
  · cases h
theorem vE_cases (L : Int) (rows : List (List Int)) (accs : List Bool) : vE L rows accs = 0 ∨ vE L rows accs = 1 ∨ vE L rows accs = 4 := by
  unfold vE
  split
  · simp
  split
  · simp
  split
  · simp
  split <;> simp
abbrev amachO (L : Int) (Na : Option Addr) (rn nc : Nat) (Aa : Option Addr) (an ac : Nat) : Obj := .cells #[.int .i64 L, .slice Na rn nc, .slice Aa an ac] 25
set_option maxRecDepth 100000 in
set_option maxHeartbeats 4000000 in
theorem mValidate_any (L : Int) (nc ac : Nat) (Na Aa : Option Addr) (rows : List (List Int)) (accs : List Bool) (w : World) (h : MachAt w Na rows Aa accs) :
    Calls Try.prog 23 #[machV L Na rows.length nc Aa accs.length ac] w fun e w' => w' = w.alloc (amachO L Na rows.length nc Aa accs.length ac) ∧ e = .returned (.int .i64 (vE L rows accs)) := by
  have hn := h.nlen
  have hal := h.alen
  have hA : Below w.heap.size w (w.alloc (amachO L Na rows.length nc Aa accs.length ac)) := (Below.refl _ _).alloc (Nat.le_refl _) _
  have HH := hid (h.below hA)
  have HV := hid (show vE L rows accs = if ¬ (1 ≤ L ∧ L ≤ 6) then 1 else if 64 < rows.length then 4 else if rows.length = 0 ∨ accs.length ≠ rows.length then 1 else if ∀ r ∈ rows, (r.length : Int) = L ∧ allB r rows.length = true then 0 else 1 from rfl)
  clear h hA
  unfold machV
  go_enter Try.func23, Try.ntmps23
  go_wp2_with fail
  refine (mIsLetters_any L _).mono ?_
  rintro e w1 ⟨rfl, rfl⟩
  by_cases h1 : (1 ≤ L ∧ L ≤ 6)
  · have hd : decide (1 ≤ L ∧ L ≤ 6) = true := by simpa using h1
    have HV := hid (HV.out.trans (if_neg (fun hh => hh h1)))
    rw [hd]
    clear hd
    by_cases h2 : 64 < rows.length
    · have HV := hid (HV.out.trans (if_pos h2))
      have h2' : (64 : Int) < (rows.length : Int) := by omega
      go_wp2
      go_ret
      exact ⟨rfl, by rw [HV.out]; rfl⟩
    · have HV := hid (HV.out.trans (if_neg h2))
      have h2' : ¬ (64 : Int) < (rows.length : Int) := by omega
      by_cases h3 : rows.length = 0
      · have HV := hid (HV.out.trans (if_pos (.inl h3)))
        have h3' : ((rows.length : Int) == 0) = true := by simp [h3]
        clear h3
        go_wp2
        go_ret
        exact ⟨rfl, by rw [HV.out]; rfl⟩
      · have h3' : ((rows.length : Int) == 0) = false := by rw [beq_eq_false_iff_ne]; omega
        by_cases h4 : accs.length = rows.length
        · have HV := hid (HV.out.trans (if_neg (by simp [h3, h4])))
          have h4' : ((accs.length : Int) != (rows.length : Int)) = false := by simp [h4]
          clear h4
          have c0 : (w.alloc (amachO L Na rows.length nc Aa accs.length ac)).cell? ⟨w.heap.size, 0, none⟩ = some (.int .i64 L) := by go_simp
          have c1 : (w.alloc (amachO L Na rows.length nc Aa accs.length ac)).cell? ⟨w.heap.size, 1, none⟩ = some (.slice Na rows.length nc) := by go_simp
          go_wp2
          go_loopw [29] (fun i wr => ∃ (k : Nat), k ≤ rows.length ∧ i = .int .i64 k ∧ Hid (∀ r ∈ rows.take k, (r.length : Int) = L ∧ allB r rows.length = true) ∧ Hid (wr = w.alloc (amachO L Na rows.length nc Aa accs.length ac)) ∧ wr.cell? ⟨w.heap.size, 0, none⟩ = some (.int .i64 L) ∧ wr.cell? ⟨w.heap.size, 1, none⟩ = some (.slice Na rows.length nc)) (fun i _ => rows.length - (intOf i).toNat)
          case atStart => exact ⟨0, Nat.zero_le _, rfl, (fun r hr => by simp at hr), rfl, c0, c1⟩
          case round =>
            clear c0 c1
            obtain ⟨k, hk, rfl, HT, HW, c0, c1⟩ := hrel
            by_cases hlt : k < rows.length
            · have HH2 := hid (show MachAt wr Na rows Aa accs by rw [HW.out]; exact HH.out)
              rcases HH2.out.nat_ with e | ⟨b, off, rfl, hc⟩
              · rw [e] at hlt; simp at hlt
              obtain ⟨A, cc, g1, g2⟩ := hc k hlt
              have hmem : rows[k]?.getD [] ∈ rows := by rw [List.getElem?_eq_getElem hlt]; exact List.getElem_mem hlt
              have HT2 := hid (fun (hq : ((rows[k]?.getD []).length : Int) = L ∧ allB (rows[k]?.getD []) rows.length = true) => (show ∀ r ∈ rows.take (k + 1), (r.length : Int) = L ∧ allB r rows.length = true from fun r hr => by
                rw [List.take_succ_eq_append_getElem hlt] at hr
                rcases List.mem_append.1 hr with hr | hr
                · exact HT.out r hr
                · rw [List.getElem?_eq_getElem hlt] at hq
                  simp at hr; subst hr; exact hq))
              have HBad := hid (fun (hq : ¬ (((rows[k]?.getD []).length : Int) = L ∧ allB (rows[k]?.getD []) rows.length = true)) => HV.out.trans (if_neg (fun hh => hq (hh _ hmem))))
              have hrl := g2.len
              clear hc hmem HT HH2
              generalize rows[k]?.getD [] = r at *
              have hk0 : (0 : Int) ≤ (k : Int) := by omega
              have hk1 : (k : Int) < (rows.length : Int) := by omega
              by_cases hq1 : (r.length : Int) = L
              · have hq1' : ((r.length : Int) != L) = false := by simp [hq1]
                have Hq1 := hid hq1
                clear hq1
                go_wp2_with fail
                refine (mAreBelow_any A r cc (rows.length : Int) wr g2).mono ?_
                rintro e w1 ⟨rfl, rfl⟩
                cases hb : allB r rows.length with
                | true =>
                  have HT3 := hid (HT2.out ⟨Hq1.out, hb⟩)
                  clear HT2 HBad hb Hq1
                  go_wp2
                  go_roundw
                  case rel => exact ⟨k + 1, by omega, by go_num, HT3.out, HW.out, c0, c1⟩
                  case measure => simp [intOf]; omega
                | false =>
                  have HT3 := hid (HBad.out (fun hh => by rw [hh.2] at hb; cases hb))
                  clear HT2 HBad hb Hq1
                  go_wp2
                  go_ret
                  exact ⟨HW.out, by rw [HT3.out]; rfl⟩
              · have hq1' : ((r.length : Int) != L) = true := by simp; exact hq1
                have HT3 := hid (HBad.out (fun hh => hq1 hh.1))
                clear HT2 HBad hq1
                go_wp2
                go_ret
                exact ⟨HW.out, by rw [HT3.out]; rfl⟩
            · obtain rfl : k = rows.length := by omega
              have hT := HT.out
              rw [List.take_length] at hT
              have HV9 := hid (HV.out.trans (if_pos hT))
              clear hT HT
              go_wp2
              go_ret
              exact ⟨HW.out, by rw [HV9.out]; rfl⟩
        · have HV := hid (HV.out.trans (if_pos (.inr h4)))
          have h4' : ((accs.length : Int) != (rows.length : Int)) = true := by simp; omega
          clear h4
          go_wp2
          go_ret
          exact ⟨rfl, by rw [HV.out]; rfl⟩
  · have hd : decide (1 ≤ L ∧ L ≤ 6) = false := by simpa using h1
    have HV := hid (HV.out.trans (if_pos h1))
    rw [hd]
    clear hd
    go_wp2
    go_ret
    exact ⟨rfl, by rw [HV.out]; rfl⟩
end Go.Proofs.Ytkboeldafppicaa
