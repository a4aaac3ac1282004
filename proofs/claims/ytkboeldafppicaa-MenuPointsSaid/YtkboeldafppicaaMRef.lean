/- The document's tests of machines and words; Accepts: chapter 3. -/
import Derived.Test.YtkboeldafppicaaMAcc
set_option linter.unusedVariables false
set_option linter.unusedSimpArgs false
namespace Go.Proofs.Ytkboeldafppicaa
open Go.RowKit

theorem rWithin_any (n lo hi : Int) (w : World) : Calls Try.prog 70 #[.int .i64 n, .int .i64 lo, .int .i64 hi] w fun e w' => w' = w ∧ e = .returned (.bool (decide (lo ≤ n ∧ n ≤ hi))) := by
  by_cases h1 : lo ≤ n
  · by_cases h2 : n ≤ hi
    · go_enter Try.func70, Try.ntmps70
      go_wp2
      go_ret
      exact ⟨rfl, ret_bool (by simp [h1, h2])⟩
    · go_enter Try.func70, Try.ntmps70
      go_wp2
      go_ret
      exact ⟨rfl, ret_bool (by simp [h1, h2])⟩
  · go_enter Try.func70, Try.ntmps70
    go_wp2
    go_ret
    exact ⟨rfl, ret_bool (by simp; omega)⟩
set_option maxRecDepth 100000 in
set_option maxHeartbeats 1000000 in
theorem rLetters_any (A : Option Addr) (l : List Int) (cap : Nat) (n : Int) (w : World) (h : Ints w A l) (hn : -100 ≤ n ∧ n ≤ 100) : Calls Try.prog 119 #[.slice A l.length cap, .int .i64 n] w fun e w' => w' = w ∧ e = .returned (.int .i64 (lE l n)) := by
  have hl := h.len
  have HL := hid (show lE l n = if 20 < l.length then 4 else if allB l n = true then 0 else 1 from rfl)
  by_cases h1 : 20 < l.length
  · have HL := hid (HL.out.trans (if_pos h1))
    have h1' : (20 : Int) < (l.length : Int) := by omega
    clear h
    go_enter Try.func119, Try.ntmps119
    go_wp2
    go_ret
    exact ⟨rfl, by rw [HL.out]; rfl⟩
  · have HL := hid (HL.out.trans (if_neg h1))
    have h1' : ¬ (20 : Int) < (l.length : Int) := by omega
    have HH := hid h
    clear h h1
    go_enter Try.func119, Try.ntmps119
    go_wp2
    go_loopw [5] (fun i wr => ∃ (k : Nat), k ≤ l.length ∧ i = .int .i64 k ∧ Hid (allB (l.take k) n = true) ∧ Hid (wr = w)) (fun i _ => l.length - (intOf i).toNat)
    case atStart => exact ⟨0, Nat.zero_le _, rfl, rfl, rfl⟩
    case round =>
      obtain ⟨k, hk, rfl, HT, HW⟩ := hrel
      by_cases hlt : k < l.length
      · rcases HH.out.at_ with e | ⟨b, off, rfl, hc⟩
        · rw [e] at hlt; simp at hlt
        have c0 := hc k hlt
        rw [← HW.out] at c0
        have hT := hid (fun hx => allB_take HT.out hlt hx)
        have hBd := hid (fun hx => allB_bad (n := n) hlt hx)
        clear hc HT
        generalize l[k]?.getD 0 = x at *
        by_cases hx : 0 ≤ x ∧ x < n
        · have HT2 := hid (hT.out hx)
          have hd : decide ((0 : Int) ≤ x ∧ x ≤ n - 1) = true := by simp; omega
          clear hT hBd
          go_wp2_with fail
          refine (rWithin_any x 0 (n - 1) _).mono ?_
          rintro e w1 ⟨rfl, rfl⟩
          rw [hd]
          clear hd hx
          go_wp2
          go_roundw
          case rel => exact ⟨k + 1, by omega, by go_num, HT2.out, HW.out⟩
          case measure => simp [intOf]; omega
        · have HB := hid (hBd.out hx)
          have hd : decide ((0 : Int) ≤ x ∧ x ≤ n - 1) = false := by simp; omega
          clear hT hBd
          go_wp2_with fail
          refine (rWithin_any x 0 (n - 1) _).mono ?_
          rintro e w1 ⟨rfl, rfl⟩
          rw [hd]
          clear hd hx
          go_wp2
          go_ret
          exact ⟨HW.out, by rw [HL.out, HB.out]; rfl⟩
      · obtain rfl : k = l.length := by omega
        have hT := HT.out
        rw [List.take_length] at hT
        have HT := hid hT
        clear hT
        go_wp2
        go_ret
        exact ⟨HW.out, by rw [HL.out, HT.out]; rfl⟩
set_option maxRecDepth 100000 in
set_option maxHeartbeats 8000000 in
theorem rValidate_any (L : Int) (nc ac : Nat) (Na Aa : Option Addr) (rows : List (List Int)) (accs : List Bool) (w : World) (h : MachAt w Na rows Aa accs) :
    Calls Try.prog 24 #[machV L Na rows.length nc Aa accs.length ac] w fun e w' => Below w.heap.size w w' ∧ e = .returned (.int .i64 (vE L rows accs)) := by
  have hn := h.nlen
  have hal := h.alen
  have hA : Below w.heap.size w (w.alloc (amachO L Na rows.length nc Aa accs.length ac)) := (Below.refl _ _).alloc (Nat.le_refl _) _
  have HA := hid hA
  have HH := hid h
  have HV := hid (show vE L rows accs = if ¬ (1 ≤ L ∧ L ≤ 6) then 1 else if 64 < rows.length then 4 else if rows.length = 0 ∨ accs.length ≠ rows.length then 1 else if ∀ r ∈ rows, (r.length : Int) = L ∧ allB r rows.length = true then 0 else 1 from rfl)
  clear h hA
  unfold machV
  go_enter Try.func24, Try.ntmps24
  go_wp2_with fail
  refine (rWithin_any L 1 6 _).mono ?_
  rintro e w1 ⟨rfl, rfl⟩
  by_cases h1 : (1 ≤ L ∧ L ≤ 6)
  · have hd : decide (1 ≤ L ∧ L ≤ 6) = true := by simpa using h1
    have HV := hid (HV.out.trans (if_neg (fun hh => hh h1)))
    rw [hd]
    clear hd
    by_cases h2 : 64 < rows.length
    · have HV := hid (HV.out.trans (if_pos h2))
      have h2' : (64 : Int) < (rows.length : Int) := by omega
      go_wp2
      go_ret
      exact ⟨HA.out, by rw [HV.out]; rfl⟩
    · have HV := hid (HV.out.trans (if_neg h2))
      have h2' : ¬ (64 : Int) < (rows.length : Int) := by omega
      by_cases h3 : rows.length = 0
      · have HV := hid (HV.out.trans (if_pos (.inl h3)))
        have h3' : ((rows.length : Int) == 0) = true := by simp [h3]
        clear h3
        go_wp2
        go_ret
        exact ⟨HA.out, by rw [HV.out]; rfl⟩
      · have h3' : ((rows.length : Int) == 0) = false := by rw [beq_eq_false_iff_ne]; omega
        by_cases h4 : accs.length = rows.length
        · have HV := hid (HV.out.trans (if_neg (by simp [h3, h4])))
          have h4' : ((accs.length : Int) != (rows.length : Int)) = false := by simp [h4]
          clear h4
          have c0 : (w.alloc (amachO L Na rows.length nc Aa accs.length ac)).cell? ⟨w.heap.size, 0, none⟩ = some (.int .i64 L) := by go_simp
          have c1 : (w.alloc (amachO L Na rows.length nc Aa accs.length ac)).cell? ⟨w.heap.size, 1, none⟩ = some (.slice Na rows.length nc) := by go_simp
          have C0 := hid c0
          have C1 := hid c1
          obtain ⟨n, hnn⟩ : ∃ n : Nat, L = n := ⟨L.toNat, by omega⟩
          clear c0 c1
          subst hnn
          go_wp2
          go_loopw [3] (fun i wr => ∃ (k : Nat), k ≤ rows.length ∧ i = .int .i64 k ∧ Hid (∀ r ∈ rows.take k, (r.length : Int) = (n : Int) ∧ allB r rows.length = true) ∧ Hid (Below (w.alloc (amachO n Na rows.length nc Aa accs.length ac)).heap.size (w.alloc (amachO n Na rows.length nc Aa accs.length ac)) wr)) (fun i _ => rows.length - (intOf i).toNat)
          case atStart => exact ⟨0, Nat.zero_le _, rfl, (fun r hr => by simp at hr), Below.refl _ _⟩
          case round =>
            obtain ⟨k, hk, rfl, HT, HB⟩ := hrel
            have c0 := (HB.out.cell (cell_lt C0.out)).trans C0.out
            have c1 := (HB.out.cell (cell_lt C1.out)).trans C1.out
            by_cases hlt : k < rows.length
            · have HH2 := hid ((HH.out.below HA.out).below HB.out)
              rcases HH2.out.nat_ with e | ⟨b, off, rfl, hc⟩
              · rw [e] at hlt; simp at hlt
              obtain ⟨A, cc, g1, g2⟩ := hc k hlt
              have hmem : rows[k]?.getD [] ∈ rows := by rw [List.getElem?_eq_getElem hlt]; exact List.getElem_mem hlt
              have HT2 := hid (fun (hq : ((rows[k]?.getD []).length : Int) = (n : Int) ∧ allB (rows[k]?.getD []) rows.length = true) => (show ∀ r ∈ rows.take (k + 1), (r.length : Int) = (n : Int) ∧ allB r rows.length = true from fun r hr => by
                rw [List.take_succ_eq_append_getElem hlt] at hr
                rcases List.mem_append.1 hr with hr | hr
                · exact HT.out r hr
                · rw [List.getElem?_eq_getElem hlt] at hq
                  simp at hr; subst hr; exact hq))
              have HBad := hid (fun (hq : ¬ (((rows[k]?.getD []).length : Int) = (n : Int) ∧ allB (rows[k]?.getD []) rows.length = true)) => HV.out.trans (if_neg (fun hh => hq (hh _ hmem))))
              have hrl := g2.len
              clear hc hmem HT HH2
              generalize rows[k]?.getD [] = r at *
              have hk0 : (0 : Int) ≤ (k : Int) := by omega
              have hk1 : (k : Int) < (rows.length : Int) := by omega
              by_cases hq1 : (r.length : Int) = (n : Int)
              · have hq1' : ((r.length : Int) != (n : Int)) = false := by simp only [hq1, bne_self_eq_false]
                have Hq1 := hid hq1
                clear hq1
                go_wp2_with fail
                go_quiet (fail)
                have HBo := hid (below_drewN HB.out nq)
                have d0 : (wr.drewN nq).cell? ⟨w.heap.size, 0, none⟩ = some (.int .i64 (n : Int)) := c0
                have d1 : (wr.drewN nq).cell? ⟨w.heap.size, 1, none⟩ = some (.slice (some ⟨b, off, none⟩) rows.length nc) := c1
                have d2 : (wr.drewN nq).cell? ⟨b, off + k, none⟩ = some (.slice A r.length cc) := g1
                have HI := hid (g2.below (below_drewN (Below.refl _ _) nq))
                clear c0 c1 g1 g2 HB
                go_wp2
                generalize wr.drewN nq = wo at *
                go_loopw [4] (fun i wr => ∃ (j : Nat), j ≤ r.length ∧ i = .int .i64 j ∧ Hid (allB (r.take j) rows.length = true) ∧ Hid (Below wo.heap.size wo wr)) (fun i _ => r.length - (intOf i).toNat)
                case atStart => exact ⟨0, Nat.zero_le _, rfl, rfl, Below.refl _ _⟩
                case round =>
                  obtain ⟨j, hj, rfl, HJ, HBr⟩ := hrel
                  have e0 := (HBr.out.cell (cell_lt d0)).trans d0
                  have e1 := (HBr.out.cell (cell_lt d1)).trans d1
                  have e2 := (HBr.out.cell (cell_lt d2)).trans d2
                  by_cases hlt2 : j < r.length
                  · have hjn : (j : Int) < (n : Int) := by have := Hq1.out; omega
                    rcases HI.out.at_ with e | ⟨b2, o2, rfl, hc2⟩
                    · rw [e] at hlt2; simp at hlt2
                    have x0 := hc2 j hlt2
                    have x1 := (HBr.out.cell (cell_lt x0)).trans x0
                    have hT := hid (fun hx => allB_take HJ.out hlt2 hx)
                    have hBd := hid (fun hx => allB_bad (n := (rows.length : Int)) hlt2 hx)
                    clear hc2 HJ x0
                    generalize r[j]?.getD 0 = x at *
                    have hw1 : wrap64 ((rows.length : Int) - 1) = (rows.length : Int) - 1 := by unfold wrap64; omega
                    have hw2 : IntKind.i64.wrap ((rows.length : Int) - 1) = (rows.length : Int) - 1 := by rw [IntKind.wrap_i64]; omega
                    have hji : (j : Int) < (r.length : Int) := by omega
                    by_cases hx : 0 ≤ x ∧ x < (rows.length : Int)
                    · have HT2x := hid (hT.out hx)
                      have hd : decide ((0 : Int) ≤ x ∧ x ≤ (rows.length : Int) - 1) = true := by simp; omega
                      have HZ := hid (fun wx => by have := rWithin_any x 0 ((rows.length : Int) - 1) wx; rw [hd] at this; exact this)
                      clear hT hBd hd hx
                      go_wp2_with fail
                      go_quiet ((go_at_call 70; exact Calls.quiet_of_same ((HZ.out _).mono fun _ _ h => ⟨h.2, h.1⟩)))
                      go_wp2
                      go_roundw
                      case rel => exact ⟨j + 1, by omega, by go_num, HT2x.out, below_drewN HBr.out _⟩
                      case measure => simp [intOf]; omega
                    · have HBx := hid (hBd.out hx)
                      have hd : decide ((0 : Int) ≤ x ∧ x ≤ (rows.length : Int) - 1) = false := by simp; omega
                      have HZ := hid (fun wx => by have := rWithin_any x 0 ((rows.length : Int) - 1) wx; rw [hd] at this; exact this)
                      have HT3 := hid (HBad.out (fun hh => by have h9 := hh.2; rw [HBx.out] at h9; cases h9))
                      have HBz := hid (HA.out.trans ((HBo.out.trans (HBr.out.mono HBo.out.size)).mono HA.out.size))
                      clear hT hBd hd hx
                      go_wp2_with fail
                      go_quiet ((go_at_call 70; exact Calls.quiet_of_same ((HZ.out _).mono fun _ _ h => ⟨h.2, h.1⟩)))
                      go_wp2
                      go_ret
                      exact ⟨below_drewN HBz.out _, by rw [HT3.out]; rfl⟩
                  · obtain rfl : j = r.length := by omega
                    have hjn : ¬ (r.length : Int) < (n : Int) := by have := Hq1.out; omega
                    have hT := HJ.out
                    rw [List.take_length] at hT
                    have HT3 := hid (HT2.out ⟨Hq1.out, hT⟩)
                    have HBz := hid (HBo.out.trans (HBr.out.mono HBo.out.size))
                    clear hT HJ
                    go_wp2
                    go_roundw
                    case rel => exact ⟨k + 1, by omega, by go_num, HT3.out, HBz.out⟩
                    case measure => simp [intOf]; omega
              · have hq1' : ((r.length : Int) != (n : Int)) = true := by simpa using hq1
                have HT3 := hid (HBad.out (fun hh => hq1 hh.1))
                have HBz := hid (HA.out.trans (HB.out.mono HA.out.size))
                clear HT2 HBad hq1
                go_wp2_with fail
                go_quiet (fail)
                go_wp2
                go_ret
                exact ⟨below_drewN HBz.out _, by rw [HT3.out]; rfl⟩
            · obtain rfl : k = rows.length := by omega
              have hT := HT.out
              rw [List.take_length] at hT
              have HV9 := hid (HV.out.trans (if_pos hT))
              have HBz := hid (HA.out.trans (HB.out.mono HA.out.size))
              clear hT HT
              go_wp2
              go_ret
              exact ⟨HBz.out, by rw [HV9.out]; rfl⟩
        · have HV := hid (HV.out.trans (if_pos (.inr h4)))
          have h4' : ((accs.length : Int) != (rows.length : Int)) = true := by simp; omega
          clear h4
          go_wp2
          go_ret
          exact ⟨HA.out, by rw [HV.out]; rfl⟩
  · have hd : decide (1 ≤ L ∧ L ≤ 6) = false := by simpa using h1
    have HV := hid (HV.out.trans (if_pos h1))
    rw [hd]
    clear hd
    go_wp2
    go_ret
    exact ⟨HA.out, by rw [HV.out]; rfl⟩
end Go.Proofs.Ytkboeldafppicaa
