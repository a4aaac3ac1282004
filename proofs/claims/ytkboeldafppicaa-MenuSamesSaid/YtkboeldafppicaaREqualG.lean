/- Equal of the document, for any two machines. -/
import Derived.Test.YtkboeldafppicaaREqual
set_option linter.unusedVariables false
set_option linter.unusedSimpArgs false
namespace Go.Proofs.Ytkboeldafppicaa
open Go.RowKit

theorem sameIntsM_q (a b : Option Addr) (l m : List Int) (ca cb : Nat) (w : World) (ha : Ints w a l) (hb : Ints w b m) (n : Nat) : Calls Try.prog 33 #[.slice a l.length ca, .slice b m.length cb] (w.drewN n) fun en w' => en = .returned (.bool (decide (l = m))) ∧ ∃ m, w' = w.drewN m := by
  refine (sameIntsM_any a b l m ca cb (w.drewN n) (ha.below (drewN_below w n)) (hb.below (drewN_below w n))).mono ?_
  rintro en w' ⟨⟨m, rfl⟩, rfl⟩
  exact ⟨rfl, n + m, World.drewN_drewN _ _ _⟩
theorem list_ext_get {α : Type} {l m : List α} (h : l.length = m.length) (hk : ∀ k, k < l.length → l[k]? = m[k]?) : l = m := by
  refine List.ext_getElem? fun i => ?_
  by_cases hi : i < l.length
  · exact hk i hi
  · rw [List.getElem?_eq_none (by omega), List.getElem?_eq_none (by omega)]
set_option maxRecDepth 100000 in
set_option maxHeartbeats 2000000 in
theorem rEqual_any (L L' : Int) (nc ac nc' ac' : Nat) (Na Aa Na' Aa' : Option Addr) (rows rows' : List (List Int)) (accs accs' : List Bool) (w : World) (h : MachAt w Na rows Aa accs) (h' : MachAt w Na' rows' Aa' accs') :
    Calls Try.prog 28 #[machV L Na rows.length nc Aa accs.length ac, machV L' Na' rows'.length nc' Aa' accs'.length ac'] w fun e w' => Below w.heap.size w w' ∧ e = .returned (.bool (decide (L = L' ∧ rows = rows' ∧ accs = accs'))) := by
  obtain ⟨R, hR0⟩ : ∃ R, R = decide (L = L' ∧ rows = rows' ∧ accs = accs') := ⟨_, rfl⟩
  rw [← hR0]
  have HR0 := hid hR0
  clear hR0
  have hB1 : Below w.heap.size w ((w.alloc (.cells #[.int .i64 L, .slice Na rows.length nc, .slice Aa accs.length ac] 25)).alloc (.cells #[.int .i64 L', .slice Na' rows'.length nc', .slice Aa' accs'.length ac'] 25)) := ((Below.refl _ _).alloc (Nat.le_refl _) _).alloc (by simp) _
  have HH := hid (h.below hB1)
  have HH' := hid (h'.below hB1)
  have hn := h.nlen
  have hal := h.alen
  have hn' := h'.nlen
  have hal' := h'.alen
  have HB1 := hid hB1
  clear h h' hB1
  unfold machV
  go_enter Try.func28, Try.ntmps28
  by_cases hL : L = L'
  · have hLne : (L != L') = false := by simp [hL]
    have HLe := hid hL
    clear hL
    by_cases hR : rows.length = rows'.length
    · have hRne : ((rows.length : Int) != (rows'.length : Int)) = false := by simp [hR]
      have HRe := hid hR
      clear hR
      by_cases hC : accs.length = accs'.length
      · have hCne : ((accs.length : Int) != (accs'.length : Int)) = false := by simp [hC]
        have HCe := hid hC
        clear hC
        have b1 : ((w.alloc (.cells #[.int .i64 L, .slice Na rows.length nc, .slice Aa accs.length ac] 25)).alloc (.cells #[.int .i64 L', .slice Na' rows'.length nc', .slice Aa' accs'.length ac'] 25)).cell? ⟨w.heap.size, 1, none⟩ = some (.slice Na rows.length nc) := by go_simp
        have b2 : ((w.alloc (.cells #[.int .i64 L, .slice Na rows.length nc, .slice Aa accs.length ac] 25)).alloc (.cells #[.int .i64 L', .slice Na' rows'.length nc', .slice Aa' accs'.length ac'] 25)).cell? ⟨w.heap.size, 2, none⟩ = some (.slice Aa accs.length ac) := by go_simp
        have d1 : ((w.alloc (.cells #[.int .i64 L, .slice Na rows.length nc, .slice Aa accs.length ac] 25)).alloc (.cells #[.int .i64 L', .slice Na' rows'.length nc', .slice Aa' accs'.length ac'] 25)).cell? ⟨w.heap.size + 1, 1, none⟩ = some (.slice Na' rows'.length nc') := by go_simp
        have d2 : ((w.alloc (.cells #[.int .i64 L, .slice Na rows.length nc, .slice Aa accs.length ac] 25)).alloc (.cells #[.int .i64 L', .slice Na' rows'.length nc', .slice Aa' accs'.length ac'] 25)).cell? ⟨w.heap.size + 1, 2, none⟩ = some (.slice Aa' accs'.length ac') := by go_simp
        have HBx := hid (And.intro b1 (And.intro b2 (And.intro d1 d2)))
        clear b1 b2 d1 d2
        go_wp2
        generalize (w.alloc (.cells #[.int .i64 L, .slice Na rows.length nc, .slice Aa accs.length ac] 25)).alloc (.cells #[.int .i64 L', .slice Na' rows'.length nc', .slice Aa' accs'.length ac'] 25) = wb at *
        go_loopw [5] (fun i wr => ∃ (k : Nat), k ≤ rows.length ∧ i = .int .i64 (k : Int) ∧ Hid (Below wb.heap.size wb wr) ∧ Hid (∀ j, j < k → rows[j]? = rows'[j]?)) (fun i _ => rows.length - (intOf i).toNat)
        case atStart => exact ⟨0, Nat.zero_le _, rfl, Below.refl _ _, fun j hj => by omega⟩
        case round =>
          obtain ⟨k, hk, rfl, HB, HE⟩ := hrel
          obtain ⟨b1, b2, d1, d2⟩ := HBx.out
          have e1 := (HB.out.cell (cell_lt b1)).trans b1
          have e2 := (HB.out.cell (cell_lt d1)).trans d1
          clear b1 b2 d1 d2
          by_cases hlt : k < rows.length
          · have hk0 : (0 : Int) ≤ (k : Int) := by omega
            have hk1 : (k : Int) < (rows.length : Int) := by omega
            have hlt' : k < rows'.length := by rw [← HRe.out]; exact hlt
            have hk1' : (k : Int) < (rows'.length : Int) := by omega
            rcases (HH.out.below HB.out).nat_ with e | ⟨b, o, hA, hc⟩
            · rw [e] at hlt; simp at hlt
            rcases (HH'.out.below HB.out).nat_ with e | ⟨b', o', hA', hc'⟩
            · rw [e] at hlt'; simp at hlt'
            obtain ⟨A, c, g1, g2⟩ := hc k hlt
            obtain ⟨A', c', g1', g2'⟩ := hc' k hlt'
            have Q1 := hid (sameIntsM_q A A' _ _ c c' wr g2 g2')
            have HX := hid (fun (e : rows[k]?.getD [] = rows'[k]?.getD []) => show ∀ j, j < k + 1 → rows[j]? = rows'[j]? from fun j hj => by
              by_cases e2 : j = k
              · rw [e2]
                rw [List.getElem?_eq_getElem hlt, List.getElem?_eq_getElem hlt'] at e ⊢
                exact congrArg some e
              · exact HE.out j (by omega))
            have HN := hid (fun (e : rows[k]?.getD [] ≠ rows'[k]?.getD []) => show R = false from HR0.out.trans (decide_eq_false (fun h => e (by rw [h.2.1]))))
            subst hA hA'
            clear hc hc' g2 g2' HE
            generalize rows[k]?.getD [] = r at *
            generalize rows'[k]?.getD [] = r' at *
            cases hq : decide (r = r') with
            | true =>
              have HX2 := hid (HX.out (of_decide_eq_true hq))
              rw [hq] at Q1
              clear hq HX HN
              go_wp2_with fail
              go_quiet ((go_at_call 33; with_reducible exact Q1.out _))
              go_wp2
              go_roundw
              case rel => exact ⟨k + 1, by omega, by go_num, HB.out.trans ((drewN_below _ _).mono HB.out.size), HX2⟩
              case measure => simp [intOf]; omega
            | false =>
              have HN2 := hid (HN.out (of_decide_eq_false hq))
              rw [hq] at Q1
              have HBz := hid (fun n => HB1.out.trans ((HB.out.trans ((drewN_below wr n).mono HB.out.size)).mono HB1.out.size))
              clear hq HX HN
              go_wp2_with fail
              go_quiet ((go_at_call 33; with_reducible exact Q1.out _))
              go_wp2
              go_ret
              exact ⟨HBz.out _, by rw [HN2.out]; rfl⟩
          · have hk1 : ¬ (k : Int) < (rows.length : Int) := by omega
            obtain rfl : k = rows.length := by omega
            have HRR := hid (list_ext_get HRe.out HE.out)
            clear HE
            go_wp2
            obtain ⟨wo, hwo⟩ : ∃ x, x = wr := ⟨_, rfl⟩
            subst hwo
            go_loopw [6] (fun i wr => ∃ (k : Nat), k ≤ accs.length ∧ i = .int .i64 (k : Int) ∧ Hid (Below wb.heap.size wb wr) ∧ Hid (∀ j, j < k → accs[j]? = accs'[j]?)) (fun i _ => accs.length - (intOf i).toNat)
            case atStart => exact ⟨0, Nat.zero_le _, rfl, HB.out, fun j hj => by omega⟩
            case round =>
              clear HB e1 e2 hk1 hk hlt
              obtain ⟨k2, hk, rfl, HB, HE⟩ := hrel
              obtain ⟨b1, b2, d1, d2⟩ := HBx.out
              have e1 := (HB.out.cell (cell_lt b2)).trans b2
              have e2 := (HB.out.cell (cell_lt d2)).trans d2
              clear b1 b2 d1 d2
              by_cases hlt : k2 < accs.length
              · have hk0 : (0 : Int) ≤ (k2 : Int) := by omega
                have hk1 : (k2 : Int) < (accs.length : Int) := by omega
                have hlt' : k2 < accs'.length := by rw [← HCe.out]; exact hlt
                have hk1' : (k2 : Int) < (accs'.length : Int) := by omega
                rcases (HH.out.below HB.out).aat with e | ⟨b, o, hA, hc⟩
                · rw [e] at hlt; simp at hlt
                rcases (HH'.out.below HB.out).aat with e | ⟨b', o', hA', hc'⟩
                · rw [e] at hlt'; simp at hlt'
                have g1 := hc k2 hlt
                have g1' := hc' k2 hlt'
                have HX := hid (fun (e : accs[k2]?.getD false = accs'[k2]?.getD false) => show ∀ j, j < k2 + 1 → accs[j]? = accs'[j]? from fun j hj => by
                  by_cases e2 : j = k2
                  · rw [e2]
                    rw [List.getElem?_eq_getElem hlt, List.getElem?_eq_getElem hlt'] at e ⊢
                    exact congrArg some e
                  · exact HE.out j (by omega))
                have HN := hid (fun (e : accs[k2]?.getD false ≠ accs'[k2]?.getD false) => show R = false from HR0.out.trans (decide_eq_false (fun h => e (by rw [h.2.2]))))
                subst hA hA'
                clear hc hc' HE
                generalize accs[k2]?.getD false = x at *
                generalize accs'[k2]?.getD false = y at *
                cases hq : (x != y) with
                | false =>
                  have HX2 := hid (HX.out (by simpa using hq))
                  have hq2 : (!(x == y)) = false := hq
                  clear HX HN
                  go_wp2_with fail
                  go_quiet (fail)
                  go_wp2
                  go_roundw
                  case rel => exact ⟨k2 + 1, by omega, by go_num, HB.out.trans ((drewN_below _ _).mono HB.out.size), HX2⟩
                  case measure => simp [intOf]; omega
                | true =>
                  have HN2 := hid (HN.out (by simpa using hq))
                  have hq2 : (!(x == y)) = true := hq
                  have HBz := hid (fun n => HB1.out.trans ((HB.out.trans ((drewN_below wr n).mono HB.out.size)).mono HB1.out.size))
                  clear HX HN
                  go_wp2_with fail
                  go_quiet (fail)
                  go_wp2
                  go_ret
                  exact ⟨HBz.out _, by rw [HN2.out]; rfl⟩
              · have hk1 : ¬ (k2 : Int) < (accs.length : Int) := by omega
                have HF := hid (show R = true from HR0.out.trans (decide_eq_true ⟨HLe.out, HRR.out, list_ext_get HCe.out (fun j hj => HE.out j (by omega))⟩))
                have HBz := hid (HB1.out.trans (HB.out.mono HB1.out.size))
                clear HE
                go_wp2
                go_ret
                exact ⟨HBz.out, by rw [HF.out]; rfl⟩
      · have hCne : ((accs.length : Int) != (accs'.length : Int)) = true := by simp; omega
        have HF := hid (show R = false from HR0.out.trans (decide_eq_false (fun h => hC (by rw [h.2.2]))))
        clear hC
        go_wp2
        go_ret
        exact ⟨HB1.out, by rw [HF.out]; rfl⟩
    · have hRne : ((rows.length : Int) != (rows'.length : Int)) = true := by simp; omega
      have HF := hid (show R = false from HR0.out.trans (decide_eq_false (fun h => hR (by rw [h.2.1]))))
      clear hR
      go_wp2
      go_ret
      exact ⟨HB1.out, by rw [HF.out]; rfl⟩
  · have hLne : (L != L') = true := by simp; exact hL
    have HF := hid (show R = false from HR0.out.trans (decide_eq_false (fun h => hL h.1)))
    clear hL
    go_wp2
    go_ret
    exact ⟨HB1.out, by rw [HF.out]; rfl⟩
end Go.Proofs.Ytkboeldafppicaa
