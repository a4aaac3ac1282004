/- The law ShareProves: its walk. -/
import Derived.Test.YtnjaacmcdkiilaaShZ
import Derived.Test.YtnjaacmcdkiilaaShSmall
set_option linter.unusedVariables false
namespace Go.Proofs.Ytnjaacmcdkiilaa
open Go.RowKit

def noneB (ms : List Int) : Bool := ms.any (fun x => x == 0)
theorem noneB_take (ms : List Int) (k : Nat) (h : k < ms.length) : noneB (ms.take (k + 1)) = (noneB (ms.take k) || (ms[k]?.getD 0 == 0)) := by
  rw [List.take_succ_eq_append_getElem h, noneB, List.any_append, List.getElem?_eq_getElem h]; simp [noneB]
theorem noneB_iff {ms : List Int} : noneB ms = true ↔ ∃ k, k < ms.length ∧ at0 ms k = 0 := by
  unfold noneB
  rw [List.any_eq_true]
  constructor
  · rintro ⟨x, hx, h0⟩
    obtain ⟨k, hk, rfl⟩ := List.mem_iff_getElem.1 hx
    exact ⟨k, hk, by unfold at0; rw [List.getElem?_eq_getElem hk]; simpa using h0⟩
  · rintro ⟨k, hk, h0⟩
    exact ⟨at0 ms k, getD_mem ms k hk, by simp [h0]⟩
theorem top_zero {kind : Int} {os ms : List Int} (g1 : okO os = true) (g2 : okMs os ms = true) (g3 : okK kind = true) : (topC kind os ms).2.2 = 0 ↔ kind = 2 ∧ noneB ms = true := by
  have hl := (okMs_len g2).1
  have hb := (okMs_len g2).2
  have hm : topC kind os ms ∈ nextL kind os ms := lastMax_mem (by rw [nextL_len]; exact (okO_len g1).1)
  constructor
  · intro h
    obtain ⟨k, hk, e⟩ := nextL_mem hm
    rw [e] at h
    have bk : 0 ≤ at0 ms k ∧ at0 ms k ≤ 1000 := allIn_at hb k (by omega)
    simp only [nextC] at h
    unfold stepV at h
    rcases okK_cases g3 with rfl | rfl | rfl
    · simp at h; omega
    · simp at h; omega
    · simp at h
      exact ⟨rfl, noneB_iff.2 ⟨k, by omega, h⟩⟩
  · rintro ⟨rfl, hn⟩
    obtain ⟨k, hk, h0⟩ := noneB_iff.1 hn
    have hgn : ∀ c ∈ nextL 2 os ms, GoodC c := nextTo_good g1 g2 _ (Nat.le_refl _)
    have hmk := nextC_mem 2 os ms (k := k) (by omega)
    have hge := lastMax_ge hgn hmk
    have hgt := topC_good (kind := 2) g1 g2
    have hgk := nextC_good (kind := 2) g1 g2 (k := k) (by omega)
    by_cases h : (topC 2 os ms).2.2 = 0
    · exact h
    · have hs0 : (nextC 2 os ms k).2.2 = 0 := by simp [nextC, h0, stepV]
      have : sizeL (lastMax sizeL (nextL 2 os ms)) (nextC 2 os ms k) = -1 := szC_bot hs0 (by have := hgt.2.2.1; unfold topC at h this; omega) (by have := hgk.2.1.1; omega)
      omega
theorem hasDiv_eq {os ms : List Int} {kind : Int} (h : goodV os ms kind = true) : hasDiv os ms kind = (fairM os ms kind && (decide (kind ≠ 2) || !noneB ms)) := by
  obtain ⟨g1, g2, g3⟩ := goodV_ok h
  have := top_zero g1 g2 g3
  rw [hasDiv, h, Bool.true_and, Bool.and_comm]
  congr 1
  by_cases h2 : kind = 2
  · cases hn : noneB ms
    · have : (topC kind os ms).2.2 ≠ 0 := fun e => by have := (this.1 e).2; rw [hn] at this; cases this
      simp [this]
    · have h0 := this.2 ⟨h2, hn⟩
      rw [decide_eq_false (fun h => h h0), decide_eq_false (fun h => h h2)]; rfl
  · have : (topC kind os ms).2.2 ≠ 0 := fun e => h2 (this.1 e).1
    simp [this, h2]

set_option maxRecDepth 100000 in
set_option maxHeartbeats 8000000 in
theorem shareProves_walk (oa : Option Addr) (os : List Int) (oc : Nat) (ma : Option Addr) (ms : List Int) (mc : Nat) (K : Int) (w : World) (h1 : os.length ≤ 9223372036854775807) (h2 : ms.length ≤ 9223372036854775807) (hT : os.length ≤ 140737488355328 → Ints w oa os) (hU : ms.length ≤ 140737488355328 → Ints w ma ms) :
  Calls Try.prog 7 #[.slice oa os.length oc, .slice ma ms.length mc, .int .i64 K] w (BoolR w true) := by
  have HL := hid (fun w => long4_any oa os oc w h1)
  have HL2 := hid (fun w => long4_any ma ms mc w h2)
  cases hl : longI os with
  | true =>
    rw [hl] at HL
    clear hl hT hU
    go_enter Try.func7, Try.ntmps7
    go_wp2_with fail
    refine (HL.out _).mono ?_
    rintro e w' ⟨rfl, rfl⟩
    go_wp2_with fail
    refine (known4_any _).mono ?_
    rintro e w2 ⟨q2, rfl⟩
    go_wp2
    go_ret
    exact ⟨q2, rfl⟩
  | false =>
    rw [hl] at HL
    have hl60 : os.length ≤ 60 := by simpa [longI] using hl
    have ho := hT (by omega)
    clear hl hT
    cases hl2 : longI ms with
    | true =>
      rw [hl2] at HL2
      clear hl2 hU ho
      go_enter Try.func7, Try.ntmps7
      go_wp2_with fail
      refine (HL.out _).mono ?_
      rintro e w' ⟨rfl, rfl⟩
      go_wp2_with fail
      refine (HL2.out _).mono ?_
      rintro e w' ⟨rfl, rfl⟩
      go_wp2_with fail
      refine (known4_any _).mono ?_
      rintro e w2 ⟨q2, rfl⟩
      go_wp2
      go_ret
      exact ⟨q2, rfl⟩
    | false =>
      rw [hl2] at HL2
      have hm60 : ms.length ≤ 60 := by simpa [longI] using hl2
      have hm := hU (by omega)
      have HDi := hid (fun (w' : World) (hb : Below w.heap.size w w') => divisor_any oa ma os ms oc mc K w' (ho.below hb) (hm.below hb))
      have HF := hid (fun (w' : World) (hb : Below w.heap.size w w') => isFair_any oa ma os ms oc mc K w' (ho.below hb) (hm.below hb))
      have HM := hid hm
      have HE := hid (fun h => hasDiv_eq (os := os) (ms := ms) (kind := K) h)
      have HFe := hid (show fairL os ms K = (goodV os ms K && fairM os ms K) from rfl)
      clear hl2 hU ho hm
      generalize divsL os ms K = dv at *
      generalize hasDiv os ms K = hv at *
      generalize fairL os ms K = fl at *
      generalize fairM os ms K = fr at *
      generalize goodV os ms K = gd at *
      obtain ⟨d1, d2⟩ := dv
      unfold DivR at HDi
      dsimp only at HDi
      go_enter Try.func7, Try.ntmps7
      go_wp2_with fail
      refine (HL.out _).mono ?_
      rintro e w' ⟨rfl, rfl⟩
      go_wp2_with fail
      refine (HL2.out _).mono ?_
      rintro e w' ⟨rfl, rfl⟩
      go_wp2_with fail
      refine (HDi.out _ (Below.refl _ _)).mono ?_
      rintro e w1 ⟨p1, rfl⟩
      have p1' := p1.alloc p1.size (.cells #[.int .i64 d1, .int .i64 d2] 39)
      go_wp2_with fail
      refine (HF.out _ p1').mono ?_
      rintro e w2 ⟨z2, rfl⟩
      have p2 := p1'.trans (z2.mono p1'.size)
      clear z2 p1 p1' HDi HF
      rcases Bool.eq_false_or_eq_true gd with hg | hg
      · have hv1 := HE.out hg
        have hf1 := HFe.out
        rw [hg, Bool.true_and] at hf1
        subst hf1
        rw [hg, show err true = 0 from rfl]
        have HVe := hid hv1
        clear hv1 HE HFe hg
        go_wp2
        go_loop [12, 13] (fun n i => ∃ k : Nat, k ≤ ms.length ∧ i = .int .i64 (k : Int) ∧ n = .bool (noneB (ms.take k))) (fun _ i => ms.length - (intOf i).toNat)
        case atStart => exact ⟨0, Nat.zero_le _, rfl, rfl⟩
        case round =>
          obtain ⟨k, hk, rfl, rfl⟩ := hrel
          by_cases hlt : k < ms.length
          · rcases (HM.out.below p2).at_ with e | ⟨b, off, rfl, hc⟩
            · rw [e] at hlt; simp at hlt
            have c0 := hc k hlt
            have HT := hid (noneB_take ms k hlt)
            have hk1 : (k : Int) < (ms.length : Int) := by omega
            clear hc
            generalize ms[k]?.getD 0 = x at *
            generalize noneB (ms.take k) = nb at *
            cases nb
            · by_cases hx : x = 0
              · have HX := hid (show noneB (ms.take (k + 1)) = true by rw [HT.out]; simp [hx])
                subst hx
                go_wp2
                go_round
                case rel => exact ⟨k + 1, by omega, by go_num, by rw [HX.out]⟩
                case measure => simp [intOf]; omega
              · have HX := hid (show noneB (ms.take (k + 1)) = false by rw [HT.out]; simp [hx])
                have hx' : (x == 0) = false := by simp [hx]
                clear hx
                go_wp2
                go_round
                case rel => exact ⟨k + 1, by omega, by go_num, by rw [HX.out]⟩
                case measure => simp [intOf]; omega
            · have HX := hid (show noneB (ms.take (k + 1)) = true by rw [HT.out]; rfl)
              go_wp2
              go_round
              case rel => exact ⟨k + 1, by omega, by go_num, by rw [HX.out]⟩
              case measure => simp [intOf]; omega
          · obtain rfl : k = ms.length := by omega
            rw [List.take_length]
            generalize noneB ms = nb at *
            have hv1 := HVe.out
            clear HVe
            subst hv1
            by_cases hK : K = 2
            · subst hK
              cases fl <;> cases nb <;>
                (simp only [ne_eq, not_true_eq_false, decide_false, Bool.false_or, Bool.not_false, Bool.not_true, Bool.and_true, Bool.and_false]
                 go_wp2_with fail
                 refine (known4_any _).mono ?_
                 rintro e w6 ⟨q6, rfl⟩
                 go_wp2
                 go_ret
                 exact ⟨p2.trans (q6.mono p2.size), rfl⟩)
            · have hK' : (K != 2) = true := by simp [hK]
              rw [show decide (K ≠ 2) = true by simp [hK], Bool.true_or, Bool.and_true]
              clear hK
              cases fl <;>
                (go_wp2_with fail
                 refine (known4_any _).mono ?_
                 rintro e w6 ⟨q6, rfl⟩
                 go_wp2
                 go_ret
                 exact ⟨p2.trans (q6.mono p2.size), rfl⟩)
      · have hne : (err gd != 0) = true := by rw [hg]; rfl
        have hee : (err gd == err gd) = true := by simp
        generalize err gd = er at *
        clear hg HE HFe
        go_wp2_with fail
        refine (known4_any _).mono ?_
        rintro e w6 ⟨q6, rfl⟩
        go_wp2
        go_ret
        exact ⟨p2.trans (q6.mono p2.size), rfl⟩
end Go.Proofs.Ytnjaacmcdkiilaa
