/- What a rule's machine accepts, by what its states mean. -/
import Derived.Test.YtkboeldafppicaaCntP
import Derived.Test.YtkboeldafppicaaLgD
import Derived.Test.YtkboeldafppicaaMAcc
set_option linter.unusedVariables false
namespace Go.Proofs.Ytkboeldafppicaa
open Go.RowKit

theorem rl_out {okP : Prop} [Decidable okP] {w' : World} {B : Nat} {n : Int} {f : Lang} {e : Ending} (h : (okP ∧ PlainAns w' B n.toNat f e) ∨ (¬ okP ∧ e = .returned (.tuple #[machV 0 none 0 0 none 0 0, .int .i64 1]))) : ∃ M t bs v Na nc Aa ac, LgD (if okP then 0 else 1) n f M t bs v ∧ e = .returned (.tuple #[machV M Na t.length nc Aa bs.length ac, .int .i64 v]) ∧ MachFrom w' B Na t Aa bs := by
  refine lg_out ?_
  by_cases hk : okP
  · rw [if_pos hk]
    rcases h with ⟨_, h⟩ | ⟨h, _⟩
    · exact .inr ⟨rfl, h⟩
    · exact absurd hk h
  · rw [if_neg hk]
    rcases h with ⟨h, _⟩ | ⟨_, h⟩
    · exact absurd h hk
    · exact .inl ⟨by decide, h⟩
theorem runK_stK (rows : List (List Int)) (l : List Int) : ∀ k, runK rows 0 l k = stK (mN rows) 0 l k
  | 0 => rfl
  | k + 1 => by rw [runK, stK, runK_stK rows l k]; rfl
theorem ltr_nn {l : List Int} {n : Int} (h : allB l n = true) (i : Nat) : 0 ≤ ltr l i := by
  unfold ltr
  cases hi : l[i]? with
  | none => simp
  | some x => exact (allB_iff.1 h x (List.mem_of_getElem? hi)).1
theorem rl_acc {okP : Prop} [Decidable okP] {S : Type} {next : S → Nat → S} {acc : S → Bool} {s0 : S} {n : Int} {M : Int} {t : List (List Int)} {bs : List Bool} (hn : okP → 1 ≤ n ∧ n ≤ 6) (h : LgD (if okP then 0 else 1) n (langOf n.toNat next acc s0) M t bs 0) (l : List Int) :
    okP ∧ wordE M t bs l = lE l n ∧ (wordE M t bs l = 0 → accB M t bs l = acc (stK next s0 l l.length) ∧ ∀ i, 0 ≤ ltr l i) := by
  have hk : okP := by
    by_cases hk : okP
    · exact hk
    · rw [if_neg hk] at h
      rcases h with ⟨_, _, _, _, e⟩ | ⟨e, _⟩
      · cases e
      · cases e
  refine ⟨hk, ?_⟩
  rw [if_pos hk] at h
  have hn := hn hk
  obtain ⟨m, rfl⟩ : ∃ m : Nat, n = m := ⟨n.toNat, by omega⟩
  have hself : langOf m dv ep (langOf m next acc s0) = langOf m next acc s0 := lang_self s0
  rw [Int.toNat_natCast] at h
  have hh : M = m ∧ GoodM m t bs ∧ t.length ≤ 64 ∧ mLang m t bs 0 = langOf m next acc s0 := by
    rcases h with ⟨hv, _, _, _, e⟩ | ⟨hv, i, hF, hans⟩
    · exact absurd rfl hv
    · rcases hans with ⟨_, _, _, _, e⟩ | ⟨h64, hM, ht, hbs, _⟩
      · cases e
      · rw [Int.toNat_natCast] at hF hM ht hbs
        have hti : t.length = i := by rw [ht]; exact (listTo_len m dv ep _ i).1
        refine ⟨hM, by rw [ht, hbs]; exact (full_good (by omega) (by omega) (L := m) (next := dv) (acc := ep) (s0 := langOf m next acc s0) hF).1, by omega, ?_⟩
        rw [ht, hbs]
        have := (full_lang (by omega) (by omega) (L := m) (next := dv) (acc := ep) (s0 := langOf m next acc s0) hF).1
        unfold canon
        rw [this]
        exact hself
  obtain ⟨rfl, hg, h64, hl⟩ := hh
  have hv0 := good_vE hg h64
  have hw : wordE m t bs l = lE l m := by unfold wordE; rw [if_neg (fun hh => hh hv0)]
  refine ⟨hw, fun h0 => ?_⟩
  obtain ⟨_, _, hall, _⟩ := wordE_ok h0
  have hwd : Wd m (l.map Int.toNat) := by
    intro c hc
    obtain ⟨x, hx, rfl⟩ := List.mem_map.1 hc
    have := allB_iff.1 hall x hx
    omega
  have h1 := congrFun hl (l.map Int.toNat)
  unfold mLang at h1
  rw [langOf_in hwd, langOf_in hwd, stK_all, stK_all] at h1
  refine ⟨?_, ltr_nn hall⟩
  unfold accB
  rw [h0, runK_stK]
  simpa using h1
theorem ap_acc {n d M : Int} {t : List (List Int)} {bs : List Bool} (h : LgD (if apOk n d then 0 else 1) n (apL n.toNat d) M t bs 0) (l : List Int) : apOk n d ∧ wordE M t bs l = lE l n ∧ (wordE M t bs l = 0 → (accB M t bs l = true ↔ ¬ Near d l l.length)) := by
  obtain ⟨h1, h2, h3⟩ := rl_acc (fun hk => by unfold apOk at hk; omega) h l
  refine ⟨h1, h2, fun h0 => ?_⟩
  obtain ⟨h4, h5⟩ := h3 h0
  rw [h4]
  have hd : 0 ≤ d ∧ d ≤ 3 := by unfold apOk at h1; omega
  obtain ⟨k1, k2⟩ := ap_state apN d (fun s c => ⟨fun hh => if_pos hh, fun hh => if_neg hh⟩) hd l h5 l.length
  by_cases hq : Near d l l.length
  · rw [k1 hq]; simp [apK, hq]
  · rw [k2 hq]; simp [apK, hq]
theorem le_acc {n a b M : Int} {t : List (List Int)} {bs : List Bool} (h : LgD (if tmOk n a b then 0 else 1) n (leL n.toNat a b) M t bs 0) (l : List Int) : tmOk n a b ∧ wordE M t bs l = lE l n ∧ (wordE M t bs l = 0 → accB M t bs l = decide (b ≤ tms a l l.length)) := by
  obtain ⟨h1, h2, h3⟩ := rl_acc (fun hk => by unfold tmOk at hk; omega) h l
  refine ⟨h1, h2, fun h0 => ?_⟩
  obtain ⟨h4, h5⟩ := h3 h0
  rw [h4, ct_state a b (by unfold tmOk at h1; omega) l h5]
  unfold leK
  have := tms_nn a l l.length
  generalize tms a l l.length = x at *
  by_cases hq : b ≤ x
  · rw [decide_eq_true hq, decide_eq_true (by omega)]
  · rw [decide_eq_false hq, decide_eq_false (by omega)]
theorem mo_acc {n a b M : Int} {t : List (List Int)} {bs : List Bool} (h : LgD (if tmOk n a b then 0 else 1) n (moL n.toNat a b) M t bs 0) (l : List Int) : tmOk n a b ∧ wordE M t bs l = lE l n ∧ (wordE M t bs l = 0 → accB M t bs l = decide (tms a l l.length ≤ b)) := by
  obtain ⟨h1, h2, h3⟩ := rl_acc (fun hk => by unfold tmOk at hk; omega) h l
  refine ⟨h1, h2, fun h0 => ?_⟩
  obtain ⟨h4, h5⟩ := h3 h0
  rw [h4, ct_state a (b + 1) (by unfold tmOk at h1; omega) l h5]
  unfold moK
  have := tms_nn a l l.length
  generalize tms a l l.length = x at *
  by_cases hq : x ≤ b
  · rw [decide_eq_true hq, decide_eq_true (by omega)]
  · rw [decide_eq_false hq, decide_eq_false (by omega)]
theorem nv_acc {n a b M : Int} {t : List (List Int)} {bs : List Bool} (h : LgD (if nvOk n a b then 0 else 1) n (nvL n.toNat a b) M t bs 0) (l : List Int) : nvOk n a b ∧ wordE M t bs l = lE l n ∧ (wordE M t bs l = 0 → (accB M t bs l = true ↔ ¬ Brk a b l l.length)) := by
  obtain ⟨h1, h2, h3⟩ := rl_acc (fun hk => by unfold nvOk at hk; omega) h l
  refine ⟨h1, h2, fun h0 => ?_⟩
  obtain ⟨h4, h5⟩ := h3 h0
  rw [h4]
  obtain ⟨k1, k2⟩ := nv_state a b l h5 l.length
  by_cases hq : Brk a b l l.length
  · rw [k1 hq]; simp [nvK, hq]
  · rw [k2 hq]
    simp only [hq, not_false_eq_true, iff_true]
    unfold nvK
    split <;> decide
end Go.Proofs.Ytkboeldafppicaa
