/- The document's own closed, inside, base. -/
import Derived.Test.YtdgleicpcjfnoaaRBook
import Derived.Test.YtdgleicpcjfnoaaRBools
import Derived.Test.YtdgleicpcjfnoaaAppend
import Derived.Deep.AppendLies
import Derived.Deep.RegionHeld
set_option linter.unusedVariables false
namespace Go.Proofs.Ytdgleicpcjfnoaa
open Go.RowKit

def BoolsV (w : World) (n M : Nat) (en : Ending) (w' : World) : Prop := Below w.heap.size w w' ∧ ∃ A c, en = .returned (.slice A n c) ∧ BoolsAt w' A n M ∧ (∀ ad, A = some ad → w.heap.size ≤ ad.block)
theorem BoolsAt.setCell {w : World} {a : Option Addr} {n M : Nat} (h : BoolsAt w a n M) (p : Addr) (u : Value) (hp : ∀ ad, a = some ad → ad.block ≠ p.block) : BoolsAt (w.setCell p u) a n M := by
  refine ⟨h.len, ?_⟩
  rcases h.at_ with e | ⟨b, off, ha, hc⟩
  · exact .inl e
  · have := hp _ ha
    simp only at this
    exact .inr ⟨b, off, ha, fun i hi => by rw [World.cell?_setCell_far _ _ _ _ (fun e => this e.symm)]; exact hc i hi⟩
theorem BoolsAt.src {w : World} {a : Option Addr} {n M : Nat} (h : BoolsAt w a n M) : n = 0 ∨ ∃ ad, a = some ad ∧ ∀ j u, (bcells M n)[j]? = some u → w.cell? (ad.add j) = some u := by
  rcases h.at_ with e | ⟨b, off, rfl, hc⟩
  · exact .inl e
  · refine .inr ⟨_, rfl, fun j u hu => ?_⟩
    have hj : j < n := by have := (List.getElem?_eq_some_iff.1 hu).1; rw [bcells_len] at this; exact this
    rw [bcells_at M n j hj] at hu
    cases hu
    rw [Addr.add_lit, hc j hj]
theorem bcells_one (M n : Nat) : ∀ u ∈ bcells M n, u.oneCell' = true := by
  intro u hu
  obtain ⟨b, _, rfl⟩ := List.mem_map.1 hu
  rfl
theorem passed {rls : List RuleL} {M k : Nat} (h : ∀ j, j < k → fires M (rls[j]?.getD ([], 0)) = false) (hf : fires M (rls[k]?.getD ([], 0)) = false) : ∀ j, j < k + 1 → fires M (rls[j]?.getD ([], 0)) = false := by
  intro j hj
  by_cases e : j = k
  · subst e; exact hf
  · exact h j (by omega)

set_option maxRecDepth 100000 in
set_option maxHeartbeats 8000000 in
theorem closed_any (ra : Option Addr) (rls : List RuleL) (rc : Nat) (a : Option Addr) (n M c : Nat) (w : World) (hr : RulesAt w ra rls) (h : BoolsAt w a n M) (hn : n ≤ 10) (hM : M < 2 ^ n)
  (hok : ∀ r ∈ rls, Small n r.1 ∧ 0 ≤ r.2 ∧ r.2 < (n : Int)) :
  Calls Try.prog 59 #[.slice ra rls.length rc, .slice a n c] w (BoolsV w n (closL rls M)) := by
  have hM10 : M < 2 ^ 10 := Nat.lt_of_lt_of_le hM (Nat.pow_le_pow_right (by omega) hn)
  have hro : RulesOk rls := fun r hh => ⟨fun x hx => by have := (hok r hh).1 x hx; omega, (hok r hh).2.1, by have := (hok r hh).2.2; omega⟩
  have HRo := hid hro
  have HCl := hid (closL_spec rls hro M hM10)
  have HU := hid (fun C => closL_unique rls hro M C hM10)
  have HOk := hid (fun k (hk : k < rls.length) => hok _ (getRule_mem rls k hk))
  have hlr := hr.len
  have HR := hid hr
  have HS := hid h.src
  obtain ⟨i0, hi, hz0, hz1, hz2⟩ := info_parts bool_info
  have hEmp := World.ownsRow_lit (base := w.heap.size) (e := 4) (size := 1) w #[] 0 (Nat.le_refl _) (by decide) rfl
  have hsrc := (h.below ((Below.refl w.heap.size w).alloc (Nat.le_refl _) (.cells #[] 4))).src
  clear hr h hok hro
  go_enter Try.func59, Try.ntmps59
  go_wp2_with (at_builtin; (refine wpList_append_src rfl _ _ 89 rfl w.heap.size 4 i0 _ 1 1 Try.underlying89 hi hz0 hz1 hz2 rfl (by decide) _ 0 [] rfl hEmp _ _ _ (bcells M n) rfl (by rw [bcells_len, Nat.mul_one]) hsrc (bcells_one M n) (by unfold maxLen; omega) (by omega) (by simp) ?_))
  intro v' w1 hown hgrow
  have p1 := (((Below.refl w.heap.size w).alloc (Nat.le_refl _) (.cells #[] 4)).grown hgrow (by simp) (fun q hq => by simp [Value.ownBlock] at hq; omega))
  clear hgrow hEmp hsrc
  try simp only [Nat.zero_add, List.nil_append] at hown
  have hsu := hid (show Sub M M ∧ Sub M (closL rls M) from ⟨Sub.refl _, HCl.out.2.1⟩)
  go_wp2
  go_loopg [6] 21 (fun gk ag wr => ∃ (b : Bool) (M1 : Nat), ag = .bool b ∧ wr.ownsRow w.heap.size 4 1 v' n (bcells M1 n) ∧ M1 < 2 ^ 10 ∧ Hid (Sub M M1 ∧ Sub M1 (closL rls M)) ∧ Hid (b = false → Clo rls M1) ∧ Below w.heap.size w wr ∧ 2 * (10 - cntBits M1 10) + b.toNat ≤ gk)
  case atStart => exact ⟨true, M, rfl, hown, hM10, hsu, (fun h => by cases h), p1, by simp; omega⟩
  case round =>
    clear hown hsu p1 hM10
    obtain ⟨b, M1, rfl, hown, hM1, HSu, HC, hB, hgk⟩ := hrel
    have hc1 := cntBits_le M1 10
    cases b with
    | false =>
      have hMe := hid (HU.out M1 (HC.out rfl) HSu.out.1 HSu.out.2)
      obtain ⟨A, c', rfl, hA, hFr⟩ : ∃ A c', v' = .slice A n c' ∧ BoolsAt wr A n M1 ∧ (∀ ad, A = some ad → w.heap.size ≤ ad.block) := by
        rcases hown.2 with ⟨hv, h0⟩ | ⟨g, c', cur, hv, hg, _⟩
        · exact ⟨none, 0, by rw [hv, h0], ⟨by omega, .inl h0⟩, fun ad h => by cases h⟩
        · subst hv
          exact ⟨_, c', rfl, OwnB.at_ hown (by omega), fun ad h => by cases h; exact hg⟩
      have HFr := hid hFr
      clear hFr
      go_wp2
      go_ret
      exact ⟨hB, A, c', rfl, by rw [← hMe.out]; exact hA, HFr.out⟩
    | true =>
      simp only [Bool.toNat_true] at hgk
      obtain ⟨gk', rfl⟩ : ∃ f, gk = f + 1 := ⟨gk - 1, by omega⟩
      go_wp2
      obtain ⟨wo, rfl⟩ : ∃ wo : World, wo = wr := ⟨_, rfl⟩
      go_loopg [6, 7] rls.length (fun g2 ag i wr => ∃ (k : Nat) (b2 : Bool) (M2 : Nat), k + g2 = rls.length ∧ i = .int .i64 k ∧ ag = .bool b2 ∧ wr.ownsRow w.heap.size 4 1 v' n (bcells M2 n) ∧ M2 < 2 ^ 10 ∧ Hid (Sub M M2 ∧ Sub M2 (closL rls M)) ∧
        Hid (b2 = false → M2 = M1 ∧ ∀ j, j < k → fires M1 (rls[j]?.getD ([], 0)) = false) ∧ Hid (b2 = true → cntBits M1 10 < cntBits M2 10) ∧ Below w.heap.size w wr)
      case atStart => exact ⟨0, false, M1, by omega, rfl, rfl, hown, hM1, HSu, (fun _ => ⟨rfl, fun j hj => by omega⟩), (fun h => by cases h), hB⟩
      case round =>
        clear hown hB HSu HC
        obtain ⟨k, b2, M2, hk, rfl, rfl, hown, hM2, HSu, HF, HT, hB⟩ := hrel
        by_cases hlt : k < rls.length
        · rcases ((HR.out).below hB).at_ with e | ⟨b, off, rfl, hc⟩
          · rw [e] at hlt; simp at hlt
          obtain ⟨A, ca, c0, c1, hA, hbd⟩ := hc k hlt
          obtain ⟨hsm, hp0, hp1⟩ := HOk.out k hlt
          have hsm10 : ∀ x ∈ (rls[k]?.getD ([], 0)).1, 0 ≤ x ∧ x < 10 := fun x hx => by have := hsm x hx; omega
          have HFi := hid (fires_allM (r := rls[k]?.getD ([], 0)) hsm10 hM2)
          have HCk := hid (HCl.out.1 _ (getRule_mem rls k hlt))
          obtain ⟨g, c', hv2, hg, hlt2⟩ := hown.form (by omega)
          subst hv2
          have HPs := hid (fun (hff : fires M1 (rls[k]?.getD ([], 0)) = false) (hh : ∀ j, j < k → fires M1 (rls[j]?.getD ([], 0)) = false) => passed hh hff)
          have HM21 := hid (fun (h : b2 = false) => (HF.out h).1)
          clear hc hsm10
          generalize rls[k]?.getD ([], 0) = r at *
          obtain ⟨xs, p⟩ := r
          dsimp only at c0 c1 hA hbd hsm hp0 hp1 HFi HCk HPs
          obtain ⟨m, rfl⟩ := Int.eq_ofNat_of_zero_le hp0
          rw [Int.toNat_natCast] at HFi HCk
          have hmn : m < n := by omega
          have d0 : wr.cell? ⟨g, m, none⟩ = some (.bool (M2.testBit m)) := by rw [hown.cellAt _ (by omega), bcells_at M2 n m hmn]
          have f0 : wr.frozen? ⟨g, m, none⟩ = false := hown.frozenAt m
          have HAll := hid (all_any (some ⟨g, 0, none⟩) n M2 c' A xs ca wr (OwnB.at_ hown (by omega)) hA hsm (by omega))
          have hgl := hown.lt g rfl
          cases hb : M2.testBit m with
          | true =>
            have HNf := hid (show fires M2 (xs, (m : Int)) = false by rw [HFi.out, hb]; rfl)
            rw [hb] at d0
            clear hb hA HAll HFi HCk hsm
            go_wp2
            go_roundg (gk - 1)
            case rel =>
              refine ⟨k + 1, b2, M2, by omega, by go_num, rfl, hown, hM2, HSu, (fun h => ?_), HT, hB⟩
              obtain ⟨h1, h2⟩ := HF.out h
              exact ⟨h1, HPs.out (h1 ▸ HNf.out) h2⟩
            all_goals omega
          | false =>
            cases ha : allM M2 xs with
            | false =>
              have HNf := hid (show fires M2 (xs, (m : Int)) = false by rw [HFi.out, hb, ha]; rfl)
              rw [hb] at d0
              rw [ha] at HAll
              clear hb ha hA HFi HCk hsm
              go_wp2_with fail
              refine HAll.out.mono ?_
              rintro e w' ⟨rfl, rfl⟩
              go_wp2
              go_roundg (gk - 1)
              case rel =>
                refine ⟨k + 1, b2, M2, by omega, by go_num, rfl, hown, hM2, HSu, (fun h => ?_), HT, hB⟩
                obtain ⟨h1, h2⟩ := HF.out h
                exact ⟨h1, HPs.out (h1 ▸ HNf.out) h2⟩
              all_goals omega
            | true =>
              have hcw := cntBits_with M2 10 m hb
              rw [if_pos (by omega)] at hcw
              have HCw := hid hcw
              have HCp := hid (show (closL rls M).testBit m = true from HCk.out (fun x hx => HSu.out.2 _ ((allM_iff _ _).1 ha x hx)))
              rw [hb] at d0
              rw [ha] at HAll
              clear hb ha hA HFi HCk hsm hcw
              go_wp2_with fail
              refine HAll.out.mono ?_
              rintro e w' ⟨rfl, rfl⟩
              go_wp2
              go_roundg (gk - 1)
              case rel =>
                refine ⟨k + 1, true, M2 ||| 2 ^ m, by omega, by go_num, rfl, OwnB.set hown m, Nat.or_lt_two_pow hM2 (two_pow_lt (by omega)), ⟨HSu.out.1.trans (Sub.or_left _ _), HSu.out.2.add HCp.out⟩, (fun h => by cases h), (fun _ => ?_), hB.setCell (by simp; omega) _⟩
                have h1 := HCw.out
                cases b2 with
                | true => have := HT.out rfl; omega
                | false => have := HM21.out rfl; subst this; omega
              all_goals omega
        · have hcM2 := cntBits_le M2 10
          go_wp2
          go_roundg gk'
          case rel =>
            refine ⟨b2, M2, rfl, hown, hM2, HSu, (fun h => ?_), hB, ?_⟩
            · obtain ⟨h1, h2⟩ := HF.out h
              subst h1
              exact passTo_closed rls HRo.out M2 hM2 (fun j hj => h2 j (by omega))
            · cases b2 with
              | true => have := HT.out rfl; simp; omega
              | false => have := (HF.out rfl).1; subst this; simp; omega
          all_goals omega
end Go.Proofs.Ytdgleicpcjfnoaa
