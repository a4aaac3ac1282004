/- The direct ways are ways, and direct; both ways of reckoning agree; tours get no longer. Plain mathematics, and the document's IsDirect. -/
import Derived.Test.YtbffdpcogfmomaaVaRdw
import Derived.Test.YtbffdpcogfmomaaVaIsD
import Derived.Test.YtbffdpcogfmomaaVaSame
import Derived.Test.YtbffdpcogfmomaaVaLvM
set_option linter.unusedVariables false
namespace Go.Proofs.Ytbffdpcogfmomaa
open Go.RowKit

theorem fwM_sym {t : Tbl} (ht : Ways t) : ∀ k, k ≤ t.length → ∀ i j, i < t.length → j < t.length → fwM t k i j = fwM t k j i := by
  intro k
  induction k with
  | zero => intro _ i j hi hj; exact ht.sym i j hi hj
  | succ k ih =>
    intro hk i j hi hj
    rw [fwM_succ, fwM_succ, ih (by omega) i j hi hj, ih (by omega) i k hi (by omega), ih (by omega) k j (by omega) hj]
    omega
theorem dirT_ways {t : Tbl} (ht : Ways t) : Ways (dirT t) := by
  have hl := dirT_len t
  refine ⟨by rw [hl]; exact ht.pos, by rw [hl]; exact ht.len, fun i hi => ?_, fun i j hi hj => ?_, fun i j hi hj => ?_, fun i hi => ?_⟩
  · rw [hl] at hi ⊢; rw [dirT_row t i hi, dirRow_len]
  · rw [hl] at hi hj; rw [dirT_at t i j hi hj]; exact fwM_bd ht t.length (Nat.le_refl _) i j hi hj
  · rw [hl] at hi hj; rw [dirT_at t i j hi hj, dirT_at t j i hj hi]; exact fwM_sym ht t.length (Nat.le_refl _) i j hi hj
  · rw [hl] at hi; rw [dirT_at t i i hi hi]; exact fwM_diag ht t.length (Nat.le_refl _) i hi
theorem fwM_fix {d : Tbl} (h : ∀ i v j : Nat, i < d.length → v < d.length → j < d.length → tA d i j ≤ tA d i v + tA d v j) : ∀ k, k ≤ d.length → ∀ i j, i < d.length → j < d.length → fwM d k i j = tA d i j := by
  intro k
  induction k with
  | zero => intro _ i j _ _; rfl
  | succ k ih =>
    intro hk i j hi hj
    rw [fwM_succ, ih (by omega) i j hi hj, ih (by omega) i k hi (by omega), ih (by omega) k j (by omega) hj]
    have := h i k j hi (by omega) hj
    omega
theorem dirT_dir {t : Tbl} (ht : Ways t) : isDirV (dirT t) = true := by
  have hl := dirT_len t
  unfold isDirV
  rw [decide_eq_true ((ways_iff _).2 (dirT_ways ht)), Bool.true_and]
  refine (isDirB_iff _).2 (fun i j hi hj => fwM_fix (fun i v j hi hv hj => ?_) _ (Nat.le_refl _) i j hi hj)
  rw [hl] at hi hv hj
  rw [dirT_at t i j hi hj, dirT_at t i v hi hv, dirT_at t v j hv hj]
  exact fwM_tri ht t.length (Nat.le_refl _) v i j hv hi hj
theorem rd_dir {t : Tbl} (ht : Ways t) : rdT t t.length = dirT t := by
  refine eq_of_tR (by rw [rdT_len, dirT_len]) fun i hi => ?_
  rw [rdT_len] at hi
  rw [rdT_row t _ i hi, dirT_row t i hi]
  unfold dirRow
  refine List.map_congr_left fun j hj => ?_
  rw [List.mem_range] at hj
  exact rd_fw ht i j hi hj
theorem dir_same {t : Tbl} (ht : Ways t) : decide (dirT t = t) = isDirB t := by
  have hl := dirT_len t
  by_cases h : isDirB t = true
  · rw [h]
    refine decide_eq_true (eq_of_tR hl fun i hi => ?_)
    rw [hl] at hi
    rw [dirT_row t i hi]
    refine vAt_ext (by rw [dirRow_len, ht.rows i hi]) fun j hj => ?_
    rw [dirRow_len] at hj
    have h1 := (isDirB_iff t).1 h i j hi hj
    rw [tA_nat] at h1
    simp only [vAt, ← h1]
    simp [dirRow, List.getElem?_range hj]
  · have h' : isDirB t = false := by simpa using h
    rw [h']
    refine decide_eq_false (fun e => h ((isDirB_iff t).2 fun i j hi hj => ?_))
    rw [← dirT_at t i j hi hj, e]
theorem goT_mono {d t : Tbl} {n : Int} (h : ∀ i j : Int, 0 ≤ i ∧ i < n → 0 ≤ j ∧ j < n → tA d i j ≤ tA t i j) (hn : 0 < n) : ∀ (l : List Int) (x : Int), (0 ≤ x ∧ x < n) → (∀ z ∈ l, 0 ≤ z ∧ z < n) → goT d x l ≤ goT t x l := by
  intro l
  induction l with
  | nil => intro x hx _; exact h x 0 hx ⟨by omega, hn⟩
  | cons y l ih =>
    intro x hx hz
    have h1 := h x y hx (hz y (by simp))
    have h2 := ih y (hz y (by simp)) (fun z hz2 => hz z (by simp [hz2]))
    simp only [goT]
    omega
theorem dir_len {t : Tbl} (ht : Ways t) (o : List Int) : lenE (dirT t) o = lenE t o ∧ lenV8 (dirT t) o ≤ lenV8 t o := by
  have hl := dirT_len t
  have h1 := (ways_iff _).2 (dirT_ways ht)
  have h2 := (ways_iff _).2 ht
  have h3 : lenE (dirT t) o = lenE t o := by unfold lenE; rw [if_pos h1, if_pos h2, hl]
  refine ⟨h3, ?_⟩
  unfold lenV8
  rw [h3]
  by_cases h4 : lenE t o = 0
  · rw [if_pos h4, if_pos h4, tourL_go, tourL_go]
    obtain ⟨_, h5, _⟩ := lenE_ok h4
    have hp := ht.pos
    refine goT_mono (n := t.length) (fun i j hi hj => ?_) (by omega) o 0 (by omega) (fun z hz => by have := h5 z hz; omega)
    obtain ⟨a, rfl⟩ := Int.eq_ofNat_of_zero_le hi.1
    obtain ⟨b, rfl⟩ := Int.eq_ofNat_of_zero_le hj.1
    rw [dirT_at t a b (by omega) (by omega)]
    exact fwM_le t a b _
  · rw [if_neg h4, if_neg h4]; exact Int.le_refl _
set_option maxRecDepth 100000 in
set_option maxHeartbeats 4000000 in
theorem rIsDirect_any (a : Option Addr) (t : Tbl) (cap : Nat) (w : World) (h : TabAt w a t) : Calls Try.prog 39 #[.slice a t.length cap] w (IsDR t w) := by
  by_cases hv : vaV t = 0
  · have hws := (ways_iff t).1 hv
    have HD := hid ((rDirect_any a t cap w h).mono (fun en W (hp : RdrR t w en W) => (show Below w.heap.size w W ∧ ∃ B d, en = Ending.returned (.tuple #[.slice B t.length d, .int .i64 0]) ∧ TabAt W B (dirT t) from ⟨hp.1, by
      rcases hp.2 with ⟨hh, _⟩ | ⟨_, hh⟩
      · exact absurd hv hh
      · rw [rd_dir hws] at hh; exact hh⟩)))
    have HS := hid (fun (W : World) (hb : Below w.heap.size w W) (B : Option Addr) (d : Nat) (hT : TabAt W B (dirT t)) => by
      have := sameTabB_any B a (dirT t) t d cap W hT (h.below hb)
      rw [dirT_len, dir_same hws] at this
      exact this)
    have HI := hid (show isDirV t = isDirB t by unfold isDirV; rw [hv]; rfl)
    have HE := hid hv
    clear h hv hws
    generalize isDirB t = ib at *
    go_enter Try.func39, Try.ntmps39
    go_wp2_with fail
    refine HD.out.mono ?_
    rintro e w2 ⟨hb2, B, d, rfl, hT⟩
    have HB2 := hid hb2
    have HC := hid (HS.out w2 hb2 B d hT)
    clear hb2 hT
    go_wp2_with fail
    refine HC.out.mono ?_
    rintro e w3 ⟨⟨n9, hn9⟩, rfl⟩
    have HB3 := hid (show Below w.heap.size w w3 by rw [hn9]; exact below_drewN HB2.out n9)
    clear hn9
    go_wp2
    go_ret2
    exact ⟨HB3.out, by rw [HI.out, HE.out]; rfl⟩
  · have HD := hid ((rDirect_any a t cap w h).mono (fun en W (hp : RdrR t w en W) => (show Below w.heap.size w W ∧ en = Ending.returned (.tuple #[.slice none 0 0, .int .i64 (vaV t)]) from ⟨hp.1, by
      rcases hp.2 with ⟨_, hh⟩ | ⟨hh, _⟩
      · exact hh
      · exact absurd hh hv⟩)))
    have HE := hid (show isDirV t = false by unfold isDirV; rw [decide_eq_false hv]; rfl)
    obtain ⟨e0, he0⟩ : ∃ e0, vaV t = e0 := ⟨_, rfl⟩
    have H0 := hid he0
    rw [he0] at HD hv
    have hne : (e0 == 0) = false := by simp; exact hv
    have hnn : (e0 != 0) = true := by simp; exact hv
    clear h he0
    go_enter Try.func39, Try.ntmps39
    go_wp2_with fail
    refine HD.out.mono ?_
    rintro e w2 ⟨hb2, rfl⟩
    have HB2 := hid hb2
    clear hb2
    go_wp2
    go_ret2
    exact ⟨HB2.out, by rw [HE.out, H0.out]; rfl⟩
end Go.Proofs.Ytbffdpcogfmomaa
