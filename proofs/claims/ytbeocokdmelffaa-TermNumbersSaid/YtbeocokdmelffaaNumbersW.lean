/- The law TermNumbers: its walk. -/
import Derived.Test.YtbeocokdmelffaaLong
import Derived.Test.YtbeocokdmelffaaRefNth
import Derived.Test.YtbeocokdmelffaaCounts
import Derived.Test.YtbeocokdmelffaaKnown
set_option linter.unusedVariables false
namespace Go.Proofs.Ytbeocokdmelffaa
open Go.RowKit

/-- The days before the day number n are n, and it is a school day. -/
theorem nth_facts (L : Int) (rs cs : List Int) (n : Int) (h : (nthL L rs cs n).2 = 0) :
    countL L rs cs 0 (nthL L rs cs n).1 = (n, 0) ∧ ropenL L rs cs (nthL L rs cs n).1 = (true, 0) := by
  unfold nthL at h ⊢
  split at h
  · rename_i h1; exact absurd h h1
  · rename_i h1
    rw [if_neg h1]
    have hv : validT L rs cs = 0 := by simpa using h1
    have hok := validT_ok hv
    obtain ⟨N, rfl⟩ : ∃ n : Nat, L = n := ⟨L.toNat, by omega⟩
    simp only [Int.toNat_natCast] at *
    unfold nthLR at h ⊢
    cases hn : nthAt (sdl (wd rs cs N)) n with
    | none => rw [hn] at h; simp [optR] at h
    | some x =>
      simp only [optR]
      unfold nthAt at hn
      split at hn
      · cases hn
      rename_i h0
      obtain ⟨i, rfl⟩ : ∃ i : Nat, n = i := ⟨n.toNat, by omega⟩
      rw [Int.toNat_natCast] at hn
      have key : ∀ (M i : Nat) (x : Int), (sdl (wd rs cs M))[i]? = some x → 0 ≤ x ∧ x < M ∧ openB rs cs x = true ∧ cnt (sdl (wd rs cs M)) 0 x = i := by
        intro M
        induction M with
        | zero => intro i x hx; simp [wd, sdl] at hx
        | succ M ih =>
          intro i x hx
          rw [sd_succ] at hx ⊢
          by_cases hi : i < (sdl (wd rs cs M)).length
          · rw [List.getElem?_append_left hi] at hx
            obtain ⟨a, b, c, e⟩ := ih i x hx
            refine ⟨a, by omega, c, ?_⟩
            split
            · rw [cnt_snoc, e, if_neg (by omega)]; simp
            · simpa using e
          · rw [List.getElem?_append_right (by omega)] at hx
            cases ho : openB rs cs (M : Int) with
            | false => rw [ho] at hx; simp at hx
            | true =>
              rw [ho] at hx
              have hi2 : i = (sdl (wd rs cs M)).length := by
                rcases Nat.lt_or_ge (i - (sdl (wd rs cs M)).length) 1 with q | q
                · omega
                · rw [List.getElem?_eq_none (by simpa using q)] at hx; cases hx
              rw [hi2] at hx
              simp at hx
              subst hx
              refine ⟨by omega, by omega, ho, ?_⟩
              simp only [if_true]
              rw [cnt_snoc, if_neg (by omega)]
              have : cnt (sdl (wd rs cs M)) 0 (M : Int) = ((sdl (wd rs cs M)).length : Int) := by
                unfold cnt
                rw [List.filter_eq_self.2]
                intro y hy
                have := (mem_sd rs cs M y).1 hy
                simp; omega
              rw [this, hi2]; simp
      obtain ⟨a, b, c, e⟩ := key N i x hn
      constructor
      · rw [countL, if_neg h1, if_neg (by omega), Int.toNat_natCast, e]
      · have hh : ¬ (x < 0 ∨ (N : Int) ≤ x) := by omega
        have hC : checkD (N : Int) rs cs x = 0 := by rw [checkD, if_neg (by simp [hv]), if_neg hh]
        rw [ropenL, if_neg (by simp [hC]), c]

set_option maxRecDepth 100000 in
set_option maxHeartbeats 4000000 in
theorem numbers_walk (L : Int) (ra : Option Addr) (rs : List Int) (rc : Nat) (ca : Option Addr) (cs : List Int) (cc : Nat) (n d : Int) (w : World)
  (h1 : rs.length ≤ 9223372036854775807) (h2 : cs.length ≤ 9223372036854775807) (hT : rs.length ≤ 140737488355328 → cs.length ≤ 140737488355328 → TermAt w L ra rs ca cs) :
  Calls Try.prog 5 #[.agg #[.int .i64 L, .slice ra rs.length rc, .slice ca cs.length cc], .int .i64 n, .int .i64 d] w (BoolR w true) := by
  have hB := (Below.refl w.heap.size w).alloc (Nat.le_refl _) (.cells #[.int .i64 L, .slice ra rs.length rc, .slice ca cs.length cc] 24)
  cases hl : longB rs cs with
  | true =>
    go_enter Try.func5, Try.ntmps5
    go_wp2_with fail
    refine (long_any _ _ _ _ _ _ _ _ h1 h2).mono ?_
    rintro e w1 ⟨q1, rfl⟩
    have p1 := hB.trans (q1.mono (by simp))
    rw [hl]
    go_wp2_with fail
    refine (known_any _).mono ?_
    rintro e w2 ⟨q2, rfl⟩
    go_wp2
    go_ret
    exact ⟨p1.trans (q2.mono p1.size), rfl⟩
  | false =>
    have hlen := longB_false hl
    have hT' := hT (by omega) (by omega)
    clear hT
    have HN := hid (nth_facts L rs cs n)
    go_enter Try.func5, Try.ntmps5
    go_wp2_with fail
    refine (long_any _ _ _ _ _ _ _ _ h1 h2).mono ?_
    rintro e w1 ⟨q1, rfl⟩
    have p1 := hB.trans (q1.mono (by simp))
    obtain ⟨d1, d2⟩ := bcell q1
    have hs1 := q1.size
    simp only [World.size_alloc] at d1 d2 hs1
    have a0 : w1.cell? ⟨w.heap.size, 0, none⟩ = some (.int .i64 L) := by rw [d1 _ _ (by omega)]; go_simp
    have a1 : w1.cell? ⟨w.heap.size, 1, none⟩ = some (.slice ra rs.length rc) := by rw [d1 _ _ (by omega)]; go_simp
    have a2 : w1.cell? ⟨w.heap.size, 2, none⟩ = some (.slice ca cs.length cc) := by rw [d1 _ _ (by omega)]; go_simp
    clear d1 d2
    rw [hl]
    go_wp2_with fail
    refine (nth_any _ _ _ _ _ _ _ _ _ (hT'.below p1)).mono ?_
    rintro e w2 ⟨q2, rfl⟩
    have p2 := p1.trans (q2.mono p1.size)
    have hs2 := q2.size
    rw [← q2.cell (by simp; omega)] at a0 a1 a2
    go_wp2_with fail
    refine (rnth_any _ _ _ _ _ _ _ _ _ (hT'.below p2)).mono ?_
    rintro e w3 ⟨q3, rfl⟩
    have p3 := p2.trans (q3.mono p2.size)
    have hs3 := q3.size
    rw [← q3.cell (by simp; omega)] at a0 a1 a2
    go_wp2_with fail
    refine (next_any _ _ _ _ _ _ _ _ _ (hT'.below p3)).mono ?_
    rintro e w4 ⟨q4, rfl⟩
    have p4 := p3.trans (q4.mono p3.size)
    have hs4 := q4.size
    rw [← q4.cell (by simp; omega)] at a0 a1 a2
    go_wp2_with fail
    refine (rnext_any _ _ _ _ _ _ _ _ _ (hT'.below p4)).mono ?_
    rintro e w5 ⟨q5, rfl⟩
    have p5 := p4.trans (q5.mono p4.size)
    have hs5 := q5.size
    rw [← q5.cell (by simp; omega)] at a0 a1 a2
    cases hg : ((nthL L rs cs n).2 != 0) with
    | true =>
      go_wp2_with fail
      refine (known_any _).mono ?_
      rintro e w6 ⟨q6, rfl⟩
      go_wp2
      go_ret
      exact ⟨p5.trans (q6.mono p5.size), rfl⟩
    | false =>
      obtain ⟨z1, z2⟩ := HN.out (by simpa using hg)
      have Z1 := hid z1
      have Z2 := hid z2
      clear z1 z2
      generalize (nthL L rs cs n).1 = x at *
      go_wp2_with fail
      refine (count_any _ _ _ _ _ _ _ _ _ _ (hT'.below p5)).mono ?_
      rintro e w6 ⟨q6, rfl⟩
      have p6 := p5.trans (q6.mono p5.size)
      have hs6 := q6.size
      rw [← q6.cell (by simp; omega)] at a0 a1 a2
      rw [Z1.out]
      go_wp2_with fail
      refine (isOpen_any _ _ _ _ _ _ _ _ _ (hT'.below p6)).mono ?_
      rintro e w7 ⟨q7, rfl⟩
      have p7 := p6.trans (q7.mono p6.size)
      rw [openL_eq, Z2.out]
      have hnn : (n == n) = true := by simp
      go_wp2_with fail
      refine (known_any _).mono ?_
      rintro e w8 ⟨q8, rfl⟩
      go_wp2
      go_ret
      exact ⟨p7.trans (q8.mono p7.size), rfl⟩

end Go.Proofs.Ytbeocokdmelffaa
