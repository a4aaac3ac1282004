/- The walk of the law TopGuess. -/
import Derived.Test.YtfjncmhbpfcdiaaGuF
import Derived.Test.YtfjncmhbpfcdiaaGuD
import Derived.Test.YtfjncmhbpfcdiaaGuLg
import Derived.Test.YtfjncmhbpfcdiaaGuCopy
import Derived.Test.YtfjncmhbpfcdiaaStepApp
import Derived.Deep.RegionHeld3
set_option linter.unusedVariables false
namespace Go.Proofs.Ytfjncmhbpfcdiaa
open Go.RowKit

theorem portE_p {l : List Int} {o u : Int} (h : portE l o u 0 = 0) (p : Nat) (hp : p ≤ 100) : portE l o u (p : Int) = 0 := by
  have e1 : cinB 0 0 100 = true := by simp [cinB]
  have e2 : cinB (p : Int) 0 100 = true := by simp [cinB]; omega
  unfold portE at h ⊢
  rw [e1] at h
  rw [e2]; exact h
theorem costV_ok6 {l : List Int} {o u : Int} {n : Nat} (h : portE l o u n = 0) : costV l o u n = (costL l o u n, 0) := by
  unfold costV; rw [if_pos h, Int.toNat_natCast]
theorem bstV_ok6 {l : List Int} {o u : Int} {n : Nat} (h : portE l o u n = 0) : bstV l o u n = (decide (costL l o u n = costL l o u (qTo l o u l.length)), 0) := by
  unfold bstV; rw [if_pos h, Int.toNat_natCast]
theorem news_cells {w : World} {b off : Nat} (k : Nat) (hc : ∀ j, j < k * 2 → ∃ u, w.cell? ⟨b, off + j, none⟩ = some u ∧ u.oneCell' = true) {W : World} (hW : ∀ j, j < k * 2 → W.cell? ⟨b, off + j, none⟩ = w.cell? ⟨b, off + j, none⟩) : ∀ j u, (cellsOf w b off (k * 2))[j]? = some u → W.cell? ((⟨b, off, none⟩ : Addr).add j) = some u := by
  rcases news_game k hc hW with h | ⟨ad, e, h⟩
  · subst h; intro j u hu; simp [cellsOf] at hu
  · cases e; exact h
theorem say_frontT {g : List Rnd} (h : gameE g = 0) (k : Nat) (hk : k < g.length) : sayV (g.take k) (rAt g k).1 = (saidN 16777216 g k, 0) := by
  have hg := gameE_ok h
  have ht := (hg.take k (Nat.le_of_lt hk)).e
  have had := hg.adv k hk
  have hlk : (g.take k).length = k := by simp; omega
  have hs : sayE (g.take k) (rAt g k).1 = 0 := by
    unfold sayE
    rw [if_pos ht, if_pos ⟨by omega, by omega, fun hz => by rw [hlk] at hz; rw [advs_take g k hz, had.1]⟩]
  unfold sayV
  rw [if_pos hs, hlk, sayN_take 16777216 g _ k k (Nat.le_refl _)]
  rfl
theorem best_frontT {g : List Rnd} (h : gameE g = 0) (k : Nat) (hk : k < g.length) : ∃ bt : Nat, bt < advs g ∧ bestV (g.take (k + 1)) = ((bt : Int), (wrongN g bt (k + 1) : Int), 0) := by
  have hg := gameE_ok h
  have ht := hg.take (k + 1) hk
  have hlk : (g.take (k + 1)).length = k + 1 := by simp; omega
  have had := hg.adv k hk
  refine ⟨bestTo (g.take (k + 1)) (advs g), bestTo_le _ _ (by omega), ?_⟩
  unfold bestV
  rw [if_pos (gameN_of ht.e (by omega)), advs_take g (k + 1) (by omega), hlk, wrongN_take g _ (k + 1) (k + 1) (Nat.le_refl _)]
theorem bound_okT (n u : Nat) (h1 : 1 ≤ n) (h2 : n ≤ 8) (h3 : u ≤ 24) : boundV n u = (((bndTo n u 25 : Nat) : Int), 0) := by
  unfold boundV
  rw [if_pos (by omega)]; rfl
set_option maxRecDepth 100000 in
set_option maxHeartbeats 8000000 in
theorem topGuess_walk (a A : Option Addr) (g : List Rnd) (l : List Int) (cap lc : Nat) (o u : Int) (w : World) (h : GameRaw w a g) (hcap : g.length ≤ cap) (hl0 : l.length ≤ 9223372036854775807) (hI : l.length ≤ 140737488355328 → Ints w A l) (bo : -9223372036854775808 ≤ o ∧ o ≤ 9223372036854775807) (bu : -9223372036854775808 ≤ u ∧ u ≤ 9223372036854775807) :
  Calls Try.prog 13 #[.slice a g.length cap, .slice A l.length lc, .agg #[.int .i64 o, .int .i64 u]] w (BoolR w true) := by
  have hlen := h.1
  have HB0 := hid ((Below.refl w.heap.size w).alloc (Nat.le_refl _) (.cells #[.int .i64 o, .int .i64 u] 55))
  have x0 : (w.alloc (.cells #[.int .i64 o, .int .i64 u] 55)).cell? ⟨w.heap.size, 0, none⟩ = some (.int .i64 o) := by go_simp
  have x1 : (w.alloc (.cells #[.int .i64 o, .int .i64 u] 55)).cell? ⟨w.heap.size, 1, none⟩ = some (.int .i64 u) := by go_simp
  generalize hwB : w.alloc (.cells #[.int .i64 o, .int .i64 u] 55) = wB at *
  have HBx := hid (fun W (hb : Below wB.heap.size wB W) => (show W.cell? ⟨w.heap.size, 0, none⟩ = some (.int .i64 o) ∧ W.cell? ⟨w.heap.size, 1, none⟩ = some (.int .i64 u) from ⟨by rw [hb.cell (cell_lt x0)]; exact x0, by rw [hb.cell (cell_lt x1)]; exact x1⟩))
  have HI := hid (fun hh => (hI hh).below HB0.out)
  have hR := h.below HB0.out
  have HL := hid (fun W (hb : Below wB.heap.size wB W) => long6_any a g cap W (hR.below hb))
  have HBd := hid (fun W => gBound_any 8 0 W)
  rw [known_bound] at HBd
  have P0 := hid (Below.refl wB.heap.size wB)
  clear x0 x1 hI h
  cases hlg : longG g with
  | true =>
    rw [hlg] at HL
    clear hR hlg
    go_enter Try.func13, Try.ntmps13
    go_wp2_with fail
    refine (HBd.out _).mono ?_
    rintro e w1 ⟨rfl, rfl⟩
    go_wp2_with fail
    refine (HL.out _ P0.out).mono ?_
    rintro e w1 ⟨rfl, rfl⟩
    clear hwB
    have b0 := (HBx.out _ P0.out).1
    have b1 := (HBx.out _ P0.out).2
    by_cases h300 : 300 < l.length
    · have h3' : (300 : Int) < (l.length : Int) := by omega
      clear h300
      go_wp2
      go_ret
      exact ⟨HB0.out.trans (P0.out.mono HB0.out.size), rfl⟩
    · have h3' : (l.length : Int) ≤ 300 := by omega
      have HIw := hid (fun W (hb : Below wB.heap.size wB W) => (HI.out (by omega)).below hb)
      have HQ := hid (gQntP_any A l lc o u _ (HIw.out _ P0.out))
      clear h300
      rcases portE_cases l o u 0 with hp | hp
      · obtain ⟨hl, ho, hu, _⟩ := portE_ok hp
        have hq1 := qTo_lt l o u l.length hl.pos
        have hq2 := hl.len
        rw [show qntV l o u = (((qTo l o u l.length : Nat) : Int), 0) from if_pos hp] at HQ
        have HC := hid (fun (p : Nat) (hp9 : p ≤ 100) => gCostP_any A l lc o u (p : Int) _ (HIw.out _ P0.out))
        have HC := hid (fun (p : Nat) (hp9 : p ≤ 100) => (show Calls Try.prog 36 #[.slice A l.length lc, .int .i64 o, .int .i64 u, .int .i64 (p : Int)] _ (PairG _ (costL l o u p, 0)) from by
          have := HC.out p hp9
          rw [costV_ok6 ((portE_p hp p hp9))] at this; exact this))
        have HT := hid (fun (p : Nat) (hp9 : p ≤ 100) => gBstP_any A l lc o u (p : Int) _ (HIw.out _ P0.out))
        have HT := hid (fun (p : Nat) (hp9 : p ≤ 100) => (show Calls Try.prog 42 #[.slice A l.length lc, .int .i64 o, .int .i64 u, .int .i64 (p : Int)] _ (BoolG _ (decide (costL l o u p = costL l o u (qTo l o u l.length)), 0)) from by
          have := HT.out p hp9
          rw [bstV_ok6 ((portE_p hp p hp9))] at this; exact this))
        have HAll := hid (fun p => best_all hl o u ho.1 hu.1 p)
        have HFst := hid (fun p hh => qTo_first l o u l.length p hh)
        have HCq := hid (HC.out (qTo l o u l.length) (by omega))
        generalize hqq : qTo l o u l.length = qq at *
        generalize hlst : costL l o u qq = lst at *
        clear hqq hlst hl ho hu hp hq1
        go_wp2_with fail
        refine HQ.out.mono ?_
        rintro e w1 ⟨rfl, rfl⟩
        go_wp2_with fail
        refine HCq.out.mono ?_
        rintro e w1 ⟨rfl, rfl⟩
        go_wp2
        go_loop [25] (fun i => ∃ p : Nat, p ≤ 101 ∧ i = .int .i64 p) (fun i => 101 - (intOf i).toNat)
        case atStart => exact ⟨0, by omega, rfl⟩
        case round =>
          obtain ⟨p, hp1, rfl⟩ := hrel
          by_cases hlt : p ≤ 100
          · have hlt' : (p : Int) ≤ 100 := by omega
            have HCp := hid (HC.out p hlt)
            have HTp := hid (HT.out p hlt)
            have ha := HAll.out p
            have hf := HFst.out p
            clear hlt
            generalize costL l o u p = cp at *
            by_cases hcp : cp = lst
            · have hpq : ¬ p < qq := fun hh => by have := hf hh; omega
              rw [decide_eq_true hcp] at HTp
              have dq : decide (p < qq) = false := decide_eq_false hpq
              subst hcp
              clear hf hpq ha
              go_wp2_with fail
              refine HCp.out.mono ?_
              rintro e w1 ⟨rfl, rfl⟩
              go_wp2_with fail
              refine HTp.out.mono ?_
              rintro e w1 ⟨rfl, rfl⟩
              go_wp2
              go_round
              case rel => exact ⟨p + 1, by omega, by go_num⟩
              case measure => simp [intOf]; omega
            · rw [decide_eq_false hcp] at HTp
              have hlc : lst < cp := by omega
              have he : (cp == lst) = false := by rw [beq_eq_false_iff_ne]; exact hcp
              have hlc2 : decide (cp < lst) = false := decide_eq_false (by omega)
              clear hf hcp
              by_cases hpq : p < qq
              · have dq : decide (p < qq) = true := decide_eq_true hpq
                clear hpq
                go_wp2_with fail
                refine HCp.out.mono ?_
                rintro e w1 ⟨rfl, rfl⟩
                go_wp2_with fail
                refine HTp.out.mono ?_
                rintro e w1 ⟨rfl, rfl⟩
                go_wp2
                go_round
                case rel => exact ⟨p + 1, by omega, by go_num⟩
                case measure => simp [intOf]; omega
              · have dq : decide (p < qq) = false := decide_eq_false hpq
                clear hpq
                go_wp2_with fail
                refine HCp.out.mono ?_
                rintro e w1 ⟨rfl, rfl⟩
                go_wp2_with fail
                refine HTp.out.mono ?_
                rintro e w1 ⟨rfl, rfl⟩
                go_wp2
                go_round
                case rel => exact ⟨p + 1, by omega, by go_num⟩
                case measure => simp [intOf]; omega
          · obtain rfl : p = 101 := by omega
            go_wp2
            go_ret
            exact ⟨HB0.out.trans (P0.out.mono HB0.out.size), rfl⟩
      · rw [show qntV l o u = (0, 1) by unfold qntV; rw [hp]; rfl] at HQ
        clear hp
        go_wp2_with fail
        refine HQ.out.mono ?_
        rintro e w1 ⟨rfl, rfl⟩
        go_wp2
        go_ret
        exact ⟨HB0.out.trans (P0.out.mono HB0.out.size), rfl⟩
  | false =>
    rw [hlg] at HL
    have hG := hR.game hlg
    have HV := hid (gValidate_any a g cap wB hG)
    by_cases h0 : gameE g = 0
    case neg =>
      have h1 : (gameE g == 0) = false := by simp [h0]
      generalize gameE g = v at *
      clear hG hR hlg h0
      go_enter Try.func13, Try.ntmps13
      go_wp2_with fail
      refine (HBd.out _).mono ?_
      rintro e w1 ⟨rfl, rfl⟩
      go_wp2_with fail
      refine (HL.out _ P0.out).mono ?_
      rintro e w1 ⟨rfl, rfl⟩
      go_wp2_with fail
      refine HV.out.mono ?_
      rintro e w1 ⟨n1, rfl, rfl⟩
      have P1 := hid (below_drewN P0.out n1)
      clear hwB
      generalize hw1 : wB.drewN n1 = w1 at *
      clear hw1
      have b0 := (HBx.out _ P1.out).1
      have b1 := (HBx.out _ P1.out).2
      by_cases h300 : 300 < l.length
      · have h3' : (300 : Int) < (l.length : Int) := by omega
        clear h300
        go_wp2
        go_ret
        exact ⟨HB0.out.trans (P1.out.mono HB0.out.size), rfl⟩
      · have h3' : (l.length : Int) ≤ 300 := by omega
        have HIw := hid (fun W (hb : Below wB.heap.size wB W) => (HI.out (by omega)).below hb)
        have HQ := hid (gQntP_any A l lc o u _ (HIw.out _ P1.out))
        clear h300
        rcases portE_cases l o u 0 with hp | hp
        · obtain ⟨hl, ho, hu, _⟩ := portE_ok hp
          have hq1 := qTo_lt l o u l.length hl.pos
          have hq2 := hl.len
          rw [show qntV l o u = (((qTo l o u l.length : Nat) : Int), 0) from if_pos hp] at HQ
          have HC := hid (fun (p : Nat) (hp9 : p ≤ 100) => gCostP_any A l lc o u (p : Int) _ (HIw.out _ P1.out))
          have HC := hid (fun (p : Nat) (hp9 : p ≤ 100) => (show Calls Try.prog 36 #[.slice A l.length lc, .int .i64 o, .int .i64 u, .int .i64 (p : Int)] _ (PairG _ (costL l o u p, 0)) from by
            have := HC.out p hp9
            rw [costV_ok6 ((portE_p hp p hp9))] at this; exact this))
          have HT := hid (fun (p : Nat) (hp9 : p ≤ 100) => gBstP_any A l lc o u (p : Int) _ (HIw.out _ P1.out))
          have HT := hid (fun (p : Nat) (hp9 : p ≤ 100) => (show Calls Try.prog 42 #[.slice A l.length lc, .int .i64 o, .int .i64 u, .int .i64 (p : Int)] _ (BoolG _ (decide (costL l o u p = costL l o u (qTo l o u l.length)), 0)) from by
            have := HT.out p hp9
            rw [bstV_ok6 ((portE_p hp p hp9))] at this; exact this))
          have HAll := hid (fun p => best_all hl o u ho.1 hu.1 p)
          have HFst := hid (fun p hh => qTo_first l o u l.length p hh)
          have HCq := hid (HC.out (qTo l o u l.length) (by omega))
          generalize hqq : qTo l o u l.length = qq at *
          generalize hlst : costL l o u qq = lst at *
          clear hqq hlst hl ho hu hp hq1
          go_wp2_with fail
          refine HQ.out.mono ?_
          rintro e w1 ⟨rfl, rfl⟩
          go_wp2_with fail
          refine HCq.out.mono ?_
          rintro e w1 ⟨rfl, rfl⟩
          go_wp2
          go_loop [25] (fun i => ∃ p : Nat, p ≤ 101 ∧ i = .int .i64 p) (fun i => 101 - (intOf i).toNat)
          case atStart => exact ⟨0, by omega, rfl⟩
          case round =>
            obtain ⟨p, hp1, rfl⟩ := hrel
            by_cases hlt : p ≤ 100
            · have hlt' : (p : Int) ≤ 100 := by omega
              have HCp := hid (HC.out p hlt)
              have HTp := hid (HT.out p hlt)
              have ha := HAll.out p
              have hf := HFst.out p
              clear hlt
              generalize costL l o u p = cp at *
              by_cases hcp : cp = lst
              · have hpq : ¬ p < qq := fun hh => by have := hf hh; omega
                rw [decide_eq_true hcp] at HTp
                have dq : decide (p < qq) = false := decide_eq_false hpq
                subst hcp
                clear hf hpq ha
                go_wp2_with fail
                refine HCp.out.mono ?_
                rintro e w1 ⟨rfl, rfl⟩
                go_wp2_with fail
                refine HTp.out.mono ?_
                rintro e w1 ⟨rfl, rfl⟩
                go_wp2
                go_round
                case rel => exact ⟨p + 1, by omega, by go_num⟩
                case measure => simp [intOf]; omega
              · rw [decide_eq_false hcp] at HTp
                have hlc : lst < cp := by omega
                have he : (cp == lst) = false := by rw [beq_eq_false_iff_ne]; exact hcp
                have hlc2 : decide (cp < lst) = false := decide_eq_false (by omega)
                clear hf hcp
                by_cases hpq : p < qq
                · have dq : decide (p < qq) = true := decide_eq_true hpq
                  clear hpq
                  go_wp2_with fail
                  refine HCp.out.mono ?_
                  rintro e w1 ⟨rfl, rfl⟩
                  go_wp2_with fail
                  refine HTp.out.mono ?_
                  rintro e w1 ⟨rfl, rfl⟩
                  go_wp2
                  go_round
                  case rel => exact ⟨p + 1, by omega, by go_num⟩
                  case measure => simp [intOf]; omega
                · have dq : decide (p < qq) = false := decide_eq_false hpq
                  clear hpq
                  go_wp2_with fail
                  refine HCp.out.mono ?_
                  rintro e w1 ⟨rfl, rfl⟩
                  go_wp2_with fail
                  refine HTp.out.mono ?_
                  rintro e w1 ⟨rfl, rfl⟩
                  go_wp2
                  go_round
                  case rel => exact ⟨p + 1, by omega, by go_num⟩
                  case measure => simp [intOf]; omega
            · obtain rfl : p = 101 := by omega
              go_wp2
              go_ret
              exact ⟨HB0.out.trans (P1.out.mono HB0.out.size), rfl⟩
        · rw [show qntV l o u = (0, 1) by unfold qntV; rw [hp]; rfl] at HQ
          clear hp
          go_wp2_with fail
          refine HQ.out.mono ?_
          rintro e w1 ⟨rfl, rfl⟩
          go_wp2
          go_ret
          exact ⟨HB0.out.trans (P1.out.mono HB0.out.size), rfl⟩
    rw [h0] at HV
    by_cases hz : 0 < g.length
    case neg =>
      have hz' : (g.length : Int) ≤ 0 := by omega
      clear hG hR hlg h0 hz
      go_enter Try.func13, Try.ntmps13
      go_wp2_with fail
      refine (HBd.out _).mono ?_
      rintro e w1 ⟨rfl, rfl⟩
      go_wp2_with fail
      refine (HL.out _ P0.out).mono ?_
      rintro e w1 ⟨rfl, rfl⟩
      go_wp2_with fail
      refine HV.out.mono ?_
      rintro e w1 ⟨n1, rfl, rfl⟩
      have P1 := hid (below_drewN P0.out n1)
      clear hwB
      generalize hw1 : wB.drewN n1 = w1 at *
      clear hw1
      have b0 := (HBx.out _ P1.out).1
      have b1 := (HBx.out _ P1.out).2
      by_cases h300 : 300 < l.length
      · have h3' : (300 : Int) < (l.length : Int) := by omega
        clear h300
        go_wp2
        go_ret
        exact ⟨HB0.out.trans (P1.out.mono HB0.out.size), rfl⟩
      · have h3' : (l.length : Int) ≤ 300 := by omega
        have HIw := hid (fun W (hb : Below wB.heap.size wB W) => (HI.out (by omega)).below hb)
        have HQ := hid (gQntP_any A l lc o u _ (HIw.out _ P1.out))
        clear h300
        rcases portE_cases l o u 0 with hp | hp
        · obtain ⟨hl, ho, hu, _⟩ := portE_ok hp
          have hq1 := qTo_lt l o u l.length hl.pos
          have hq2 := hl.len
          rw [show qntV l o u = (((qTo l o u l.length : Nat) : Int), 0) from if_pos hp] at HQ
          have HC := hid (fun (p : Nat) (hp9 : p ≤ 100) => gCostP_any A l lc o u (p : Int) _ (HIw.out _ P1.out))
          have HC := hid (fun (p : Nat) (hp9 : p ≤ 100) => (show Calls Try.prog 36 #[.slice A l.length lc, .int .i64 o, .int .i64 u, .int .i64 (p : Int)] _ (PairG _ (costL l o u p, 0)) from by
            have := HC.out p hp9
            rw [costV_ok6 ((portE_p hp p hp9))] at this; exact this))
          have HT := hid (fun (p : Nat) (hp9 : p ≤ 100) => gBstP_any A l lc o u (p : Int) _ (HIw.out _ P1.out))
          have HT := hid (fun (p : Nat) (hp9 : p ≤ 100) => (show Calls Try.prog 42 #[.slice A l.length lc, .int .i64 o, .int .i64 u, .int .i64 (p : Int)] _ (BoolG _ (decide (costL l o u p = costL l o u (qTo l o u l.length)), 0)) from by
            have := HT.out p hp9
            rw [bstV_ok6 ((portE_p hp p hp9))] at this; exact this))
          have HAll := hid (fun p => best_all hl o u ho.1 hu.1 p)
          have HFst := hid (fun p hh => qTo_first l o u l.length p hh)
          have HCq := hid (HC.out (qTo l o u l.length) (by omega))
          generalize hqq : qTo l o u l.length = qq at *
          generalize hlst : costL l o u qq = lst at *
          clear hqq hlst hl ho hu hp hq1
          go_wp2_with fail
          refine HQ.out.mono ?_
          rintro e w1 ⟨rfl, rfl⟩
          go_wp2_with fail
          refine HCq.out.mono ?_
          rintro e w1 ⟨rfl, rfl⟩
          go_wp2
          go_loop [25] (fun i => ∃ p : Nat, p ≤ 101 ∧ i = .int .i64 p) (fun i => 101 - (intOf i).toNat)
          case atStart => exact ⟨0, by omega, rfl⟩
          case round =>
            obtain ⟨p, hp1, rfl⟩ := hrel
            by_cases hlt : p ≤ 100
            · have hlt' : (p : Int) ≤ 100 := by omega
              have HCp := hid (HC.out p hlt)
              have HTp := hid (HT.out p hlt)
              have ha := HAll.out p
              have hf := HFst.out p
              clear hlt
              generalize costL l o u p = cp at *
              by_cases hcp : cp = lst
              · have hpq : ¬ p < qq := fun hh => by have := hf hh; omega
                rw [decide_eq_true hcp] at HTp
                have dq : decide (p < qq) = false := decide_eq_false hpq
                subst hcp
                clear hf hpq ha
                go_wp2_with fail
                refine HCp.out.mono ?_
                rintro e w1 ⟨rfl, rfl⟩
                go_wp2_with fail
                refine HTp.out.mono ?_
                rintro e w1 ⟨rfl, rfl⟩
                go_wp2
                go_round
                case rel => exact ⟨p + 1, by omega, by go_num⟩
                case measure => simp [intOf]; omega
              · rw [decide_eq_false hcp] at HTp
                have hlc : lst < cp := by omega
                have he : (cp == lst) = false := by rw [beq_eq_false_iff_ne]; exact hcp
                have hlc2 : decide (cp < lst) = false := decide_eq_false (by omega)
                clear hf hcp
                by_cases hpq : p < qq
                · have dq : decide (p < qq) = true := decide_eq_true hpq
                  clear hpq
                  go_wp2_with fail
                  refine HCp.out.mono ?_
                  rintro e w1 ⟨rfl, rfl⟩
                  go_wp2_with fail
                  refine HTp.out.mono ?_
                  rintro e w1 ⟨rfl, rfl⟩
                  go_wp2
                  go_round
                  case rel => exact ⟨p + 1, by omega, by go_num⟩
                  case measure => simp [intOf]; omega
                · have dq : decide (p < qq) = false := decide_eq_false hpq
                  clear hpq
                  go_wp2_with fail
                  refine HCp.out.mono ?_
                  rintro e w1 ⟨rfl, rfl⟩
                  go_wp2_with fail
                  refine HTp.out.mono ?_
                  rintro e w1 ⟨rfl, rfl⟩
                  go_wp2
                  go_round
                  case rel => exact ⟨p + 1, by omega, by go_num⟩
                  case measure => simp [intOf]; omega
            · obtain rfl : p = 101 := by omega
              go_wp2
              go_ret
              exact ⟨HB0.out.trans (P1.out.mono HB0.out.size), rfl⟩
        · rw [show qntV l o u = (0, 1) by unfold qntV; rw [hp]; rfl] at HQ
          clear hp
          go_wp2_with fail
          refine HQ.out.mono ?_
          rintro e w1 ⟨rfl, rfl⟩
          go_wp2
          go_ret
          exact ⟨HB0.out.trans (P1.out.mono HB0.out.size), rfl⟩
    have hz' : (0 : Int) < (g.length : Int) := by omega
    obtain ⟨i0, hinf, hz0, hz1, hz2⟩ := info_parts round_info
    have hg := gameE_ok h0
    have hl24 := hg.len
    have had := hg.adv 0 hz
    have H1 := hid (fun W (hb : Below wB.heap.size wB W) => gSaid_any a g cap W (hG.below hb))
    have H2 := hid (fun W (hb : Below wB.heap.size wB W) => gErrors_any a g cap W (hG.below hb))
    rw [show saidV g = (saidL 16777216 g g.length, 0) from if_pos h0] at H1
    rw [show errsV g = ((errN 16777216 g g.length : Int), 0) from if_pos h0] at H2
    rcases hG.at_ with e | ⟨b, off, rfl, hc⟩
    · rw [e] at hz; simp at hz
    have HCs := hid (fun i hi => hc i hi)
    have HAd := hid (fun i hi => (hg.adv i hi).1)
    obtain ⟨A0, c0, k0, _, _⟩ := hc 0 hz
    rw [Nat.zero_mul, Nat.add_zero, had.1] at k0
    have hbl := cell_lt k0
    dsimp only at hbl
    have HC0 := hid k0
    have HSl := hid (saidL_len 16777216 g g.length)
    have HSa := hid (fun k hk => saidL_at 16777216 g g.length k hk)
    have HEl := hid (fun k => errN_le 16777216 g k)
    have HEs := hid (show ∀ k, errN 16777216 g (k + 1) = errN 16777216 g k + if saidN 16777216 g k = (rAt g k).2 then 0 else 1 from fun k => rfl)
    have HCl := hid (fun k => cellsOf_len wB b off (k * 2))
    have HNw := hid (fun k (hk : k ≤ g.length) W (hb : Below wB.heap.size wB W) => news_cells (w := wB) k (fun j hj => game_cells hc j (by omega)) (W := W) (fun j hj => hb.cell (p := ⟨b, off + j, none⟩) hbl))
    have HNs := hid (fun k (hk : k ≤ g.length) W (hb : Below wB.heap.size wB W) => news_game (w := wB) k (fun j hj => game_cells hc j (by omega)) (W := W) (fun j hj => hb.cell (p := ⟨b, off + j, none⟩) hbl))
    have HOn := hid (fun k (hk : k ≤ g.length) => ones_game (w := wB) k (fun j hj => game_cells hc j (by omega)))
    have HCp := hid (fun k (hk : k ≤ g.length) (V : World) (base : Nat) (v : Value) (hown : V.ownsRow base 47 2 v k (cellsOf wB b off (k * 2))) (hb : Below wB.heap.size wB V) => game_copied hG k hk rfl hc hown hb)
    have HSay := hid (fun k (hk : k < g.length) W R rc (hr : GameAt W R (g.take k)) A1 c1 (hm : Marks W A1 (rAt g k).1) => (show Calls Try.prog 25 #[.slice R k rc, .slice A1 (rAt g k).1.length c1] W (BelS W (saidN 16777216 g k, 0)) from by
      have hlk : (g.take k).length = k := by simp; omega
      have := gSayP_any R A1 (g.take k) (rAt g k).1 rc c1 W hr hm
      rw [say_frontT h0 k hk, hlk] at this
      exact this))
    have HBt := hid (fun k (hk : k < g.length) => best_frontT h0 k hk)
    have HBest := hid (fun k (hk : k < g.length) W R rc (hr : GameAt W R (g.take (k + 1))) => (show Calls Try.prog 20 #[.slice R (k + 1) rc] W (DrwT W (bestV (g.take (k + 1)))) from by
      have hlk : (g.take (k + 1)).length = k + 1 := by simp; omega
      have := gBest_any R (g.take (k + 1)) rc W hr
      rw [hlk] at this
      exact this))
    have HBou := hid (fun k (hk : k < g.length) (bt : Nat) (hb : bt < advs g) => bound_errs g hg (k + 1) hk bt hb)
    have HBnd := hid (fun k (hk : k < g.length) (bt : Nat) W => (show Calls Try.prog 32 #[.int .i64 (advs g : Int), .int .i64 (wrongN g bt (k + 1) : Int)] W (PairB W (((bndTo (advs g) (wrongN g bt (k + 1)) 25 : Nat) : Int), 0)) from by
      have hw := wrongN_le g bt (k + 1)
      rw [← bound_okT (advs g) (wrongN g bt (k + 1)) had.2.1 had.2.2 (by omega)]
      exact gBound_any _ _ W))
    have HWl := hid (fun bt k => wrongN_le g bt k)
    have ha8 := had.2.2
    generalize advs g = d at *
    clear hR hlg hG h0 hg had hc k0 hz
    go_enter Try.func13, Try.ntmps13
    go_wp2_with fail
    refine (HBd.out _).mono ?_
    rintro e w1 ⟨rfl, rfl⟩
    go_wp2_with fail
    refine (HL.out _ P0.out).mono ?_
    rintro e w1 ⟨rfl, rfl⟩
    go_wp2_with fail
    refine HV.out.mono ?_
    rintro e w1 ⟨n1, rfl, rfl⟩
    have P1 := hid (below_drewN P0.out n1)
    clear hwB
    generalize hw1 : wB.drewN n1 = w1 at *
    clear hw1
    go_wp2_with fail
    refine (H1.out _ P1.out).mono ?_
    rintro e w3 ⟨q3, A3, c3, rfl, i3⟩
    have P3 := hid (P1.out.trans (q3.mono P1.out.size))
    have I3 := hid i3
    clear q3 i3
    dsimp only at I3 ⊢
    rw [HSl.out]
    go_wp2_with fail
    refine (H2.out _ P3.out).mono ?_
    rintro e w4 ⟨q4, rfl⟩
    have P4 := hid (P3.out.trans (q4.mono P3.out.size))
    have I4 := hid (I3.out.below q4)
    clear q4 I3
    have hel := HEl.out g.length
    go_wp2
    go_loopw [13, 14] (fun t i wr => ∃ (k : Nat), k ≤ g.length ∧ i = .int .i64 k ∧ t = .int .i64 (errN 16777216 g k : Nat) ∧ Hid (Below w4.heap.size w4 wr)) (fun _ i _ => g.length - (intOf i).toNat)
    case atStart => exact ⟨0, Nat.zero_le _, rfl, rfl, Below.refl _ _⟩
    case round =>
      obtain ⟨k, hk, rfl, rfl, HB4⟩ := hrel
      have PB := hid (P4.out.trans (HB4.out.mono P4.out.size))
      by_cases hlt : k < g.length
      · obtain ⟨A1, c1, d0, d1, m1⟩ := HCs.out k hlt
        have hr := HAd.out k hlt
        have HRl := hid hr
        have HM1 := hid m1
        rw [hr] at d0
        have c0' : wr.cell? ⟨b, off + k * 2, none⟩ = some (.slice A1 d c1) := by rw [PB.out.cell (p := ⟨b, off + k * 2, none⟩) hbl]; exact d0
        have HC1 := hid d1
        have I9 := hid (I4.out.below HB4.out)
        have hl9 := HSl.out
        rcases I9.out.at_ with e | ⟨b3, o3, rfl, hm3⟩
        · rw [e] at hl9; simp at hl9; omega
        have m3 := hm3 k (by omega)
        rw [HSa.out k hlt] at m3
        have hb3 := cell_lt m3
        dsimp only at hb3
        have HM3 := hid m3
        have HSk := hid (fun W R rc (hr' : GameAt W R (g.take k)) (hb : Below wB.heap.size wB W) => (show Calls Try.prog 25 #[.slice R k rc, .slice A1 d c1] W (BelS W (saidN 16777216 g k, 0)) from by
          have := HSay.out k hlt W R rc hr' A1 c1 (HM1.out.below hb)
          rw [HRl.out] at this
          exact this))
        have HEk := hid (HEs.out k)
        have hek := HEl.out k
        have hek1 := HEl.out (k + 1)
        obtain ⟨bt, hbt, hbe⟩ := HBt.out k hlt
        have HBk := hid (fun W R rc (hr' : GameAt W R (g.take (k + 1))) => (show Calls Try.prog 20 #[.slice R (k + 1) rc] W (DrwT W ((bt : Int), (wrongN g bt (k + 1) : Int), 0)) from by
          rw [← hbe]; exact HBest.out k hlt W R rc hr'))
        have HNk := hid (fun W => HBnd.out k hlt bt W)
        have hbo := HBou.out k hlt bt hbt
        have hwl := HWl.out bt (k + 1)
        have hk1 : (0 : Int) ≤ (k : Int) := by omega
        have hk2 : (k : Int) < (g.length : Int) := by omega
        have hk3 : (k : Int) ≤ (cap : Int) := by omega
        have hk4 : k ≤ cap := by omega
        have hk5 : (k : Int) + 1 ≤ (cap : Int) := by omega
        have hk6 : k + 1 ≤ cap := by omega
        have HCpk := hid (fun V base v hown hb => HCp.out k hk V base v hown hb)
        have HCp1 := hid (fun V base v hown hb => HCp.out (k + 1) hlt V base v hown hb)
        have HNwk := hid (fun W hb => HNw.out k hk W hb)
        have HOnk := hid (HOn.out k hk)
        have HNs1 := hid (fun W hb => HNs.out (k + 1) hlt W hb)
        have HOn1 := hid (HOn.out (k + 1) hlt)
        have hbl2 : b < wr.heap.size := Nat.lt_of_lt_of_le hbl PB.out.size
        have HKp := hid (fun (w' : World) (hb : Below wr.heap.size wr w') => (show w'.cell? ⟨b, off + k * 2, none⟩ = some (.slice A1 d c1) ∧ Below wr.heap.size wr w' from ⟨by rw [hb.cell (p := ⟨b, off + k * 2, none⟩) hbl2]; exact c0', hb⟩))
        have hr1 : Below wr.heap.size wr wr := Below.refl _ _
        have HEm := hid (World.ownsRow_lit (base := wr.heap.size) (e := 47) (size := 2) wr #[] 0 (Nat.le_refl _) (by decide) rfl)
        have HRow := hid (fun q (hq : Value.ownBlock (.slice (some ⟨wr.heap.size, 0, none⟩) 0 0) = some q) => (show wr.heap.size ≤ q by simp [Value.ownBlock] at hq; omega))
        have HTr := hid (fun W (hb : Below wr.heap.size wr W) => PB.out.trans (hb.mono PB.out.size))
        clear hbe hm3 hr d0 d1 m1 m3 hl9 hb3
        generalize hsd : saidN 16777216 g k = sd at *
        generalize hqd : (rAt g k).2 = qd at *
        generalize wrongN g bt (k + 1) = wb at *
        generalize hen : errN 16777216 g k = en at *
        generalize hen1 : errN 16777216 g (k + 1) = en1 at *
        have HEn1 := hid hen1
        clear hsd hqd hen hen1 hbt
        go_wp2_with fail
        go_region_held3 (fun w' => w'.cell? ⟨b, off + k * 2, none⟩ = some (.slice A1 d c1) ∧ Below wr.heap.size wr w')
          ((refine HKp.out _ ?_; repeat (first | exact hr1 | assumption | apply Below.drew | (refine Below.alloc ?_ (by first | omega | (simp; done) | (simp; omega)) _))))
          (first
            | (refine step_append_own (by rfl) _ _ 22 (by rfl) wr.heap.size 47 i0 (.agg #[.slice none 0 0, .bool false]) 2 32 Try.underlying22 hinf hz0 hz1 hz2 rfl (by decide) _ 0 [] (by rfl) (by first | exact HEm.out | exact own_below HEm.out (Below.drew (Below.refl _ _))) ⟨b, off, none⟩ k cap (cellsOf wB b off (k * 2)) (by rfl) (HCl.out k) (HNwk.out _ (HTr.out _ (by repeat (first | exact hr1 | assumption | apply Below.drew | (refine Below.alloc ?_ (by first | omega | (simp; done) | (simp; omega)) _))))) HOnk.out (by unfold maxLen; omega) (by omega) (by first | omega | (simp; done) | (simp; omega)) ?_; intro v6 w6 hown6 hgrow6; have p6 : Below wr.heap.size wr w6 := Below.grown (by repeat (first | exact hr1 | assumption | apply Below.drew | (refine Below.alloc ?_ (by first | omega | (simp; done) | (simp; omega)) _))) hgrow6 (by first | omega | (simp; done) | (simp; omega)) HRow.out; obtain ⟨R6, rc6, rfl, hrc6, hG6⟩ := HCpk.out w6 wr.heap.size v6 (by simpa using hown6) (HTr.out _ p6))
            | (go_at_call 25; refine (HSk.out _ R6 rc6 (by first | exact hG6 | exact hG6.drew 1 | exact hG6.below (Below.drew (Below.refl _ _))) (HTr.out _ (by first | exact p6 | exact p6.drew | assumption))).mono ?_; rintro en w7 ⟨q7, rfl⟩; have p7 : Below wr.heap.size wr w7 := Below.trans (by first | exact p6 | exact p6.drew) (q7.mono (by first | exact p6.size | exact p6.drew.size))))
        have HB7 := hid (HB4.out.trans (p7.mono (HB4.out.size)))
        have P7 := hid (HTr.out _ p7)
        have m7 : w7.cell? ⟨b3, o3 + k, none⟩ = some (.bool sd) := by rw [p7.cell (cell_lt HM3.out)]; exact HM3.out
        have d7 : w7.cell? ⟨b, off + k * 2 + 1, none⟩ = some (.bool qd) := by rw [P7.out.cell (p := ⟨b, off + k * 2 + 1, none⟩) hbl]; exact HC1.out
        have e7 : w7.cell? ⟨b, off, none⟩ = some (.slice A0 d c0) := by rw [P7.out.cell (p := ⟨b, off, none⟩) hbl]; exact HC0.out
        have HE7 := hid (World.ownsRow_lit (base := w7.heap.size) (e := 47) (size := 2) w7 #[] 0 (Nat.le_refl _) (by decide) rfl)
        have HNs7 := hid (HNs1.out _ (P7.out.alloc P7.out.size (.cells #[] 47)))
        have HCl1 := hid (HCl.out (k + 1))
        have hsz7 := P7.out.size
        rename _ ∧ Below wr.heap.size wr w7 => hHeld9
        clear hHeld9 p6 hown6 hrc6 hG6 q7 p7 hr1 HKp HEm HTr HRow HSk HCpk HNwk HOnk HNs1 c0' HM3 HC1 hgrow6
        generalize bndTo d wb 25 = bd at *
        cases hsq : (sd == qd) with
        | true =>
          have he1 : en1 = en := by rw [HEk.out, if_pos (by simpa using hsq), Nat.add_zero]
          have HEn2 := hid (HEn1.out.trans he1)
          have hbo' : (en : Int) ≤ (bd : Int) := by omega
          have dbo : decide (bd < en) = false := decide_eq_false (by omega)
          clear HEk he1 HEn1
          go_wp2_with (at_builtin; (refine wpList_append_src rfl _ _ 22 rfl w7.heap.size 47 i0 (.agg #[.slice none 0 0, .bool false]) 2 32 Try.underlying22 hinf hz0 hz1 hz2 rfl (by decide) _ 0 [] rfl HE7.out _ _ _ (cellsOf wB b off ((k + 1) * 2)) rfl HCl1.out HNs7.out HOn1.out (by unfold maxLen; omega) (by omega) (by simp) ?_))
          intro v8 w8 hown8 hgrow8
          have p8 := ((Below.refl w7.heap.size w7).alloc (Nat.le_refl _) _).grown hgrow8 (by simp) (fun q hq => by simp [Value.ownBlock] at hq; omega)
          have P8 := hid (P7.out.trans (p8.mono hsz7))
          have HB8 := hid (HB7.out.trans (p8.mono HB7.out.size))
          obtain ⟨R8, rc8, rfl, hrc8, hG8⟩ := HCp1.out w8 w7.heap.size v8 (by simpa using hown8) P8.out
          have HB9 := hid (HBk.out w8 R8 rc8 hG8)
          have e8 : w8.cell? ⟨b, off, none⟩ = some (.slice A0 d c0) := by rw [P8.out.cell (p := ⟨b, off, none⟩) hbl]; exact HC0.out
          clear hown8 hgrow8 p8 hG8 hrc8 HE7 HNs7 HCl1 m7 d7 e7
          go_wp2_with fail
          refine HB9.out.mono ?_
          rintro e w9 ⟨n9, rfl, rfl⟩
          have HB9' := hid (below_drewN HB8.out n9)
          go_wp2_with fail
          refine (HNk.out _).mono ?_
          rintro e w10 ⟨rfl, rfl⟩
          go_wp2
          go_roundw
          case rel => exact ⟨k + 1, by omega, by go_num, by first | (rw [HEn2.out]; go_num) | rw [HEn2.out], HB9'⟩
          case measure => simp [intOf]; omega
        | false =>
          have he1 : en1 = en + 1 := by rw [HEk.out, if_neg (by simpa using hsq)]
          have HEn2 := hid (HEn1.out.trans he1)
          have hbo' : (en : Int) + 1 ≤ (bd : Int) := by omega
          clear HEk he1 HEn1
          go_wp2_with (at_builtin; (refine wpList_append_src rfl _ _ 22 rfl w7.heap.size 47 i0 (.agg #[.slice none 0 0, .bool false]) 2 32 Try.underlying22 hinf hz0 hz1 hz2 rfl (by decide) _ 0 [] rfl HE7.out _ _ _ (cellsOf wB b off ((k + 1) * 2)) rfl HCl1.out HNs7.out HOn1.out (by unfold maxLen; omega) (by omega) (by simp) ?_))
          intro v8 w8 hown8 hgrow8
          have p8 := ((Below.refl w7.heap.size w7).alloc (Nat.le_refl _) _).grown hgrow8 (by simp) (fun q hq => by simp [Value.ownBlock] at hq; omega)
          have P8 := hid (P7.out.trans (p8.mono hsz7))
          have HB8 := hid (HB7.out.trans (p8.mono HB7.out.size))
          obtain ⟨R8, rc8, rfl, hrc8, hG8⟩ := HCp1.out w8 w7.heap.size v8 (by simpa using hown8) P8.out
          have HB9 := hid (HBk.out w8 R8 rc8 hG8)
          have e8 : w8.cell? ⟨b, off, none⟩ = some (.slice A0 d c0) := by rw [P8.out.cell (p := ⟨b, off, none⟩) hbl]; exact HC0.out
          clear hown8 hgrow8 p8 hG8 hrc8 HE7 HNs7 HCl1 m7 d7 e7
          go_wp2_with fail
          refine HB9.out.mono ?_
          rintro e w9 ⟨n9, rfl, rfl⟩
          have HB9' := hid (below_drewN HB8.out n9)
          go_wp2_with fail
          refine (HNk.out _).mono ?_
          rintro e w10 ⟨rfl, rfl⟩
          go_wp2
          go_roundw
          case rel => exact ⟨k + 1, by omega, by go_num, by first | (rw [HEn2.out]; go_num) | rw [HEn2.out], HB9'⟩
          case measure => simp [intOf]; omega
      · obtain rfl : k = g.length := by omega
        have P9 := PB
        generalize errN 16777216 g g.length = en at *
        have b0 := (HBx.out _ P9.out).1
        have b1 := (HBx.out _ P9.out).2
        by_cases h300 : 300 < l.length
        · have h3' : (300 : Int) < (l.length : Int) := by omega
          clear h300
          go_wp2
          go_ret
          exact ⟨HB0.out.trans (P9.out.mono HB0.out.size), rfl⟩
        · have h3' : (l.length : Int) ≤ 300 := by omega
          have HIw := hid (fun W (hb : Below wB.heap.size wB W) => (HI.out (by omega)).below hb)
          have HQ := hid (gQntP_any A l lc o u _ (HIw.out _ P9.out))
          clear h300
          rcases portE_cases l o u 0 with hp | hp
          · obtain ⟨hl, ho, hu, _⟩ := portE_ok hp
            have hq1 := qTo_lt l o u l.length hl.pos
            have hq2 := hl.len
            rw [show qntV l o u = (((qTo l o u l.length : Nat) : Int), 0) from if_pos hp] at HQ
            have HC := hid (fun (p : Nat) (hp9 : p ≤ 100) => gCostP_any A l lc o u (p : Int) _ (HIw.out _ P9.out))
            have HC := hid (fun (p : Nat) (hp9 : p ≤ 100) => (show Calls Try.prog 36 #[.slice A l.length lc, .int .i64 o, .int .i64 u, .int .i64 (p : Int)] _ (PairG _ (costL l o u p, 0)) from by
              have := HC.out p hp9
              rw [costV_ok6 ((portE_p hp p hp9))] at this; exact this))
            have HT := hid (fun (p : Nat) (hp9 : p ≤ 100) => gBstP_any A l lc o u (p : Int) _ (HIw.out _ P9.out))
            have HT := hid (fun (p : Nat) (hp9 : p ≤ 100) => (show Calls Try.prog 42 #[.slice A l.length lc, .int .i64 o, .int .i64 u, .int .i64 (p : Int)] _ (BoolG _ (decide (costL l o u p = costL l o u (qTo l o u l.length)), 0)) from by
              have := HT.out p hp9
              rw [bstV_ok6 ((portE_p hp p hp9))] at this; exact this))
            have HAll := hid (fun p => best_all hl o u ho.1 hu.1 p)
            have HFst := hid (fun p hh => qTo_first l o u l.length p hh)
            have HCq := hid (HC.out (qTo l o u l.length) (by omega))
            generalize hqq : qTo l o u l.length = qq at *
            generalize hlst : costL l o u qq = lst at *
            clear hqq hlst hl ho hu hp hq1
            go_wp2_with fail
            refine HQ.out.mono ?_
            rintro e w1 ⟨rfl, rfl⟩
            go_wp2_with fail
            refine HCq.out.mono ?_
            rintro e w1 ⟨rfl, rfl⟩
            go_wp2
            go_loop [25] (fun i => ∃ p : Nat, p ≤ 101 ∧ i = .int .i64 p) (fun i => 101 - (intOf i).toNat)
            case atStart => exact ⟨0, by omega, rfl⟩
            case round =>
              obtain ⟨p, hp1, rfl⟩ := hrel
              by_cases hlt : p ≤ 100
              · have hlt' : (p : Int) ≤ 100 := by omega
                have HCp := hid (HC.out p hlt)
                have HTp := hid (HT.out p hlt)
                have ha := HAll.out p
                have hf := HFst.out p
                clear hlt
                generalize costL l o u p = cp at *
                by_cases hcp : cp = lst
                · have hpq : ¬ p < qq := fun hh => by have := hf hh; omega
                  rw [decide_eq_true hcp] at HTp
                  have dq : decide (p < qq) = false := decide_eq_false hpq
                  subst hcp
                  clear hf hpq ha
                  go_wp2_with fail
                  refine HCp.out.mono ?_
                  rintro e w1 ⟨rfl, rfl⟩
                  go_wp2_with fail
                  refine HTp.out.mono ?_
                  rintro e w1 ⟨rfl, rfl⟩
                  go_wp2
                  go_round
                  case rel => exact ⟨p + 1, by omega, by go_num⟩
                  case measure => simp [intOf]; omega
                · rw [decide_eq_false hcp] at HTp
                  have hlc : lst < cp := by omega
                  have he : (cp == lst) = false := by rw [beq_eq_false_iff_ne]; exact hcp
                  have hlc2 : decide (cp < lst) = false := decide_eq_false (by omega)
                  clear hf hcp
                  by_cases hpq : p < qq
                  · have dq : decide (p < qq) = true := decide_eq_true hpq
                    clear hpq
                    go_wp2_with fail
                    refine HCp.out.mono ?_
                    rintro e w1 ⟨rfl, rfl⟩
                    go_wp2_with fail
                    refine HTp.out.mono ?_
                    rintro e w1 ⟨rfl, rfl⟩
                    go_wp2
                    go_round
                    case rel => exact ⟨p + 1, by omega, by go_num⟩
                    case measure => simp [intOf]; omega
                  · have dq : decide (p < qq) = false := decide_eq_false hpq
                    clear hpq
                    go_wp2_with fail
                    refine HCp.out.mono ?_
                    rintro e w1 ⟨rfl, rfl⟩
                    go_wp2_with fail
                    refine HTp.out.mono ?_
                    rintro e w1 ⟨rfl, rfl⟩
                    go_wp2
                    go_round
                    case rel => exact ⟨p + 1, by omega, by go_num⟩
                    case measure => simp [intOf]; omega
              · obtain rfl : p = 101 := by omega
                go_wp2
                go_ret
                exact ⟨HB0.out.trans (P9.out.mono HB0.out.size), rfl⟩
          · rw [show qntV l o u = (0, 1) by unfold qntV; rw [hp]; rfl] at HQ
            clear hp
            go_wp2_with fail
            refine HQ.out.mono ?_
            rintro e w1 ⟨rfl, rfl⟩
            go_wp2
            go_ret
            exact ⟨HB0.out.trans (P9.out.mono HB0.out.size), rfl⟩
end Go.Proofs.Ytfjncmhbpfcdiaa
