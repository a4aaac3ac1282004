/- The document's own Close and Reopen. -/
import Derived.Test.YtejbokelbapfmaaClose
import Derived.Test.YtejbokelbapfmaaRefOpen
import Derived.Deep.RegionLaw
import Derived.Deep.RegionLawGrows
set_option linter.unusedVariables false
namespace Go.Proofs.Ytejbokelbapfmaa
open Go.RowKit

section
variable {w : World} {L : Int} {ra : Option Addr} {rs : List Int} {rc : Nat} {ca : Option Addr} {cs : List Int} {cc : Nat}
theorem rv_belowN {n : Nat} {w w' : World} {p : Addr} {v : Value} (h : w.cell? p = some v) (hb : Below n w w') (hp : p.block < n) : w'.cell? p = some (rv w' p) := rv_some (by rw [hb.cell hp]; exact h)
theorem CopyS.keepN {w' w2 : World} {n : Nat} (h : CopyS w L ra rs rc ca cs cc w') (hb : Below n w' w2) (hn : w.heap.size + 1 < n) : CopyS w L ra rs rc ca cs cc w2 := by
  obtain ⟨a0, a1, a2, b0, b1, b2, c0, c1, c2, p⟩ := h
  refine ⟨?_, ?_, ?_, ?_, ?_, ?_, ?_, ?_, ?_, p.trans (hb.mono (by omega))⟩
  · rw [hb.cell (by simp; omega)]; exact a0
  · rw [hb.cell (by simp; omega)]; exact a1
  · rw [hb.cell (by simp; omega)]; exact a2
  · exact rv_belowN b0 hb (by simp; omega)
  · exact rv_belowN b1 hb (by simp; omega)
  · exact rv_belowN b2 hb (by simp; omega)
  · rw [hb.frozen (by simp; omega)]; exact c0
  · rw [hb.frozen (by simp; omega)]; exact c1
  · rw [hb.frozen (by simp; omega)]; exact c2
end

theorem row_slice {w : World} {base : Nat} {e : TypeId} {s : Nat} {v : Value} {n : Nat} {xs : List Value} (h : w.ownsRow base e s v n xs) : ∃ A c, v = .slice A n c := by
  rcases h.2 with ⟨hv, hn⟩ | ⟨g, c, cur, hv, _⟩
  · exact ⟨none, 0, by rw [hv, hn]⟩
  · exact ⟨_, _, hv⟩

set_option maxRecDepth 100000 in
set_option maxHeartbeats 8000000 in
theorem rclose_any (L : Int) (ra : Option Addr) (rs : List Int) (rc : Nat) (ca : Option Addr) (cs : List Int) (cc : Nat) (d : Int) (w : World) (h : TermAt w L ra rs ca cs) :
  Calls Try.prog 41 #[.agg #[.int .i64 L, .slice ra rs.length rc, .slice ca cs.length cc], .int .i64 d] w (TermE w (closeL L rs cs d)) := by
  have S0 := CopyS.made w L ra rs rc ca cs cc
  have HN := hid (risOpen_any L ra rs rc ca cs cc d _ (h.below S0.below))
  have HS0 := hid S0
  have HR := hid (show closeL L rs cs d = if checkD L rs cs d ≠ 0 then ((0, [], []), checkD L rs cs d) else if d ∈ cs then ((0, [], []), 12) else if cs.length = 60 then ((0, [], []), 4) else ((L, rs, withTo cs d L.toNat), 0) from rfl)
  clear S0
  by_cases hz : checkD L rs cs d = 0
  · obtain ⟨hv, hd0, hd1⟩ := checkD_ok hz
    obtain ⟨v1, v2, v3, v4, v5, v6⟩ := validT_ok hv
    have hop : ∃ b, ropenL L rs cs d = (b, 0) := ⟨(ropenL L rs cs d).1, by rw [ropenL]; simp [hz]⟩
    obtain ⟨ob, hob⟩ := hop
    rw [hob] at HN
    have HHa := hid (fun (v : Int) (w' : World) (hb : Below w.heap.size w w') => has_any ca cc cs v w' (h.below hb).closed)
    have hrl : rs.length ≤ 1000 := by
      obtain ⟨s1, s2⟩ := (sorted_iff 0 7 rs).1 v4
      exact Nat.le_trans (asc_len 7 rs s1 s2) (by omega)
    have HCp := hid (fun (w' : World) (hb : Below w.heap.size w w') => copy_any L ra rs rc ca cs cc w' (h.below hb) hrl (by omega))
    have HR2 := hid (show closeL L rs cs d = if d ∈ cs then ((0, [], []), 12) else if cs.length = 60 then ((0, [], []), 4) else ((L, rs, withTo cs d L.toNat), 0) by rw [HR.out, if_neg (by simp [hz])])
    clear hz HR h v6 hv v3 v4 hd0 hd1 hob
    go_enter Try.func41, Try.ntmps41
    go_wp2_with fail
    refine HN.out.mono ?_
    rintro e w1 ⟨q1, rfl⟩
    have HS1 := hid (HS0.out.keep q1)
    obtain ⟨a0, a1, a2, b0, b1, b2, f0, f1, f2, _⟩ := HS1.out
    have HT := hid (set3_cells w1 (w.heap.size + 1) (.int .i64 0) (.slice none 0 0) (.slice none 0 0) _ _ _ b0 b1 b2)
    have HB := hid (((HS1.out.store 0 (.int .i64 0)).store 1 (.slice none 0 0)).store 2 (.slice none 0 0)).below
    clear q1 HN HS0
    go_wp2_with fail
    refine (HHa.out d _ HS1.out.below).mono ?_
    rintro e w' ⟨rfl, rfl⟩
    by_cases hm : d ∈ cs
    · have HR3 := hid (show closeL L rs cs d = ((0, [], []), 12) by rw [HR2.out, if_pos hm])
      rw [show memB d cs = true by simp [memB, hm]]
      obtain ⟨t0, t1, t2⟩ := HT.out
      clear hm HR2
      go_wp2
      refine bodyPost_ret (v := .tuple #[.agg #[.int .i64 0, .slice none 0 0, .slice none 0 0], .int .i64 12]) (by simp [results, Try.results41, go_sem, t0, t1, t2]) rfl ⟨HB.out, none, 0, none, 0, by rw [HR3.out]; rfl, by rw [HR3.out]; exact Own.nil _ _, by rw [HR3.out]; exact Own.nil _ _⟩
    · rw [show memB d cs = false by simp [memB, hm]]
      by_cases h60 : cs.length = 60
      · have HR3 := hid (show closeL L rs cs d = ((0, [], []), 4) by rw [HR2.out, if_neg hm, if_pos h60])
        have h60' : ((cs.length : Int) == 60) = true := by rw [beq_iff_eq]; omega
        obtain ⟨t0, t1, t2⟩ := HT.out
        clear hm HR2 h60
        go_wp2
        refine bodyPost_ret (v := .tuple #[.agg #[.int .i64 0, .slice none 0 0, .slice none 0 0], .int .i64 4]) (by simp [results, Try.results41, go_sem, t0, t1, t2]) rfl ⟨HB.out, none, 0, none, 0, by rw [HR3.out]; rfl, by rw [HR3.out]; exact Own.nil _ _, by rw [HR3.out]; exact Own.nil _ _⟩
      · obtain ⟨n, rfl⟩ := Int.eq_ofNat_of_zero_le (show 0 ≤ L by omega)
        have HR3 := hid (show closeL (n : Int) rs cs d = (((n : Int), rs, withTo cs d n), 0) by rw [HR2.out, if_neg hm, if_neg h60]; rfl)
        have h60' : ((cs.length : Int) == 60) = false := by rw [beq_eq_false_iff_ne]; omega
        obtain ⟨i0, hi, hz0, hz1, hz2⟩ := info_parts int_info
        clear hm HR2 h60 HT HB b0 b1 b2 f0 f1 f2
        go_wp2_with fail
        refine (HCp.out _ HS1.out.below).mono ?_
        rintro e w2 ⟨q2, vA, vB, rfl, oA, oB⟩
        obtain ⟨A, c, rfl⟩ := own_slice oA
        obtain ⟨B, c2, rfl⟩ := own_slice oB
        have hw1 : w.heap.size + 1 < w1.heap.size := cell_lt HS1.out.2.2.2.1
        have hs2 := q2.size
        have HA2 := hid oA
        have HS2 := hid (HS1.out.keep q2)
        have p3 := (Below.refl w2.heap.size w2).alloc (Nat.le_refl _) (.cells #[.int .i64 n, .slice A rs.length c, .slice none 0 0] 24)
        have a0 : (w2.alloc (.cells #[.int .i64 n, .slice A rs.length c, .slice none 0 0] 24)).cell? ⟨w.heap.size, 0, none⟩ = some (.int .i64 n) := (HS2.out.keep p3).1
        clear q2 oA oB HCp a1 a2
        go_wp2
        go_loopw [9] (fun i wr => ∃ (k : Nat) (v : Value), k ≤ n ∧ i = .int .i64 k ∧ wr.cell? ⟨w2.heap.size, 0, none⟩ = some (.int .i64 n) ∧ wr.cell? ⟨w2.heap.size, 1, none⟩ = some (.slice A rs.length c) ∧ wr.cell? ⟨w2.heap.size, 2, none⟩ = some v ∧ wr.frozen? ⟨w2.heap.size, 2, none⟩ = false ∧
          wr.ownsRow (w2.heap.size + 1) 3 1 v (withTo cs d k).length ((withTo cs d k).map (Value.int .i64)) ∧ Below w2.heap.size w2 wr) (fun i _ => n - (intOf i).toNat)
        case atStart => exact ⟨0, .slice none 0 0, Nat.zero_le _, rfl, by go_simp, by go_simp, by go_simp, by go_simp, ⟨rfl, .inl ⟨rfl, rfl⟩⟩, p3⟩
        case round =>
          clear p3 a0
          obtain ⟨k, v, hk, rfl, g0, g1, g2, fz, hown, hB2⟩ := hrel
          have HS := hid (HS2.out.keep hB2)
          obtain ⟨a0, a1, a2, b0, b1, b2, f0, f1, f2, _⟩ := HS.out
          have hwl : w2.heap.size < wr.heap.size := cell_lt g0
          have hw2 : w.heap.size + 1 < w2.heap.size := by omega
          by_cases hlt : k < n
          · have hlen := withTo_len cs d k
            have HTs := hid (show withTo cs d (k + 1) = if (k : Int) = d ∨ (k : Int) ∈ cs then withTo cs d k ++ [(k : Int)] else withTo cs d k from rfl)
            by_cases hin : (k : Int) = d ∨ (k : Int) ∈ cs
            · have HT2 := hid ((HTs.out).trans (if_pos hin))
              generalize withTo cs d k = pre at *
              clear b0 b1 b2 f0 f1 f2 HTs
              by_cases hkd : (k : Int) = d
              · have hkd' : ((k : Int) == d) = true := by simp [hkd]
                clear hin hkd
                go_wp2_with (at_builtin; refine wpList_append_own _ rfl _ _ 22 rfl (w2.heap.size + 1) 3 i0 (.int .i64 0) 1 8 Try.underlying22 hi hz0 hz1 hz2 rfl (by decide) _ _ _ rfl (hown.alloc _) ⟨wr.heap.size, 0, none⟩ 1 1 [.int .i64 (k : Int)] rfl rfl (cell_one_new _ _ _) (by simp [Value.oneCell']) (by unfold maxLen; omega) (by omega) (by simp; omega) ?_)
                intro v' w4 hown2 hgrow _
                obtain ⟨A4, c4, rfl⟩ := row_slice hown2
                have q4 := ((Below.refl (w2.heap.size + 1) wr).alloc (by omega) (.cells #[.int .i64 (k : Int)] 3)).grown hgrow (by simp; omega) (fun q hq => by have := (hown.lt q hq).1; omega)
                have p4 := hB2.trans (q4.mono (by omega))
                have g0' : w4.cell? ⟨w2.heap.size, 0, none⟩ = some (.int .i64 n) := by rw [q4.cell (by simp)]; exact g0
                have g1' : w4.cell? ⟨w2.heap.size, 1, none⟩ = some (.slice A rs.length c) := by rw [q4.cell (by simp)]; exact g1
                have g2' : w4.cell? ⟨w2.heap.size, 2, none⟩ = some v := by rw [q4.cell (by simp)]; exact g2
                have fz' : w4.frozen? ⟨w2.heap.size, 2, none⟩ = false := by rw [q4.frozen (by simp)]; exact fz
                have hw4 : w2.heap.size < w4.heap.size := cell_lt g0'
                clear hgrow hown g0 g1 g2 fz a0 a1 a2
                go_wp2
                go_roundw
                case rel => exact ⟨k + 1, .slice A4 (pre.length + 1) c4, by omega, by go_num, by go_simp, by go_simp, by go_simp, by go_simp, own_setCell (by rw [HT2.out]; simpa using hown2) _ (by simp) _, p4.setCell (by simp) _⟩
                case measure => simp [intOf]; omega
              · have hkd' : ((k : Int) == d) = false := by simp [hkd]
                have hmb : memB (k : Int) cs = true := by simp [memB]; exact hin.resolve_left hkd
                clear hin hkd
                go_wp2_with fail
                refine (HHa.out (k : Int) _ HS.out.below).mono ?_
                rintro e w' ⟨rfl, rfl⟩
                rw [hmb]
                clear hmb
                go_wp2_with (at_builtin; refine wpList_append_own _ rfl _ _ 22 rfl (w2.heap.size + 1) 3 i0 (.int .i64 0) 1 8 Try.underlying22 hi hz0 hz1 hz2 rfl (by decide) _ _ _ rfl (hown.alloc _) ⟨wr.heap.size, 0, none⟩ 1 1 [.int .i64 (k : Int)] rfl rfl (cell_one_new _ _ _) (by simp [Value.oneCell']) (by unfold maxLen; omega) (by omega) (by simp; omega) ?_)
                intro v' w4 hown2 hgrow _
                obtain ⟨A4, c4, rfl⟩ := row_slice hown2
                have q4 := ((Below.refl (w2.heap.size + 1) wr).alloc (by omega) (.cells #[.int .i64 (k : Int)] 3)).grown hgrow (by simp; omega) (fun q hq => by have := (hown.lt q hq).1; omega)
                have p4 := hB2.trans (q4.mono (by omega))
                have g0' : w4.cell? ⟨w2.heap.size, 0, none⟩ = some (.int .i64 n) := by rw [q4.cell (by simp)]; exact g0
                have g1' : w4.cell? ⟨w2.heap.size, 1, none⟩ = some (.slice A rs.length c) := by rw [q4.cell (by simp)]; exact g1
                have g2' : w4.cell? ⟨w2.heap.size, 2, none⟩ = some v := by rw [q4.cell (by simp)]; exact g2
                have fz' : w4.frozen? ⟨w2.heap.size, 2, none⟩ = false := by rw [q4.frozen (by simp)]; exact fz
                have hw4 : w2.heap.size < w4.heap.size := cell_lt g0'
                clear hgrow hown g0 g1 g2 fz a0 a1 a2
                go_wp2
                go_roundw
                case rel => exact ⟨k + 1, .slice A4 (pre.length + 1) c4, by omega, by go_num, by go_simp, by go_simp, by go_simp, by go_simp, own_setCell (by rw [HT2.out]; simpa using hown2) _ (by simp) _, p4.setCell (by simp) _⟩
                case measure => simp [intOf]; omega
            · have HT2 := hid ((HTs.out).trans (if_neg hin))
              have hkd' : ((k : Int) == d) = false := by simp; exact fun e => hin (.inl e)
              have hmb : memB (k : Int) cs = false := by simp [memB]; exact fun e => hin (.inr e)
              generalize withTo cs d k = pre at *
              clear b0 b1 b2 f0 f1 f2 HTs hin
              go_wp2_with fail
              refine (HHa.out (k : Int) _ HS.out.below).mono ?_
              rintro e w' ⟨rfl, rfl⟩
              rw [hmb]
              clear hmb
              go_wp2
              go_roundw
              case rel => exact ⟨k + 1, v, by omega, by go_num, g0, g1, g2, fz, by rw [HT2.out]; exact hown, hB2⟩
              case measure => simp [intOf]; omega
          · obtain rfl : k = n := by omega
            have HO5 := hid (show Own wr (w2.heap.size + 1) v (withTo cs d k) from hown)
            obtain ⟨B3, c3, rfl⟩ := own_slice HO5.out
            have HA5 := hid (own_below HA2.out hB2)
            obtain ⟨t0, t1, t2⟩ := set3_cells wr (w.heap.size + 1) (.int .i64 k) (.slice A rs.length c) (.slice B3 (withTo cs d k).length c3) _ _ _ b0 b1 b2
            have HB := hid (((HS.out.store 0 (.int .i64 k)).store 1 (.slice A rs.length c)).store 2 (.slice B3 (withTo cs d k).length c3)).below
            clear hown
            go_wp2
            refine bodyPost_ret (v := .tuple #[.agg #[.int .i64 k, .slice A rs.length c, .slice B3 (withTo cs d k).length c3], .int .i64 0]) (by simp [results, Try.results41, go_sem, t0, t1, t2]) rfl ⟨HB.out, A, c, B3, c3, by rw [HR3.out], ?_, ?_⟩
            · rw [HR3.out]
              exact own_weak (own_setCell (own_setCell (own_setCell HA5.out _ (by simp; omega) _) _ (by simp; omega) _) _ (by simp; omega) _) (by omega)
            · rw [HR3.out]
              exact own_weak (own_setCell (own_setCell (own_setCell HO5.out _ (by simp; omega) _) _ (by simp; omega) _) _ (by simp; omega) _) (by omega)
  · have HR2 := hid (show closeL L rs cs d = ((0, [], []), checkD L rs cs d) by rw [HR.out, if_pos hz])
    have hop : ∃ b, ropenL L rs cs d = (b, checkD L rs cs d) := ⟨(ropenL L rs cs d).1, by rw [ropenL]; simp [hz]⟩
    obtain ⟨ob, hob⟩ := hop
    rw [hob] at HN
    generalize checkD L rs cs d = x at *
    have hx : (x != 0) = true := by simp [hz]
    clear hz HR hob
    go_enter Try.func41, Try.ntmps41
    go_wp2_with fail
    refine HN.out.mono ?_
    rintro e w1 ⟨q1, rfl⟩
    have HS1 := hid (HS0.out.keep q1)
    obtain ⟨a0, a1, a2, b0, b1, b2, f0, f1, f2, _⟩ := HS1.out
    obtain ⟨t0, t1, t2⟩ := set3_cells w1 (w.heap.size + 1) (.int .i64 0) (.slice none 0 0) (.slice none 0 0) _ _ _ b0 b1 b2
    have HB := hid (((HS1.out.store 0 (.int .i64 0)).store 1 (.slice none 0 0)).store 2 (.slice none 0 0)).below
    clear q1
    go_wp2
    refine bodyPost_ret (v := .tuple #[.agg #[.int .i64 0, .slice none 0 0, .slice none 0 0], .int .i64 x]) (by simp [results, Try.results41, go_sem, t0, t1, t2]) rfl ⟨HB.out, none, 0, none, 0, by rw [HR2.out]; rfl, by rw [HR2.out]; exact Own.nil _ _, by rw [HR2.out]; exact Own.nil _ _⟩
end Go.Proofs.Ytejbokelbapfmaa
