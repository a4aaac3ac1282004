/- The document's copy of a table, each row in a block of its own: chapter 8. -/
import Derived.Test.YtbffdpcogfmomaaVaRows
import Derived.Test.YtbffdpcogfmomaaAppend
set_option linter.unusedVariables false
namespace Go.Proofs.Ytbffdpcogfmomaa
open Go.RowKit

/-- A table of the call's own: row a lies in the block G a. -/
structure WayT (w : World) (base n : Nat) (v : Value) (G C : Nat → Nat) (R : Nat → List Int) (k : Nat) : Prop where
  out : ∃ vals : List Value, w.ownsRow base 23 1 v k vals ∧ ∀ i, i < k → vals[i]? = some (.slice (some ⟨G i, 0, none⟩) n (C i))
  rows : ∀ i, i < k → Own w base (.slice (some ⟨G i, 0, none⟩) n (C i)) (R i)
  len : ∀ i, i < k → (R i).length = n
  inj : ∀ i j, i < k → j < k → G i = G j → i = j
theorem WayT.nil (w : World) (base n : Nat) (G C : Nat → Nat) (R : Nat → List Int) : WayT w base n (.slice none 0 0) G C R 0 := ⟨⟨[], ⟨rfl, .inl ⟨rfl, rfl⟩⟩, fun i hi => by omega⟩, fun i hi => by omega, fun i hi => by omega, fun i j hi => by omega⟩
theorem WayT.below {w w' : World} {base n : Nat} {v : Value} {G C : Nat → Nat} {R : Nat → List Int} {k : Nat} (h : WayT w base n v G C R k) (hb : Below w.heap.size w w') : WayT w' base n v G C R k := by
  obtain ⟨vals, h1, h2⟩ := h.out
  exact ⟨⟨vals, own_below h1 hb, h2⟩, fun i hi => (h.rows i hi).below hb, h.len, h.inj⟩
theorem WayT.lt {w : World} {base n : Nat} {v : Value} {G C : Nat → Nat} {R : Nat → List Int} {k : Nat} (h : WayT w base n v G C R k) (hn : 0 < n) (i : Nat) (hi : i < k) : base ≤ G i ∧ ∃ cur, w.heap[G i]? = some (.cells cur 3 (0, 0)) := by
  obtain ⟨g, c, cur, hv, hg, hh, _⟩ := own_some (h.rows i hi) (by rw [h.len i hi]; exact hn)
  simp only [Value.slice.injEq, Option.some.injEq, Addr.mk.injEq, and_true] at hv
  obtain ⟨rfl, _⟩ := hv
  exact ⟨hg, cur, hh⟩
theorem src_ints {w : World} {A : Option Addr} {xs : List Int} (h : Ints w A xs) : xs.length = 0 ∨ ∃ ad, A = some ad ∧ ∀ (j : Nat) (u : Value), (xs.map (Value.int .i64))[j]? = some u → w.cell? (ad.add j) = some u := by
  rcases h.at_ with rfl | ⟨b, off, rfl, hc⟩
  · exact .inl rfl
  · refine .inr ⟨_, rfl, fun j u hu => ?_⟩
    have hj : j < xs.length := by
      rcases Nat.lt_or_ge j xs.length with h | h
      · exact h
      · rw [List.getElem?_eq_none (by simpa using h)] at hu; cases hu
    have e : (⟨b, off, none⟩ : Addr).add j = ⟨b, off + j, none⟩ := by
      unfold Addr.add; split
      · simp_all
      · rfl
    rw [e, hc j hj, ← hu, List.getElem?_map, List.getElem?_eq_getElem hj]
    simp
theorem ints_one (xs : List Int) : ∀ u ∈ xs.map (Value.int .i64), u.oneCell' = true := by
  intro u hu
  obtain ⟨x, _, rfl⟩ := List.mem_map.1 hu
  rfl
/-- A table whose rows are as long as it. -/
structure SqR (t : Tbl) (n : Nat) : Prop where
  len : t.length = n
  le : n ≤ 7
  rows : ∀ i, i < n → (tR t i).length = n
theorem Sq.r {t : Tbl} {n : Nat} (h : Sq t n) : SqR t n := ⟨h.len, h.le, h.rows⟩
theorem TabAt.sqR {w : World} {a : Option Addr} {t : Tbl} {n : Nat} (h : TabAt w a t) (hs : SqR t n) (h0 : 0 < n) : ∃ b off, a = some ⟨b, off, none⟩ ∧ ∀ i, i < n → ∃ b2 o2 c, w.cell? ⟨b, off + i, none⟩ = some (.slice (some ⟨b2, o2, none⟩) n c) ∧ Ints w (some ⟨b2, o2, none⟩) (tR t i) ∧ ∀ j, j < n → w.cell? ⟨b2, o2 + j, none⟩ = some (.int .i64 (tA t i j)) := by
  obtain ⟨b, off, rfl, hc⟩ := h.open_ (by rw [hs.len]; exact h0)
  refine ⟨b, off, rfl, fun i hi => ?_⟩
  obtain ⟨A, c, h1, h2⟩ := hc i (by rw [hs.len]; exact hi)
  have hr := hs.rows i hi
  obtain ⟨b2, o2, rfl, h3⟩ := h2.at' (by rw [hr]; exact h0)
  rw [hr] at h1
  exact ⟨b2, o2, c, h1, h2, fun j hj => h3 j (by rw [hr]; exact hj)⟩
set_option maxRecDepth 100000 in
set_option maxHeartbeats 4000000 in
theorem rCopy_sqR (a : Option Addr) (t : Tbl) (cap n : Nat) (w : World) (h : TabAt w a t) (hs : SqR t n) (h1 : 1 ≤ n) : Calls Try.prog 35 #[.slice a n cap] w (fun en w' => Below w.heap.size w w' ∧ ∃ B d G C, en = .returned (.slice B n d) ∧ WayT w' w.heap.size n (.slice B n d) G C (tR t) n) := by
  obtain ⟨i0, hinf, hz0, hz1, hz2⟩ := info_parts int_info
  obtain ⟨i2, hinf2, hy0, hy1, hy2⟩ := info_parts ints_info
  have hn7 := hs.le
  have HH := hid h
  have HS := hid hs
  clear h hs
  go_enter Try.func35, Try.ntmps35
  go_wp2_with fail
  go_loopw [3, 4] (fun v i wr => ∃ (k : Nat) (G C : Nat → Nat), k ≤ n ∧ i = .int .i64 k ∧ Hid (WayT wr w.heap.size n v G C (tR t) k) ∧ Hid (Below w.heap.size w wr)) (fun _ i _ => n - (intOf i).toNat)
  case atStart => exact ⟨0, fun _ => 0, fun _ => 0, Nat.zero_le _, rfl, WayT.nil _ _ _ _ _ _, Below.refl _ _⟩
  case round =>
    obtain ⟨k, G, C, hk, rfl, HW, HB⟩ := hrel
    by_cases hlt : k < n
    · obtain ⟨b, off, rfl, hc⟩ := (HH.out.below HB.out).sqR HS.out (by omega)
      obtain ⟨b2, o2, c2, g1, gI, _⟩ := hc k hlt
      have hal := (Below.refl wr.heap.size wr).alloc (Nat.le_refl _) (.cells #[] 3)
      have hrl := HS.out.rows k hlt
      have HSr := hid (src_ints (gI.below hal))
      rw [hrl] at HSr
      have HOn := hid (ints_one (tR t k))
      have HLn := hid (show ((tR t k).map (Value.int .i64)).length = n * 1 by rw [List.length_map, hrl, Nat.mul_one])
      have HRL := hid hrl
      have hbb := HB.out.size
      have q1 : (k : Int) < (n : Int) := by omega
      have HE := hid (show (wr.alloc (.cells #[] 3)).ownsRow wr.heap.size 3 1 (.slice (some ⟨wr.heap.size, 0, none⟩) 0 0) 0 [] from World.ownsRow_lit wr #[] 0 (Nat.le_refl _) (by decide) rfl)
      have Hal := hid hal
      have g1' := (hal.cell (cell_lt g1)).trans g1
      clear hc gI hal hrl g1
      go_wp2_with (at_builtin; (refine wpList_append_src rfl _ _ 23 rfl wr.heap.size 3 i0 (.int .i64 0) 1 8 Try.underlying23 hinf hz0 hz1 hz2 rfl (by decide) _ 0 [] rfl HE.out _ n c2 ((tR t k).map (Value.int .i64)) rfl HLn.out HSr.out HOn.out (by unfold maxLen; omega) (by omega) (by simp) ?_))
      intro v4 w4 hown4 hgrow4
      have O4 : Own w4 wr.heap.size v4 (tR t k) := by
        unfold Own
        rw [HRL.out]
        simpa using hown4
      have p4 : Below wr.heap.size wr w4 := Hal.out.grown hgrow4 (by simp) (fun q hq => by simp [Value.ownBlock] at hq; omega)
      obtain ⟨g4, c4, cur4, hv4, hg4, hh4, _⟩ := own_some O4 (by rw [HRL.out]; omega)
      rw [HRL.out] at hv4
      subst hv4
      have hW4 := HW.out.below p4
      obtain ⟨vals, hr1, hr2⟩ := hW4.out
      have HR2 := hid hr2
      have HW4 := hid hW4
      have HO4 := hid O4
      have hw4 : wr.heap.size ≤ w4.heap.size := p4.size
      have HB4 := hid (HB.out.trans (p4.mono HB.out.size))
      have hbs4 : w.heap.size ≤ w4.heap.size := HB4.out.size
      have hl4 : g4 < w4.heap.size := lt_block hh4
      clear hown4 hgrow4 O4 p4 hr2 hW4 hh4
      go_wp2_with (at_builtin; refine wpList_append_own _ rfl _ _ 22 rfl w.heap.size 23 i2 (.slice none 0 0) 1 24 Try.underlying22 hinf2 hy0 hy1 hy2 rfl (by decide) _ _ _ rfl (hr1.alloc _) ⟨w4.heap.size, 0, none⟩ 1 1 [.slice (some ⟨g4, 0, none⟩) n c4] rfl rfl ?c1 ?c2 ?c3 ?c4 ?c5 ?_)
      case c1 => exact cell_one_new _ _ _
      case c2 => simp [Value.oneCell']
      case c3 => unfold maxLen; omega
      case c4 => omega
      case c5 => simp; omega
      intro v' w6 hown6 hgrow6 _
      have hal6 := (Below.refl w4.heap.size w4).alloc (Nat.le_refl _) (.cells #[.slice (some ⟨g4, 0, none⟩) n c4] 23)
      have p6 := hid ((HB4.out.alloc hbs4 (.cells #[.slice (some ⟨g4, 0, none⟩) n c4] 23)).grown hgrow6 (by simp; omega) (fun q hq => by have := (hr1.lt q hq).1; omega))
      have hr6 := own_below hr1 hal6
      have T6 := hid (show WayT w6 w.heap.size n v' (fun i => if i = k then g4 else G i) (fun i => if i = k then c4 else C i) (tR t) (k + 1) by
        have hvl : vals.length = k := by have := hr1.1; omega
        refine ⟨⟨vals ++ [.slice (some ⟨g4, 0, none⟩) n c4], hown6, fun i hi => ?_⟩, fun i hi => ?_, fun i hi => HS.out.rows i (by omega), fun i j hi hj e => ?_⟩
        · by_cases h : i = k
          · subst h; rw [List.getElem?_append_right (by omega), hvl]; simp
          · rw [List.getElem?_append_left (by omega), if_neg h, if_neg h]; exact HR2.out i (by omega)
        · by_cases h : i = k
          · subst h
            rw [if_pos rfl, if_pos rfl]
            have := own_weak HO4.out HB.out.size
            rw [HRL.out] at this
            refine own_grown_rows hr6 (u := .slice (some ⟨g4, 0, none⟩) n c4) (Own.below ?_ hal6) hgrow6
            unfold Own
            rw [HRL.out]; exact this
          · rw [if_neg h, if_neg h]
            exact own_grown_rows hr6 ((HW4.out.rows i (by omega)).below hal6) hgrow6
        · by_cases h : i = k <;> by_cases h2 : j = k
          · omega
          · rw [if_pos h, if_neg h2] at e
            obtain ⟨_, cur, hh⟩ := HW.out.lt (by omega) j (by omega)
            have := lt_block hh
            omega
          · rw [if_neg h, if_pos h2] at e
            obtain ⟨_, cur, hh⟩ := HW.out.lt (by omega) i (by omega)
            have := lt_block hh
            omega
          · rw [if_neg h, if_neg h2] at e
            exact HW.out.inj i j (by omega) (by omega) e)
      clear hown6 hgrow6 hal6 hr6 hr1
      go_wp2
      go_roundw
      case rel => exact ⟨k + 1, _, _, by omega, by go_num, T6, p6⟩
      case measure => simp [intOf]; omega
    · obtain rfl : k = n := by omega
      obtain ⟨vals, hr1, hr2⟩ := HW.out.out
      obtain ⟨B, d, hv⟩ : ∃ B d, u3 = .slice B k d := by
        rcases hr1.2 with ⟨hv, hn⟩ | ⟨g, c, cur, hv, _⟩
        · exact ⟨none, 0, by rw [hv, hn]⟩
        · exact ⟨_, _, hv⟩
      subst hv
      clear hr1 hr2
      go_wp2
      go_ret
      exact ⟨HB.out, B, d, G, C, rfl, HW.out⟩
theorem rCopy_sq (a : Option Addr) (t : Tbl) (cap n : Nat) (w : World) (h : TabAt w a t) (hs : Sq t n) (h1 : 1 ≤ n) : Calls Try.prog 35 #[.slice a n cap] w (fun en w' => Below w.heap.size w w' ∧ ∃ B d G C, en = .returned (.slice B n d) ∧ WayT w' w.heap.size n (.slice B n d) G C (tR t) n) := rCopy_sqR a t cap n w h hs.r h1
end Go.Proofs.Ytbffdpcogfmomaa
