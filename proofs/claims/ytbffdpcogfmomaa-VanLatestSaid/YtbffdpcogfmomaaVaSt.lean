/- Stops in memory; their tests: chapter 8. -/
import Derived.Test.YtbffdpcogfmomaaVaRL
set_option linter.unusedVariables false
namespace Go.Proofs.Ytbffdpcogfmomaa
open Go.RowKit

/-- A stop: Open, Close, Stay, Boxes. -/
structure St where
  op : Int
  cl : Int
  sy : Int
  bx : Int
def stAt (l : List St) (i : Nat) : St := l[i]?.getD ⟨0, 0, 0, 0⟩
theorem stAt_mem {l : List St} {i : Nat} (h : i < l.length) : stAt l i ∈ l := by simp [stAt, h]
theorem mem_stAt {l : List St} {s : St} (h : s ∈ l) : ∃ i, i < l.length ∧ stAt l i = s := by
  obtain ⟨k, hk, he⟩ := List.getElem_of_mem h
  exact ⟨k, hk, by simp [stAt, hk, he]⟩
def i64B (x : Int) : Prop := -9223372036854775808 ≤ x ∧ x ≤ 9223372036854775807
/-- A slice that reads as stops. -/
structure StsAt (w : World) (a : Option Addr) (l : List St) : Prop where
  len : l.length ≤ 140737488355328
  at_ : l = [] ∨ ∃ b off, a = some ⟨b, off, none⟩ ∧ ∀ i, i < l.length → w.cell? ⟨b, off + i * 4, none⟩ = some (.int .i64 (stAt l i).op) ∧ w.cell? ⟨b, off + i * 4 + 1, none⟩ = some (.int .i64 (stAt l i).cl) ∧ w.cell? ⟨b, off + i * 4 + 2, none⟩ = some (.int .i64 (stAt l i).sy) ∧ w.cell? ⟨b, off + i * 4 + 3, none⟩ = some (.int .i64 (stAt l i).bx)
  bd : ∀ s ∈ l, i64B s.op ∧ i64B s.cl ∧ i64B s.sy ∧ i64B s.bx
theorem StsAt.below {w w' : World} {a : Option Addr} {l : List St} (h : StsAt w a l) (hb : Below w.heap.size w w') : StsAt w' a l := by
  refine ⟨h.len, ?_, h.bd⟩
  rcases h.at_ with e | ⟨b, off, ha, hc⟩
  · exact .inl e
  · refine .inr ⟨b, off, ha, fun i hi => ?_⟩
    obtain ⟨h0, h1, h2, h3⟩ := hc i hi
    exact ⟨by rw [hb.cell (cell_lt h0)]; exact h0, by rw [hb.cell (cell_lt h1)]; exact h1, by rw [hb.cell (cell_lt h2)]; exact h2, by rw [hb.cell (cell_lt h3)]; exact h3⟩
theorem StsAt.open_ {w : World} {a : Option Addr} {l : List St} (h : StsAt w a l) (h0 : 0 < l.length) : ∃ b off, a = some ⟨b, off, none⟩ ∧ ∀ i, i < l.length → w.cell? ⟨b, off + i * 4, none⟩ = some (.int .i64 (stAt l i).op) ∧ w.cell? ⟨b, off + i * 4 + 1, none⟩ = some (.int .i64 (stAt l i).cl) ∧ w.cell? ⟨b, off + i * 4 + 2, none⟩ = some (.int .i64 (stAt l i).sy) ∧ w.cell? ⟨b, off + i * 4 + 3, none⟩ = some (.int .i64 (stAt l i).bx) := by
  rcases h.at_ with e | h
  · rw [e] at h0; simp at h0
  · exact h
def okSt (s : St) : Bool := ((zin s.op 0 10000 && zin s.cl 0 10000) && zin s.sy 0 10000) && zin s.bx 0 100
/-- The error of ways and stops. -/
def stsE (t : Tbl) (l : List St) : Int := if vaV t = 0 then (if l.length = t.length ∧ l.all okSt = true then 0 else 1) else vaV t
structure StsOk (l : List St) (n : Nat) : Prop where
  len : l.length = n
  all : ∀ s ∈ l, (0 ≤ s.op ∧ s.op ≤ 10000) ∧ (0 ≤ s.cl ∧ s.cl ≤ 10000) ∧ (0 ≤ s.sy ∧ s.sy ≤ 10000) ∧ 0 ≤ s.bx ∧ s.bx ≤ 100
theorem stsE_ok {t : Tbl} {l : List St} (h : stsE t l = 0) : Ways t ∧ StsOk l t.length := by
  unfold stsE at h
  split at h
  · rename_i h1
    split at h
    · rename_i h2
      refine ⟨(ways_iff t).1 h1, h2.1, fun s hs => ?_⟩
      have := List.all_eq_true.1 h2.2 s hs
      simp [okSt, zin] at this
      exact ⟨this.1.1.1, this.1.1.2, this.1.2, this.2⟩
    · cases h
  · rename_i h1; exact absurd h h1
theorem stsE_bad {t : Tbl} {l : List St} {k : Nat} (hv : vaV t = 0) (hk : k < l.length) (h : okSt (stAt l k) = false) : stsE t l = 1 := by
  unfold stsE
  rw [if_pos hv, if_neg]
  rintro ⟨_, e⟩
  have := List.all_eq_true.1 e _ (stAt_mem hk)
  rw [h] at this; cases this
set_option maxRecDepth 100000 in
set_option maxHeartbeats 2000000 in
theorem vPossible_any (s : St) (w : World) : Calls Try.prog 80 #[.agg #[.int .i64 s.op, .int .i64 s.cl, .int .i64 s.sy, .int .i64 s.bx]] w (BoolR w (okSt s)) := by
  obtain ⟨x, y, z, u⟩ := s
  have HB := hid ((Below.refl w.heap.size w).alloc (Nat.le_refl _) (.cells #[.int .i64 x, .int .i64 y, .int .i64 z, .int .i64 u] 105))
  have HE := hid (show okSt ⟨x, y, z, u⟩ = (((zin x 0 10000 && zin y 0 10000) && zin z 0 10000) && zin u 0 100) from rfl)
  have H1 := hid (fun w => vWithin_any x 0 10000 w)
  have H2 := hid (fun w => vWithin_any y 0 10000 w)
  have H3 := hid (fun w => vWithin_any z 0 10000 w)
  have H4 := hid (fun w => vWithin_any u 0 100 w)
  show Calls Try.prog 80 #[.agg #[.int .i64 x, .int .i64 y, .int .i64 z, .int .i64 u]] w _
  cases h1 : zin x 0 10000 with
  | false =>
    rw [h1] at HE H1
    go_enter Try.func80, Try.ntmps80
    go_wp2_with fail
    refine (H1.out _).mono ?_
    rintro e w1 ⟨rfl, rfl⟩
    go_wp2
    go_ret
    exact ⟨HB.out, ret_bool (by rw [HE.out]; simp)⟩
  | true =>
    cases h2 : zin y 0 10000 with
    | false =>
      rw [h1] at HE H1
      rw [h2] at HE H2
      go_enter Try.func80, Try.ntmps80
      go_wp2_with fail
      refine (H1.out _).mono ?_
      rintro e w1 ⟨rfl, rfl⟩
      go_wp2_with fail
      refine (H2.out _).mono ?_
      rintro e w1 ⟨rfl, rfl⟩
      go_wp2
      go_ret
      exact ⟨HB.out, ret_bool (by rw [HE.out]; simp)⟩
    | true =>
      cases h3 : zin z 0 10000 with
      | false =>
        rw [h1] at HE H1
        rw [h2] at HE H2
        rw [h3] at HE H3
        go_enter Try.func80, Try.ntmps80
        go_wp2_with fail
        refine (H1.out _).mono ?_
        rintro e w1 ⟨rfl, rfl⟩
        go_wp2_with fail
        refine (H2.out _).mono ?_
        rintro e w1 ⟨rfl, rfl⟩
        go_wp2_with fail
        refine (H3.out _).mono ?_
        rintro e w1 ⟨rfl, rfl⟩
        go_wp2
        go_ret
        exact ⟨HB.out, ret_bool (by rw [HE.out]; simp)⟩
      | true =>
        rw [h1] at HE H1
        rw [h2] at HE H2
        rw [h3] at HE H3
        generalize hb4 : zin u 0 100 = b4 at *
        go_enter Try.func80, Try.ntmps80
        go_wp2_with fail
        refine (H1.out _).mono ?_
        rintro e w1 ⟨rfl, rfl⟩
        go_wp2_with fail
        refine (H2.out _).mono ?_
        rintro e w1 ⟨rfl, rfl⟩
        go_wp2_with fail
        refine (H3.out _).mono ?_
        rintro e w1 ⟨rfl, rfl⟩
        go_wp2_with fail
        refine (H4.out _).mono ?_
        rintro e w1 ⟨rfl, rfl⟩
        go_wp2
        go_ret
        exact ⟨HB.out, ret_bool (by rw [HE.out]; simp)⟩
end Go.Proofs.Ytbffdpcogfmomaa
