/- Add of package order. -/
import Derived.Test.YtkepjoociidkcaaOrUntil
import Derived.Test.YtkepjoociidkcaaOrL
import Derived.Deep.RegionHeld3
import Derived.Deep.RegionLawGrows
set_option linter.unusedVariables false
namespace Go.Proofs.Ytkepjoociidkcaa
open Go.RowKit

/-- A box with a fact. -/
theorem fctAt_new (w : World) (x : Fct) (t : TypeId) : FctAt (w.alloc (.cells #[.int .i64 x.a, .int .i64 x.c, .int .i64 x.f, .int .i64 x.t, .int .i64 x.m] t)) w.heap.size 0 x := by
  refine ⟨?_, ?_, ?_, ?_, ?_⟩ <;> go_simp
def addL (l : List Fct) (x : Fct) : List Fct × Int := if validE l = 0 then (if validE (l ++ [x]) = 0 then (l ++ [x], 0) else ([], validE (l ++ [x]))) else ([], validE l)
/-- Facts of the call's own and an error. -/
def FactsO (w : World) (base : Nat) (x : List Fct × Int) (en : Ending) (w' : World) : Prop := Below base w w' ∧ ∃ A c, en = .returned (.tuple #[.slice A x.1.length c, .int .i64 x.2]) ∧ x.1.length ≤ c ∧ OwnF w' base (.slice A x.1.length c) x.1
theorem FactsAt.olds {w : World} {a : Option Addr} {l : List Fct} (h : FactsAt w a l) : ∀ b, a = some b → ∀ j u, (fcCells l)[j]? = some u → w.cell? (b.add j) = some u := by
  rcases h.at_ with rfl | ⟨b, off, rfl, hc⟩
  · intro b _ j u hj; simp [fcCells] at hj
  · intro b' e j u hj
    cases e
    exact FactsAt.news hc j u hj

set_option maxRecDepth 100000 in
set_option maxHeartbeats 4000000 in
theorem Add_any (a : Option Addr) (l : List Fct) (cap : Nat) (x : Fct) (w : World) (hl : FactsAt w a l) (hcap : l.length ≤ cap) :
  Calls Try.prog 15 #[.slice a l.length cap, .agg #[.int .i64 x.a, .int .i64 x.c, .int .i64 x.f, .int .i64 x.t, .int .i64 x.m]] w (FactsO w w.heap.size (addL l x)) := by
  obtain ⟨i0, hinf, hz0, hz1, hz2⟩ := info_parts fc_info
  have hlen := hl.len
  have hB0 := below_new w (.cells #[.int .i64 x.a, .int .i64 x.c, .int .i64 x.f, .int .i64 x.t, .int .i64 x.m] 24)
  have HX := hid (fctAt_new w x 24)
  have HV := hid (validate_any a l cap _ (hl.below hB0))
  have HA := hid (show addL l x = if validE l = 0 then (if validE (l ++ [x]) = 0 then (l ++ [x], 0) else ([], validE (l ++ [x]))) else ([], validE l) from rfl)
  by_cases h0 : validE l = 0
  · have HA := hid ((HA.out).trans (if_pos h0))
    have h60 := (validE_ok h0).1
    rw [h0] at HV
    have HL := hid hl
    have hB0h := hid hB0
    clear h0 hl hB0
    go_enter Try.func15, Try.ntmps15
    go_wp2_with fail
    refine HV.out.mono ?_
    rintro e w1 ⟨q1, rfl⟩
    have p1 := hB0h.out.trans (q1.mono (by simp))
    obtain ⟨c0, c1, c2, c3, c4⟩ := HX.out.below q1
    simp only [Nat.zero_add] at c1 c2 c3 c4
    have HO := hid (fun W (h : Below w1.heap.size w1 W) => FactsAt.olds ((HL.out.below p1).below h))
    have hnone : a = none → l.length = 0 ∧ l.length = 0 := by
      intro e
      rcases HL.out.at_ with h | ⟨b, off, h, _⟩
      · rw [h]; exact ⟨rfl, rfl⟩
      · rw [e] at h; cases h
    have HKp := hid (fun (w' : World) (hb : Below w1.heap.size w1 w') => (show w'.cell? ⟨w.heap.size, 0, none⟩ = some (.int .i64 x.a) ∧ w'.cell? ⟨w.heap.size, 1, none⟩ = some (.int .i64 x.c) ∧ w'.cell? ⟨w.heap.size, 2, none⟩ = some (.int .i64 x.f) ∧ w'.cell? ⟨w.heap.size, 3, none⟩ = some (.int .i64 x.t) ∧ w'.cell? ⟨w.heap.size, 4, none⟩ = some (.int .i64 x.m) ∧ Below w1.heap.size w1 w' from
      ⟨by rw [hb.cell (cell_lt c0)]; exact c0, by rw [hb.cell (cell_lt c1)]; exact c1, by rw [hb.cell (cell_lt c2)]; exact c2, by rw [hb.cell (cell_lt c3)]; exact c3, by rw [hb.cell (cell_lt c4)]; exact c4, hb⟩))
    have hfl := fcCells_len l
    have hs1 := p1.size
    have l0 : (0 : Int) ≤ (l.length : Int) := by omega
    have l1 : (l.length : Int) ≤ (cap : Int) := by omega
    have hr : Below w1.heap.size w1 w1 := Below.refl _ _
    have HNn := hid hnone
    have HFl := hid hfl
    clear hnone hfl
    go_wp2
    go_region_held3 (fun w' => w'.cell? ⟨w.heap.size, 0, none⟩ = some (.int .i64 x.a) ∧ w'.cell? ⟨w.heap.size, 1, none⟩ = some (.int .i64 x.c) ∧ w'.cell? ⟨w.heap.size, 2, none⟩ = some (.int .i64 x.f) ∧ w'.cell? ⟨w.heap.size, 3, none⟩ = some (.int .i64 x.t) ∧ w'.cell? ⟨w.heap.size, 4, none⟩ = some (.int .i64 x.m) ∧ Below w1.heap.size w1 w')
      (first | exact HKp.out _ hr.drew | exact HKp.out _ hr | assumption | exact HKp.out _ (Below.drew (below_new _ _)) | exact HKp.out _ (Below.alloc hr.drew (by simp) _) | exact HKp.out _ (below_new _ _) | exact HKp.out _ p4)
      (first
        | (refine step_append_grows (by rfl) _ _ 22 (by rfl) 24 i0 (.agg #[.int .i64 0, .int .i64 0, .int .i64 0, .int .i64 0, .int .i64 0]) 5 40 Try.underlying22 hinf hz0 hz1 hz2 rfl (by decide) a l.length l.length (fcCells l) (by rfl) HNn.out HFl.out (HO.out _ (Below.drew (below_new _ _))) ⟨w1.heap.size, 0, none⟩ 1 1 [.int .i64 x.a, .int .i64 x.c, .int .i64 x.f, .int .i64 x.t, .int .i64 x.m] (by rfl) (by rfl) (World.news_of_block (cs := #[.int .i64 x.a, .int .i64 x.c, .int .i64 x.f, .int .i64 x.t, .int .i64 x.m]) (t := 24) (fr := (0, 0)) (heap_alloc_new w1 _)) (by simp [Value.oneCell']) (by omega) (by unfold maxLen; omega) (by omega) ?_; intro v4 w4 hown4 hgrow; have p4 : Below w1.heap.size w1 w4 := (Below.drew (below_new _ _)).grown hgrow (by simp) (fun q hq => by cases hq)))
    have HO2 := hid (show OwnF w4 w.heap.size v4 (l ++ [x]) by
      unfold OwnF
      rw [fcCells_snoc, List.length_append, List.length_singleton]
      exact own_weak hown4 (by simp; omega))
    have hl2 : (l ++ [x]).length ≤ 61 := by simp; omega
    clear hown4 hgrow HL HO HNn HFl HX HKp
    generalize l ++ [x] = l2 at *
    obtain ⟨A, c5, rfl, hc5⟩ := HO2.out.sl
    have hat := hid (HO2.out.at_ (by omega))
    have HV2 := hid (validate_any A l2 c5 w4 hat.out)
    have p5 := p1.trans (p4.mono hs1)
    by_cases h2 : validE l2 = 0
    · have HM := hid ((HA.out).trans (if_pos h2))
      rw [h2] at HV2
      clear h2
      go_wp2_with fail
      refine HV2.out.mono ?_
      rintro e w6 ⟨q6, rfl⟩
      have p6 := p5.trans (q6.mono p5.size)
      have HO6 := hid (own_below HO2.out q6)
      go_wp2
      go_ret2
      exact ⟨p6, A, c5, by rw [HM.out]; rfl, by rw [HM.out]; exact hc5, by rw [HM.out]; exact HO6.out⟩
    · have HM := hid ((HA.out).trans (if_neg h2))
      have h2' : (validE l2 != 0) = true := by simp [h2]
      clear h2
      generalize validE l2 = y at *
      go_wp2_with fail
      refine HV2.out.mono ?_
      rintro e w6 ⟨q6, rfl⟩
      have p6 := p5.trans (q6.mono p5.size)
      go_wp2
      go_ret2
      exact ⟨p6, none, 0, by rw [HM.out]; rfl, by rw [HM.out]; exact Nat.le_refl _, by rw [HM.out]; exact OwnF.nil _ _⟩
  · have HM := hid ((HA.out).trans (if_neg h0))
    have h0' : (validE l != 0) = true := by simp [h0]
    clear h0 hl
    generalize validE l = y at *
    go_enter Try.func15, Try.ntmps15
    go_wp2_with fail
    refine HV.out.mono ?_
    rintro e w1 ⟨q1, rfl⟩
    go_wp2
    go_ret2
    exact ⟨hB0.trans (q1.mono (by simp)), none, 0, by rw [HM.out]; rfl, by rw [HM.out]; exact Nat.le_refl _, by rw [HM.out]; exact OwnF.nil _ _⟩
end Go.Proofs.Ytkepjoociidkcaa
