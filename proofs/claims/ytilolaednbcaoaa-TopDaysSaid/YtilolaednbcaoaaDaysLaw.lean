/- The Go function Days of package term. -/
import Derived.Test.YtilolaednbcaoaaDaysWith
import Derived.Test.YtilolaednbcaoaaDaysLawM
import Derived.Test.YtilolaednbcaoaaSearch
set_option linter.unusedVariables false
namespace Go.Proofs.Ytilolaednbcaoaa
open Go.RowKit

def daysL (L : Int) (rs cs : List Int) (m f k x : Int) : List Int × Int :=
  if checkC L rs cs [(m, f, k)] ≠ 0 then ([], checkC L rs cs [(m, f, k)]) else if isMenuB m x = false then ([], 1) else (dw x (mdays L rs cs m f k), 0)
def OwnERes (w : World) (base : Nat) (p : List Int × Int) (en : Ending) (w' : World) : Prop := Below w.heap.size w w' ∧ ∃ v, en = .returned (.tuple #[v, .int .i64 p.2]) ∧ Own w' base v p.1
theorem dw_bd {L : Int} {rs cs : List Int} (hL : L ≤ 1000) (m f k x : Int) : ∀ d ∈ dw x (mdays L rs cs m f k), -9223372036854775808 ≤ d ∧ d ≤ 9223372036854775807 := fun d hd => by
  have h1 : d ∈ sdl (wd rs cs L.toNat) := by
    rw [← mst_fst m k f]
    exact (List.Sublist.map (fun y : Int × Int => y.1) List.filter_sublist).subset hd
  have := (mem_sd rs cs L.toNat d).1 h1
  omega

set_option maxRecDepth 100000 in
set_option maxHeartbeats 4000000 in
theorem days_any (L : Int) (ra : Option Addr) (rs : List Int) (rc : Nat) (ca : Option Addr) (cs : List Int) (cc : Nat) (m f k x : Int) (w : World) (h : TermAt w L ra rs ca cs) :
  Calls Try.prog 20 #[.agg #[.int .i64 L, .slice ra rs.length rc, .slice ca cs.length cc], .agg #[.int .i64 m, .int .i64 f, .int .i64 k], .int .i64 x] w (OwnERes w w.heap.size (daysL L rs cs m f k x)) := by
  have hB0 := ((Below.refl w.heap.size w).alloc (Nat.le_refl _) (.cells #[.int .i64 L, .slice ra rs.length rc, .slice ca cs.length cc] 24)).alloc (by simp) (.cells #[.int .i64 m, .int .i64 f, .int .i64 k] 38)
  obtain ⟨wc, hwc⟩ : ∃ wc, ((w.alloc (.cells #[.int .i64 L, .slice ra rs.length rc, .slice ca cs.length cc] 24)).alloc (.cells #[.int .i64 m, .int .i64 f, .int .i64 k] 38)).alloc (.cells #[.int .i64 m, .int .i64 f, .int .i64 k] 38) = wc := ⟨_, rfl⟩
  have q1 : Below w.heap.size w wc := by rw [← hwc]; exact hB0.alloc (by simp; omega) _
  have hsz : wc.heap.size = w.heap.size + 1 + 1 + 1 := by rw [← hwc]; simp
  have a0 : wc.cell? ⟨w.heap.size, 0, none⟩ = some (.int .i64 L) := by rw [← hwc]; clear hwc; go_simp
  have a1 : wc.cell? ⟨w.heap.size, 1, none⟩ = some (.slice ra rs.length rc) := by rw [← hwc]; clear hwc; go_simp
  have a2 : wc.cell? ⟨w.heap.size, 2, none⟩ = some (.slice ca cs.length cc) := by rw [← hwc]; clear hwc; go_simp
  have b0 : wc.cell? ⟨w.heap.size + 1, 0, none⟩ = some (.int .i64 m) := by rw [← hwc]; clear hwc; go_simp
  have b1 : wc.cell? ⟨w.heap.size + 1, 1, none⟩ = some (.int .i64 f) := by rw [← hwc]; clear hwc; go_simp
  have b2 : wc.cell? ⟨w.heap.size + 1, 2, none⟩ = some (.int .i64 k) := by rw [← hwc]; clear hwc; go_simp
  have hcy : Cycles wc (some ⟨w.heap.size + 1 + 1, 0, none⟩) [(m, f, k)] := by
    refine ⟨by simp, .inr ⟨_, _, rfl, fun i hi => ?_⟩⟩
    obtain rfl : i = 0 := by simp at hi; omega
    refine ⟨?_, ?_, ?_⟩ <;> (rw [← hwc]; clear hwc; go_simp)
  have HK := hid (check_any L ra rs rc ca cs cc (some ⟨w.heap.size + 1 + 1, 0, none⟩) [(m, f, k)] 1 wc (h.below q1) hcy)
  clear hcy
  by_cases hz : checkC L rs cs [(m, f, k)] = 0
  · have HM := hid (show daysL L rs cs m f k x = _ from by rw [daysL, if_neg (by simp [hz])])
    have hv := checkC_zero hz
    have HZ := hid hz
    clear hz
    cases hx : isMenuB m x with
    | false =>
      have HM2 := hid (show daysL L rs cs m f k x = ([], 1) by rw [HM.out, if_pos hx])
      go_enter Try.func20, Try.ntmps20
      go_wp2_with fail
      clear hwc
      refine (HK.out).mono ?_
      rintro en w1 ⟨hb, rfl⟩
      have p1 := q1.trans (hb.mono (by omega))
      have hs1 := hb.size
      rw [← hb.cell (by simp; omega)] at a0 a1 a2 b0 b1 b2
      rw [HZ.out]
      go_wp2_with fail
      refine (isMenu_any _ _ _ _ _).mono ?_
      rintro en w2 ⟨hb2, rfl⟩
      rw [hx]
      go_wp2
      refine bodyPost_ret (v := .tuple #[.slice none 0 0, .int .i64 1]) (by simp [results, Try.results20, go_sem]) rfl ⟨p1.trans (hb2.mono p1.size), _, by rw [HM2.out], by rw [HM2.out]; exact Own.nil _ _⟩
    | true =>
      have HM2 := hid (show daysL L rs cs m f k x = (dw x (mdays L rs cs m f k), 0) by rw [HM.out, if_neg (by simp [hx])])
      have HV := hid hv
      clear hv
      go_enter Try.func20, Try.ntmps20
      go_wp2_with fail
      clear hwc
      refine (HK.out).mono ?_
      rintro en w1 ⟨hb, rfl⟩
      have p1 := q1.trans (hb.mono (by omega))
      have hs1 := hb.size
      rw [← hb.cell (by simp; omega)] at a0 a1 a2 b0 b1 b2
      rw [HZ.out]
      go_wp2_with fail
      refine (isMenu_any _ _ _ _ _).mono ?_
      rintro en w2 ⟨hb2, rfl⟩
      have p2 := p1.trans (hb2.mono p1.size)
      have hs2 := hb2.size
      rw [← hb2.cell (by simp; omega)] at a0 a1 a2 b0 b1 b2
      rw [hx]
      go_wp2_with fail
      refine (daysWith_any _ _ _ _ _ _ _ _ _ _ _ _ (h.below p2) HV.out.1 HV.out.2).mono ?_
      rintro en w3 ⟨hb3, v, rfl, hown⟩
      have p3 := p2.trans (hb3.mono p2.size)
      go_wp2
      refine bodyPost_ret (v := .tuple #[v, .int .i64 0]) (by simp [results, Try.results20, go_sem]) rfl ⟨p3, v, by rw [HM2.out], by rw [HM2.out]; exact own_weak hown (by omega)⟩
  · have hz' : (checkC L rs cs [(m, f, k)] != 0) = true := by simp [hz]
    have HM := hid (show daysL L rs cs m f k x = ([], checkC L rs cs [(m, f, k)]) from by rw [daysL, if_pos hz])
    clear hz
    go_enter Try.func20, Try.ntmps20
    go_wp2_with fail
    clear hwc
    refine (HK.out).mono ?_
    rintro en w1 ⟨hb, rfl⟩
    have p1 := q1.trans (hb.mono (by omega))
    go_wp2
    refine bodyPost_ret (v := .tuple #[.slice none 0 0, .int .i64 (checkC L rs cs [(m, f, k)])]) (by simp [results, Try.results20, go_sem]) rfl ⟨p1, _, by rw [HM.out], by rw [HM.out]; exact Own.nil _ _⟩

end Go.Proofs.Ytilolaednbcaoaa
