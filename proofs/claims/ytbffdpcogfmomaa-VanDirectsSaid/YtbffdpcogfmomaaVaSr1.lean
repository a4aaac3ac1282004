/- One tour is tried: package van. -/
import Derived.Test.YtbffdpcogfmomaaVaSrS
set_option linter.unusedVariables false
namespace Go.Proofs.Ytbffdpcogfmomaa
open Go.RowKit

/-- What trying one tour does. -/
def TryR (p : SrP) (w : World) (o : List Int) (s : Option Int) (e : Ending) (w' : World) : Prop :=
  (e = .returned (.tuple #[]) ∧ Keep3 p.g p.iv p.bv w w' ∧ ∃ s', Better s s' ∧ SrS p w' o s' ∧ (p.Al o = true → ∃ m, s' = some m ∧ m ≤ p.C o)) ∨ PanR p e w'
set_option maxRecDepth 100000 in
set_option maxHeartbeats 8000000 in
theorem search1_any {p : SrP} (hD : SrD p) (hC : CostR p) (hg : ∀ args w, (callFunc p.cf args).run Try.prog w = .ok (.enter p.cf args) w) (w : World) (o : List Int) (s : Option Int) (hS : SrS p w o s) :
  Calls Try.prog 94 #[.slice p.A p.L.length p.cap, .pointer (some ⟨p.cb, 0, none⟩), .pointer (some ⟨p.iv, 0, none⟩), .pointer (some ⟨p.bv, 0, none⟩), .pointer (some ⟨p.ev, 0, none⟩)] w (TryR p w o s) := by
  have hol := hS.len
  have hl7 := hD.ll
  have HI0 := own_intsV hS.arr (by omega) (fun x hx => by have := hD.lb2 x (hS.perm.mem_iff.1 hx); omega)
  obtain ⟨A9, c9, hv9, hI9⟩ := HI0
  simp only [Value.slice.injEq, true_and] at hv9
  obtain ⟨rfl, rfl⟩ := hv9
  have HCo := hC w p.A p.cap o hS.below hI9 hS.perm
  rw [hol] at HCo
  have HC := hid HCo
  have HS := hid hS
  have HD := hid hD
  have HI := hid hI9
  have HOL := hid hol
  have kc := one_cell hS.cCost
  unfold SrP.costV at kc
  have HG := hg
  clear hC hol hI9 HCo hS hD
  generalize hA : p.Al o = al at *
  go_enter Try.func94, Try.ntmps94
  go_wp2_with fail
  refine HC.out.mono ?_
  rintro e w4 ⟨hb4, rfl⟩
  have S4 := HS.out.keep HD.out hb4
  have HS4 := hid S4
  have HK4 := hid (Keep3.of (g := p.g) (b2 := p.iv) (b3 := p.bv) hb4)
  have HCl0 := kclone_any p.A o p.cap w4 (HI.out.below hb4) (by rw [HOL.out]; omega)
  rw [HOL.out] at HCl0
  have HCl := hid HCl0
  have HPo := hid S4.perm
  have ki := one_cell S4.cIs
  have li : p.iv < w4.heap.size := lt_block S4.cIs
  obtain ⟨u0, v0, hbb, hfo⟩ := S4.cBest
  have lb : p.bv < w4.heap.size := lt_block hbb
  have kb := (two_cell hbb).2
  have HFo := hid hfo
  have lg : p.g < w4.heap.size := S4.gl
  have lt4 : p.tb < w4.heap.size := lt_block S4.cTry
  clear hb4 S4 hbb hfo HC hg kc
  cases al with
  | false =>
    have HAl := hid hA
    clear hA
    go_wp2
    refine bodyPost_end (v := .tuple #[]) (by simp [results, Try.results94, go_sem]) rfl (.inl ⟨rfl, HK4.out, s, Better.refl s, HS4.out, fun h => by rw [HAl.out] at h; cases h⟩)
  | true =>
    cases s with
    | none =>
      go_wp2_with fail
      refine (HCl.out).mono ?_
      rintro e w6 ⟨hb6, A6, c6, he6, hI6, hf6⟩
      rw [HOL.out] at he6
      subst he6
      have S6 := HS4.out.keep HD.out hb6
      have hfar : ∀ ad, A6 = some ad → (ad.block ≠ p.g ∧ ad.block ≠ p.iv ∧ ad.block ≠ p.bv) ∧ p.tb < ad.block := fun ad had => by
        have h1 := hf6 ad had
        exact ⟨⟨by omega, by omega, by omega⟩, by omega⟩
      obtain ⟨u6, v6, hb66, _⟩ := S6.cBest
      have k5 := (two_cell hb66).1
      have k6 := (two_cell hb66).2
      have k7 := one_cell S6.cIs
      have f5 := one_free hb66
      have f7 := one_free S6.cIs
      have k8 := one_cell S6.cEn
      have ne1 := HD.out.bi
      have ne2 := Ne.symm HD.out.bi
      have ne3 := HD.out.be
      have ne4 := HD.out.ie
      obtain ⟨S7, K7⟩ := S6.better (c := c6) HD.out hI6 hfar HPo.out hA rfl
      rw [HOL.out] at S7 K7
      have HS7 := hid S7
      have HK7 := hid ((HK4.out.trans (Keep3.of hb6)).trans K7)
      have HI7 := hid (show Ints (((w6.setCell ⟨p.bv, 0, none⟩ (.slice A6 p.L.length c6)).setCell ⟨p.bv, 1, none⟩ (.int .i64 (p.C o))).setCell ⟨p.iv, 0, none⟩ (.bool true)) A6 o from hI6.keep3 K7 (fun ad had => (hfar ad had).1))
      have HB7 := hid S7.below
      have HAl := hid hA
      have HBet := hid (show Better none (some (p.C o)) from fun m hm => (by cases hm))
      clear S7 K7 S6 hb66 hI6 hfar hb6 hf6 hA
      generalize hCo : p.C o = co at *
      have HCo := hid hCo
      clear hCo
      by_cases hen : co ≤ p.en
      · have HE := hid hen
        go_wp2
        exact ⟨rfl, .inr ⟨A6, c6, o, by rw [HOL.out, HCo.out], HB7.out, HI7.out, HPo.out, HAl.out, by rw [HCo.out]; exact HE.out⟩⟩
      · have hen' : p.en < co := by omega
        go_wp2
        refine bodyPost_end (v := .tuple #[]) (by simp [results, Try.results94, go_sem]) rfl (.inl ⟨rfl, HK7.out, some co, HBet.out, HS7.out, fun _ => ⟨co, rfl, by rw [HCo.out]; exact Int.le_refl _⟩⟩)
    | some m =>
      obtain ⟨F, fc, f, e1, e2, e3, e4, e5, e6, e7⟩ := HFo.out.yes m rfl
      subst e2
      clear e1 e3 e4 e5 e6 e7
      by_cases hcm : m ≤ p.C o
      · have HCm := hid hcm
        go_wp2
        refine bodyPost_end (v := .tuple #[]) (by simp [results, Try.results94, go_sem]) rfl (.inl ⟨rfl, HK4.out, some m, Better.refl _, HS4.out, fun _ => ⟨m, rfl, HCm.out⟩⟩)
      · have hcm' : p.C o < m := by omega
        have HCm := hid hcm'
        go_wp2_with fail
        refine (HCl.out).mono ?_
        rintro e w6 ⟨hb6, A6, c6, he6, hI6, hf6⟩
        rw [HOL.out] at he6
        subst he6
        have S6 := HS4.out.keep HD.out hb6
        have hfar : ∀ ad, A6 = some ad → (ad.block ≠ p.g ∧ ad.block ≠ p.iv ∧ ad.block ≠ p.bv) ∧ p.tb < ad.block := fun ad had => by
          have h1 := hf6 ad had
          exact ⟨⟨by omega, by omega, by omega⟩, by omega⟩
        obtain ⟨u6, v6, hb66, _⟩ := S6.cBest
        have k5 := (two_cell hb66).1
        have k6 := (two_cell hb66).2
        have k7 := one_cell S6.cIs
        have f5 := one_free hb66
        have f7 := one_free S6.cIs
        have k8 := one_cell S6.cEn
        have ne1 := HD.out.bi
        have ne2 := Ne.symm HD.out.bi
        have ne3 := HD.out.be
        have ne4 := HD.out.ie
        obtain ⟨S7, K7⟩ := S6.better (c := c6) HD.out hI6 hfar HPo.out hA rfl
        rw [HOL.out] at S7 K7
        have HS7 := hid S7
        have HK7 := hid ((HK4.out.trans (Keep3.of hb6)).trans K7)
        have HI7 := hid (show Ints (((w6.setCell ⟨p.bv, 0, none⟩ (.slice A6 p.L.length c6)).setCell ⟨p.bv, 1, none⟩ (.int .i64 (p.C o))).setCell ⟨p.iv, 0, none⟩ (.bool true)) A6 o from hI6.keep3 K7 (fun ad had => (hfar ad had).1))
        have HB7 := hid S7.below
        have HAl := hid hA
        have HBet := hid (show Better (some m) (some (p.C o)) from fun m' hm' => ⟨p.C o, rfl, by cases hm'; exact Int.le_of_lt HCm.out⟩)
        clear S7 K7 S6 hb66 hI6 hfar hb6 hf6 hA
        generalize hCo : p.C o = co at *
        have HCo := hid hCo
        clear hCo
        by_cases hen : co ≤ p.en
        · have HE := hid hen
          go_wp2
          exact ⟨rfl, .inr ⟨A6, c6, o, by rw [HOL.out, HCo.out], HB7.out, HI7.out, HPo.out, HAl.out, by rw [HCo.out]; exact HE.out⟩⟩
        · have hen' : p.en < co := by omega
          go_wp2
          refine bodyPost_end (v := .tuple #[]) (by simp [results, Try.results94, go_sem]) rfl (.inl ⟨rfl, HK7.out, some co, HBet.out, HS7.out, fun _ => ⟨co, rfl, by rw [HCo.out]; exact Int.le_refl _⟩⟩)
end Go.Proofs.Ytbffdpcogfmomaa
