/- Needless facts: package order, and the document's own. -/
import Derived.Test.YtkepjoociidkcaaOrNeedM
import Derived.Test.YtkepjoociidkcaaOrKidR
import Derived.Test.YtkepjoociidkcaaOrR
import Derived.Test.YtkepjoociidkcaaOrAdd
import Derived.Deep.RegionHeld3
set_option linter.unusedVariables false
namespace Go.Proofs.Ytkepjoociidkcaa
open Go.RowKit

theorem whyTo_ne (l : List Fct) (c d : Int) (n i : Nat) (hi : i < n) (hc : (fAt l i).c = c) (ho : onB (fAt l i) d = true) : ∃ j, whyTo l c d n = some j := by
  induction n with
  | zero => omega
  | succ n ih =>
    show ∃ j, (if (fAt l n).c = c ∧ onB (fAt l n) d = true then some n else whyTo l c d n) = some j
    by_cases h : (fAt l n).c = c ∧ onB (fAt l n) d = true
    · exact ⟨n, if_pos h⟩
    · rw [if_neg h]
      by_cases e : i = n
      · subst e; exact absurd ⟨hc, ho⟩ h
      · exact ih (by omega)
theorem cut_own {l : List Fct} (hs : ∀ i j, i ≤ j → j < l.length → (fAt l i).a ≤ (fAt l j).a) (i : Nat) (hi : i < l.length) : i < cutL (fAt l i).a l := by
  by_cases e : i < cutL (fAt l i).a l
  · exact e
  · have := cutL_behind (at_ := (fAt l i).a) hs i (by omega) hi; omega
/-- On a day of its own a fact, or one behind it, is the reason. -/
theorem why_own {l : List Fct} (hs : ∀ i j, i ≤ j → j < l.length → (fAt l i).a ≤ (fAt l j).a) (i : Nat) (hi : i < l.length) (k : Nat) (hk : (fAt l i).f + (k : Int) < (fAt l i).t) : ∃ j, whyTo l (fAt l i).c ((fAt l i).f + (k : Int)) (cutL (fAt l i).a l) = some j :=
  whyTo_ne l _ _ _ i (cut_own hs i hi) rfl (by simp [onB]; omega)
def DrawIn (w : World) (v : Value) (en : Ending) (w' : World) : Prop := Below w.heap.size w w' ∧ en = .returned v

set_option maxRecDepth 100000 in
set_option maxHeartbeats 4000000 in
theorem isNeedless_any (a : Option Addr) (l : List Fct) (cap : Nat) (i : Nat) (w : World) (hl : FactsAt w a l) (hcap : l.length ≤ cap) (hi : i < l.length) (hv : validE l = 0) :
  Calls Try.prog 69 #[.slice a l.length cap, .int .i64 i] w (BoolR w (!usedB l i)) := by
  obtain ⟨h60, hf, hs⟩ := validE_ok hv
  have hfb := factB_iff.1 (hf _ (fAt_mem l i hi))
  obtain ⟨b, off, rfl, hc⟩ : ∃ b off, a = some ⟨b, off, none⟩ ∧ FctAt w b (off + i * 5) (fAt l i) := by
    rcases hl.at_ with e | ⟨b, off, ha, hc⟩
    · rw [e] at hi; simp at hi
    · exact ⟨b, off, ha, hc i hi⟩
  obtain ⟨c0, c1, c2, c3, c4⟩ := hc
  have HW := hid (fun k hk => why_own hs i hi k hk)
  have HU := hid (usedTo_succ l i)
  have HB := hid (show usedB l i = usedTo l i ((fAt l i).t - (fAt l i).f).toNat from rfl)
  have HM := hid (fun k (h : usedTo l i k = true) (hk : k ≤ ((fAt l i).t - (fAt l i).f).toNat) => usedTo_mono h hk)
  have HL := hid hl
  have HSo := hid hs
  have hcl := cutL_le (fAt l i).a l
  have HK := hid (fun d => lastK_rec l (fAt l i).c d (cutL (fAt l i).a l))
  have i0 : (0 : Int) ≤ (i : Int) := by omega
  have i1 : (i : Int) < (l.length : Int) := by omega
  have HFx := hid (fctAt_new w (fAt l i) 24)
  clear hl hs hf hv
  generalize fAt l i = x at *
  obtain ⟨_, _, ⟨f0, f1, f2⟩, _⟩ := hfb
  have hB0 := below_new w (.cells #[.int .i64 x.a, .int .i64 x.c, .int .i64 x.f, .int .i64 x.t, .int .i64 x.m] 24)
  go_enter Try.func69, Try.ntmps69
  go_wp2
  have hz0 : w.heap.size < (w.alloc (.cells #[.int .i64 x.a, .int .i64 x.c, .int .i64 x.f, .int .i64 x.t, .int .i64 x.m] 24)).heap.size := by simp
  have HB0 := hid hB0
  clear c0 c1 c2 c3 c4 hB0
  generalize w.alloc (.cells #[.int .i64 x.a, .int .i64 x.c, .int .i64 x.f, .int .i64 x.t, .int .i64 x.m] 24) = W0 at *
  obtain ⟨c0, c1, c2, c3, c4⟩ := HFx.out
  simp only [Nat.zero_add] at c1 c2 c3 c4
  have HKp := hid (fun (w' : World) (hb : Below W0.heap.size W0 w') => (show w'.cell? ⟨w.heap.size, 0, none⟩ = some (.int .i64 x.a) ∧ w'.cell? ⟨w.heap.size, 1, none⟩ = some (.int .i64 x.c) ∧ Below W0.heap.size W0 w' from ⟨by rw [hb.cell (cell_lt c0)]; exact c0, by rw [hb.cell (cell_lt c1)]; exact c1, hb⟩))
  have hr : Below W0.heap.size W0 W0 := Below.refl _ _
  have HLw := hid (fun (W : World) (hb : Below W0.heap.size W0 W) => (HL.out.below HB0.out).below hb)
  have HD := hid (fun (W : World) (hb : Below W0.heap.size W0 W) => show W.cell? ⟨w.heap.size, 2, none⟩ = some (.int .i64 x.f) ∧ W.cell? ⟨w.heap.size, 3, none⟩ = some (.int .i64 x.t) from ⟨by rw [hb.cell (cell_lt c2)]; exact c2, by rw [hb.cell (cell_lt c3)]; exact c3⟩)
  clear c2 c3 c4 HFx HL
  go_region_held3 (fun w' => w'.cell? ⟨w.heap.size, 0, none⟩ = some (.int .i64 x.a) ∧ w'.cell? ⟨w.heap.size, 1, none⟩ = some (.int .i64 x.c) ∧ Below W0.heap.size W0 w')
    ((refine HKp.out _ ?_; repeat (first | exact hr | assumption | apply Below.drew)))
    (first
      | ((go_at_call 55; refine (written_any _ l cap x.a _ (HLw.out _ (by repeat (first | exact hr | assumption | apply Below.drew))) HSo.out hcap).mono ?_; rintro e w2 ⟨q2, rfl⟩; have p2 : Below W0.heap.size W0 w2 := Below.trans (by repeat (first | exact hr | assumption | apply Below.drew)) (q2.mono (by first | exact Nat.le_refl _ | exact hr.drew.size))))
      | ((go_at_call 54; refine (recordOf_any _ l (cutL x.a l) (cutL x.a l) x.c _ (HLw.out _ (by repeat (first | exact p2 | exact hr | assumption | apply Below.drew))) hcl (by omega)).mono ?_; rintro e w3 ⟨q3, A, cc, rfl, hA⟩; have p3 : Below W0.heap.size W0 w3 := Below.trans (by repeat (first | exact p2 | apply Below.drew)) (q3.mono (by first | exact p2.size | exact p2.drew.size)))))
  generalize recTo l x.c (cutL x.a l) = r at *
  have HA := hid (fun W (h : Below w3.heap.size w3 W) => hA.below h)
  have HP3 := hid p3
  have hs3 := p3.size
  have d3 := HD.out w3 p3
  obtain ⟨d3a, d3b⟩ := d3
  clear hA p3 q3 p2 q2 HSo HLw HKp c0 c1
  go_wp2
  go_loopw [7] (fun d wr => ∃ k : Nat, k ≤ (x.t - x.f).toNat ∧ d = .int .i64 (x.f + (k : Int)) ∧ Hid (usedTo l i k = false) ∧ Below w3.heap.size w3 wr) (fun d _ => (x.t - intOf d).toNat)
  case atStart => exact ⟨0, Nat.zero_le _, by simp, rfl, Below.refl _ _⟩
  case round =>
    obtain ⟨k, hk, rfl, HF, hB⟩ := hrel
    have hd := HD.out wr (HP3.out.trans (hB.mono hs3))
    obtain ⟨d2, d3⟩ := hd
    have hzw : w.heap.size < wr.heap.size := cell_lt d2
    by_cases hlt : x.f + (k : Int) < x.t
    · obtain ⟨j, hj⟩ := HW.out k hlt
      have HS := hid (last_any A r cc (x.f + (k : Int)) wr (HA.out wr hB))
      rw [HK.out, hj] at HS
      have HUk := hid (HU.out k)
      rw [hj, HF.out] at HUk
      by_cases he : j = i
      · have hu : usedB l i = true := by
          rw [HB.out]
          exact HM.out (k + 1) (by rw [HUk.out, he]; simp) (by omega)
        have he' : ((j : Int) == (i : Int)) = true := by simp [he]
        rw [hu]
        clear HW HU HM HB HUk hj hu he
        go_wp2_with fail
        refine HS.out.mono ?_
        rintro e w4 ⟨q4, rfl⟩
        have p4 := hB.trans (q4.mono hB.size)
        unfold lastV
        dsimp only [Option.map]
        go_wp2
        go_ret
        exact ⟨HB0.out.trans ((HP3.out.trans ((p4.alloc p4.size _).mono hs3)).mono (by omega)), rfl⟩
      · have hu := hid (show usedTo l i (k + 1) = false by rw [HUk.out]; simp [he])
        have he' : ((j : Int) == (i : Int)) = false := by simp; omega
        clear HW HU HM HB HUk hj he
        go_wp2_with fail
        refine HS.out.mono ?_
        rintro e w4 ⟨q4, rfl⟩
        have p4 := hB.trans (q4.mono hB.size)
        unfold lastV
        dsimp only [Option.map]
        go_wp2
        go_roundw
        case rel => exact ⟨k + 1, by omega, by go_num, hu, p4.alloc p4.size _⟩
        case measure => simp [intOf]; omega
    · have hu : usedB l i = false := by
        rw [HB.out]
        have : (x.t - x.f).toNat = k := by omega
        rw [this]; exact HF.out
      rw [hu]
      go_wp2
      go_ret
      exact ⟨HB0.out.trans ((HP3.out.trans (hB.mono hs3)).mono (by omega)), rfl⟩
def needL (l : List Fct) : List Int × Int := if validE l = 0 then (needTo l l.length, 0) else ([], validE l)
theorem need_bd64 (l : List Fct) (k : Nat) (hk : k ≤ 1000) : ∀ x ∈ needTo l k, -9223372036854775808 ≤ x ∧ x ≤ 9223372036854775807 := fun x hx => by have := needTo_bd l k x hx; omega

set_option maxRecDepth 100000 in
set_option maxHeartbeats 4000000 in
theorem Needless_any (a : Option Addr) (l : List Fct) (cap : Nat) (w : World) (hl : FactsAt w a l) (hcap : l.length ≤ cap) :
  Calls Try.prog 36 #[.slice a l.length cap] w (IntsR w (needL l)) := by
  obtain ⟨i0, hi, hz0, hz1, hz2⟩ := info_parts int_info
  have hlen := hl.len
  have HV := hid (validate_any a l cap w hl)
  by_cases h0 : validE l = 0
  · have HM := hid (show needL l = (needTo l l.length, 0) from if_pos h0)
    obtain ⟨h60, _, _⟩ := validE_ok h0
    have HN := hid (fun W (h : Below w.heap.size w W) (k : Nat) (hk : k < l.length) => isNeedless_any a l cap k W (hl.below h) hcap hk h0)
    rw [h0] at HV
    clear h0 hl
    go_enter Try.func36, Try.ntmps36
    go_wp2_with fail
    refine HV.out.mono ?_
    rintro e w0 ⟨q0, rfl⟩
    go_wp2
    go_loopw [5, 14] (fun o i wr => ∃ k : Nat, k ≤ l.length ∧ i = .int .i64 k ∧ Hid (Own wr w.heap.size o (needTo l k)) ∧ Below w.heap.size w wr) (fun _ i _ => l.length - (intOf i).toNat)
    case atStart => exact ⟨0, Nat.zero_le _, rfl, Own.nil _ _, q0⟩
    case round =>
      obtain ⟨k, hk, rfl, HO, hB⟩ := hrel
      by_cases hlt : k < l.length
      · have HC := hid (HN.out wr hB k hlt)
        have HT := hid (needTo_succ l k)
        have hkl := needTo_len l k
        go_wp2_with fail
        refine HC.out.mono ?_
        rintro e w4 ⟨q4, rfl⟩
        have p4 := hB.trans (q4.mono hB.size)
        have HO4 := hid (own_below HO.out q4)
        clear HO HC
        cases hu : usedB l k with
        | false =>
          have HX := hid ((HT.out).trans (if_neg (by rw [hu]; simp)))
          generalize needTo l k = xs at *
          have hS2 := HO4.out
          have hzB := p4.size
          clear HO4 HT
          go_wp2_with (at_builtin; refine wpList_append_own _ rfl _ _ 52 rfl w.heap.size 3 i0 (.int .i64 0) 1 8 Try.underlying52 hi hz0 hz1 hz2 rfl (by decide) _ _ _ rfl (hS2.alloc _) ⟨w4.heap.size, 0, none⟩ 1 1 [.int .i64 (k : Int)] rfl rfl ?c1 ?c2 ?c3 ?c4 ?c5 ?_)
          case c1 =>
            have := World.news_of_block (cs := #[.int .i64 (k : Int)]) (t := 3) (fr := (0, 0)) (heap_alloc_new w4 (.cells #[.int .i64 (k : Int)] 3))
            simpa using this
          case c2 => simp [Value.oneCell']
          case c3 => unfold maxLen; omega
          case c4 => omega
          case c5 => simp; omega
          intro v' w6 hown2 hgrow _
          have p6 := (p4.alloc p4.size _).grown hgrow (by simp; omega) (fun q hq => (hS2.lt q hq).1)
          clear hgrow hS2
          go_wp2
          go_roundw
          case rel => exact ⟨k + 1, by omega, by go_num, by unfold Hid Own; rw [HX.out]; simpa using hown2, p6⟩
          case measure => simp [intOf]; omega
        | true =>
          have HX := hid ((HT.out).trans (if_pos hu))
          go_wp2
          go_roundw
          case rel => exact ⟨k + 1, by omega, by go_num, by unfold Hid; rw [HX.out]; exact HO4.out, p4⟩
          case measure => simp [intOf]; omega
      · obtain rfl : k = l.length := by omega
        have hkl := needTo_len l l.length
        have hbd := hid (need_bd64 l l.length (by omega))
        obtain ⟨A, c, rfl, hI⟩ := Own.ints HO.out (by omega) hbd.out
        go_wp2
        go_ret2
        exact ⟨hB, A, c, by rw [HM.out]; rfl, by rw [HM.out]; exact hI⟩
  · have HM := hid (show needL l = ([], validE l) from if_neg h0)
    have h0' : (validE l != 0) = true := by simp [h0]
    clear h0 hl
    generalize validE l = x at *
    go_enter Try.func36, Try.ntmps36
    go_wp2_with fail
    refine HV.out.mono ?_
    rintro e w1 ⟨q1, rfl⟩
    go_wp2
    go_ret2
    exact ⟨q1, none, 0, by rw [HM.out]; rfl, by rw [HM.out]; exact intsNil _⟩

set_option maxRecDepth 100000 in
set_option maxHeartbeats 4000000 in
theorem rNeedless_any (a : Option Addr) (l : List Fct) (cap : Nat) (w : World) (hl : FactsAt w a l) :
  Calls Try.prog 37 #[.slice a l.length cap] w (IntsR w (needL l)) := by
  obtain ⟨i0, hi, hz0, hz1, hz2⟩ := info_parts int_info
  have hlen := hl.len
  have HV := hid (rvalidate_any a l cap w hl)
  by_cases h0 : validE l = 0
  · have HM := hid (show needL l = (needTo l l.length, 0) from if_pos h0)
    obtain ⟨h60, hf, hs⟩ := validE_ok h0
    have HL := hid hl
    have HFb := hid (fun k (hk : k < l.length) => factB_iff.1 (hf _ (fAt_mem l k hk)))
    have HRf := hid (fun (c d at_ : Int) => refTo_cut hs at_ c d)
    rw [h0] at HV
    clear h0 hl hf hs
    go_enter Try.func37, Try.ntmps37
    go_wp2_with fail
    refine HV.out.mono ?_
    rintro e w0 ⟨q0, rfl⟩
    go_wp2
    go_loopw [5, 6] (fun o i wr => ∃ k : Nat, k ≤ l.length ∧ i = .int .i64 k ∧ Hid (Own wr w.heap.size o (needTo l k)) ∧ Below w.heap.size w wr) (fun _ i _ => l.length - (intOf i).toNat)
    case atStart => exact ⟨0, Nat.zero_le _, rfl, Own.nil _ _, q0⟩
    case round =>
      obtain ⟨k, hk, rfl, HO, hB⟩ := hrel
      by_cases hlt : k < l.length
      · rcases (HL.out.below hB).at_ with e | ⟨b, off, rfl, hc⟩
        · rw [e] at hlt; simp at hlt
        obtain ⟨c0, c1, c2, c3, c4⟩ := hc k hlt
        obtain ⟨_, _, ⟨f0, f1, f2⟩, _⟩ := HFb.out k hlt
        have HT := hid (needTo_succ l k)
        have hkl := needTo_len l k
        have HU := hid (usedTo_succ l k)
        have HBu := hid (show usedB l k = usedTo l k ((fAt l k).t - (fAt l k).f).toNat from rfl)
        have HMo := hid (fun j (h : usedTo l k j = true) (hj : j ≤ ((fAt l k).t - (fAt l k).f).toNat) => usedTo_mono h hj)
        have HR2 := hid (fun d => HRf.out (fAt l k).c d (fAt l k).a)
        have HCa := hid (fun W (h : Below w.heap.size w W) (at_ c d : Int) => rreason_any (some ⟨b, off, none⟩) l cap at_ c d W (HL.out.below h))
        have k0 : (0 : Int) ≤ (k : Int) := by omega
        have k1 : (k : Int) < (l.length : Int) := by omega
        clear hc
        generalize fAt l k = x at *
        have HCe := hid (fun W (h : Below wr.heap.size wr W) => show FctAt W b (off + k * 5) x from FctAt.below ⟨c0, c1, c2, c3, c4⟩ h)
        go_wp2
        obtain ⟨wo, rfl⟩ : ∃ wo : World, wo = wr := ⟨_, rfl⟩
        go_loopw [7, 8] (fun u d wx => ∃ n : Nat, n ≤ (x.t - x.f).toNat ∧ d = .int .i64 (x.f + (n : Int)) ∧ u = .bool (usedTo l k n) ∧ Below wo.heap.size wo wx) (fun u d _ => (x.t - intOf d).toNat)
        case atStart => exact ⟨0, Nat.zero_le _, by simp, rfl, Below.refl _ _⟩
        case round =>
          obtain ⟨n, hn, rfl, rfl, hI⟩ := hrel
          have hBI := hB.trans (hI.mono hB.size)
          obtain ⟨c0, c1, c2, c3, c4⟩ := HCe.out wr hI
          have HOI := hid (own_below HO.out hI)
          cases hu : usedTo l k n with
          | true =>
            have HX := hid ((HT.out).trans (if_pos (by rw [HBu.out]; exact HMo.out n hu hn)))
            by_cases hlt2 : x.f + (n : Int) < x.t
            · go_wp2
              go_roundw
              case rel => exact ⟨k + 1, by omega, by go_num, by unfold Hid; rw [HX.out]; exact HOI.out, hBI⟩
              case measure => simp [intOf]; omega
            · go_wp2
              go_roundw
              case rel => exact ⟨k + 1, by omega, by go_num, by unfold Hid; rw [HX.out]; exact HOI.out, hBI⟩
              case measure => simp [intOf]; omega
          | false =>
            by_cases hlt2 : x.f + (n : Int) < x.t
            · have HUn := hid (HU.out n)
              rw [hu] at HUn
              have HRn := hid (HR2.out (x.f + (n : Int)))
              have HC := hid (fun q => HCa.out (wr.drewN q) (below_drewN hBI q) x.a x.c (x.f + (n : Int)))
              have HE := hid (show usedTo l k (n + 1) = (refTo l x.a x.c (x.f + (n : Int)) l.length == (k : Int)) by
                rw [HUn.out, HRn.out]
                cases whyTo l x.c (x.f + (n : Int)) (cutL x.a l) with
                | none => show (false || decide (none = some k)) = ((-1 : Int) == (k : Int)); rw [show ((-1 : Int) == (k : Int)) = false by simp]; rfl
                | some j =>
                  show (false || decide (some j = some k)) = ((j : Int) == (k : Int))
                  by_cases e : j = k
                  · simp [e]
                  · simp [e]; omega)
              generalize refTo l x.a x.c (x.f + (n : Int)) l.length = y at *
              clear HUn HRn HR2 HMo HBu HCa
              go_wp2
              go_quiet ((go_at_call 60; exact Calls.quiet_of_same ((HC.out _).mono fun _ _ h => ⟨h.2, h.1.symm⟩)))
              go_wp2
              go_roundw
              case rel => exact ⟨n + 1, by omega, by go_num, by rw [HE.out], below_drewN hI _⟩
              case measure => simp [intOf]; omega
            · have HX := hid ((HT.out).trans (if_neg (by rw [HBu.out, show (x.t - x.f).toNat = n by omega, hu]; simp)))
              generalize needTo l k = xs at *
              have hS2 := HOI.out
              have hzB := hBI.size
              clear HOI HO HT hI
              go_wp2_with (at_builtin; refine wpList_append_own _ rfl _ _ 52 rfl w.heap.size 3 i0 (.int .i64 0) 1 8 Try.underlying52 hi hz0 hz1 hz2 rfl (by decide) _ _ _ rfl (hS2.alloc _) ⟨wr.heap.size, 0, none⟩ 1 1 [.int .i64 (k : Int)] rfl rfl ?d1 ?d2 ?d3 ?d4 ?d5 ?_)
              case d2 => simp [Value.oneCell']
              case d3 => unfold maxLen; omega
              case d4 => omega
              case d5 => omega
              intro v' w6 hown2 hgrow _
              have p6 := (hBI.alloc hBI.size _).grown hgrow (by simp; omega) (fun q hq => (hS2.lt q hq).1)
              clear hgrow hS2
              go_wp2
              go_roundw
              case rel => exact ⟨k + 1, by omega, by go_num, by unfold Hid Own; rw [HX.out]; simpa using hown2, p6⟩
              case measure => simp [intOf]; omega
      · obtain rfl : k = l.length := by omega
        have hkl := needTo_len l l.length
        have hbd := hid (need_bd64 l l.length (by omega))
        obtain ⟨A, c, rfl, hI⟩ := Own.ints HO.out (by omega) hbd.out
        go_wp2
        go_ret2
        exact ⟨hB, A, c, by rw [HM.out]; rfl, by rw [HM.out]; exact hI⟩
  · have HM := hid (show needL l = ([], validE l) from if_neg h0)
    have h0' : (validE l != 0) = true := by simp [h0]
    clear h0 hl
    generalize validE l = x at *
    go_enter Try.func37, Try.ntmps37
    go_wp2_with fail
    refine HV.out.mono ?_
    rintro e w1 ⟨q1, rfl⟩
    go_wp2
    go_ret2
    exact ⟨q1, none, 0, by rw [HM.out]; rfl, by rw [HM.out]; exact intsNil _⟩
end Go.Proofs.Ytkepjoociidkcaa
