/- Provable of the document (written by gen_provable.py). -/
import Derived.Test.YtdgleicpcjfnoaaProofS
import Derived.Test.YtdgleicpcjfnoaaRBase
import Derived.Test.YtdgleicpcjfnoaaRSets
import Derived.Test.YtdgleicpcjfnoaaProofN
set_option linter.unusedVariables false
set_option linter.unusedSimpArgs false
namespace Go.Proofs.Ytdgleicpcjfnoaa
open Go.RowKit

def provA (P : Int) (its : List ItemL) (rls : List RuleL) (item prop : Int) (b : Bool) (e : Int) : Prop :=
  if propE P its rls item prop ≠ 0 then b = false ∧ e = propE P its rls item prop else e = 0 ∧ b = (labM its rls item.toNat).testBit prop.toNat
def ProvR (w : World) (P : Int) (its : List ItemL) (rls : List RuleL) (item prop : Int) (en : Ending) (w' : World) : Prop :=
  Below w.heap.size w w' ∧ ∃ b e, en = .returned (.tuple #[.bool b, .int .i64 e]) ∧ provA P its rls item prop b e
set_option maxRecDepth 100000 in
set_option maxHeartbeats 4000000 in
theorem provable_any (P : Int) (ia : Option Addr) (its : List ItemL) (ic : Nat) (ra : Option Addr) (rls : List RuleL) (rc : Nat) (item prop : Int) (w : World) (h : BookAt w P ia its ra rls) :
  Calls Try.prog 31 #[.agg #[.int .i64 P, .slice ia its.length ic, .slice ra rls.length rc], .int .i64 item, .int .i64 prop] w (ProvR w P its rls item prop) := by
  have S0 := ValS.made w P (.slice ia its.length ic) (.slice ra rls.length rc)
  have HC := hid (asked_any P ia its ic ra rls rc item prop _ (h.below S0.below))
  have HS0 := hid S0
  clear S0
  by_cases h0 : propE P its rls item prop = 0
  · obtain ⟨hv, ⟨hi0, hi1⟩, hp0, hp1⟩ := propE_ok h0
    obtain ⟨v0, v1, v2, v3, v4, v5⟩ := validB_ok hv
    have HX0 := hid (show provA P its rls item prop ((labM its rls item.toNat).testBit prop.toNat) 0 by unfold provA; rw [if_neg (by simp [h0])]; exact ⟨rfl, rfl⟩)
    rw [h0] at HC
    obtain ⟨n, rfl⟩ := Int.eq_ofNat_of_zero_le hi0
    obtain ⟨m, rfl⟩ := Int.eq_ofNat_of_zero_le hp0
    obtain ⟨p, rfl⟩ := Int.eq_ofNat_of_zero_le v0
    have HX := hid (show provA (p : Int) its rls (n : Int) (m : Int) ((labM its rls n).testBit m) 0 from HX0.out)
    have hn : n < its.length := by omega
    have hm : m < p := by omega
    have hm0 : (0 : Int) ≤ (m : Int) := by omega
    have hp10 : p ≤ 10 := by omega
    have hb := contL_bits (p : Int) its v4 n hn
    have HBs := hid (fun (w' : World) (hb : Below w.heap.size w w') => base_any p ia its ic (.slice ra rls.length rc) n w' (h.below hb).items hp10 v2 hn v4)
    have HCl := hid (fun (A : Option Addr) (c : Nat) (w' : World) (hb2 : Below w.heap.size w w') (hB : BoolsAt w' A p (propsL (ownL its n))) => closed_any ra rls rc A p _ c w' (h.below hb2).rules hB hp10 (own_lt v4 n hb (by omega)) (rulesP_of v5))
    have HE := hid (show closL rls (propsL (ownL its n)) = labM its rls n from rfl)
    rw [HE.out] at HCl
    clear h hv v4 v5 h0 hi0 hp0 HX0 hb hi1 hp1
    go_enter Try.func31, Try.ntmps31
    go_wp2_with fail
    refine HC.out.mono ?_
    rintro e w1 ⟨q1, rfl⟩
    have HS1 := hid (HS0.out.keep q1)
    obtain ⟨a0, a1, a2, _⟩ := id HS1.out
    clear q1 HC HS0
    go_wp2
    refine wp_region_held_drew (S := (fun w' => w'.cell? ⟨w.heap.size, 0, none⟩ = some (.int .i64 (p : Int)) ∧ w'.cell? ⟨w.heap.size, 1, none⟩ = some (.slice ia its.length ic) ∧ w'.cell? ⟨w.heap.size, 2, none⟩ = some (.slice ra rls.length rc) ∧ Below w.heap.size w w')) (by kernel_rfl) (HS1.out.drew) (fun hHeld => ?_)
    refine take_d (i := 0) (d := some 16) (v := ?_) rfl rfl (by kernel_rfl) (by kernel_rfl) (by kernel_rfl) (fun _ _ _ h => h) (Or.inl ⟨by first | rfl | (simp [*, Region.wanted, yielded]), ?hyp1⟩) (by assumption) ?restp1
    case hyp1 => (intro w hSw; (try dsimp only at hSw); go_simp <;> with_reducible rfl)
    try simp only [Act.put, List.setIfInBounds_toArray, List.set_cons_zero, List.set_cons_succ]
    refine take_d (i := 1) (d := some 17) (v := ?_) rfl rfl (by kernel_rfl) (by kernel_rfl) (by kernel_rfl) (fun _ _ _ h => h) (Or.inl ⟨by first | rfl | (simp [*, Region.wanted, yielded]), ?hyp2⟩) (by assumption) ?restp2
    case hyp2 => (intro w hSw; (try dsimp only at hSw); go_simp <;> with_reducible rfl)
    try simp only [Act.put, List.setIfInBounds_toArray, List.set_cons_zero, List.set_cons_succ]
    refine take_d (i := 2) (d := some 18) (v := ?_) rfl rfl (by kernel_rfl) (by kernel_rfl) (by kernel_rfl) (fun _ _ _ h => h) (Or.inl ⟨by first | rfl | (simp [*, Region.wanted, yielded]), ?hyp3⟩) (by assumption) ?restp3
    case hyp3 => (intro w hSw; (try dsimp only at hSw); go_simp <;> with_reducible rfl)
    try simp only [Act.put, List.setIfInBounds_toArray, List.set_cons_zero, List.set_cons_succ]
    refine take_d (i := 3) (d := some 19) (v := ?_) rfl rfl (by kernel_rfl) (by kernel_rfl) (by kernel_rfl) (fun _ _ _ h => h) (Or.inl ⟨by first | rfl | (simp [*, Region.wanted, yielded]), ?hyp4⟩) (by assumption) ?restp4
    case hyp4 => (intro w hSw; (try dsimp only at hSw); go_simp <;> with_reducible rfl)
    try simp only [Act.put, List.setIfInBounds_toArray, List.set_cons_zero, List.set_cons_succ]
    refine take_d (i := 6) (d := some 22) (v := ?_) rfl rfl (by kernel_rfl) (by kernel_rfl) (by kernel_rfl) (fun _ _ _ h => h) (Or.inl ⟨by first | rfl | (simp [*, Region.wanted, yielded]), ?hyp5⟩) (by assumption) ?restp5
    case hyp5 => (intro w hSw; (try dsimp only at hSw); go_simp <;> with_reducible rfl)
    try simp only [Act.put, List.setIfInBounds_toArray, List.set_cons_zero, List.set_cons_succ]
    refine wpAnyH_ready (rs := [4]) (by kernel_rfl) (by simp) ?_
    refine AllReadyH.cons (o := _) rfl (fun K hK => ?_) AllReadyH.nil
    go_simp
    refine (HBs.out _ HS1.out.below.drew).mono ?_
    rintro e4 w4 ⟨hb4, A4, c4, rfl, hB4, _⟩
    have s4 := HS1.out.drew.keep hb4
    go_wp2_with fail
    refine hK.out _ _ s4 (fun hHeld => ?_)
    clear hK K
    try simp only [Act.put, List.setIfInBounds_toArray, List.set_cons_zero, List.set_cons_succ]
    refine wpAnyH_ready (rs := [5]) (by kernel_rfl) (by simp) ?_
    refine AllReadyH.cons (o := _) rfl (fun K hK => ?_) AllReadyH.nil
    go_simp
    refine (HCl.out A4 c4 _ s4.below hB4).mono ?_
    rintro e5 w5 ⟨hb5, A5, c5, rfl, hB5, _⟩
    have s5 := s4.keep hb5
    rcases hB5.at_ with e | ⟨b5, o5, rfl, hc5⟩
    · exfalso; omega
    have l5 := hc5 m hm
    clear hc5 hB5
    go_wp2_with fail
    refine hK.out _ _ s5 (fun hHeld => ?_)
    clear hK K
    try simp only [Act.put, List.setIfInBounds_toArray, List.set_cons_zero, List.set_cons_succ]
    refine take_d (i := 7) (d := some 23) (v := ?_) rfl rfl (by kernel_rfl) (by kernel_rfl) (by kernel_rfl) (fun _ _ _ h => h) (Or.inl ⟨by first | rfl | (simp [*, Region.wanted, yielded]), ?hyp6⟩) (by assumption) ?restp6
    case hyp6 => (intro w hSw; (try dsimp only at hSw); go_simp <;> with_reducible rfl)
    try simp only [Act.put, List.setIfInBounds_toArray, List.set_cons_zero, List.set_cons_succ]
    refine wpAnyH_ready (rs := [8]) (by kernel_rfl) (by simp) ?_
    refine AllReadyH.cons (o := _) rfl (fun K hK => ?_) AllReadyH.nil
    go_simp
    go_wp2_with fail
    refine hK.out _ _ s5 (fun hHeld => ?_)
    clear hK K
    try simp only [Act.put, List.setIfInBounds_toArray, List.set_cons_zero, List.set_cons_succ]
    refine take_d (i := 9) (d := some 6) (v := ?_) rfl rfl (by kernel_rfl) (by kernel_rfl) (by kernel_rfl) (fun _ _ _ h => h) (Or.inl ⟨by first | rfl | (simp [*, Region.wanted, yielded]), ?hyp7⟩) (by assumption) ?restp7
    case hyp7 => (intro w hSw; (try dsimp only at hSw); go_simp <;> with_reducible rfl)
    try simp only [Act.put, List.setIfInBounds_toArray, List.set_cons_zero, List.set_cons_succ]
    refine take_d (i := 10) (d := some 7) (v := ?_) rfl rfl (by kernel_rfl) (by kernel_rfl) (by kernel_rfl) (fun _ _ _ h => h) (Or.inl ⟨by first | rfl | (simp [*, Region.wanted, yielded]), ?hyp8⟩) (by assumption) ?restp8
    case hyp8 => (intro w hSw; (try dsimp only at hSw); go_simp <;> with_reducible rfl)
    try simp only [Act.put, List.setIfInBounds_toArray, List.set_cons_zero, List.set_cons_succ]
    refine wpAnyH_done (by kernel_rfl) ?_ _
    go_simp
    have HF := hid s5.below
    clear s4 s5 hB4
    go_wp2
    refine bodyPost_ret (v := .tuple #[.bool ((labM its rls n).testBit m), .int .i64 0]) (by simp [results, Try.results31, go_sem]) rfl ⟨HF.out, (labM its rls n).testBit m, 0, rfl, HX.out⟩
  · have HA := hid (show provA P its rls item prop false (propE P its rls item prop) by unfold provA; rw [if_pos h0]; exact ⟨rfl, rfl⟩)
    have h0' : (propE P its rls item prop != 0) = true := by simp [h0]
    clear h0 h
    generalize propE P its rls item prop = x at *
    go_enter Try.func31, Try.ntmps31
    go_wp2_with fail
    refine HC.out.mono ?_
    rintro e w1 ⟨q1, rfl⟩
    have HS1 := hid (HS0.out.keep q1)
    go_wp2
    refine bodyPost_ret (v := .tuple #[.bool false, .int .i64 x]) (by simp [results, Try.results31, go_sem]) rfl ⟨HS1.out.below, false, x, rfl, HA.out⟩
end Go.Proofs.Ytdgleicpcjfnoaa
