/- Explain of package dish: slices.IndexFunc over steps. -/
import Derived.Test.YtdgleicpcjfnoaaProofC
import Derived.Test.YtdgleicpcjfnoaaStepSrc
import Derived.Test.YtdgleicpcjfnoaaRuleSteps
import Derived.Test.YtdgleicpcjfnoaaLabel
import Derived.Deep.RegionHeld3
import Derived.Deep.Cut
set_option linter.unusedVariables false
set_option linter.unusedSimpArgs false
namespace Go.Proofs.Ytdgleicpcjfnoaa
open Go.RowKit

set_option maxRecDepth 100000 in
theorem explF_any (p f q prop : Int) (g : Nat) (w : World) (hc : w.cell? ⟨g, 0, none⟩ = some (.int .i64 prop)) :
  Calls Try.prog 72 #[.agg #[.int .i64 p, .int .i64 f, .int .i64 q], .pointer (some ⟨g, 0, none⟩)] w (BoolR w (p == prop)) := by
  have hB := (Below.refl w.heap.size w).alloc (Nat.le_refl _) (.cells #[.int .i64 p, .int .i64 f, .int .i64 q] 53)
  have hg := cell_lt hc
  dsimp only at hg
  generalize hd : (p == prop) = d at *
  go_enter Try.func72, Try.ntmps72
  go_wp2
  go_ret
  exact ⟨hB, by rfl⟩

/-- The place of the first step for a property. -/
def firstP (l : List StepL) (prop : Int) : Option Nat := l.findIdx? (fun s => s.1 == prop)
def idxR (w : World) (l : List StepL) (prop : Int) (en : Ending) (w' : World) : Prop := Below w.heap.size w w' ∧
  ((∃ k : Nat, k < l.length ∧ (l[k]?.getD (0, 0, 0)).1 = prop ∧ en = .returned (.int .i64 k)) ∨ ((∀ s ∈ l, s.1 ≠ prop) ∧ en = .returned (.int .i64 (-1))))
set_option maxRecDepth 100000 in
set_option maxHeartbeats 2000000 in
theorem stepIdx_any (a : Option Addr) (l : List StepL) (cap : Nat) (prop : Int) (g : Nat) (w : World) (h : StepsAt w a l) (hc : w.cell? ⟨g, 0, none⟩ = some (.int .i64 prop)) :
  Calls Try.prog 71 #[.slice a l.length cap, .func (.func 72) #[] #[.pointer (some ⟨g, 0, none⟩)]] w (idxR w l prop) := by
  have hlen := h.len
  have HH := hid (fun w' (hb : Below w.heap.size w w') => h.below hb)
  have HC := hid hc
  have eg := hid (show ∀ args w, (callFunc 72 args).run Try.prog w = .ok (.enter 72 args) w from enters_of Try.func72 (by kernel_rfl) rfl)
  clear h hc
  go_enter Try.func71, Try.ntmps71
  go_wp2
  go_loopw [8] (fun i wr => ∃ k : Nat, k ≤ l.length ∧ i = .int .i64 k ∧ Hid (∀ j, j < k → (l[j]?.getD (0, 0, 0)).1 ≠ prop) ∧ Hid (Below w.heap.size w wr)) (fun i _ => l.length - (intOf i).toNat)
  case atStart => exact ⟨0, Nat.zero_le _, rfl, (fun j hj => by omega), Below.refl _ _⟩
  case round =>
    obtain ⟨k, hk, rfl, HN, HB⟩ := hrel
    by_cases hlt : k < l.length
    · rcases (HH.out _ HB.out).at_ with e | ⟨b, off, rfl, hcl⟩
      · rw [e] at hlt; simp at hlt
      obtain ⟨c0, c1, c2⟩ := hcl k hlt
      have hk0 : (0 : Int) ≤ (k : Int) := by omega
      have hk1 : (k : Int) < (l.length : Int) := by omega
      have HNx := hid (show (l[k]?.getD (0, 0, 0)).1 ≠ prop → ∀ j, j < k + 1 → (l[j]?.getD (0, 0, 0)).1 ≠ prop from fun hp j hj => by
        by_cases e : j = k
        · subst e; exact hp
        · exact HN.out j (by omega))
      clear hcl
      have HK := hid (show ∀ p f q, l[k]?.getD (0, 0, 0) = (p, f, q) → p = prop → (l[k]?.getD (0, 0, 0)).1 = prop from fun p f q e hp => by rw [e]; exact hp)
      obtain ⟨s, hs⟩ : ∃ s, l[k]?.getD (0, 0, 0) = s := ⟨_, rfl⟩
      obtain ⟨p, f, q⟩ := s
      have HK2 := hid (HK.out p f q hs)
      rw [hs] at c0 c1 c2 HNx
      dsimp only at c0 c1 c2 HNx
      clear hs HK
      have HCl := hid (explF_any p f q prop g wr ((HB.out.cell (cell_lt HC.out)).trans HC.out))
      by_cases hp : p = prop
      · have hpb : (p == prop) = true := by simp [hp]
        rw [hpb] at HCl
        have HKf := hid (HK2.out hp)
        clear hp hpb HK2
        go_wp2_with fail
        refine HCl.out.mono ?_
        rintro e w2 ⟨q2, rfl⟩
        have HB2 := hid (HB.out.trans (q2.mono HB.out.size))
        go_wp2
        go_ret
        exact ⟨HB2.out, .inl ⟨k, hlt, HKf.out, rfl⟩⟩
      · have hpb : (p == prop) = false := by simp [hp]
        rw [hpb] at HCl
        have HN2 := hid (HNx.out hp)
        clear hp hpb HK2
        go_wp2_with fail
        refine HCl.out.mono ?_
        rintro e w2 ⟨q2, rfl⟩
        have HB2 := hid (HB.out.trans (q2.mono HB.out.size))
        go_wp2
        go_roundw
        case rel => exact ⟨k + 1, by omega, by go_num, HN2.out, HB2.out⟩
        case measure => simp [intOf]; omega
    · obtain rfl : k = l.length := by omega
      go_wp2
      go_ret
      refine ⟨HB.out, .inr ⟨fun s hs => ?_, rfl⟩⟩
      obtain ⟨j, hj, rfl⟩ := List.getElem_of_mem hs
      have := HN.out j hj
      rw [List.getElem?_eq_getElem hj] at this
      exact this

theorem own_ok10 (its : List ItemL) (P : Int) (n : Nat) (hi : itemsE P 0 its = 0) (hP : P ≤ 10) (hn : n < its.length) (hl : its.length ≤ 20) : StepsOk 10 (ownL its n) := by
  unfold ownL
  refine ownAll_ok its _ (fun s hs => by cases hs) (fun f hf p hp => ?_)
  obtain ⟨i, rfl, h1, h2⟩ := (mem_bitsTo _ _ f).1 hf
  have hil := contL_bits P its hi n hn i h2
  rw [Int.toNat_natCast] at hp
  have := isSetFrom_ge _ _ _ (itemsE_ok P its 0 hi i hil).2.2 p hp
  omega
/-- What Explain answers. -/
def explA (P : Int) (its : List ItemL) (rls : List RuleL) (item prop : Int) (l : List StepL) (b : Bool) (e : Int) : Prop :=
  if propE P its rls item prop ≠ 0 then l = [] ∧ b = false ∧ e = propE P its rls item prop
  else e = 0 ∧ b = (labM its rls item.toNat).testBit prop.toNat ∧ (if b then ∃ k : Nat, k < (explL its rls item.toNat).length ∧ ((explL its rls item.toNat)[k]?.getD (0, 0, 0)).1 = prop ∧ l = (explL its rls item.toNat).take (k + 1) else l = [])
def ExplR (w : World) (P : Int) (its : List ItemL) (rls : List RuleL) (item prop : Int) (en : Ending) (w' : World) : Prop :=
  Below w.heap.size w w' ∧ ∃ l b e A c, en = .returned (.tuple #[.slice A l.length c, .bool b, .int .i64 e]) ∧ StepsAt w' A l ∧ l.length ≤ 20 ∧ l.length ≤ c ∧ explA P its rls item prop l b e
/-- The boxes of a book and of a property. -/
def ExS (w : World) (P : Int) (i r : Value) (prop : Int) (w' : World) : Prop :=
  w'.cell? ⟨w.heap.size, 0, none⟩ = some (.int .i64 P) ∧ w'.cell? ⟨w.heap.size, 1, none⟩ = some i ∧ w'.cell? ⟨w.heap.size, 2, none⟩ = some r ∧ w'.cell? ⟨w.heap.size + 1, 0, none⟩ = some (.int .i64 prop) ∧ Below w.heap.size w w'
section
variable {w : World} {P : Int} {i r : Value} {prop : Int}
theorem ExS.below {w' : World} (h : ExS w P i r prop w') : Below w.heap.size w w' := h.2.2.2.2
theorem ExS.drew {w' : World} (h : ExS w P i r prop w') : ExS w P i r prop w'.drew := by
  obtain ⟨a0, a1, a2, a3, p⟩ := h
  exact ⟨a0, a1, a2, a3, p.drew⟩
theorem ExS.keep {w' w2 : World} (h : ExS w P i r prop w') (hb : Below w'.heap.size w' w2) : ExS w P i r prop w2 := by
  obtain ⟨a0, a1, a2, a3, p⟩ := h
  exact ⟨by rw [hb.cell (cell_lt a0)]; exact a0, by rw [hb.cell (cell_lt a1)]; exact a1, by rw [hb.cell (cell_lt a2)]; exact a2, by rw [hb.cell (cell_lt a3)]; exact a3, p.trans (hb.mono p.size)⟩
theorem ExS.made (w : World) (P : Int) (i r : Value) (prop : Int) : ExS w P i r prop ((w.alloc (.cells #[.int .i64 P, i, r] 25)).alloc (.cells #[.int .i64 prop] 3)) :=
  ⟨by go_simp, by go_simp, by go_simp, by go_simp, ((Below.refl _ _).alloc (Nat.le_refl _) _).alloc (by simp) _⟩
end
theorem stepCells_one (l : List StepL) : ∀ u ∈ stepCells l, u.oneCell' = true := by
  intro u hu
  obtain ⟨s, _, hs⟩ := List.mem_flatMap.1 hu
  simp at hs
  rcases hs with rfl | rfl | rfl <;> rfl
theorem stepCells_app (l r : List StepL) : stepCells (l ++ r) = stepCells l ++ stepCells r := by simp [stepCells]
theorem OwnS.src {w : World} {base : Nat} {A : Option Addr} {c : Nat} {l : List StepL} (h : OwnS w base (.slice A l.length c) l) : l.length = 0 ∨ ∃ ad, A = some ad ∧ ∀ j u, (stepCells l)[j]? = some u → w.cell? (ad.add j) = some u := by
  rcases h.2 with ⟨_, hn⟩ | ⟨g, cap, cur, hv, _⟩
  · exact .inl hn
  · simp only [Value.slice.injEq] at hv
    obtain ⟨rfl, _, rfl⟩ := hv
    refine .inr ⟨_, rfl, fun j u hu => ?_⟩
    have hj := (List.getElem?_eq_some_iff.1 hu).1
    rw [stepCells_len] at hj
    rw [Addr.add_lit, World.ownsRow.cellAt h _ (by omega), Nat.zero_add]
    exact hu

set_option maxRecDepth 100000 in
set_option maxHeartbeats 4000000 in
theorem explain_any (P : Int) (ia : Option Addr) (its : List ItemL) (ic : Nat) (ra : Option Addr) (rls : List RuleL) (rc : Nat) (item prop : Int) (w : World) (h : BookAt w P ia its ra rls) :
  Calls Try.prog 30 #[.agg #[.int .i64 P, .slice ia its.length ic, .slice ra rls.length rc], .int .i64 item, .int .i64 prop] w (ExplR w P its rls item prop) := by
  have S0 := ExS.made w P (.slice ia its.length ic) (.slice ra rls.length rc) prop
  have HC := hid (checkProp_any P ia its ic ra rls rc item prop _ (h.below S0.below))
  have HS0 := hid S0
  obtain ⟨i0, hinf, hz0, hz1, hz2⟩ := info_parts step_info
  clear S0
  by_cases h0 : propE P its rls item prop = 0
  · obtain ⟨hv, ⟨hi0, hi1⟩, hp0, hp1⟩ := propE_ok h0
    obtain ⟨v0, v1, v2, v3, v4, v5⟩ := validB_ok hv
    have HA := hid (fun l b => show (explA P its rls item prop l b 0 ↔ b = (labM its rls item.toNat).testBit prop.toNat ∧ (if b then ∃ k : Nat, k < (explL its rls item.toNat).length ∧ ((explL its rls item.toNat)[k]?.getD (0, 0, 0)).1 = prop ∧ l = (explL its rls item.toNat).take (k + 1) else l = [])) by
      unfold explA; rw [if_neg (by simp [h0])]; simp)
    rw [h0] at HC
    obtain ⟨n, rfl⟩ := Int.eq_ofNat_of_zero_le hi0
    rw [Int.toNat_natCast] at HA
    have hn : n < its.length := by omega
    have HO := hid (fun (w' : World) (hb : Below w.heap.size w w') => ownSteps_any P ia its ic (.slice ra rls.length rc) n w' (h.below hb).items v1 v2 hn v4)
    have HRu := hid (fun (w' : World) (hb : Below w.heap.size w w') (hok : StepsOk 10 (ownL its n)) => ruleSteps_any P ra rls rc (propsL (ownL its n)) w' (h.below hb).rules v1 v3 v5 (props10 hok))
    have HE := hid (show explL its rls n = ownL its n ++ ruleL rls (propsL (ownL its n)) from rfl)
    have HPp := hid (expl_props its rls n)
    have HOkE := hid (stepsB_ok hv (explL its rls n) 0 (expl_right ((rulesP_of (P := P.toNat) (by rw [Int.toNat_of_nonneg v0]; exact v5)).ok (by omega)) n (contL_bits P its v4 n hn) (by omega) (props10 (own_ok10 its P n v4 v1 hn v2))))
    clear h hv v4 v5 h0 hi0
    go_enter Try.func30, Try.ntmps30
    go_wp2_with fail
    refine HC.out.mono ?_
    rintro e w1 ⟨q1, rfl⟩
    have HS1 := hid (HS0.out.keep q1)
    obtain ⟨a0, a1, a2, a3, _⟩ := id HS1.out
    have HKp := hid (fun w' (hb : Below w1.heap.size w1 w') => (show w'.cell? ⟨w.heap.size, 2, none⟩ = some (.slice ra rls.length rc) ∧ Below w1.heap.size w1 w' from ⟨(hb.cell (cell_lt a2)).trans a2, hb⟩))
    have HA3 := hid (fun w' (hb : Below w1.heap.size w1 w') => (hb.cell (cell_lt a3)).trans a3)
    have HW1 := hid HS1.out.below
    clear q1 HC HS0
    go_wp2_with fail
    refine (HO.out _ HS1.out.below).mono ?_
    rintro e w2 ⟨⟨q2, A2, c2, rfl, own2⟩, hok2, hfr2⟩
    have HS2 := hid (HS1.out.keep q2)
    obtain ⟨a0, a1, a2, a3, _⟩ := id HS2.out
    have hlo := hfr2.len
    have HOw := hid (fun w' (hb : Below w2.heap.size w2 w') => own2.below hb)
    have HOk := hid hok2
    have HSt := hid (fun w' (hb : Below w2.heap.size w2 w') => (own2.below hb).at_ (by omega))
    have hz12 := q2.size
    have HQ2 := hid q2
    have HW2 := hid HS2.out.below
    clear q2 HO HS1 own2 hok2 hfr2
    generalize hOl : ownL its n = ow at *
    clear hOl
    generalize hRl : ruleL rls (propsL ow) = ru at *
    clear hRl
    go_wp2
    --REGION5
    refine wp_region_held_drew (S := (fun w' => w'.cell? ⟨w.heap.size, 2, none⟩ = some (.slice ra rls.length rc) ∧ Below w1.heap.size w1 w')) (by kernel_rfl) (HKp.out _ (HQ2.out.trans (Below.mono (Below.refl _ w2).drew hz12))) (fun hHeld => ?_)
    refine take_d (i := 0) (d := some 22) (v := ?_) rfl rfl (by kernel_rfl) (by kernel_rfl) (by kernel_rfl) (fun _ _ _ h => h) (Or.inl ⟨by first | rfl | (simp [*, Region.wanted, yielded]), ?hye1⟩) (by assumption) ?reste1
    case hye1 => (intro w hSw; (try dsimp only at hSw); go_simp <;> with_reducible rfl)
    try simp only [Act.put, List.setIfInBounds_toArray, List.set_cons_zero, List.set_cons_succ]
    refine take_d (i := 1) (d := some 23) (v := ?_) rfl rfl (by kernel_rfl) (by kernel_rfl) (by kernel_rfl) (fun _ _ _ h => h) (Or.inl ⟨by first | rfl | (simp [*, Region.wanted, yielded]), ?hye2⟩) (by assumption) ?reste2
    case hye2 => (intro w hSw; (try dsimp only at hSw); go_simp <;> with_reducible rfl)
    try simp only [Act.put, List.setIfInBounds_toArray, List.set_cons_zero, List.set_cons_succ]
    refine take_d (i := 2) (d := some 24) (v := ?_) rfl rfl (by kernel_rfl) (by kernel_rfl) (by kernel_rfl) (fun _ _ _ h => h) (Or.inl ⟨by first | rfl | (simp [*, Region.wanted, yielded]), ?hye3⟩) (by assumption) ?reste3
    case hye3 => (intro w hSw; (try dsimp only at hSw); go_simp <;> with_reducible rfl)
    try simp only [Act.put, List.setIfInBounds_toArray, List.set_cons_zero, List.set_cons_succ]
    refine take_d (i := 3) (d := some 25) (v := ?_) rfl rfl (by kernel_rfl) (by kernel_rfl) (by kernel_rfl) (fun _ _ _ h => h) (Or.inl ⟨by first | rfl | (simp [*, Region.wanted, yielded]), ?hye4⟩) (by assumption) ?reste4
    case hye4 => (intro w hSw; (try dsimp only at hSw); go_simp <;> with_reducible rfl)
    try simp only [Act.put, List.setIfInBounds_toArray, List.set_cons_zero, List.set_cons_succ]
    refine wpAnyH_ready (rs := [4]) (by kernel_rfl) (by simp) ?_
    refine AllReadyH.cons (o := _) rfl (fun K hK => ?_) AllReadyH.nil
    go_simp
    refine (propsOf_any A2 ow c2 _ (HSt.out _ (Below.refl _ w2).drew) (steps64 HOk.out)).mono ?_
    rintro e4 w4 ⟨hb4, rfl⟩
    have p4 : Below w2.heap.size w2 w4 := (Below.refl _ w2).drew.trans hb4
    go_wp2_with fail
    refine hK.out _ _ (HKp.out _ (HQ2.out.trans (p4.mono hz12))) (fun hHeld => ?_)
    clear hK K
    try simp only [Act.put, List.setIfInBounds_toArray, List.set_cons_zero, List.set_cons_succ]
    refine wpAnyH_ready (rs := [5]) (by kernel_rfl) (by simp) ?_
    refine AllReadyH.cons (o := _) rfl (fun K hK => ?_) AllReadyH.nil
    go_simp
    refine (HRu.out _ (HW2.out.trans (p4.mono HW2.out.size)) HOk.out).mono ?_
    rintro e5 w5 ⟨⟨hb5, A5, c5, rfl, own5⟩, hok5, hlen5⟩
    have p5 : Below w2.heap.size w2 w5 := p4.trans (hb5.mono p4.size)
    have HOw5 := hid own5
    clear own5 hok5
    go_wp2_with fail
    refine hK.out _ _ (HKp.out _ (HQ2.out.trans (p5.mono hz12))) (fun hHeld => ?_)
    clear hK K
    try simp only [Act.put, List.setIfInBounds_toArray, List.set_cons_zero, List.set_cons_succ]
    refine wpAnyH_ready (rs := [6]) (by kernel_rfl) (by simp) ?_
    refine AllReadyH.cons (o := _) rfl (fun K hK => ?_) AllReadyH.nil
    refine step_append_src (by rfl) _ _ 42 (by rfl) w1.heap.size 53 i0 (.agg #[.int .i64 0, .int .i64 0, .int .i64 0]) 3 24 Try.underlying42 hinf hz0 hz1 hz2 rfl (by decide) _ ow.length (stepCells ow) (by rfl) (HOw.out _ p5) A5 ru.length c5 (stepCells ru) (by rfl) (by rw [stepCells_len]) HOw5.out.src (stepCells_one ru) (by unfold maxLen; omega) (by omega) (by have := p5.size; omega) ?_
    intro v6 w6 hown6 hgrow6
    have p6 : Below w1.heap.size w1 w6 := (HQ2.out.trans (p5.mono hz12)).grown hgrow6 (by have := p5.size; omega) (fun q hq => (World.ownsRow.lt (HOw.out _ p5) q hq).1)
    refine hK.out _ _ (HKp.out _ p6) (fun hHeld => ?_)
    clear hK K
    try simp only [Act.put, List.setIfInBounds_toArray, List.set_cons_zero, List.set_cons_succ]
    refine take_d (i := 7) (d := some 10) (v := ?_) rfl rfl (by kernel_rfl) (by kernel_rfl) (by kernel_rfl) (fun _ _ _ h => h) (Or.inl ⟨by first | rfl | (simp [*, Region.wanted, yielded]), ?hye5⟩) (by assumption) ?reste5
    case hye5 => (intro w hSw; (try dsimp only at hSw); go_simp <;> with_reducible rfl)
    try simp only [Act.put, List.setIfInBounds_toArray, List.set_cons_zero, List.set_cons_succ]
    refine wpAnyH_done (by kernel_rfl) ?_ _
    go_simp
    have hO6 : OwnS w6 w1.heap.size v6 (ow ++ ru) := by unfold OwnS; rw [List.length_append, stepCells_app]; exact hown6
    rw [← HE.out] at hO6
    have hle : (explL its rls n).length ≤ 20 := by rw [HE.out, List.length_append]; omega
    have P6 := hid p6
    clear hown6 hgrow6 p6 HOw5
    have HLab := hid (show (labM its rls n).testBit prop.toNat = decide (∃ s ∈ explL its rls n, s.1 = prop) by
      rw [← HPp.out, propsL_bit, decide_eq_decide]
      refine ⟨fun ⟨s, h1, h2⟩ => ⟨s, h1, ?_⟩, fun ⟨s, h1, h2⟩ => ⟨s, h1, by rw [h2]⟩⟩
      have := HOkE.out s h1
      omega)
    generalize hex : explL its rls n = ex at *
    clear hex hHeld
    obtain ⟨A6, c6, rfl⟩ := hO6.sl
    have hS6 := hO6.at_ (by omega)
    have hc6 : ex.length ≤ c6 := by
      rcases hO6.2 with ⟨_, hn0⟩ | ⟨g, cp, cur, hv, _, _, hcp, _⟩
      · omega
      · simp only [Value.slice.injEq] at hv
        obtain ⟨_, _, rfl⟩ := hv
        exact hcp
    have HSt6 := hid (fun w' (hb : Below w6.heap.size w6 w') => hS6.below hb)
    have HIx := hid (stepIdx_any A6 ex c6 prop (w.heap.size + 1) w6 hS6 (HA3.out _ P6.out))
    have HW6 := hid (HW1.out.trans (P6.out.mono HW1.out.size))
    clear hO6 hS6
    go_wp2_with fail
    refine HIx.out.mono ?_
    rintro e7 w7 ⟨q7, ⟨k, hk, hkp, rfl⟩ | ⟨hno, rfl⟩⟩
    · have HS7 := hid (HSt6.out w7 q7)
      have HB7 := hid (HW6.out.trans (q7.mono HW6.out.size))
      have HAx := hid ((HA.out (ex.take (k + 1)) true).2 ⟨by rw [HLab.out]; exact (decide_eq_true ⟨_, by rw [List.getElem?_eq_getElem hk]; exact List.getElem_mem hk, hkp⟩).symm, by rw [if_pos rfl]; exact ⟨k, hk, hkp, rfl⟩⟩)
      obtain ⟨b6, o6, rfl⟩ : ∃ b o, A6 = some ⟨b, o, none⟩ := by
        rcases HS7.out.at_ with e | ⟨b, o, e, _⟩
        · rw [e] at hk; simp at hk
        · exact ⟨b, o, e⟩
      have hRun : ∀ W : World, (Instr.sliceAt 42 (.slice (some ⟨b6, o6, none⟩) ex.length c6) none (some (.int .i64 ((k : Int) + 1))) none).run Try.prog W = .ok (.slice (some ⟨b6, o6, none⟩) (k + 1) c6) W := fun W => by
        have := run_steps_to b6 o6 ex.length c6 (k + 1) (by omega) hc6 (by omega) W
        rwa [show ((k + 1 : Nat) : Int) = (k : Int) + 1 by omega] at this
      have HSt7 := hid (HS7.out.take (k + 1))
      have hk0 : 0 ≤ (k : Int) := by omega
      have hk20 : (k : Int) ≤ 20 := by omega
      clear hkp
      go_wp2
      refine bodyPost_ret (v := .tuple #[.slice (some ⟨b6, o6, none⟩) (k + 1) c6, .bool true, .int .i64 0]) (by simp [results, Try.results30, go_sem]) rfl ⟨HB7.out, ex.take (k + 1), true, 0, some ⟨b6, o6, none⟩, c6, by rw [List.length_take, Nat.min_eq_left (by omega)], HSt7.out, by rw [List.length_take]; omega, by rw [List.length_take]; omega, HAx.out⟩
    · have HB7 := hid (HW6.out.trans (q7.mono HW6.out.size))
      have HAx := hid ((HA.out [] false).2 ⟨by rw [HLab.out]; exact (decide_eq_false (fun ⟨s, h1, h2⟩ => hno s h1 h2)).symm, by rw [if_neg (by simp)]⟩)
      clear hno
      go_wp2
      refine bodyPost_ret (v := .tuple #[.slice none 0 0, .bool false, .int .i64 0]) (by simp [results, Try.results30, go_sem]) rfl ⟨HB7.out, [], false, 0, none, 0, rfl, ⟨by simp, .inl rfl⟩, by simp, by simp, HAx.out⟩
    --END5
  · have HA := hid (show explA P its rls item prop [] false (propE P its rls item prop) by unfold explA; rw [if_pos h0]; exact ⟨rfl, rfl, rfl⟩)
    have h0' : (propE P its rls item prop != 0) = true := by simp [h0]
    clear h0 h
    generalize propE P its rls item prop = x at *
    go_enter Try.func30, Try.ntmps30
    go_wp2_with fail
    refine HC.out.mono ?_
    rintro e w1 ⟨q1, rfl⟩
    have HS1 := hid (HS0.out.keep q1)
    go_wp2
    refine bodyPost_ret (v := .tuple #[.slice none 0 0, .bool false, .int .i64 x]) (by simp [results, Try.results30, go_sem]) rfl ⟨HS1.out.below, [], false, x, none, 0, rfl, ⟨by simp, .inl rfl⟩, by simp, by simp, HA.out⟩
end Go.Proofs.Ytdgleicpcjfnoaa
