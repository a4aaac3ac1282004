/- The Go functions Close and Reopen of package term. -/
import Derived.Test.YtilolaednbcaoaaInsert
import Derived.Test.YtilolaednbcaoaaCloseOneM
import Derived.Test.YtilolaednbcaoaaSearch
import Derived.Test.YtilolaednbcaoaaCopy
set_option linter.unusedVariables false
namespace Go.Proofs.Ytilolaednbcaoaa
open Go.RowKit

theorem delete_at (w : World) (base : Nat) (A : Option Addr) (c : Nat) (xs : List Int) (i : Nat) (hown : Own w base (.slice A xs.length c) xs) (hi : i < xs.length) (hl : xs.length ≤ 1000) :
  Calls Try.prog 57 #[.slice A xs.length c, .int .i64 i, .int .i64 ((i : Int) + 1)] w (OwnV w base (xs.eraseIdx i)) := by
  rw [show ((i : Int) + 1) = ((i + 1 : Nat) : Int) by omega]
  exact delete_any w base A c xs i hown hi hl
/-- A term in new memory, and a result code. -/
def TermE (w : World) (p : (Int × List Int × List Int) × Int) (en : Ending) (w' : World) : Prop :=
  Below w.heap.size w w' ∧ ∃ A c B e, en = .returned (.tuple #[.agg #[.int .i64 p.1.1, .slice A p.1.2.1.length c, .slice B p.1.2.2.length e], .int .i64 p.2]) ∧ Own w' w.heap.size (.slice A p.1.2.1.length c) p.1.2.1 ∧ Own w' w.heap.size (.slice B p.1.2.2.length e) p.1.2.2
section
variable {w : World} {L : Int} {ra : Option Addr} {rs : List Int} {rc : Nat} {ca : Option Addr} {cs : List Int} {cc : Nat}
theorem CopyS.made (w : World) (L : Int) (ra : Option Addr) (rs : List Int) (rc : Nat) (ca : Option Addr) (cs : List Int) (cc : Nat) : CopyS w L ra rs rc ca cs cc ((w.alloc (.cells #[.int .i64 L, .slice ra rs.length rc, .slice ca cs.length cc] 24)).alloc (.cells #[.int .i64 0, .slice none 0 0, .slice none 0 0] 24)) :=
  ⟨by go_simp, by go_simp, by go_simp, rv_some (v := .int .i64 0) (by go_simp), rv_some (v := .slice none 0 0) (by go_simp), rv_some (v := .slice none 0 0) (by go_simp), by go_simp, by go_simp, by go_simp, ((Below.refl _ _).alloc (Nat.le_refl _) _).alloc (by simp) _⟩
end

theorem asc_len (n : Nat) (xs : List Int) (h : xs.Pairwise (· < ·)) (hb : ∀ x ∈ xs, 0 ≤ x ∧ x < (n : Int)) : xs.length ≤ n := by
  induction n generalizing xs with
  | zero =>
    cases xs with
    | nil => simp
    | cons x t => have := hb x (by simp); omega
  | succ n ih =>
    have := ih (xs.filter (fun x => x != (n : Int))) (h.filter _) (fun x hx => by
      obtain ⟨h1, h2⟩ := List.mem_filter.1 hx
      have := hb x h1
      simp at h2
      omega)
    have hnd : xs.Nodup := h.imp (fun hh => by omega)
    have e := hnd.erase_eq_filter (n : Int)
    have hl := List.length_erase (a := (n : Int)) (l := xs)
    rw [e] at hl
    split at hl <;> omega

set_option maxRecDepth 100000 in
set_option maxHeartbeats 8000000 in
theorem close_any (L : Int) (ra : Option Addr) (rs : List Int) (rc : Nat) (ca : Option Addr) (cs : List Int) (cc : Nat) (d : Int) (w : World) (h : TermAt w L ra rs ca cs) :
  Calls Try.prog 28 #[.agg #[.int .i64 L, .slice ra rs.length rc, .slice ca cs.length cc], .int .i64 d] w (TermE w (closeL L rs cs d)) := by
  have S0 := CopyS.made w L ra rs rc ca cs cc
  have HN := hid (checkDay_any L ra rs rc ca cs cc d _ (h.below S0.below))
  have HS0 := hid S0
  have HR := hid (show closeL L rs cs d = if checkD L rs cs d ≠ 0 then ((0, [], []), checkD L rs cs d) else if d ∈ cs then ((0, [], []), 12) else if cs.length = 60 then ((0, [], []), 4) else ((L, rs, withTo cs d L.toNat), 0) from rfl)
  clear S0
  by_cases hz : checkD L rs cs d = 0
  · obtain ⟨hv, hd0, hd1⟩ := checkD_ok hz
    obtain ⟨v1, v2, v3, v4, v5, v6⟩ := validT_ok hv
    have hasc := isSetFrom_asc _ _ _ v6
    have HBs := hid (fun (w' : World) (hb : Below w.heap.size w w') => bsearch_any ca cc cs d w' (h.below hb).closed hasc)
    have HIn := hid (fun (i : Nat) (hd : d ∉ cs) (hi : i ≤ cs.length) (hb : BS cs d i i) => insAt_with hz hd i hi hb.1 hb.2)
    have HCc := hid (fun (w' : World) (hb : Below w.heap.size w w') => clone_any ca cs cc w' (h.below hb).closed (by omega))
    have HCr := hid (fun (w' : World) (hb : Below w.heap.size w w') (hl : rs.length ≤ 1000) => clone_any ra rs rc w' (h.below hb).rest hl)
    have hrl : rs.length ≤ 1000 := by
      obtain ⟨s1, s2⟩ := (sorted_iff 0 7 rs).1 v4
      exact Nat.le_trans (asc_len 7 rs s1 s2) (by omega)
    have HR2 := hid (show closeL L rs cs d = if d ∈ cs then ((0, [], []), 12) else if cs.length = 60 then ((0, [], []), 4) else ((L, rs, withTo cs d L.toNat), 0) by rw [HR.out, if_neg (by simp [hz])])
    rw [hz] at HN
    clear hz HR h v6 hv v1 v2 v3 v4 hd0 hd1 hasc
    go_enter Try.func28, Try.ntmps28
    go_wp2_with fail
    refine HN.out.mono ?_
    rintro e w1 ⟨q1, rfl⟩
    have HS1 := hid (HS0.out.keep q1)
    obtain ⟨a0, a1, a2, b0, b1, b2, f0, f1, f2, _⟩ := HS1.out
    have HT := hid (set3_cells w1 (w.heap.size + 1) (.int .i64 0) (.slice none 0 0) (.slice none 0 0) _ _ _ b0 b1 b2)
    have HB := hid (((HS1.out.store 0 (.int .i64 0)).store 1 (.slice none 0 0)).store 2 (.slice none 0 0)).below
    clear q1 HN HS0
    go_wp2_with fail
    refine (HBs.out _ HS1.out.below).mono ?_
    rintro e w' ⟨rfl, i, hi, hbs, rfl⟩
    by_cases hm : d ∈ cs
    · have HR3 := hid (show closeL L rs cs d = ((0, [], []), 12) by rw [HR2.out, if_pos hm])
      rw [show memB d cs = true by simp [memB, hm]]
      obtain ⟨t0, t1, t2⟩ := HT.out
      clear hm HR2 hbs
      go_wp2
      refine bodyPost_ret (v := .tuple #[.agg #[.int .i64 0, .slice none 0 0, .slice none 0 0], .int .i64 12]) (by simp [results, Try.results28, go_sem, t0, t1, t2]) rfl ⟨HB.out, none, 0, none, 0, by rw [HR3.out]; rfl, by rw [HR3.out]; exact Own.nil _ _, by rw [HR3.out]; exact Own.nil _ _⟩
    · rw [show memB d cs = false by simp [memB, hm]]
      by_cases h60 : cs.length = 60
      · have HR3 := hid (show closeL L rs cs d = ((0, [], []), 4) by rw [HR2.out, if_neg hm, if_pos h60])
        have h60' : ((cs.length : Int) == 60) = true := by rw [beq_iff_eq]; omega
        obtain ⟨t0, t1, t2⟩ := HT.out
        clear hm HR2 hbs h60
        go_wp2
        refine bodyPost_ret (v := .tuple #[.agg #[.int .i64 0, .slice none 0 0, .slice none 0 0], .int .i64 4]) (by simp [results, Try.results28, go_sem, t0, t1, t2]) rfl ⟨HB.out, none, 0, none, 0, by rw [HR3.out]; rfl, by rw [HR3.out]; exact Own.nil _ _, by rw [HR3.out]; exact Own.nil _ _⟩
      · have HR3 := hid (show closeL L rs cs d = ((L, rs, insAt cs i d), 0) by rw [HR2.out, if_neg hm, if_neg h60, HIn.out i hm hi hbs])
        have h60' : ((cs.length : Int) == 60) = false := by rw [beq_eq_false_iff_ne]; omega
        have hlen := insAt_len cs i d hi
        clear hm HR2 hbs h60 HT HB HIn b0 b1 b2 f0 f1 f2
        go_wp2_with fail
        refine (HCc.out _ HS1.out.below).mono ?_
        rintro e w2 ⟨q2, A2, c2, rfl, o2⟩
        have hs2 := q2.size
        go_wp2_with fail
        refine (insert_any w2 w1.heap.size A2 c2 cs i d o2 hi (by omega) hs2).mono ?_
        rintro e w3 ⟨q3, A3, c3, rfl, o3⟩
        have HS3 := hid (HS1.out.keep (q2.trans q3))
        have HO3 := hid o3
        have HLN := hid hlen
        have hs13 : w1.heap.size ≤ w3.heap.size := (q2.trans q3).size
        have hw1 : w.heap.size + 1 < w1.heap.size := cell_lt HS1.out.2.2.2.1
        clear q2 q3 o2 o3 a0 a1 a2
        go_wp2
        go_region_held3 (fun w' => w'.cell? ⟨w.heap.size, 0, none⟩ = some (.int .i64 L) ∧ w'.cell? ⟨w.heap.size, 1, none⟩ = some (.slice ra rs.length rc) ∧ w'.cell? ⟨w.heap.size, 2, none⟩ = some (.slice ca cs.length cc) ∧ w'.cell? ⟨w.heap.size + 1, 0, none⟩ = some (rv w' ⟨w.heap.size + 1, 0, none⟩) ∧ w'.cell? ⟨w.heap.size + 1, 1, none⟩ = some (rv w' ⟨w.heap.size + 1, 1, none⟩) ∧ w'.cell? ⟨w.heap.size + 1, 2, none⟩ = some (rv w' ⟨w.heap.size + 1, 2, none⟩) ∧ w'.frozen? ⟨w.heap.size + 1, 0, none⟩ = false ∧ w'.frozen? ⟨w.heap.size + 1, 1, none⟩ = false ∧ w'.frozen? ⟨w.heap.size + 1, 2, none⟩ = false ∧ Below w.heap.size w w') (first | exact HS3.out.drew | exact HS3.out | exact CopyS.keep (by assumption) (by assumption) | exact CopyS.store (CopyS.store (CopyS.store (by assumption) _ _) _ _) _ _)
          (first | (go_at_call 55; refine (HCr.out _ ?_ hrl).mono ?_; (exact CopyS.below (by assumption)); rintro en w4 ⟨hb4, A4, c4, rfl, hown4'⟩; have hown4 := hid hown4'; clear hown4'))
        have hHeld : CopyS w L ra rs rc ca cs cc (((w4.setCell ⟨w.heap.size + 1, 0, none⟩ (.int .i64 L)).setCell ⟨w.heap.size + 1, 1, none⟩ (.slice A4 rs.length c4)).setCell ⟨w.heap.size + 1, 2, none⟩ (.slice A3 (cs.length + 1) c3)) := by assumption
        have h4 : Own w4 (w.heap.size + 2) (.slice A4 rs.length c4) rs := own_weak hown4.out (by simp; omega)
        have h5 : Own w4 (w.heap.size + 2) (.slice A3 (insAt cs i d).length c3) (insAt cs i d) := own_weak (own_below HO3.out ((Below.refl _ _).drew.trans (hb4.mono (by simp)))) (by omega)
        rw [HLN.out] at h5
        obtain ⟨_, _, _, b0, b1, b2, _, _, _, p⟩ := hHeld
        have d0 := unset_some (unset_some (unset_some b0))
        have d1 := unset_some (unset_some (unset_some b1))
        have d2 := unset_some (unset_some (unset_some b2))
        obtain ⟨t0, t1, t2⟩ := set3_cells w4 (w.heap.size + 1) (.int .i64 L) (.slice A4 rs.length c4) (.slice A3 (cs.length + 1) c3) _ _ _ d0 d1 d2
        clear b0 b1 b2 d0 d1 d2
        go_wp2
        refine bodyPost_ret (v := .tuple #[.agg #[.int .i64 L, .slice A4 rs.length c4, .slice A3 (cs.length + 1) c3], .int .i64 0]) (by simp [results, Try.results28, go_sem, t0, t1, t2]) rfl ⟨p, A4, c4, A3, c3, by rw [HR3.out]; dsimp only; rw [HLN.out], ?_, ?_⟩
        · rw [HR3.out]
          exact own_weak (own_setCell (own_setCell (own_setCell h4 _ (by simp) _) _ (by simp) _) _ (by simp) _) (by omega)
        · rw [HR3.out]
          dsimp only
          rw [HLN.out]
          exact own_weak (own_setCell (own_setCell (own_setCell h5 _ (by simp) _) _ (by simp) _) _ (by simp) _) (by omega)
  · have HR2 := hid (show closeL L rs cs d = ((0, [], []), checkD L rs cs d) by rw [HR.out, if_pos hz])
    generalize checkD L rs cs d = x at *
    have hx : (x != 0) = true := by simp [hz]
    clear hz HR
    go_enter Try.func28, Try.ntmps28
    go_wp2_with fail
    refine HN.out.mono ?_
    rintro e w1 ⟨q1, rfl⟩
    have HS1 := hid (HS0.out.keep q1)
    obtain ⟨a0, a1, a2, b0, b1, b2, f0, f1, f2, _⟩ := HS1.out
    obtain ⟨t0, t1, t2⟩ := set3_cells w1 (w.heap.size + 1) (.int .i64 0) (.slice none 0 0) (.slice none 0 0) _ _ _ b0 b1 b2
    have HB := hid (((HS1.out.store 0 (.int .i64 0)).store 1 (.slice none 0 0)).store 2 (.slice none 0 0)).below
    clear q1
    go_wp2
    refine bodyPost_ret (v := .tuple #[.agg #[.int .i64 0, .slice none 0 0, .slice none 0 0], .int .i64 x]) (by simp [results, Try.results28, go_sem, t0, t1, t2]) rfl ⟨HB.out, none, 0, none, 0, by rw [HR2.out]; rfl, by rw [HR2.out]; exact Own.nil _ _, by rw [HR2.out]; exact Own.nil _ _⟩
theorem erase_less {L : Int} {cs : List Int} {d : Int} (h6 : isSetFrom 0 L cs = true) (hd : d ∈ cs) (i : Nat) (hi : i ≤ cs.length) (hb : BS cs d i i) : i < cs.length ∧ cs.eraseIdx i = lessDay cs d := by
  obtain ⟨s1, s2⟩ := (sorted_iff 0 L cs).1 h6
  obtain ⟨k, hk, hkd⟩ := List.mem_iff_getElem.1 hd
  have hki : i ≤ k := by
    rcases Nat.lt_or_ge k i with h | h
    · have := hb.1 k h
      rw [List.getElem?_eq_getElem hk, Option.getD_some] at this
      omega
    · exact h
  have hil : i < cs.length := by omega
  have hid : cs[i] = d := by
    have h1 := hb.2 i (Nat.le_refl _) hil
    rw [List.getElem?_eq_getElem hil, Option.getD_some] at h1
    rcases Nat.lt_or_ge i k with h | h
    · have := (List.pairwise_iff_getElem.1 s1) i k hil hk h
      omega
    · obtain rfl : i = k := by omega
      exact hkd
  refine ⟨hil, ?_⟩
  have e : cs = cs.take i ++ d :: cs.drop (i + 1) := by
    rw [← hid, ← List.drop_eq_getElem_cons hil, List.take_append_drop]
  have hp := s1
  rw [e, List.pairwise_append, List.pairwise_cons] at hp
  rw [List.eraseIdx_eq_take_drop_succ, lessDay]
  conv => rhs; rw [e]
  rw [List.filter_append, List.filter_cons_of_neg (by simp), List.filter_eq_self.2 (fun x hx => by have := hp.2.2 x hx d (by simp); simp; omega), List.filter_eq_self.2 (fun x hx => by have := hp.2.1.1 x hx; simp; omega)]

set_option maxRecDepth 100000 in
set_option maxHeartbeats 8000000 in
theorem reopen_any (L : Int) (ra : Option Addr) (rs : List Int) (rc : Nat) (ca : Option Addr) (cs : List Int) (cc : Nat) (d : Int) (w : World) (h : TermAt w L ra rs ca cs) :
  Calls Try.prog 30 #[.agg #[.int .i64 L, .slice ra rs.length rc, .slice ca cs.length cc], .int .i64 d] w (TermE w (reopenL L rs cs d)) := by
  have S0 := CopyS.made w L ra rs rc ca cs cc
  have HN := hid (checkDay_any L ra rs rc ca cs cc d _ (h.below S0.below))
  have HS0 := hid S0
  have HR := hid (show reopenL L rs cs d = if checkD L rs cs d ≠ 0 then ((0, [], []), checkD L rs cs d) else if d ∈ cs then ((L, rs, lessDay cs d), 0) else ((0, [], []), 12) from rfl)
  clear S0
  by_cases hz : checkD L rs cs d = 0
  · obtain ⟨hv, hd0, hd1⟩ := checkD_ok hz
    obtain ⟨v1, v2, v3, v4, v5, v6⟩ := validT_ok hv
    have hasc := isSetFrom_asc _ _ _ v6
    have HBs := hid (fun (w' : World) (hb : Below w.heap.size w w') => bsearch_any ca cc cs d w' (h.below hb).closed hasc)
    have HIn := hid (fun (i : Nat) (hd : d ∈ cs) (hi : i ≤ cs.length) (hb : BS cs d i i) => erase_less v6 hd i hi hb)
    have HCc := hid (fun (w' : World) (hb : Below w.heap.size w w') => clone_any ca cs cc w' (h.below hb).closed (by omega))
    have HCr := hid (fun (w' : World) (hb : Below w.heap.size w w') (hl : rs.length ≤ 1000) => clone_any ra rs rc w' (h.below hb).rest hl)
    have hrl : rs.length ≤ 1000 := by
      obtain ⟨s1, s2⟩ := (sorted_iff 0 7 rs).1 v4
      exact Nat.le_trans (asc_len 7 rs s1 s2) (by omega)
    have HR2 := hid (show reopenL L rs cs d = if d ∈ cs then ((L, rs, lessDay cs d), 0) else ((0, [], []), 12) by rw [HR.out, if_neg (by simp [hz])])
    rw [hz] at HN
    clear hz HR h v6 hv v1 v2 v3 v4 hd0 hd1 hasc
    go_enter Try.func30, Try.ntmps30
    go_wp2_with fail
    refine HN.out.mono ?_
    rintro e w1 ⟨q1, rfl⟩
    have HS1 := hid (HS0.out.keep q1)
    obtain ⟨a0, a1, a2, b0, b1, b2, f0, f1, f2, _⟩ := HS1.out
    have HT := hid (set3_cells w1 (w.heap.size + 1) (.int .i64 0) (.slice none 0 0) (.slice none 0 0) _ _ _ b0 b1 b2)
    have HB := hid (((HS1.out.store 0 (.int .i64 0)).store 1 (.slice none 0 0)).store 2 (.slice none 0 0)).below
    clear q1 HN HS0
    go_wp2_with fail
    refine (HBs.out _ HS1.out.below).mono ?_
    rintro e w' ⟨rfl, i, hi, hbs, rfl⟩
    by_cases hm : d ∈ cs
    · obtain ⟨hil, he⟩ := HIn.out i hm hi hbs
      have HR3 := hid (show reopenL L rs cs d = ((L, rs, cs.eraseIdx i), 0) by rw [HR2.out, if_pos hm, he])
      rw [show memB d cs = true by simp [memB, hm]]
      have hlen : (cs.eraseIdx i).length = cs.length - 1 := by rw [List.length_eraseIdx, if_pos hil]
      clear hm he HR2 hbs HT HB HIn b0 b1 b2 f0 f1 f2
      go_wp2_with fail
      refine (HCc.out _ HS1.out.below).mono ?_
      rintro e w2 ⟨q2, A2, c2, rfl, o2⟩
      have hs2 := q2.size
      go_wp2_with fail
      refine (delete_at w2 w1.heap.size A2 c2 cs i o2 hil (by omega)).mono ?_
      rintro e w3 ⟨q3, A3, c3, rfl, o3⟩
      have HS3 := hid (HS1.out.keep (q2.trans q3))
      have HO3 := hid o3
      have HLN := hid hlen
      have hs13 : w1.heap.size ≤ w3.heap.size := (q2.trans q3).size
      have hw1 : w.heap.size + 1 < w1.heap.size := cell_lt HS1.out.2.2.2.1
      rw [hlen]
      clear q2 q3 o2 o3 a0 a1 a2 hlen
      go_wp2
      go_region_held3 (fun w' => w'.cell? ⟨w.heap.size, 0, none⟩ = some (.int .i64 L) ∧ w'.cell? ⟨w.heap.size, 1, none⟩ = some (.slice ra rs.length rc) ∧ w'.cell? ⟨w.heap.size, 2, none⟩ = some (.slice ca cs.length cc) ∧ w'.cell? ⟨w.heap.size + 1, 0, none⟩ = some (rv w' ⟨w.heap.size + 1, 0, none⟩) ∧ w'.cell? ⟨w.heap.size + 1, 1, none⟩ = some (rv w' ⟨w.heap.size + 1, 1, none⟩) ∧ w'.cell? ⟨w.heap.size + 1, 2, none⟩ = some (rv w' ⟨w.heap.size + 1, 2, none⟩) ∧ w'.frozen? ⟨w.heap.size + 1, 0, none⟩ = false ∧ w'.frozen? ⟨w.heap.size + 1, 1, none⟩ = false ∧ w'.frozen? ⟨w.heap.size + 1, 2, none⟩ = false ∧ Below w.heap.size w w') (first | exact HS3.out.drew | exact HS3.out | exact CopyS.keep (by assumption) (by assumption) | exact CopyS.store (CopyS.store (CopyS.store (by assumption) _ _) _ _) _ _)
        (first | (go_at_call 55; refine (HCr.out _ ?_ hrl).mono ?_; (exact CopyS.below (by assumption)); rintro en w4 ⟨hb4, A4, c4, rfl, hown4'⟩; have hown4 := hid hown4'; clear hown4'))
      have hHeld : CopyS w L ra rs rc ca cs cc (((w4.setCell ⟨w.heap.size + 1, 0, none⟩ (.int .i64 L)).setCell ⟨w.heap.size + 1, 1, none⟩ (.slice A4 rs.length c4)).setCell ⟨w.heap.size + 1, 2, none⟩ (.slice A3 (cs.length - 1) c3)) := by assumption
      have h4 : Own w4 (w.heap.size + 2) (.slice A4 rs.length c4) rs := own_weak hown4.out (by simp; omega)
      have h5 : Own w4 (w.heap.size + 2) (.slice A3 (cs.eraseIdx i).length c3) (cs.eraseIdx i) := own_weak (own_below HO3.out ((Below.refl _ _).drew.trans (hb4.mono (by simp)))) (by omega)
      rw [HLN.out] at h5
      obtain ⟨_, _, _, b0, b1, b2, _, _, _, p⟩ := hHeld
      have d0 := unset_some (unset_some (unset_some b0))
      have d1 := unset_some (unset_some (unset_some b1))
      have d2 := unset_some (unset_some (unset_some b2))
      obtain ⟨t0, t1, t2⟩ := set3_cells w4 (w.heap.size + 1) (.int .i64 L) (.slice A4 rs.length c4) (.slice A3 (cs.length - 1) c3) _ _ _ d0 d1 d2
      clear b0 b1 b2 d0 d1 d2
      go_wp2
      refine bodyPost_ret (v := .tuple #[.agg #[.int .i64 L, .slice A4 rs.length c4, .slice A3 (cs.length - 1) c3], .int .i64 0]) (by simp [results, Try.results30, go_sem, t0, t1, t2]) rfl ⟨p, A4, c4, A3, c3, by rw [HR3.out]; dsimp only; rw [HLN.out], ?_, ?_⟩
      · rw [HR3.out]
        exact own_weak (own_setCell (own_setCell (own_setCell h4 _ (by simp) _) _ (by simp) _) _ (by simp) _) (by omega)
      · rw [HR3.out]
        dsimp only
        rw [HLN.out]
        exact own_weak (own_setCell (own_setCell (own_setCell h5 _ (by simp) _) _ (by simp) _) _ (by simp) _) (by omega)
    · have HR3 := hid (show reopenL L rs cs d = ((0, [], []), 12) by rw [HR2.out, if_neg hm])
      rw [show memB d cs = false by simp [memB, hm]]
      obtain ⟨t0, t1, t2⟩ := HT.out
      clear hm HR2 hbs
      go_wp2
      refine bodyPost_ret (v := .tuple #[.agg #[.int .i64 0, .slice none 0 0, .slice none 0 0], .int .i64 12]) (by simp [results, Try.results30, go_sem, t0, t1, t2]) rfl ⟨HB.out, none, 0, none, 0, by rw [HR3.out]; rfl, by rw [HR3.out]; exact Own.nil _ _, by rw [HR3.out]; exact Own.nil _ _⟩
  · have HR2 := hid (show reopenL L rs cs d = ((0, [], []), checkD L rs cs d) by rw [HR.out, if_pos hz])
    generalize checkD L rs cs d = x at *
    have hx : (x != 0) = true := by simp [hz]
    clear hz HR
    go_enter Try.func30, Try.ntmps30
    go_wp2_with fail
    refine HN.out.mono ?_
    rintro e w1 ⟨q1, rfl⟩
    have HS1 := hid (HS0.out.keep q1)
    obtain ⟨a0, a1, a2, b0, b1, b2, f0, f1, f2, _⟩ := HS1.out
    obtain ⟨t0, t1, t2⟩ := set3_cells w1 (w.heap.size + 1) (.int .i64 0) (.slice none 0 0) (.slice none 0 0) _ _ _ b0 b1 b2
    have HB := hid (((HS1.out.store 0 (.int .i64 0)).store 1 (.slice none 0 0)).store 2 (.slice none 0 0)).below
    clear q1
    go_wp2
    refine bodyPost_ret (v := .tuple #[.agg #[.int .i64 0, .slice none 0 0, .slice none 0 0], .int .i64 x]) (by simp [results, Try.results30, go_sem, t0, t1, t2]) rfl ⟨HB.out, none, 0, none, 0, by rw [HR2.out]; rfl, by rw [HR2.out]; exact Own.nil _ _, by rw [HR2.out]; exact Own.nil _ _⟩
end Go.Proofs.Ytilolaednbcaoaa
