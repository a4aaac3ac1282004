/- Until of package order. -/
import Derived.Test.YtkepjoociidkcaaOrTell
import Derived.Shelf.Slices.Clone
set_option linter.unusedVariables false
namespace Go.Proofs.Ytkepjoociidkcaa
open Go.RowKit

def FsR (w : World) (l : List Fct) (en : Ending) (w' : World) : Prop := Below w.heap.size w w' ∧ ∃ A c, en = .returned (.slice A l.length c) ∧ l.length ≤ c ∧ FactsAt w' A l
set_option maxRecDepth 100000 in
set_option maxHeartbeats 2000000 in
theorem clone_any (a : Option Addr) (l : List Fct) (n c : Nat) (w : World) (hl : FactsAt w a l) (hn : n ≤ l.length) (h60 : n ≤ 1000) :
  Calls Try.prog 67 #[.slice a n c] w (FsR w (l.take n)) := by
  obtain ⟨i0, hinf, hz0, hz1, hz2⟩ := info_parts fc_info
  have q22 : ∀ (w : World) (a : Option Addr) (n c n' c' : Nat), (binOp .eql 22 (.slice a n c) (.slice none n' c')).run Try.prog w = .ok (.bool a.isNone) w := fun w a n c n' c' => Lib.run_eql_slice_nil w _ _ a n c n' c' Try.underlying22
  have hlt : (l.take n).length = n := by simp; omega
  have HLt := hid hlt
  clear hlt
  rcases hl.at_ with e | ⟨b, off, rfl, hc⟩
  · have hn0 : n = 0 := by rw [e] at hn; simpa using hn
    subst hn0
    have HT := hid (show l.take 0 = [] from rfl)
    clear hl e
    cases a with
    | none =>
      go_enter Try.func67, Try.ntmps67
      go_wp2
      go_ret
      exact ⟨Below.refl _ _, none, 0, by rw [HT.out]; rfl, by rw [HT.out]; exact Nat.le_refl _, by rw [HT.out]; exact factsNil _⟩
    | some ad =>
      go_enter Try.func67, Try.ntmps67
      go_wp2_with (at_builtin; refine wpList_append_own _ rfl _ _ 22 rfl w.heap.size 24 i0 (.agg #[.int .i64 0, .int .i64 0, .int .i64 0, .int .i64 0, .int .i64 0]) 5 40 Try.underlying22 hinf hz0 hz1 hz2 rfl (by decide) _ _ _ rfl (World.ownsRow_made w #[] 0 (Nat.le_refl _) (Nat.zero_le _) rfl) ad 0 c [] rfl rfl (by intro j u hj; simp at hj) (by intro u hu; cases hu) (by unfold maxLen; omega) (by omega) (by simp) ?_)
      intro v' w1 hown hgrow _
      have hO := hid (show OwnF w1 w.heap.size v' [] from hown)
      obtain ⟨A, cc, rfl, hcl⟩ := hO.out.sl
      have p1 := ((Below.refl w.heap.size w).alloc (Nat.le_refl _) (.cells #[] 24)).grown hgrow (by simp) (fun q hq => by simp [Value.ownBlock] at hq; omega)
      have hat := hid (hO.out.at_ (by simp))
      go_wp2
      go_ret
      exact ⟨p1, A, cc, by rw [HT.out]; rfl, by rw [HT.out]; exact hcl, by rw [HT.out]; exact hat.out⟩
  · have hnews := FactsAt.news (l := l.take n) (w := w) (b := b) (off := off) (fun i hi => by
      have hi' : i < n := by rw [HLt.out] at hi; exact hi
      rw [fAt_take _ _ _ hi']; exact hc i (by omega))
    have hone := fcCells_one (l.take n)
    have hcl := fcCells_len (l.take n)
    rw [HLt.out] at hcl
    have HC := hid hc
    have HFc := hid (show (fcCells (l.take n)).length = n * 5 from hcl)
    have hbw : n = 0 ∨ b < w.heap.size := by
      by_cases h0 : n = 0
      · exact .inl h0
      · exact .inr (cell_lt (hc 0 (by omega)).1)
    clear hc hl hcl
    have HNw := hid hnews
    have HOn := hid hone
    clear hnews hone
    go_enter Try.func67, Try.ntmps67
    go_wp2_with (at_builtin; refine wpList_append_own _ rfl _ _ 22 rfl w.heap.size 24 i0 (.agg #[.int .i64 0, .int .i64 0, .int .i64 0, .int .i64 0, .int .i64 0]) 5 40 Try.underlying22 hinf hz0 hz1 hz2 rfl (by decide) _ _ _ rfl (World.ownsRow_made w #[] 0 (Nat.le_refl _) (Nat.zero_le _) rfl) ⟨b, off, none⟩ n c (fcCells (l.take n)) rfl HFc.out ?c1 HOn.out ?c3 ?c4 (by simp) ?_)
    case c1 =>
      intro j u hj
      have h1 := HNw.out j u hj
      exact (((Below.refl w.heap.size w).alloc (Nat.le_refl _) (.cells #[] 24)).cell (cell_lt h1)).trans h1
    case c3 => unfold maxLen; omega
    case c4 => omega
    intro v' w1 hown hgrow _
    have hO := hid (show OwnF w1 w.heap.size v' (l.take n) by unfold OwnF; rw [HLt.out]; simpa using hown)
    obtain ⟨A, cc, rfl, hcl⟩ := hO.out.sl
    have p1 := ((Below.refl w.heap.size w).alloc (Nat.le_refl _) (.cells #[] 24)).grown hgrow (by simp) (fun q hq => by simp [Value.ownBlock] at hq; omega)
    have hat := hid (hO.out.at_ (by rw [HLt.out]; omega))
    clear hown hgrow
    go_wp2
    go_ret
    exact ⟨p1, A, cc, rfl, hcl, hat.out⟩

set_option maxHeartbeats 2000000 in
theorem Until_any (a : Option Addr) (l : List Fct) (cap : Nat) (at_ : Int) (w : World) (hl : FactsAt w a l) (hcap : l.length ≤ cap) :
  Calls Try.prog 32 #[.slice a l.length cap, .int .i64 at_] w (FactsR w (untilL l at_)) := by
  have hlen := hl.len
  have HV := hid (validate_any a l cap w hl)
  by_cases h0 : validE l = 0
  · obtain ⟨h60, _, hs⟩ := validE_ok h0
    have HM := hid (show untilL l at_ = (l.take (cutL at_ l), 0) from if_pos h0)
    rw [h0] at HV
    have HL := hid hl
    have HSo := hid hs
    have hcl := cutL_le at_ l
    have HLt := hid (show (l.take (cutL at_ l)).length = cutL at_ l by simp; omega)
    clear h0 hl hs
    go_enter Try.func32, Try.ntmps32
    go_wp2_with fail
    refine HV.out.mono ?_
    rintro e w1 ⟨q1, rfl⟩
    have HW := hid (written_any a l cap at_ w1 (HL.out.below q1) HSo.out hcap)
    go_wp2_with fail
    refine HW.out.mono ?_
    rintro e w2 ⟨q2, rfl⟩
    have p2 := q1.trans (q2.mono q1.size)
    have HC := hid (clone_any a l (cutL at_ l) (cutL at_ l) w2 (HL.out.below p2) hcl (by omega))
    go_wp2_with fail
    refine HC.out.mono ?_
    rintro e w3 ⟨q3, A, cc, rfl, hcc, hA⟩
    go_wp2
    go_ret2
    exact ⟨p2.trans (q3.mono p2.size), A, cc, by rw [HM.out]; dsimp only; rw [HLt.out]; rfl, by rw [HM.out]; exact hcc, by rw [HM.out]; exact hA⟩
  · have HM := hid (show untilL l at_ = ([], validE l) from if_neg h0)
    have h0' : (validE l != 0) = true := by simp [h0]
    clear h0 hl
    generalize validE l = x at *
    go_enter Try.func32, Try.ntmps32
    go_wp2_with fail
    refine HV.out.mono ?_
    rintro e w1 ⟨q1, rfl⟩
    go_wp2
    go_ret2
    exact ⟨q1, none, 0, by rw [HM.out]; rfl, by rw [HM.out]; exact Nat.le_refl _, by rw [HM.out]; exact factsNil _⟩
end Go.Proofs.Ytkepjoociidkcaa
