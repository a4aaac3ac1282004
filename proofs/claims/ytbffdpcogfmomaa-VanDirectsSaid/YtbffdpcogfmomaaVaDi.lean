/- The program's distances: chapter 8. -/
import Derived.Test.YtbffdpcogfmomaaVaPm
import Derived.Test.YtbffdpcogfmomaaVaFwM
import Derived.Test.YtbffdpcogfmomaaVaRows
import Derived.BigQuiet
import Derived.Carry
set_option linter.unusedVariables false
namespace Go.Proofs.Ytbffdpcogfmomaa
open Go.RowKit Go.Maps

theorem filF_row (t : Tbl) (f : Nat) : ∀ i j c, filF t (f + 1) 0 i j = some c → filF t f t.length i j = some c := by
  intro i j c h
  unfold filF at *
  split at h
  · rename_i hh
    rw [if_pos (by omega)]; exact h
  · cases h
theorem filF_put (t : Tbl) (f o : Nat) : ∀ i j c, filF t f (o + 1) i j = some c → putF (filF t f o) f o (tA t f o) i j = some c := by
  intro i j c h
  unfold filF putF at *
  split at h
  · rename_i hh
    by_cases e : i = f ∧ j = o
    · rw [if_pos e]; obtain ⟨rfl, rfl⟩ := e; exact h
    · rw [if_neg e]; dsimp only; rw [if_pos (by omega)]; exact h
  · cases h
theorem filF_end (t : Tbl) : ∀ i j c, mapF t.length (stF t 0 0 0) i j = some c → filF t t.length 0 i j = some c := by
  intro i j c h
  rw [stF_start] at h
  unfold filF mapF at *
  split at h
  · rename_i hh
    rw [if_pos (by omega)]; exact h
  · cases h
theorem mapF_at {n : Nat} {g : Nat → Nat → Int} {i j : Nat} (hi : i < n) (hj : j < n) : mapF n g i j = some (g i j) := if_pos ⟨hi, hj⟩
theorem mapF_of {n : Nat} {g h : Nat → Nat → Int} (e : ∀ i j, i < n → j < n → g i j = h i j) : ∀ i j c, mapF n g i j = some c → mapF n h i j = some c := by
  intro i j c hh
  unfold mapF at *
  split at hh
  · rename_i h2
    rw [if_pos h2, ← e i j h2.1 h2.2]; exact hh
  · cases hh
theorem mapF_put (t : Tbl) (k f o : Nat) : ∀ i j c, mapF t.length (stF t k f (o + 1)) i j = some c → putF (mapF t.length (stF t k f o)) f o (fwM t (k + 1) f o) i j = some c := by
  intro i j c h
  unfold mapF at h
  split at h
  · rename_i hh
    rw [stF_put] at h
    unfold putF
    by_cases e : i = f ∧ j = o
    · rw [if_pos e] at h ⊢; exact h
    · rw [if_neg e] at h ⊢; unfold mapF; rw [if_pos hh]; exact h
  · cases h
set_option maxRecDepth 100000 in
set_option maxHeartbeats 4000000 in
theorem vDistances_any (a : Option Addr) (t : Tbl) (cap : Nat) (w : World) (h : TabAt w a t) (ht : Ways t) :
  Calls Try.prog 75 #[.slice a t.length cap] w (fun en w' => Below w.heap.size w w' ∧ ∃ b cnt, en = .returned (.map (some b)) ∧ w.heap.size ≤ b ∧ PMap w' b cnt (mapF t.length (fwM t t.length))) := by
  have hl7 := ht.len
  have hpos := ht.pos
  obtain ⟨b, off, rfl, hc⟩ := h.sq ht.sq hpos
  have HC := hid (fun (w' : World) (hb : Below w.heap.size w w') => show ∀ i, i < t.length → ∃ b2 o2 c, w'.cell? ⟨b, off + i, none⟩ = some (.slice (some ⟨b2, o2, none⟩) t.length c) ∧ ∀ j, j < t.length → w'.cell? ⟨b2, o2 + j, none⟩ = some (.int .i64 (tA t i j)) ∧ b2 < w.heap.size from fun i hi => by
    obtain ⟨b2, o2, c, h1, _, h3⟩ := hc i hi
    exact ⟨b2, o2, c, by rw [hb.cell (cell_lt h1)]; exact h1, fun j hj => ⟨by rw [hb.cell (cell_lt (h3 j hj))]; exact h3 j hj, cell_lt (h3 j hj)⟩⟩)
  have HT := hid ht
  clear h hc ht
  have hmm := @run_makeMap Try.prog
  have hmm := @run_makeMap Try.prog
  have hmm := @run_makeMap Try.prog
  go_enter Try.func75, Try.ntmps75
  go_wp2
  have HM0 := hid (PMap.made w)
  have HB0 := hid ((Below.refl w.heap.size w).alloc (Nat.le_refl _) (.map #[] 0))
  obtain ⟨m, hm⟩ : ∃ m, w.heap.size = m := ⟨_, rfl⟩
  have HS := hid hm
  clear hmm hm
  go_loopw [15] (fun i wr => ∃ (f : Nat), f ≤ t.length ∧ i = .int .i64 f ∧ Hid (PMap wr w.heap.size (7 * f) (filF t f 0)) ∧ Hid (Below w.heap.size w wr)) (fun i _ => t.length - (intOf i).toNat)
  case atStart => exact ⟨0, Nat.zero_le _, rfl, hid (HM0.out.congr (fun i j c h => by unfold filF at h; rw [if_neg (by omega)] at h; cases h)), HB0⟩
  case round =>
    obtain ⟨f, hf, rfl, HM, HB⟩ := hrel
    by_cases hlt : f < t.length
    · obtain ⟨b2, o2, c2, g1, hg2⟩ := HC.out wr HB.out f hlt
      have q1 : (f : Int) < (t.length : Int) := by omega
      clear HM0 HB0
      generalize wr = wo at *
      have HG2 := hid (fun (w' : World) (hb : Below w.heap.size w w') => show ∀ j, j < t.length → w'.cell? ⟨b2, o2 + j, none⟩ = some (.int .i64 (tA t f j)) from fun j hj => by
        have h1 := hg2 j hj
        rw [hb.cell h1.2, ← HB.out.cell (p := ⟨b2, o2 + j, none⟩) h1.2]; exact h1.1)
      clear hg2
      go_wp2
      go_loopw [22] (fun i wr => ∃ (o : Nat), o ≤ t.length ∧ i = .int .i64 o ∧ Hid (PMap wr w.heap.size (7 * f + o) (filF t f o)) ∧ Hid (Below w.heap.size w wr)) (fun i _ => t.length - (intOf i).toNat)
      case atStart => exact ⟨0, Nat.zero_le _, rfl, HM, HB⟩
      case round =>
        obtain ⟨o, ho, rfl, HM1, HB1⟩ := hrel
        clear g1
        by_cases hlt2 : o < t.length
        · have d1 := HG2.out wr HB1.out o hlt2
          have hbd := HT.out.bd f o hlt hlt2
          have q2 : (o : Int) < (t.length : Int) := by omega
          have hsz := HB1.out.size
          as_aux_lemma =>
            go_wp2_with (at_mapUpdate; refine wpList_pairPut rfl _ _ _ _ rfl Try.underlying94 w.heap.size (7 * f + o) (filF t f o) rfl HM1.out (by unfold maxLen; omega) f o (by omega) (by omega) (tA t f o) rfl rfl (by omega) ?_; intro w1 hown1 hgrow1)
            have HM2 := hid (hown1.congr (filF_put t f o))
            have HB2 := hid (HB1.out.grown hgrow1 hsz (fun j hj => by cases hj; exact Nat.le_refl _))
            clear hown1 hgrow1
            go_roundw
            case rel => exact ⟨o + 1, by omega, by go_num, HM2, HB2⟩
            case measure => simp [intOf]; omega
        · obtain rfl : o = t.length := by omega
          as_aux_lemma =>
            go_wp2
            go_roundw
            case rel => exact ⟨f + 1, by omega, by go_num, hid ((HM1.out.congr (filF_row t f)).mono (by omega)), HB1⟩
            case measure => simp [intOf]; omega
    · obtain rfl : f = t.length := by omega
      have HM1 := hid ((HM.out.congr (filF_end t)).mono (show 7 * t.length ≤ 49 by omega))
      clear HM HM0 HB0
      generalize wr = wf at *
      as_aux_lemma =>
      go_wp2
      go_loopw [36] (fun i wr => ∃ (k : Nat), k ≤ t.length ∧ i = .int .i64 k ∧ Hid (PMap wr w.heap.size (49 + 49 * k) (mapF t.length (stF t k 0 0))) ∧ Hid (Below w.heap.size w wr)) (fun i _ => t.length - (intOf i).toNat)
      case atStart => exact ⟨0, Nat.zero_le _, rfl, HM1, HB⟩
      case round =>
        obtain ⟨k, hk, rfl, HM2, HB2⟩ := hrel
        clear HM1 HB
        by_cases hltk : k < t.length
        · generalize wr = wk at *
          have q1 : (k : Int) < (t.length : Int) := by omega
          as_aux_lemma =>
          go_wp2
          go_loopw [41] (fun i wr => ∃ (f : Nat), f ≤ t.length ∧ i = .int .i64 f ∧ Hid (PMap wr w.heap.size (49 + 49 * k + 7 * f) (mapF t.length (stF t k f 0))) ∧ Hid (Below w.heap.size w wr)) (fun i _ => t.length - (intOf i).toNat)
          case atStart => exact ⟨0, Nat.zero_le _, rfl, HM2, HB2⟩
          case round =>
            obtain ⟨f, hf, rfl, HM3, HB3⟩ := hrel
            clear HM2 HB2
            by_cases hltf : f < t.length
            · generalize wr = wf2 at *
              have q2 : (f : Int) < (t.length : Int) := by omega
              as_aux_lemma =>
              go_wp2
              go_loopw [46] (fun i wr => ∃ (o : Nat), o ≤ t.length ∧ i = .int .i64 o ∧ Hid (PMap wr w.heap.size (49 + 49 * k + 7 * f + o) (mapF t.length (stF t k f o))) ∧ Hid (Below w.heap.size w wr)) (fun i _ => t.length - (intOf i).toNat)
              case atStart => exact ⟨0, Nat.zero_le _, rfl, HM3, HB3⟩
              case round =>
                obtain ⟨o, ho, rfl, HM4, HB4⟩ := hrel
                clear HM3 HB3
                by_cases hlto : o < t.length
                · have q3 : (o : Int) < (t.length : Int) := by omega
                  have e1 := stF_col HT.out (k := k) (f := f) (o := o) (i := f) hltk hltf
                  have e2 := stF_rowk HT.out (k := k) (f := f) (o := o) (j := o) hltk hlto
                  have e3 := stF_at t k f o
                  have l1 : ∀ n, (Instr.lookup 94 (.map (some w.heap.size)) (.agg #[.int .i64 f, .int .i64 k]) false).run Try.prog (wr.drewN n) = .ok (.int .i64 (fwM t k f k)) (wr.drewN n) := fun n => (HM4.out.drewN n).look f k (by omega) (by omega) _ (by rw [mapF_at hltf hltk, e1])
                  have l2 : ∀ n, (Instr.lookup 94 (.map (some w.heap.size)) (.agg #[.int .i64 k, .int .i64 o]) false).run Try.prog (wr.drewN n) = .ok (.int .i64 (fwM t k k o)) (wr.drewN n) := fun n => (HM4.out.drewN n).look k o (by omega) (by omega) _ (by rw [mapF_at hltk hlto, e2])
                  have l3 : ∀ n, (Instr.lookup 94 (.map (some w.heap.size)) (.agg #[.int .i64 f, .int .i64 o]) false).run Try.prog (wr.drewN n) = .ok (.int .i64 (fwM t k f o)) (wr.drewN n) := fun n => (HM4.out.drewN n).look f o (by omega) (by omega) _ (by rw [mapF_at hltf hlto, e3])
                  have b1 := fwM_bd HT.out k (by omega) f k hltf hltk
                  have b2 := fwM_bd HT.out k (by omega) k o hltk hlto
                  have b3 := fwM_bd HT.out k (by omega) f o hltf hlto
                  have HM5 := hid (fun (W : World) (n : Nat) (hn : PMap W w.heap.size n (putF (mapF t.length (stF t k f o)) f o (min (fwM t k f o) (fwM t k f k + fwM t k k o)))) => hn.congr (mapF_put t k f o))
                  have hsz := HB4.out.size
                  clear e1 e2 e3
                  generalize fwM t k f k = x1 at *
                  generalize fwM t k k o = x2 at *
                  generalize fwM t k f o = x3 at *
                  have s1 : IntKind.i64.wrap (x1 + x2) = x1 + x2 := IntWalk.i64_in _ (by omega)
                  clear HC
                  go_wp2_with fail
                  go_quiet (fail)
                  have l4 := l3 nq
                  have HM6 := hid (HM4.out.drewN nq)
                  have HB6 := hid (below_drewN HB4.out nq)
                  have hs6 := HB6.out.size
                  have hmn : -9223372036854775808 ≤ min x3 (x1 + x2) ∧ min x3 (x1 + x2) ≤ 9223372036854775807 := by omega
                  clear l1 l2 l3 HM4 HB4
                  generalize wr.drewN nq = wq at *
                  as_aux_lemma =>
                    go_wp2_with (at_mapUpdate; refine wpList_pairPut rfl _ _ _ _ rfl Try.underlying94 w.heap.size (49 + 49 * k + 7 * f + o) (mapF t.length (stF t k f o)) rfl HM6.out (by unfold maxLen; omega) f o (by omega) (by omega) (min x3 (x1 + x2)) rfl (by first | rfl | (simp [Act.eval]; omega)) hmn ?_; intro w1 hown1 hgrow1)
                    have HM7 := hid (HM5.out _ _ hown1)
                    have HB7 := hid (HB6.out.grown hgrow1 hs6 (fun j hj => by cases hj; exact Nat.le_refl _))
                    clear hown1 hgrow1
                    go_roundw
                    case rel => exact ⟨o + 1, by omega, by go_num, HM7, HB7⟩
                    case measure => simp [intOf]; omega
                · obtain rfl : o = t.length := by omega
                  as_aux_lemma =>
                    go_wp2
                    go_roundw
                    case rel => exact ⟨f + 1, by omega, by go_num, hid ((HM4.out.congr (mapF_of (fun i j hi hj => (stF_row hj).symm))).mono (by omega)), HB4⟩
                    case measure => simp [intOf]; omega
            · obtain rfl : f = t.length := by omega
              as_aux_lemma =>
                go_wp2
                go_roundw
                case rel => exact ⟨k + 1, by omega, by go_num, hid ((HM3.out.congr (mapF_of (fun i j hi hj => by rw [stF_start]; exact (stF_end hi).symm))).mono (by omega)), HB3⟩
                case measure => simp [intOf]; omega
        · obtain rfl : k = t.length := by omega
          as_aux_lemma =>
            go_wp2
            go_ret
            exact ⟨HB2.out, _, _, rfl, Nat.le_refl _, HM2.out.congr (mapF_of (fun i j hi hj => by rw [stF_start]))⟩
end Go.Proofs.Ytbffdpcogfmomaa
