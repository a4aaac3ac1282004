/- The Go function ownSteps of package dish. -/
import Derived.Test.YtdgleicpcjfnoaaSteps
set_option linter.unusedVariables false
namespace Go.Proofs.Ytdgleicpcjfnoaa
open Go.RowKit

def OwnSR (w : World) (l : List StepL) (en : Ending) (w' : World) : Prop := Below w.heap.size w w' ∧ ∃ A c, en = .returned (.slice A l.length c) ∧ OwnS w' w.heap.size (.slice A l.length c) l
theorem OwnS.below {w w' : World} {base : Nat} {v : Value} {l : List StepL} (h : OwnS w base v l) (hb : Below w.heap.size w w') : OwnS w' base v l := own_below h hb

theorem ownAll_ok {n : Int} (its : List ItemL) {acc : List StepL} (fs : List Int) (h : StepsOk n acc) (hp : ∀ f ∈ fs, ∀ p ∈ (its[f.toNat]?.getD ([], [])).2, 0 ≤ p ∧ p < n) : StepsOk n (ownAll its acc fs) := by
  induction fs generalizing acc with
  | nil => exact h
  | cons x t ih => exact ih (ownHas_ok x _ h (hp x (by simp))) (fun f hh => hp f (by simp [hh]))
theorem ownAll_fresh (its : List ItemL) {acc : List StepL} (fs : List Int) (h : Fresh acc) (hp : ∀ f ∈ fs, ∀ p ∈ (its[f.toNat]?.getD ([], [])).2, 0 ≤ p ∧ p < 10) : Fresh (ownAll its acc fs) := by
  induction fs generalizing acc with
  | nil => exact h
  | cons x t ih => exact ih (ownHas_fresh x _ h (hp x (by simp))) (fun f hh => hp f (by simp [hh]))

set_option maxRecDepth 100000 in
set_option maxHeartbeats 4000000 in
theorem ownSteps_any (P : Int) (ia : Option Addr) (its : List ItemL) (ic : Nat) (r : Value) (n : Nat) (w : World) (h : ItemsAt w ia its) (hP : P ≤ 10) (hl : its.length ≤ 20) (hn : n < its.length) (hi : itemsE P 0 its = 0) :
  Calls Try.prog 68 #[.agg #[.int .i64 P, .slice ia its.length ic, r], .int .i64 n] w (fun en w' => OwnSR w (ownL its n) en w' ∧ StepsOk 10 (ownL its n) ∧ Fresh (ownL its n)) := by
  obtain ⟨i0, hinf, hz0, hz1, hz2⟩ := info_parts step_info
  have hB0 := (Below.refl w.heap.size w).alloc (Nat.le_refl _) (.cells #[.int .i64 P, .slice ia its.length ic, r] 25)
  have hA := h.below hB0
  have hns : ∀ f ∈ bitsTo (contL its n) 64, 0 ≤ f ∧ f < (its.length : Int) := fun f hf => by
    obtain ⟨i, rfl, _, hb⟩ := (mem_bitsTo _ _ _).1 hf
    have := contL_bits P its hi n hn i hb
    omega
  have hhas : ∀ f ∈ bitsTo (contL its n) 64, ∀ p ∈ (its[f.toNat]?.getD ([], [])).2, 0 ≤ p ∧ p < 10 := fun f hf p hp => by
    have := hns f hf
    have := isSetFrom_ge _ _ _ (itemsE_ok P its 0 hi f.toNat (by omega)).2.2 p hp
    omega
  have HNs := hid hns
  have HHas := hid hhas
  have hlen64 := bitsTo_len (contL its n) 64
  have HRes := hid (show ownL its n = ownAll its [] (bitsTo (contL its n) 64) from rfl)
  clear hns hhas
  go_enter Try.func68, Try.ntmps68
  go_wp2_with fail
  refine (contained_any _ _ _ _ _ _ _ hA hl hn hi).mono ?_
  rintro e w1 ⟨q1, hcl, rfl⟩
  have p1 := hB0.trans (q1.mono (by simp))
  have hs1 := q1.size
  simp only [World.size_alloc] at hs1
  have a1 : w1.cell? ⟨w.heap.size, 1, none⟩ = some (.slice ia its.length ic) := by rw [q1.cell (by simp)]; go_simp
  go_wp2_with fail
  refine (numbers_any _ _ (by omega)).mono ?_
  rintro e w2 ⟨q2, A, c, rfl, hown⟩
  have p2 := p1.trans (q2.mono p1.size)
  have hs2 := q2.size
  rw [← q2.cell (by simp; omega)] at a1
  obtain ⟨A', c', hv, hN⟩ := hown.ints (by have := hlen64; unfold numsL; omega) (fun x hx => by have := numsL_small _ x hx; omega)
  cases hv
  have hn2 : numsL (contL its n) = bitsTo (contL its n) 64 := rfl
  rw [hn2] at hN ⊢
  have hit := h.below p2
  clear hown hcl q1 q2 h hA hB0 hn2
  generalize bitsTo (contL its n) 64 = ns at *
  go_wp2
  go_loopw [5, 15] (fun v i wr => ∃ k : Nat, k ≤ ns.length ∧ i = .int .i64 k ∧ OwnS wr w2.heap.size v (ownAll its [] (ns.take k)) ∧ Below w2.heap.size w2 wr) (fun _ i _ => ns.length - (intOf i).toNat)
  case atStart => exact ⟨0, Nat.zero_le _, rfl, ⟨rfl, .inl ⟨rfl, rfl⟩⟩, Below.refl _ _⟩
  case round =>
    obtain ⟨k, hk, rfl, hS, hB⟩ := hrel
    have hszr := hB.size
    by_cases hlt : k < ns.length
    · rcases (hN.below hB).at_ with e | ⟨b, off, rfl, hc⟩
      · rw [e] at hlt; simp at hlt
      have c0 := hc k hlt
      have HT := hid (ownAll_take its [] ns k hlt)
      have hf := HNs.out _ (getD_mem ns k hlt)
      have hok := ownAll_ok (n := 10) (acc := []) its (ns.take k) (fun s hs => by cases hs) (fun f hf => HHas.out f (List.mem_of_mem_take hf))
      have hfr := ownAll_fresh (acc := []) its (ns.take k) (by rfl) (fun f hf => HHas.out f (List.mem_of_mem_take hf))
      have hhs := HHas.out _ (getD_mem ns k hlt)
      clear hc
      generalize ns[k]?.getD 0 = frm at *
      generalize ownAll its [] (ns.take k) = acc at *
      obtain ⟨fn, rfl⟩ := Int.eq_ofNat_of_zero_le hf.1
      rw [Int.toNat_natCast] at hhs
      have HI := hid (show ownItem its acc (fn : Int) = ownHas fn acc (its[fn]?.getD ([], [])).2 by unfold ownItem; rw [Int.toNat_natCast])
      have a1r : wr.cell? ⟨w.heap.size, 1, none⟩ = some (.slice ia its.length ic) := by rw [hB.cell (by simp; omega)]; exact a1
      rcases hit.at_ with e | ⟨bi, oi, rfl, hci⟩
      · rw [e] at hf; simp at hf; omega
      obtain ⟨A3, c3, B3, d3, j0c, j1c, _, hBi⟩ := hci fn (by omega)
      have i0c : wr.cell? _ = _ := (hB.cell (cell_lt j0c)).trans j0c
      have i1c : wr.cell? _ = _ := (hB.cell (cell_lt j1c)).trans j1c
      clear j0c j1c
      have hfl : (fn : Int) < (its.length : Int) := hf.2
      have g0 : w.heap.size < wr.heap.size := by omega
      have hlB := hBi.len
      clear hci
      generalize (its[fn]?.getD ([], [])).1 = ps at *
      generalize (its[fn]?.getD ([], [])).2 = hs at *
      have hHH := hid hhs
      clear hhs
      go_wp2
      obtain ⟨wo, rfl⟩ : ∃ wo : World, wo = wr := ⟨_, rfl⟩
      go_loopw [5, 26] (fun v i wr => ∃ j : Nat, j ≤ hs.length ∧ i = .int .i64 j ∧ OwnS wr w2.heap.size v (ownHas fn acc (hs.take j)) ∧ Below w2.heap.size w2 wr) (fun _ i _ => hs.length - (intOf i).toNat)
      case atStart => exact ⟨0, Nat.zero_le _, rfl, hS, hB⟩
      case round =>
        clear hB hszr hS c0 a1r i0c i1c g0
        obtain ⟨j, hj, rfl, hS, hB⟩ := hrel
        have hszr := hB.size
        by_cases hjlt : j < hs.length
        · rcases (hBi.below hB).at_ with e | ⟨bh, oh, rfl, hch⟩
          · rw [e] at hjlt; simp at hjlt
          have c0 := hch j hjlt
          have hp := hHH.out _ (getD_mem hs j hjlt)
          have HT2 := hid (ownHas_take fn acc hs j hjlt)
          have hok2 := ownHas_ok (n := 10) fn (hs.take j) hok (fun p hp => hHH.out p (List.mem_of_mem_take hp))
          have hfr2 := ownHas_fresh fn (hs.take j) hfr (fun p hp => hHH.out p (List.mem_of_mem_take hp))
          clear hch
          generalize hs[j]?.getD 0 = y at *
          generalize ownHas fn acc (hs.take j) = st at *
          obtain ⟨A4, c4, rfl⟩ := hS.sl
          have hst := hS.at_ (by have := hfr2.len; omega)
          have hln := hfr2.len
          have hpl : propsL st < 2 ^ 10 := propsL_lt 10 st (fun s hs => by have := hok2 s hs; omega)
          obtain ⟨yn, rfl⟩ := Int.eq_ofNat_of_zero_le hp.1
          have HM := hid (has_mask (propsL st) yn · (by omega) (by omega))
          go_wp2_with fail
          refine (propsOf_any _ _ _ _ hst (fun s hs => by have := hok2 s hs; omega)).mono ?_
          rintro e w5 ⟨q5, rfl⟩
          have p5 := hB.trans (q5.mono hB.size)
          have hS5 := hS.below q5
          go_wp2_with fail
          refine (HM.out _).mono ?_
          rintro e w' ⟨rfl, rfl⟩
          cases hb : (propsL st).testBit yn with
          | true =>
            have HA := hid (show ownAdd fn st (yn : Int) = st by unfold ownAdd; rw [if_pos (by rw [Int.toNat_natCast]; exact hb)])
            clear hb hst hS
            go_wp2
            go_roundw
            case rel => exact ⟨j + 1, by omega, by go_num, by rw [HT2.out, HA.out]; exact hS5, p5⟩
            case measure => simp [intOf]; omega
          | false =>
            have HA := hid (show ownAdd fn st (yn : Int) = st ++ [((yn : Int), (fn : Int), -1)] by unfold ownAdd; rw [if_neg (by rw [Int.toNat_natCast, hb]; simp)])
            clear hb hst hS
            unfold OwnS at hS5
            go_wp2_with (at_builtin; refine wpList_append_own _ rfl _ _ 42 rfl w2.heap.size 53 i0 (.agg #[.int .i64 0, .int .i64 0, .int .i64 0]) 3 24 Try.underlying42 hinf hz0 hz1 hz2 rfl (by decide) _ _ _ rfl (hS5.alloc _) ⟨w5.heap.size, 0, none⟩ 1 1 [.int .i64 (yn : Int), .int .i64 (fn : Int), .int .i64 (-1)] rfl rfl ?c1 ?c2 ?c3 ?c4 ?c5 ?_)
            case c1 => exact World.news_of_block (cs := #[.int .i64 (yn : Int), .int .i64 (fn : Int), .int .i64 (-1)]) (t := 53) (fr := (0, 0)) (heap_alloc_new w5 _)
            case c2 => simp [Value.oneCell']
            case c3 => unfold maxLen; omega
            case c4 => omega
            case c5 => have := p5.size; simp; omega
            intro v' w6 hown2 hgrow _
            have p6 := (p5.alloc p5.size _).grown hgrow (by have := p5.size; simp; omega) (fun q hq => by have := (hS5.lt q hq).1; omega)
            clear hgrow hS5
            go_wp2
            go_roundw
            case rel => exact ⟨j + 1, by omega, by go_num, by rw [HT2.out, HA.out]; unfold OwnS; rw [stepCells_snoc]; simpa using hown2, p6⟩
            case measure => simp [intOf]; omega
        · obtain rfl : j = hs.length := by omega
          rw [List.take_length] at hS
          go_wp2
          go_roundw
          case rel => exact ⟨k + 1, by omega, by go_num, by rw [HT.out, HI.out]; exact hS, hB⟩
          case measure => simp [intOf]; omega
    · obtain rfl : k = ns.length := by omega
      rw [List.take_length] at hS
      have hok := ownAll_ok (n := 10) (acc := []) its ns (fun s hs => by cases hs) HHas.out
      have hfr := ownAll_fresh (acc := []) its ns (by rfl) HHas.out
      rw [← HRes.out] at hok hfr hS
      obtain ⟨A4, c4, rfl⟩ := hS.sl
      go_wp2
      go_ret
      exact ⟨⟨p2.trans (hB.mono p2.size), A4, c4, rfl, own_weak hS p2.size⟩, hok, hfr⟩

end Go.Proofs.Ytdgleicpcjfnoaa
