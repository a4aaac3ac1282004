/- The theorem TopTimes: its early ends, and all together. -/
import Derived.Test.YtkepjoociidkcaaTopTimesV
set_option linter.unusedVariables false
namespace Go.Proofs.Ytkepjoociidkcaa
open Go.RowKit

set_option maxRecDepth 100000 in
set_option maxHeartbeats 2000000 in
theorem topTimes_long (a : Option Addr) (n cap : Nat) (f : Fct) (x y z : Int) (w : World) (h0 : n ≤ 9223372036854775807) (h200 : 200 < n) :
  Calls Try.prog 11 #[.slice a n cap, .agg #[.int .i64 f.a, .int .i64 f.c, .int .i64 f.f, .int .i64 f.t, .int .i64 f.m], .agg #[.int .i64 x, .int .i64 y, .int .i64 z]] w (BoolR w true) := by
  have HBx := hid (TwoBox.new w f x y z 24 36)
  have HB0 := hid (show Below w.heap.size w ((w.alloc (.cells #[.int .i64 f.a, .int .i64 f.c, .int .i64 f.f, .int .i64 f.t, .int .i64 f.m] 24)).alloc (.cells #[.int .i64 x, .int .i64 y, .int .i64 z] 36)) from ((Below.refl w.heap.size w).alloc (Nat.le_refl _) _).alloc (by simp) _)
  have HK1 := hid (fun W (h : FactsAt W (some ⟨(w.heap.size + 1) + 1, 0, none⟩) [one4]) => Known_any (some ⟨(w.heap.size + 1) + 1, 0, none⟩) [one4] 1 0 1 0 W h (Nat.le_refl _))
  rw [known_one] at HK1
  have hd2 : decide ((200 : Int) < (n : Int)) = true := by simp; omega
  go_enter Try.func11, Try.ntmps11
  go_wp2_with fail
  generalize hW2 : (w.alloc (.cells #[.int .i64 f.a, .int .i64 f.c, .int .i64 f.f, .int .i64 f.t, .int .i64 f.m] 24)).alloc (.cells #[.int .i64 x, .int .i64 y, .int .i64 z] 36) = W2 at *
  have hz2 : W2.heap.size = (w.heap.size + 1) + 1 := by rw [← hW2]; simp
  refine (HK1.out _ (one_at W2 _ hz2)).mono ?_
  rintro e w1 ⟨q1, rfl⟩
  have hb3 := below_new W2 (.cells #[.int .i64 0, .int .i64 1, .int .i64 0, .int .i64 1, .int .i64 4] 24)
  have p1 := (HB0.out.trans (hb3.mono HB0.out.size)).trans (q1.mono (by have := HB0.out.size; simp; omega))
  have X1 := hid ((HBx.out.below hb3).below q1)
  clear hW2 hz2 hb3 q1 HK1 HB0 HBx
  obtain ⟨b0, b1, b2, b3, b4, b5, b6, b7⟩ := X1.out.cells
  go_wp2_with fail
  refine (long5_any _ _ _ _ (by omega)).mono ?_
  rintro e w' ⟨rfl, rfl⟩
  rw [hd2]
  go_wp2
  go_ret
  exact ⟨p1, rfl⟩

set_option maxRecDepth 100000 in
set_option maxHeartbeats 2000000 in
theorem topTimes_err (a : Option Addr) (l : List Fct) (cap : Nat) (f : Fct) (x y z : Int) (w : World) (hl : FactsAt w a l) (hcap : l.length ≤ cap) (h200 : l.length ≤ 200) (e1 : Int) (hA : addL l f = ([], e1)) (he : ¬ e1 = 0) :
  Calls Try.prog 11 #[.slice a l.length cap, .agg #[.int .i64 f.a, .int .i64 f.c, .int .i64 f.f, .int .i64 f.t, .int .i64 f.m], .agg #[.int .i64 x, .int .i64 y, .int .i64 z]] w (BoolR w true) := by
  have hlen := hl.len
  have HBx := hid (TwoBox.new w f x y z 24 36)
  have HB0 := hid (show Below w.heap.size w ((w.alloc (.cells #[.int .i64 f.a, .int .i64 f.c, .int .i64 f.f, .int .i64 f.t, .int .i64 f.m] 24)).alloc (.cells #[.int .i64 x, .int .i64 y, .int .i64 z] 36)) from ((Below.refl w.heap.size w).alloc (Nat.le_refl _) _).alloc (by simp) _)
  have HK1 := hid (fun W (h : FactsAt W (some ⟨(w.heap.size + 1) + 1, 0, none⟩) [one4]) => Known_any (some ⟨(w.heap.size + 1) + 1, 0, none⟩) [one4] 1 0 1 0 W h (Nat.le_refl _))
  rw [known_one] at HK1
  have hd2 : decide ((200 : Int) < (l.length : Int)) = false := by simp; omega
  have HA := hid (fun W (h : FactsAt W a l) => Add_any a l cap f W h hcap)
  rw [hA] at HA
  have HL := hid hl
  have he' : (e1 != 0) = true := by simp [he]
  clear hA hl he
  go_enter Try.func11, Try.ntmps11
  go_wp2_with fail
  generalize hW2 : (w.alloc (.cells #[.int .i64 f.a, .int .i64 f.c, .int .i64 f.f, .int .i64 f.t, .int .i64 f.m] 24)).alloc (.cells #[.int .i64 x, .int .i64 y, .int .i64 z] 36) = W2 at *
  have hz2 : W2.heap.size = (w.heap.size + 1) + 1 := by rw [← hW2]; simp
  refine (HK1.out _ (one_at W2 _ hz2)).mono ?_
  rintro e w1 ⟨q1, rfl⟩
  have hb3 := below_new W2 (.cells #[.int .i64 0, .int .i64 1, .int .i64 0, .int .i64 1, .int .i64 4] 24)
  have p1 := (HB0.out.trans (hb3.mono HB0.out.size)).trans (q1.mono (by have := HB0.out.size; simp; omega))
  have X1 := hid ((HBx.out.below hb3).below q1)
  clear hW2 hz2 hb3 q1 HK1 HB0 HBx
  obtain ⟨b0, b1, b2, b3, b4, b5, b6, b7⟩ := X1.out.cells
  go_wp2_with fail
  refine (long5_any _ _ _ _ (by omega)).mono ?_
  rintro e w' ⟨rfl, rfl⟩
  rw [hd2]
  go_wp2_with fail
  refine (HA.out w1 (HL.out.below p1)).mono ?_
  rintro e w2 ⟨q2, A, c, rfl, hc, hO⟩
  have p2 := p1.trans (q2.mono p1.size)
  clear hO
  go_wp2
  go_ret
  exact ⟨p2, rfl⟩
theorem addL_cases (l : List Fct) (f : Fct) : (∃ e, addL l f = ([], e) ∧ ¬ e = 0) ∨ (addL l f = (l ++ [f], 0) ∧ validE l = 0 ∧ validE (l ++ [f]) = 0) := by
  unfold addL
  by_cases h : validE l = 0
  · rw [if_pos h]
    by_cases h2 : validE (l ++ [f]) = 0
    · rw [if_pos h2]; exact .inr ⟨rfl, h, h2⟩
    · rw [if_neg h2]; exact .inl ⟨_, rfl, h2⟩
  · rw [if_neg h]; exact .inl ⟨_, rfl, h⟩
theorem topTimes_walk (a : Option Addr) (l : List Fct) (cap : Nat) (f : Fct) (x y z : Int) (w : World) (h0 : l.length ≤ 9223372036854775807) (hl : l.length ≤ 140737488355328 → FactsAt w a l) (hcap : l.length ≤ cap) :
  Calls Try.prog 11 #[.slice a l.length cap, .agg #[.int .i64 f.a, .int .i64 f.c, .int .i64 f.f, .int .i64 f.t, .int .i64 f.m], .agg #[.int .i64 x, .int .i64 y, .int .i64 z]] w (BoolR w true) := by
  by_cases h : 200 < l.length
  · exact topTimes_long a l.length cap f x y z w h0 h
  · rcases addL_cases l f with ⟨e, hA, he⟩ | ⟨hA, hv, hm⟩
    · exact topTimes_err a l cap f x y z w (hl (by omega)) hcap (by omega) e hA he
    · have hfb := factB_iff.1 ((validE_ok hm).2.1 f (by simp))
      have hK0 := fun hx => (known_more hv hm x y z hx).symm
      rcases known_err hm x y z with hg | hg
      · obtain ⟨m, b, sp, ch, g1, g2, g3, g4, g5, g6, g7, g8, g9⟩ := times_law hv hm x y z hg
        exact topTimes_main a l cap f x y z w (hl (by omega)) hcap (by omega) (l ++ [f]) ((l ++ [f]).take (cutL x (l ++ [f]))) (cmpL (l ++ [f]) x).1 sp ch m b (cmpL (l ++ [f]) x).2 0 hA hK0 g1 (.inl rfl) g2 (fun _ => g3) (fun _ => g4) (fun _ => g5) rfl (fun _ => g6) (fun _ => g7) (fun _ => g8) (fun _ => g9) hfb.1
      · have n01 : ¬ (1 : Int) = 0 := by decide
        exact topTimes_main a l cap f x y z w (hl (by omega)) hcap (by omega) (l ++ [f]) (untilL (l ++ [f]) x).1 (cmpL (l ++ [f]) x).1 [] [] (knownL (l ++ [f]) x y z).1 0 (cmpL (l ++ [f]) x).2 1 hA hK0 (by rw [← hg]) (.inr rfl)
          (by have : untilL (l ++ [f]) x = ((l ++ [f]).take (cutL x (l ++ [f])), 0) := if_pos hm
              rw [this]) (fun h => absurd h n01) (fun h => absurd h n01) (fun h => absurd h n01) rfl (fun h => absurd h n01) (fun h => absurd h n01) (fun h => absurd h n01) (fun h => absurd h n01) hfb.1
end Go.Proofs.Ytkepjoociidkcaa
