/- Potentials that are moved; Tree and Bound: package van. -/
import Derived.Test.YtbffdpcogfmomaaVaBound
set_option linter.unusedVariables false
namespace Go.Proofs.Ytbffdpcogfmomaa
open Go.RowKit

theorem pots_push {q : List Int} {k : Nat} {z : Int} (h : Pots q k) (hz : -1000 ≤ z ∧ z ≤ 1000) : Pots (q ++ [z]) (k + 1) := by
  refine ⟨by rw [List.length_append, h.len]; rfl, fun x hx => ?_⟩
  rcases List.mem_append.1 hx with hx | hx
  · exact h.bd x hx
  · simp at hx; subst hx; exact hz
theorem pots_ints {w : World} {base : Nat} {v : Value} {q : List Int} {n : Nat} (h : Own w base v q) (hp : Pots q n) (hn : n ≤ 7) : ∃ A c, v = .slice A n c ∧ Ints w A q := by
  have hl := hp.len
  obtain ⟨A, c, hv, hi⟩ := own_intsV h (by omega) (fun x hx => by have := hp.bd x hx; omega)
  rw [hl] at hv
  exact ⟨A, c, hv, hi⟩
set_option maxRecDepth 100000 in
set_option maxHeartbeats 4000000 in
theorem vMoved_any (A D : Option Addr) (p ds : List Int) (n c d : Nat) (step : Int) (w : World) (hi : Ints w A p) (hd : Ints w D ds) (hp : Pots p n) (hdl : ds.length = n) (hdb : ∀ x ∈ ds, 0 ≤ x ∧ x ≤ 20) (hs : 0 ≤ step ∧ step ≤ 1000) (hn : n ≤ 7) :
  Calls Try.prog 96 #[.slice A n c, .slice D n d, .int .i64 step] w (fun en w' => Below w.heap.size w w' ∧ ∃ B e q, en = .returned (.slice B n e) ∧ Ints w' B q ∧ Pots q n) := by
  obtain ⟨i0, hinf, hz0, hz1, hz2⟩ := info_parts int_info
  have HI := hid hi
  have HD := hid hd
  have HP := hid hp
  have HDl := hid hdl
  have HDb := hid hdb
  clear hi hd hp hdl hdb
  go_enter Try.func96, Try.ntmps96
  go_wp2_with fail
  go_loopw [7, 12] (fun v i wr => ∃ (k : Nat) (q : List Int), k ≤ n ∧ i = .int .i64 k ∧ Hid (Own wr w.heap.size v q) ∧ Hid (Pots q k) ∧ Hid (Below w.heap.size w wr)) (fun _ i _ => n - (intOf i).toNat)
  case atStart => exact ⟨0, [], Nat.zero_le _, rfl, Own.nil _ _, ⟨rfl, by simp⟩, Below.refl _ _⟩
  case round =>
    obtain ⟨k, q, hk, rfl, HO, HQ, HB⟩ := hrel
    by_cases hlt : k < n
    · obtain ⟨b1, o1, rfl, hc1⟩ := (HI.out.below HB.out).at' (by rw [HP.out.len]; omega)
      obtain ⟨b2, o2, rfl, hc2⟩ := (HD.out.below HB.out).at' (by rw [HDl.out]; omega)
      have c1 := hc1 k (by rw [HP.out.len]; exact hlt)
      have c2 := hc2 k (by rw [HDl.out]; exact hlt)
      rw [show p[k]?.getD 0 = vAt p k from rfl] at c1
      rw [show ds[k]?.getD 0 = vAt ds k from rfl] at c2
      have m1 := HP.out.at_ k hlt
      have m2 := HDb.out _ (vAt_mem (by rw [HDl.out]; exact hlt))
      have hql : q.length ≤ 7 := by have := HQ.out.len; omega
      have hown := HO.out
      have hbs := HB.out.size
      have q1 : (k : Int) < (n : Int) := by omega
      clear hc1 hc2 HO
      generalize vAt p k = x at *
      generalize vAt ds k = y at *
      have hxy : -19000 ≤ x + step * (y - 2) ∧ x + step * (y - 2) ≤ 19000 := by
        have h1 : step * (y - 2) ≤ 1000 * 18 := Int.le_trans (Int.mul_le_mul_of_nonneg_left (by omega : y - 2 ≤ 18) hs.1) (by omega)
        have h2 : -(1000 * 2) ≤ step * (y - 2) := by
          have : step * (-2) ≤ step * (y - 2) := Int.mul_le_mul_of_nonneg_left (by omega) hs.1
          omega
        omega
      have s1 : IntKind.i64.wrap (y - 2) = y - 2 := IntWalk.i64_in _ (by omega)
      have s2 : IntKind.i64.wrap (step * (y - 2)) = step * (y - 2) := IntWalk.i64_in _ (by omega)
      have s3 : IntKind.i64.wrap (x + step * (y - 2)) = x + step * (y - 2) := IntWalk.i64_in _ (by omega)
      have hm1 : -9223372036854775808 ≤ step * (y - 2) := by omega
      have hm2 : step * (y - 2) ≤ 9223372036854775807 := by omega
      have hzb : -1000 ≤ max (-1000) (min (x + step * (y - 2)) 1000) ∧ max (-1000) (min (x + step * (y - 2)) 1000) ≤ 1000 := by omega
      have HZB := hid hzb
      clear hzb
      go_wp2_with (at_builtin; refine wpList_append_own _ rfl _ _ 23 rfl w.heap.size 3 i0 (.int .i64 0) 1 8 Try.underlying23 hinf hz0 hz1 hz2 rfl (by decide) _ _ _ rfl (hown.alloc _) ⟨wr.heap.size, 0, none⟩ 1 1 [.int .i64 (max (-1000) (min (x + step * (y - 2)) 1000))] rfl rfl ?c1 ?c2 ?c3 ?c4 ?c5 ?_)
      case c1 => exact cell_one_new _ _ _
      case c2 => simp [Value.oneCell']
      case c3 => unfold maxLen; omega
      case c4 => omega
      case c5 => simp; omega
      intro v' w4 hown2 hgrow _
      have p4 := hid ((HB.out.alloc hbs _).grown hgrow (by simp; omega) (fun q hq => by have := (hown.lt q hq).1; omega))
      have O4 := hid (show Own w4 w.heap.size v' (q ++ [max (-1000) (min (x + step * (y - 2)) 1000)]) by unfold Own; rw [List.length_append, List.map_append]; exact hown2)
      have Q4 := hid (pots_push (z := max (-1000) (min (x + step * (y - 2)) 1000)) HQ.out HZB.out)
      clear hgrow hown2
      go_wp2
      go_roundw
      case rel => exact ⟨k + 1, q ++ [max (-1000) (min (x + step * (y - 2)) 1000)], by omega, by go_num, O4, Q4, p4⟩
      case measure => simp [intOf]; omega
    · obtain rfl : k = n := by omega
      obtain ⟨B, e, hv, hI⟩ := pots_ints HO.out HQ.out hn
      have HIq := hid hI
      subst hv
      clear hI HO
      go_wp2
      go_ret
      exact ⟨HB.out, B, e, q, rfl, HIq.out, HQ.out⟩
end Go.Proofs.Ytbffdpcogfmomaa
