/- Whether two lists, two tables are the same: the document's SameInts and Same: chapter 8. -/
import Derived.Test.YtbffdpcogfmomaaVaA
import Derived.BigQuiet
set_option linter.unusedVariables false
namespace Go.Proofs.Ytbffdpcogfmomaa
open Go.RowKit

theorem eq_of_vAt {l m : List Int} (h : l.length = m.length) (hk : ∀ k, k < l.length → vAt l k = vAt m k) : l = m := vAt_ext h hk
set_option maxRecDepth 100000 in
set_option maxHeartbeats 1000000 in
theorem sameIntsB_any (a b : Option Addr) (l m : List Int) (ca cb : Nat) (w : World) (ha : Ints w a l) (hb : Ints w b m) : Calls Try.prog 29 #[.slice a l.length ca, .slice b m.length cb] w (fun en w' => (∃ n, w' = w.drewN n) ∧ en = .returned (.bool (decide (l = m)))) := by
  have hlen := ha.len
  have hlenm := hb.len
  by_cases hl : l.length = m.length
  · have HA := hid ha
    have HB := hid hb
    have HL := hid hl
    rw [← hl]
    clear ha hb hl hlenm
    go_enter Try.func29, Try.ntmps29
    go_wp2
    go_loopw [5] (fun i wr => ∃ (k : Nat), k ≤ l.length ∧ i = .int .i64 k ∧ Hid (∃ n, wr = w.drewN n) ∧ Hid (∀ j, j < k → vAt l j = vAt m j)) (fun i _ => l.length - (intOf i).toNat)
    case atStart => exact ⟨0, Nat.zero_le _, rfl, ⟨0, rfl⟩, fun j hj => by omega⟩
    case round =>
      obtain ⟨k, hk, rfl, HW, HE⟩ := hrel
      by_cases hlt : k < l.length
      · obtain ⟨n9, hn9⟩ := HW.out
        obtain ⟨b1, o1, rfl, hc1⟩ := HA.out.at' (by omega)
        obtain ⟨b2, o2, rfl, hc2⟩ := HB.out.at' (by rw [← HL.out]; omega)
        have c1 : wr.cell? ⟨b1, o1 + k, none⟩ = some (.int .i64 (vAt l k)) := by rw [hn9]; exact hc1 k hlt
        have c2 : wr.cell? ⟨b2, o2 + k, none⟩ = some (.int .i64 (vAt m k)) := by rw [hn9]; exact hc2 k (by rw [← HL.out]; exact hlt)
        have i0 : (0 : Int) ≤ (k : Int) := by omega
        have i1 : (k : Int) < (l.length : Int) := by omega
        have hd : decide (k < l.length) = true := decide_eq_true hlt
        have HX := hid (fun (e : vAt l k = vAt m k) => show ∀ j, j < k + 1 → vAt l j = vAt m j from fun j hj => by
          by_cases e2 : j = k
          · rw [e2]; exact e
          · exact HE.out j (by omega))
        have HN := hid (fun (e : vAt l k ≠ vAt m k) => show decide (l = m) = false from decide_eq_false (fun h => e (by rw [h])))
        clear hc1 hc2 hn9 n9
        generalize vAt l k = p at *
        generalize vAt m k = q at *
        by_cases he : p = q
        · have HX2 := hid (HX.out he)
          clear HX HN
          subst he
          have hne : (p != p) = false := by simp
          as_aux_lemma =>
            go_wp2_with fail
            go_quiet (fail)
            go_wp2
            go_roundw
            case rel => exact ⟨k + 1, by omega, by go_num, by obtain ⟨n, e⟩ := HW.out; exact ⟨_, by rw [e, World.drewN_drewN]⟩, HX2⟩
            case measure => simp [intOf]; omega
        · have HN2 := hid (HN.out he)
          have hne : (p != q) = true := by simp; exact he
          have HWn := hid (fun (k : Nat) => show ∃ n, wr.drewN k = w.drewN n from by obtain ⟨n, e⟩ := HW.out; exact ⟨_, by rw [e, World.drewN_drewN]⟩)
          clear HX HN he
          as_aux_lemma =>
            go_wp2_with fail
            go_quiet (fail)
            go_wp2
            go_ret
            exact ⟨HWn.out _, by rw [HN2.out]; rfl⟩
      · obtain rfl : k = l.length := by omega
        have hd : decide (l.length < l.length) = false := decide_eq_false (Nat.lt_irrefl _)
        have HF := hid (show decide (l = m) = true from decide_eq_true (eq_of_vAt HL.out HE.out))
        as_aux_lemma =>
          go_wp2
          go_ret
          exact ⟨HW.out, by rw [HF.out]; rfl⟩
  · have HF := hid (show decide (l = m) = false from decide_eq_false (fun h => hl (by rw [h])))
    have hne : ((l.length : Int) != (m.length : Int)) = true := by simp; omega
    have hne2 : ((l.length : Int) == (m.length : Int)) = false := by simp; omega
    clear ha hb
    generalize l.length = n1 at *
    generalize m.length = n2 at *
    as_aux_lemma =>
      go_enter Try.func29, Try.ntmps29
      go_wp2
      go_ret
      exact ⟨⟨0, rfl⟩, by rw [HF.out]; rfl⟩
theorem eq_of_tR {t u : Tbl} (h : t.length = u.length) (hk : ∀ k, k < t.length → tR t k = tR u k) : t = u := by
  refine List.ext_getElem h fun k h1 h2 => ?_
  have := hk k h1
  simpa [tR, h1, h2] using this
set_option maxRecDepth 100000 in
set_option maxHeartbeats 1000000 in
theorem sameTabB_any (a b : Option Addr) (t u : Tbl) (ca cb : Nat) (w : World) (ha : TabAt w a t) (hb : TabAt w b u) : Calls Try.prog 40 #[.slice a t.length ca, .slice b u.length cb] w (fun en w' => (∃ n, w' = w.drewN n) ∧ en = .returned (.bool (decide (t = u)))) := by
  have hlen := ha.len
  have hlenm := hb.len
  by_cases hl : t.length = u.length
  · have HA := hid ha
    have HB := hid hb
    have HL := hid hl
    rw [← hl]
    clear ha hb hl hlenm
    go_enter Try.func40, Try.ntmps40
    go_wp2
    go_loopw [5] (fun i wr => ∃ (k : Nat), k ≤ t.length ∧ i = .int .i64 k ∧ Hid (∃ n, wr = w.drewN n) ∧ Hid (∀ j, j < k → tR t j = tR u j)) (fun i _ => t.length - (intOf i).toNat)
    case atStart => exact ⟨0, Nat.zero_le _, rfl, ⟨0, rfl⟩, fun j hj => by omega⟩
    case round =>
      obtain ⟨k, hk, rfl, HW, HE⟩ := hrel
      by_cases hlt : k < t.length
      · obtain ⟨n9, hn9⟩ := HW.out
        have HA2 := hid (show TabAt wr a t by rw [hn9]; exact HA.out.below (below_drewN (Below.refl _ _) n9))
        have HB2 := hid (show TabAt wr b u by rw [hn9]; exact HB.out.below (below_drewN (Below.refl _ _) n9))
        obtain ⟨b1, o1, rfl, hc1⟩ := HA2.out.open_ (by omega)
        obtain ⟨b2, o2, rfl, hc2⟩ := HB2.out.open_ (by rw [← HL.out]; omega)
        obtain ⟨A1, c1, d1, I1⟩ := hc1 k hlt
        obtain ⟨A2, c2, d2, I2⟩ := hc2 k (by rw [← HL.out]; exact hlt)
        have HS := hid (fun n => (sameIntsB_any A1 A2 (tR t k) (tR u k) c1 c2 (wr.drewN n) (I1.below (below_drewN (Below.refl _ _) n)) (I2.below (below_drewN (Below.refl _ _) n))).mono (fun en w' ⟨⟨m, hm⟩, he⟩ => (show en = Ending.returned (.bool (decide (tR t k = tR u k))) ∧ ∃ m, w' = wr.drewN m from ⟨he, _, by rw [hm, World.drewN_drewN]⟩)))
        have i0 : (0 : Int) ≤ (k : Int) := by omega
        have i1 : (k : Int) < (t.length : Int) := by omega
        have hd : decide (k < t.length) = true := decide_eq_true hlt
        have HX := hid (fun (e : tR t k = tR u k) => show ∀ j, j < k + 1 → tR t j = tR u j from fun j hj => by
          by_cases e2 : j = k
          · rw [e2]; exact e
          · exact HE.out j (by omega))
        have HN := hid (fun (e : tR t k ≠ tR u k) => show decide (t = u) = false from decide_eq_false (fun h => e (by rw [h])))
        have HWn := hid (fun (k : Nat) => show ∃ n, wr.drewN k = w.drewN n from by obtain ⟨n, e⟩ := HW.out; exact ⟨_, by rw [e, World.drewN_drewN]⟩)
        clear hc1 hc2 hn9 n9 I1 I2 HA2 HB2
        generalize tR t k = p at *
        generalize tR u k = q at *
        by_cases he : p = q
        · have HX2 := hid (HX.out he)
          rw [decide_eq_true he] at HS
          clear HX HN he
          as_aux_lemma =>
            go_wp2_with fail
            go_quiet (exact HS.out _)
            go_wp2
            go_roundw
            case rel => exact ⟨k + 1, by omega, by go_num, HWn.out _, HX2⟩
            case measure => simp [intOf]; omega
        · have HN2 := hid (HN.out he)
          rw [decide_eq_false he] at HS
          clear HX HN he
          as_aux_lemma =>
            go_wp2_with fail
            go_quiet (exact HS.out _)
            go_wp2
            go_ret
            exact ⟨HWn.out _, by rw [HN2.out]; rfl⟩
      · obtain rfl : k = t.length := by omega
        have hd : decide (t.length < t.length) = false := decide_eq_false (Nat.lt_irrefl _)
        have HF := hid (show decide (t = u) = true from decide_eq_true (eq_of_tR HL.out HE.out))
        as_aux_lemma =>
          go_wp2
          go_ret
          exact ⟨HW.out, by rw [HF.out]; rfl⟩
  · have HF := hid (show decide (t = u) = false from decide_eq_false (fun h => hl (by rw [h])))
    have hne : ((t.length : Int) != (u.length : Int)) = true := by rw [bne_iff_ne]; omega
    have hne2 : ((t.length : Int) == (u.length : Int)) = false := by rw [beq_eq_false_iff_ne]; omega
    clear ha hb
    generalize t.length = n1 at *
    generalize u.length = n2 at *
    as_aux_lemma =>
      go_enter Try.func40, Try.ntmps40
      go_wp2
      go_ret
      exact ⟨⟨0, rfl⟩, by rw [HF.out]; rfl⟩
end Go.Proofs.Ytbffdpcogfmomaa
