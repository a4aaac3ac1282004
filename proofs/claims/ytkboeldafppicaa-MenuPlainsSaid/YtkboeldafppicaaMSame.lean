/- Whether two lists are the same: the document's SameInts of chapter 3. -/
import Derived.Test.YtkboeldafppicaaBase
import Derived.BigQuiet
set_option linter.unusedVariables false
namespace Go.Proofs.Ytkboeldafppicaa
open Go.RowKit

def vAtM (o : List Int) (k : Nat) : Int := o[k]?.getD 0
theorem vAtM_ext {o p : List Int} (h : o.length = p.length) (hk : ∀ k, k < o.length → vAtM o k = vAtM p k) : o = p := by
  refine List.ext_getElem h fun k h1 h2 => ?_
  have := hk k h1
  simpa [vAtM, h1, h2] using this
theorem Ints.atM {w : World} {A : Option Addr} {xs : List Int} (h : Ints w A xs) (h0 : 0 < xs.length) : ∃ b off, A = some ⟨b, off, none⟩ ∧ ∀ j, j < xs.length → w.cell? ⟨b, off + j, none⟩ = some (.int .i64 (xs[j]?.getD 0)) := by
  rcases h.at_ with e | h
  · rw [e] at h0; simp at h0
  · exact h
set_option maxRecDepth 100000 in
set_option maxHeartbeats 1000000 in
theorem sameIntsM_any (a b : Option Addr) (l m : List Int) (ca cb : Nat) (w : World) (ha : Ints w a l) (hb : Ints w b m) : Calls Try.prog 33 #[.slice a l.length ca, .slice b m.length cb] w (fun en w' => (∃ n, w' = w.drewN n) ∧ en = .returned (.bool (decide (l = m)))) := by
  have hlen := ha.len
  have hlenm := hb.len
  by_cases hl : l.length = m.length
  · have HA := hid ha
    have HB := hid hb
    have HL := hid hl
    rw [← hl]
    clear ha hb hl hlenm
    go_enter Try.func33, Try.ntmps33
    go_wp2
    go_loopw [5] (fun i wr => ∃ (k : Nat), k ≤ l.length ∧ i = .int .i64 k ∧ Hid (∃ n, wr = w.drewN n) ∧ Hid (∀ j, j < k → vAtM l j = vAtM m j)) (fun i _ => l.length - (intOf i).toNat)
    case atStart => exact ⟨0, Nat.zero_le _, rfl, ⟨0, rfl⟩, fun j hj => by omega⟩
    case round =>
      obtain ⟨k, hk, rfl, HW, HE⟩ := hrel
      by_cases hlt : k < l.length
      · obtain ⟨n9, hn9⟩ := HW.out
        obtain ⟨b1, o1, rfl, hc1⟩ := HA.out.atM (by omega)
        obtain ⟨b2, o2, rfl, hc2⟩ := HB.out.atM (by rw [← HL.out]; omega)
        have c1 : wr.cell? ⟨b1, o1 + k, none⟩ = some (.int .i64 (vAtM l k)) := by rw [hn9]; exact hc1 k hlt
        have c2 : wr.cell? ⟨b2, o2 + k, none⟩ = some (.int .i64 (vAtM m k)) := by rw [hn9]; exact hc2 k (by rw [← HL.out]; exact hlt)
        have i0 : (0 : Int) ≤ (k : Int) := by omega
        have i1 : (k : Int) < (l.length : Int) := by omega
        have hd : decide (k < l.length) = true := decide_eq_true hlt
        have HX := hid (fun (e : vAtM l k = vAtM m k) => show ∀ j, j < k + 1 → vAtM l j = vAtM m j from fun j hj => by
          by_cases e2 : j = k
          · rw [e2]; exact e
          · exact HE.out j (by omega))
        have HN := hid (fun (e : vAtM l k ≠ vAtM m k) => show decide (l = m) = false from decide_eq_false (fun h => e (by rw [h])))
        clear hc1 hc2 hn9 n9
        generalize vAtM l k = p at *
        generalize vAtM m k = q at *
        by_cases he : p = q
        · have HX2 := hid (HX.out he)
          clear HX HN
          subst he
          have hne : (p != p) = false := by simp
          as_aux_lemma =>
            go_wp2_with fail
            go_quiet (fail)
            go_wp2
            go_roundw
            case rel => exact ⟨k + 1, by omega, by go_num, by obtain ⟨n, e⟩ := HW.out; exact ⟨_, by rw [e, World.drewN_drewN]⟩, HX2⟩
            case measure => simp [intOf]; omega
        · have HN2 := hid (HN.out he)
          have hne : (p != q) = true := by simp; exact he
          have HWn := hid (fun (k : Nat) => show ∃ n, wr.drewN k = w.drewN n from by obtain ⟨n, e⟩ := HW.out; exact ⟨_, by rw [e, World.drewN_drewN]⟩)
          clear HX HN he
          as_aux_lemma =>
            go_wp2_with fail
            go_quiet (fail)
            go_wp2
            go_ret
            exact ⟨HWn.out _, by rw [HN2.out]; rfl⟩
      · obtain rfl : k = l.length := by omega
        have hd : decide (l.length < l.length) = false := decide_eq_false (Nat.lt_irrefl _)
        have HF := hid (show decide (l = m) = true from decide_eq_true (vAtM_ext HL.out HE.out))
        as_aux_lemma =>
          go_wp2
          go_ret
          exact ⟨HW.out, by rw [HF.out]; rfl⟩
  · have HF := hid (show decide (l = m) = false from decide_eq_false (fun h => hl (by rw [h])))
    have hne : ((l.length : Int) != (m.length : Int)) = true := by simp; omega
    have hne2 : ((l.length : Int) == (m.length : Int)) = false := by simp; omega
    clear ha hb
    generalize l.length = n1 at *
    generalize m.length = n2 at *
    as_aux_lemma =>
      go_enter Try.func33, Try.ntmps33
      go_wp2
      go_ret
      exact ⟨⟨0, rfl⟩, by rw [HF.out]; rfl⟩
end Go.Proofs.Ytkboeldafppicaa
