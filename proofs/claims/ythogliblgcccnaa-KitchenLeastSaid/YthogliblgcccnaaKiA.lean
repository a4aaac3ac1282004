/- Batches in memory; the tests of batches and of an order: package kitchen. -/
import Derived.Test.YthogliblgcccnaaRes
import Derived.Test.YthogliblgcccnaaKiOrdM
import Derived.Laws.Rows
import Derived.IntWalk
set_option linter.unusedVariables false
namespace Go.Proofs.Ythogliblgcccnaa
open Go.RowKit

def zin (n lo hi : Int) : Bool := decide (lo ≤ n ∧ n ≤ hi)
def SaysK (w : World) (b : Bool) (en : Ending) (w' : World) : Prop := w = w' ∧ en = .returned (.bool b)
def NumK (w : World) (v : Int) (en : Ending) (w' : World) : Prop := w = w' ∧ en = .returned (.int .i64 v)
set_option maxHeartbeats 400000 in
theorem kWithin_any (n lo hi : Int) (w : World) : Calls Try.prog 58 #[.int .i64 n, .int .i64 lo, .int .i64 hi] w (SaysK w (zin n lo hi)) := by
  by_cases h1 : lo ≤ n
  · by_cases h2 : n ≤ hi
    · rw [show zin n lo hi = true by simp [zin, h1, h2]]
      go_enter Try.func58, Try.ntmps58
      go_wp2
      go_ret
      exact ⟨rfl, ret_bool (by simp)⟩
    · rw [show zin n lo hi = false by simp [zin, h2]]
      have h2' : hi < n := by omega
      clear h2
      go_enter Try.func58, Try.ntmps58
      go_wp2
      go_ret
      exact ⟨rfl, ret_bool (by simp; omega)⟩
  · rw [show zin n lo hi = false by simp [zin, h1]]
    have h1' : n < lo := by omega
    clear h1
    go_enter Try.func58, Try.ntmps58
    go_wp2
    go_ret
    exact ⟨rfl, rfl⟩

/-- A slice that reads as batches. -/
structure Bts (w : World) (a : Option Addr) (l : List Bt) : Prop where
  len : l.length ≤ 140737488355328
  at_ : l = [] ∨ ∃ b off, a = some ⟨b, off, none⟩ ∧ ∀ i, i < l.length → w.cell? ⟨b, off + i * 2, none⟩ = some (.int .i64 (btAt l i).1) ∧ w.cell? ⟨b, off + i * 2 + 1, none⟩ = some (.int .i64 (btAt l i).2)
  bd : ∀ x ∈ l, (-9223372036854775808 ≤ x.1 ∧ x.1 ≤ 9223372036854775807) ∧ -9223372036854775808 ≤ x.2 ∧ x.2 ≤ 9223372036854775807
theorem Bts.below {w w' : World} {a : Option Addr} {l : List Bt} (h : Bts w a l) (hb : Below w.heap.size w w') : Bts w' a l := by
  refine ⟨h.len, ?_, h.bd⟩
  rcases h.at_ with e | ⟨b, off, ha, hc⟩
  · exact .inl e
  · exact .inr ⟨b, off, ha, fun i hi => ⟨by rw [hb.cell (cell_lt (hc i hi).1)]; exact (hc i hi).1, by rw [hb.cell (cell_lt (hc i hi).2)]; exact (hc i hi).2⟩⟩
def okBt (b : Bt) : Bool := zin b.1 0 1000 && zin b.2 0 1000
def allOkB : List Bt → Bool
  | [] => true
  | b :: t => okBt b && allOkB t
theorem allOkB_drop (l : List Bt) (k : Nat) (h : k < l.length) : allOkB (l.drop k) = (okBt (btAt l k) && allOkB (l.drop (k + 1))) := by
  rw [drop_bt l k h]; rfl
theorem allOkB_mem (l : List Bt) (h : allOkB l = true) : ∀ b ∈ l, okBt b = true := by
  induction l with
  | nil => intro b hb; simp at hb
  | cons x t ih =>
    rw [allOkB, Bool.and_eq_true] at h
    intro b hb
    rcases List.mem_cons.1 hb with rfl | hb
    · exact h.1
    · exact ih h.2 b hb
def valE (l : List Bt) : Int := if 7 < l.length then 4 else if allOkB l = true then 0 else 1
/-- Valid batches. -/
structure BtsOk (l : List Bt) : Prop where
  len : l.length ≤ 7
  all : ∀ b ∈ l, (0 ≤ b.1 ∧ b.1 ≤ 1000) ∧ 0 ≤ b.2 ∧ b.2 ≤ 1000
theorem valE_ok {l : List Bt} (h : valE l = 0) : BtsOk l := by
  unfold valE at h
  split at h
  · cases h
  · split at h
    · rename_i h1 h2
      refine ⟨by omega, fun b hb => ?_⟩
      have := allOkB_mem l h2 b hb
      unfold okBt zin at this
      simpa using this
    · cases h
theorem BtsOk.NN {l : List Bt} (h : BtsOk l) : NN l := fun b hb => ⟨(h.all b hb).1.1, (h.all b hb).2.1⟩
theorem BtsOk.at_ {l : List Bt} (h : BtsOk l) (i : Nat) (hi : i < l.length) : (0 ≤ (btAt l i).1 ∧ (btAt l i).1 ≤ 1000) ∧ 0 ≤ (btAt l i).2 ∧ (btAt l i).2 ≤ 1000 := h.all _ (btAt_mem l i hi)
theorem valE_bd (l : List Bt) : 0 ≤ valE l ∧ valE l ≤ 4 := by
  unfold valE
  split
  · omega
  · split <;> omega

set_option maxRecDepth 100000 in
set_option maxHeartbeats 1000000 in
theorem kValidate_any (a : Option Addr) (l : List Bt) (cap : Nat) (w : World) (h : Bts w a l) : Calls Try.prog 25 #[.slice a l.length cap] w (IntR w (valE l)) := by
  have hlen := h.len
  by_cases h0 : 7 < l.length
  · have HS := hid (show valE l = 4 by unfold valE; rw [if_pos h0])
    have h0' : (7 : Int) < (l.length : Int) := by omega
    clear h
    go_enter Try.func25, Try.ntmps25
    go_wp2
    go_ret
    exact ⟨Below.refl _ _, ret_int (by rw [HS.out])⟩
  · have HS := hid (show valE l = if allOkB l = true then 0 else 1 by unfold valE; rw [if_neg h0])
    have h0' : (l.length : Int) ≤ 7 := by omega
    have HH := hid h
    clear h0 h
    go_enter Try.func25, Try.ntmps25
    go_wp2
    go_loopw [10] (fun i wr => ∃ (k : Nat), k ≤ l.length ∧ i = .int .i64 k ∧ Hid (allOkB l = allOkB (l.drop k)) ∧ Hid (Below w.heap.size w wr)) (fun i _ => l.length - (intOf i).toNat)
    case atStart => exact ⟨0, Nat.zero_le _, rfl, rfl, Below.refl _ _⟩
    case round =>
      obtain ⟨k, hk, rfl, HT, HW⟩ := hrel
      by_cases hlt : k < l.length
      · rcases (HH.out.below HW.out).at_ with e | ⟨b, off, rfl, hc⟩
        · rw [e] at hlt; simp at hlt
        obtain ⟨c0, c1⟩ := hc k hlt
        have HD := hid (allOkB_drop l k hlt)
        have HO := hid (show okBt (btAt l k) = (zin (btAt l k).1 0 1000 && zin (btAt l k).2 0 1000) from rfl)
        clear hc
        generalize btAt l k = x at *
        have HA1 := hid (kWithin_any x.1 0 1000)
        have HA2 := hid (kWithin_any x.2 0 1000)
        have hsz := HW.out.size
        have HW2 := hid (HW.out.alloc hsz (.cells #[.int .i64 x.1, .int .i64 x.2] 40))
        cases h1 : zin x.1 0 1000 with
        | false =>
          rw [h1] at HA1
          have HN := hid (show valE l = 1 by rw [HS.out, HT.out, HD.out, HO.out, h1]; simp)
          clear h1 HD HO HT
          go_wp2_with fail
          refine (HA1.out _).mono ?_
          rintro e w1 ⟨rfl, rfl⟩
          go_wp2
          go_ret
          exact ⟨HW2.out, ret_int (by rw [HN.out])⟩
        | true =>
          rw [h1] at HA1
          cases h2 : zin x.2 0 1000 with
          | false =>
            rw [h2] at HA2
            have HN := hid (show valE l = 1 by rw [HS.out, HT.out, HD.out, HO.out, h1, h2]; simp)
            clear h1 h2 HD HO HT
            go_wp2_with fail
            refine (HA1.out _).mono ?_
            rintro e w1 ⟨rfl, rfl⟩
            go_wp2_with fail
            refine (HA2.out _).mono ?_
            rintro e w1 ⟨rfl, rfl⟩
            go_wp2
            go_ret
            exact ⟨HW2.out, ret_int (by rw [HN.out])⟩
          | true =>
            rw [h2] at HA2
            have HN := hid (show allOkB l = allOkB (l.drop (k + 1)) by rw [HT.out, HD.out, HO.out, h1, h2]; simp)
            clear h1 h2 HD HO HT
            go_wp2_with fail
            refine (HA1.out _).mono ?_
            rintro e w1 ⟨rfl, rfl⟩
            go_wp2_with fail
            refine (HA2.out _).mono ?_
            rintro e w1 ⟨rfl, rfl⟩
            go_wp2
            go_roundw
            case rel => exact ⟨k + 1, by omega, by go_num, HN, HW2⟩
            case measure => simp [intOf]; omega
      · have HN := hid (show valE l = 0 by rw [HS.out, HT.out, List.drop_of_length_le (by omega)]; rfl)
        go_wp2
        go_ret
        exact ⟨HW.out, ret_int (by rw [HN.out])⟩
end Go.Proofs.Ythogliblgcccnaa
