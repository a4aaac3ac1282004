/- The document's Direct: chapter 8. -/
import Derived.Test.YtbffdpcogfmomaaVaRdM
import Derived.Test.YtbffdpcogfmomaaVaBR
import Derived.Test.YtbffdpcogfmomaaVaRV
set_option linter.unusedVariables false
namespace Go.Proofs.Ytbffdpcogfmomaa
open Go.RowKit

/-- The table after r rounds. -/
def rdT (t : Tbl) (r : Nat) : Tbl := (List.range t.length).map fun i => (List.range t.length).map fun k => rdM t r i k
theorem rdT_len (t : Tbl) (r : Nat) : (rdT t r).length = t.length := by simp [rdT]
theorem rdT_row (t : Tbl) (r i : Nat) (hi : i < t.length) : tR (rdT t r) i = (List.range t.length).map fun k => rdM t r i k := by
  simp [tR, rdT, List.getElem?_range hi]
theorem rdT_at (t : Tbl) (r i j : Nat) (hi : i < t.length) (hj : j < t.length) : tA (rdT t r) i j = rdM t r i j := by
  rw [tA_nat, rdT_row t r i hi]
  simp [List.getElem?_range hj]
theorem rdT_sq {t : Tbl} (ht : Ways t) (r : Nat) : SqR (rdT t r) t.length := ⟨rdT_len t r, ht.len, fun i hi => by rw [rdT_row t r i hi]; simp⟩
theorem rdT_zero {t : Tbl} (ht : Ways t) : rdT t 0 = t := by
  refine List.ext_getElem (rdT_len t 0) fun i h1 h2 => ?_
  have hr := ht.rows i h2
  have e : t[i] = tR t i := by simp [tR, h2]
  rw [e]
  refine List.ext_getElem (by simp [rdT, hr]) fun j h3 h4 => ?_
  simp only [rdT, List.getElem_map, List.getElem_range, rdM, tA_nat]
  simp [h4]
theorem rdM_bd {t : Tbl} (ht : Ways t) (r i k : Nat) (hi : i < t.length) (hk : k < t.length) : 0 ≤ rdM t r i k ∧ rdM t r i k ≤ 1000 := by
  have h1 := fw_le_rd ht r i k hi hk
  have h2 := fwM_bd ht t.length (Nat.le_refl _) i k hi hk
  have h3 : rdM t r i k ≤ tA t i k := rd_le_qw t i [] r k (Nat.zero_le _) (by simp)
  have h4 := ht.bd i k hi hk
  omega
theorem rdTo_bd {t : Tbl} (ht : Ways t) (r i k o : Nat) (hi : i < t.length) (hk : k < t.length) (ho : o ≤ t.length) : 0 ≤ rdTo t (rdM t r) i k o ∧ rdTo t (rdM t r) i k o ≤ 1000 := by
  have h1 := rdM_bd ht r i k hi hk
  have h2 := rdTo_le0 t (rdM t r) i k o
  refine ⟨rdTo_ge t _ i k 0 h1.1 o (fun p hp => ?_), by omega⟩
  have h3 := (rdM_bd ht r i p hi (by omega)).1
  have h4 := (ht.bd p k (by omega) hk).1
  omega
/-- What stands in the table that is made in round r. -/
def cellR (t : Tbl) (r i k o a b : Nat) : Int := if a < i ∨ (a = i ∧ b < k) then rdM t (r + 1) a b else if a = i ∧ b = k then rdTo t (rdM t r) a b o else rdM t r a b
def rowR (t : Tbl) (r i k o a : Nat) : List Int := (List.range t.length).map fun b => cellR t r i k o a b
theorem rowR_len (t : Tbl) (r i k o a : Nat) : (rowR t r i k o a).length = t.length := by simp [rowR]
theorem rowR_start (t : Tbl) (r a : Nat) (ha : a < t.length) : rowR t r 0 0 0 a = tR (rdT t r) a := by
  rw [rdT_row t r a ha]
  unfold rowR
  refine List.map_congr_left fun b _ => ?_
  unfold cellR
  rw [if_neg (by omega)]
  split
  · rfl
  · rfl
theorem rowR_o (t : Tbl) (r i k a : Nat) : rowR t r i k t.length a = rowR t r i (k + 1) 0 a := by
  unfold rowR
  refine List.map_congr_left fun b _ => ?_
  unfold cellR
  by_cases h1 : a < i ∨ (a = i ∧ b < k)
  · rw [if_pos h1, if_pos (by omega)]
  · rw [if_neg h1]
    by_cases h2 : a = i ∧ b = k
    · rw [if_pos h2, if_pos (by omega)]; rfl
    · rw [if_neg h2, if_neg (by omega)]
      split
      · rfl
      · rfl
theorem rowR_k (t : Tbl) (r i a : Nat) : rowR t r i t.length 0 a = rowR t r (i + 1) 0 0 a := by
  unfold rowR
  refine List.map_congr_left fun b hb => ?_
  rw [List.mem_range] at hb
  unfold cellR
  by_cases h1 : a < i ∨ (a = i ∧ b < t.length)
  · rw [if_pos h1, if_pos (by omega)]
  · rw [if_neg h1, if_neg (by omega), if_neg (by omega)]
    split
    · rfl
    · rfl
theorem rowR_end (t : Tbl) (r a : Nat) (ha : a < t.length) : rowR t r t.length 0 0 a = tR (rdT t (r + 1)) a := by
  rw [rdT_row t (r + 1) a ha]
  unfold rowR
  refine List.map_congr_left fun b _ => ?_
  unfold cellR
  rw [if_pos (.inl ha)]
theorem rowR_at (t : Tbl) (r i k o : Nat) (hk : k < t.length) : vAt (rowR t r i k o i) k = rdTo t (rdM t r) i k o := by
  simp [vAt, rowR, List.getElem?_range hk, cellR]
theorem rowR_set (t : Tbl) (r i k o : Nat) (hk : k < t.length) : (fun a => if a = i then (rowR t r i k o i).set k (min (rdTo t (rdM t r) i k o) (rdM t r i o + tA t o k)) else rowR t r i k o a) = rowR t r i k (o + 1) := by
  funext a
  by_cases h : a = i
  · subst h
    rw [if_pos rfl]
    refine vAt_ext (by simp [rowR]) fun b hb => ?_
    have hb' : b < t.length := by simpa [rowR] using hb
    rw [vAt_set]
    by_cases e : b = k
    · subst e
      rw [if_pos ⟨rfl, by rw [rowR_len]; exact hk⟩, rowR_at t r a b (o + 1) hk]
      rfl
    · rw [if_neg (fun hh => e hh.1)]
      simp only [vAt, rowR, List.getElem?_map, List.getElem?_range hb', Option.map_some, Option.getD_some]
      unfold cellR
      by_cases h1 : a < a ∨ (a = a ∧ b < k)
      · rw [if_pos h1, if_pos h1]
      · rw [if_neg h1, if_neg h1, if_neg (by omega), if_neg (by omega)]
  · rw [if_neg h]
    unfold rowR
    refine List.map_congr_left fun b _ => ?_
    unfold cellR
    by_cases h1 : a < i ∨ (a = i ∧ b < k)
    · rw [if_pos h1, if_pos h1]
    · rw [if_neg h1, if_neg h1, if_neg (by omega), if_neg (by omega)]
theorem WayT.tabR {w : World} {base n d : Nat} {B : Option Addr} {G C : Nat → Nat} {R : Nat → List Int} {c : Tbl} (h : WayT w base n (.slice B n d) G C R n) (hs : SqR c n) (hb : ∀ i j : Nat, i < n → j < n → -9223372036854775808 ≤ tA c i j ∧ tA c i j ≤ 9223372036854775807) (hR : ∀ i, i < n → R i = tR c i) (hn : 0 < n) : TabAt w B c := by
  obtain ⟨ob, rfl, ho⟩ := h.outer hn
  have hl := hs.len
  have hn7 := hs.le
  refine ⟨by omega, .inr ⟨ob, 0, rfl, fun i hi => ?_⟩⟩
  have hi' : i < n := by omega
  have hrl := hs.rows i hi'
  refine ⟨_, C i, by rw [Nat.zero_add, hrl]; exact ho i hi', ?_⟩
  have ha := h.rows i hi'
  rw [hR i hi'] at ha
  refine own_intsG (base := base) (c := C i) (by rw [hrl]; exact ha) (by omega) (fun x hx => ?_)
  obtain ⟨j, hj, rfl⟩ := mem_vAt hx
  exact hb i j hi' (by omega)
end Go.Proofs.Ytbffdpcogfmomaa
