/- The document's smallest tree: chapter 8. -/
import Derived.Test.YtbffdpcogfmomaaVaRL
import Derived.Test.YtbffdpcogfmomaaVaTreeW
set_option linter.unusedVariables false
namespace Go.Proofs.Ytbffdpcogfmomaa
open Go.RowKit

/-- Marks, cell by cell. -/
def bcV (f : Nat → Bool) (n : Nat) : Array Value := ((List.range n).map fun i => Value.bool (f i)).toArray
theorem bcV_at (f : Nat → Bool) (n i : Nat) (h : i < n) : (bcV f n)[i]? = some (.bool (f i)) := by simp [bcV, List.getElem?_range h]
def mkB (f : Nat → Bool) (k : Nat) : Nat → Bool := fun i => if i = k then true else f i
theorem bcV_set (f : Nat → Bool) (n k : Nat) : (bcV f n).setIfInBounds k (.bool true) = bcV (mkB f k) n := by
  unfold bcV
  rw [List.setIfInBounds_toArray]
  congr 1
  refine List.ext_getElem (by simp) fun i h1 h2 => ?_
  simp only [List.getElem_set, List.getElem_map, List.getElem_range, mkB]
  by_cases h : k = i
  · subst h; simp
  · simp [h, Ne.symm h]
theorem bcV_zero (n : Nat) : (List.replicate n (Value.bool false)).toArray = bcV (fun _ => false) n := by
  unfold bcV
  congr 1
  refine List.ext_getElem (by simp) fun i h1 h2 => ?_
  simp
theorem mk_cell {w : World} {B n : Nat} {f : Nat → Bool} (h : w.heap[B]? = some (.cells (bcV f n) 4 (0, 0))) (i : Nat) (hi : i < n) : w.cell? ⟨B, i, none⟩ = some (.bool (f i)) := by
  unfold World.cell?; simp [h, bcV_at f n i hi]
theorem mk_free {w : World} {B n : Nat} {f : Nat → Bool} (h : w.heap[B]? = some (.cells (bcV f n) 4 (0, 0))) (i : Nat) : w.frozen? ⟨B, i, none⟩ = false := by
  unfold World.frozen?; simp [h]
theorem mk_store {w : World} {B n : Nat} {f : Nat → Bool} (h : w.heap[B]? = some (.cells (bcV f n) 4 (0, 0))) (k : Nat) : (w.setCell ⟨B, k, none⟩ (.bool true)).heap[B]? = some (.cells (bcV (mkB f k) n) 4 (0, 0)) := by
  rw [heap_setCell_same w B k _ _ _ h, bcV_set]
theorem bool8_info : (Try.prog.info? 4).map (fun i => (i.zero, i.size, i.bytes)) = some (some (.bool false), 1, 1) := by kernel_rfl
theorem make_marks (n : Nat) (hn : n ≤ 1000000) : ∀ w : World, (Instr.makeSlice 125 (.int .i64 (n : Int)) (.int .i64 (n : Int))).run Try.prog w = .ok (.slice (some ⟨w.heap.size, 0, none⟩) n n) (w.alloc (.cells (bcV (fun _ => false) n) 4)) := by
  obtain ⟨i0, hi, hz0, hz1, hz2⟩ := info_parts bool8_info
  intro w
  have hr := run_make (P := Try.prog) w 125 4 i0 (.bool false) Try.underlying125 hi hz0 .i64 .i64 n n (by omega) (by omega) (by rw [hz2]; omega) (by omega)
  simp only [Int.toNat_natCast, hz1, Nat.mul_one] at hr
  have e : madeCells (Value.bool false).cells n = (List.replicate n (Value.bool false)).toArray := Array.ext' (toList_madeCells_one _ _)
  rw [e, bcV_zero] at hr
  exact hr
/-- The pairs that have been looked at: a connected, b not. -/
def Cov (mk : Nat → Bool) (f n i k a b : Nat) : Prop := f ≤ a ∧ a < n ∧ f ≤ b ∧ b < n ∧ mk a = true ∧ mk b = false ∧ (a < i ∨ (a = i ∧ b < k))
def Least (t : Tbl) (mk : Nat → Bool) (f n i k : Nat) (best at_ : Int) : Prop :=
  (at_ = -1 ∧ best = 0 ∧ ∀ a b, ¬ Cov mk f n i k a b) ∨ ∃ x y : Nat, f ≤ x ∧ x < n ∧ f ≤ y ∧ y < n ∧ mk x = true ∧ mk y = false ∧ at_ = y ∧ best = tA t x y ∧ ∀ a b, Cov mk f n i k a b → best ≤ tA t a b
theorem Least.skip {t : Tbl} {mk : Nat → Bool} {f n i k : Nat} {best at_ : Int} (h : Least t mk f n i k best at_) (hn : ¬ (mk i = true ∧ mk k = false)) : Least t mk f n i (k + 1) best at_ := by
  have key : ∀ a b, Cov mk f n i (k + 1) a b → Cov mk f n i k a b := fun a b ⟨h1, h2, h3, h4, h5, h6, h7⟩ => ⟨h1, h2, h3, h4, h5, h6, by
    rcases h7 with h7 | ⟨rfl, h7⟩
    · exact .inl h7
    · right
      refine ⟨rfl, ?_⟩
      rcases Nat.lt_or_ge b k with h | h
      · exact h
      · exfalso; obtain rfl : b = k := by omega
        exact hn ⟨h5, h6⟩⟩
  rcases h with ⟨h1, h2, h3⟩ | ⟨x, y, e1, e2, e3, e4, e5, e6, e7, e8, e9⟩
  · exact .inl ⟨h1, h2, fun a b hc => h3 a b (key a b hc)⟩
  · exact .inr ⟨x, y, e1, e2, e3, e4, e5, e6, e7, e8, fun a b hc => e9 a b (key a b hc)⟩
theorem cov_new {mk : Nat → Bool} {f n i k a b : Nat} (h : Cov mk f n i (k + 1) a b) : Cov mk f n i k a b ∨ (a = i ∧ b = k) := by
  obtain ⟨h1, h2, h3, h4, h5, h6, h7⟩ := h
  rcases h7 with h7 | ⟨rfl, h7⟩
  · exact .inl ⟨h1, h2, h3, h4, h5, h6, .inl h7⟩
  · rcases Nat.lt_or_ge b k with h | h
    · exact .inl ⟨h1, h2, h3, h4, h5, h6, .inr ⟨rfl, h⟩⟩
    · exact .inr ⟨rfl, by omega⟩
theorem Least.take {t : Tbl} {mk : Nat → Bool} {f n i k : Nat} {best at_ : Int} (h : Least t mk f n i k best at_) (hi : f ≤ i ∧ i < n) (hk : f ≤ k ∧ k < n) (h1 : mk i = true) (h2 : mk k = false) (hc : at_ < 0 ∨ tA t i k < best) : Least t mk f n i (k + 1) (tA t i k) k := by
  refine .inr ⟨i, k, hi.1, hi.2, hk.1, hk.2, h1, h2, rfl, rfl, fun a b hcv => ?_⟩
  rcases cov_new hcv with hcv | ⟨rfl, rfl⟩
  · rcases h with ⟨e1, e2, e3⟩ | ⟨x, y, e1, e2, e3, e4, e5, e6, e7, e8, e9⟩
    · exact absurd hcv (e3 a b)
    · have := e9 a b hcv; omega
  · exact Int.le_refl _
theorem Least.leave {t : Tbl} {mk : Nat → Bool} {f n i k : Nat} {best at_ : Int} (h : Least t mk f n i k best at_) (hc : ¬ (at_ < 0 ∨ tA t i k < best)) : Least t mk f n i (k + 1) best at_ := by
  rcases h with ⟨e1, e2, e3⟩ | ⟨x, y, e1, e2, e3, e4, e5, e6, e7, e8, e9⟩
  · omega
  · refine .inr ⟨x, y, e1, e2, e3, e4, e5, e6, e7, e8, fun a b hcv => ?_⟩
    rcases cov_new hcv with hcv | ⟨rfl, rfl⟩
    · exact e9 a b hcv
    · omega
theorem Least.row {t : Tbl} {mk : Nat → Bool} {f n i : Nat} {best at_ : Int} (h : Least t mk f n i n best at_) : Least t mk f n (i + 1) f best at_ := by
  have key : ∀ a b, Cov mk f n (i + 1) f a b → Cov mk f n i n a b := fun a b ⟨h1, h2, h3, h4, h5, h6, h7⟩ => ⟨h1, h2, h3, h4, h5, h6, by omega⟩
  rcases h with ⟨h1, h2, h3⟩ | ⟨x, y, e1, e2, e3, e4, e5, e6, e7, e8, e9⟩
  · exact .inl ⟨h1, h2, fun a b hc => h3 a b (key a b hc)⟩
  · exact .inr ⟨x, y, e1, e2, e3, e4, e5, e6, e7, e8, fun a b hc => e9 a b (key a b hc)⟩
theorem Least.start (t : Tbl) (mk : Nat → Bool) (f n : Nat) : Least t mk f n f f 0 (-1) := .inl ⟨rfl, rfl, fun a b ⟨h1, h2, h3, h4, h5, h6, h7⟩ => by omega⟩
/-- The state: which are connected. -/
structure GrS (t : Tbl) (n f : Nat) (mk : Nat → Bool) (j : Nat) (m : Int) : Prop where
  grow : ∃ S R, Grow t (plL f n) f S R m ∧ (∀ i : Nat, f ≤ i → i < n → mk i = decide ((i : Int) ∈ S)) ∧ S.length = j + 1
  mb : -3000 * (j : Int) ≤ m ∧ m ≤ 3000 * (j : Int)
theorem plL_iff {f n : Nat} (hf : f < n) (x : Int) : x ∈ plL f n ↔ (f : Int) ≤ x ∧ x < n := by
  refine ⟨plL_mem hf, fun h => ?_⟩
  by_cases e : x = f
  · rw [e]; simp [plL]
  · refine List.mem_cons_of_mem _ ?_
    simp only [restK, List.mem_map, List.mem_range]
    exact ⟨(x - f - 1).toNat, by omega, by omega⟩
theorem GrS.start {t : Tbl} {n f : Nat} (hf : f < n) : GrS t n f (mkB (fun _ => false) f) 0 0 := by
  refine ⟨⟨[(f : Int)], restK f (n - f - 1), Grow.start (List.Perm.refl _), fun i h1 h2 => ?_, rfl⟩, by simp⟩
  simp only [mkB, List.mem_singleton]
  by_cases e : i = f
  · simp [e]
  · have : ¬ (i : Int) = f := by omega
    simp [e, this]
theorem GrS.next {t : Tbl} {n f : Nat} {mk : Nat → Bool} {j : Nat} {m best at_ : Int} (hf : f < n) (hs : Sq t n) (h : GrS t n f mk j m) (hj : f + 1 + j < n) (hl : Least t mk f n n f best at_) :
    ∃ y : Nat, y < n ∧ at_ = y ∧ GrS t n f (mkB mk y) (j + 1) (m + best) ∧ -3000 ≤ best ∧ best ≤ 3000 := by
  obtain ⟨S, R, hG, hmk, hSl⟩ := h.grow
  have hV : ∀ x, x ∈ plL f n ↔ x ∈ S ∨ x ∈ R := fun x => by rw [hG.all.mem_iff, List.mem_append]
  have hlen := hG.all.length_eq
  rw [plL_len f n hf, List.length_append] at hlen
  have hnd := hG.all.nodup_iff.1 (plL_nodup f n)
  have hdis := (List.nodup_append.1 hnd).2.2
  have inS : ∀ x ∈ S, (f : Int) ≤ x ∧ x < n := fun x hx => plL_mem hf ((hV x).2 (.inl hx))
  have inR : ∀ x ∈ R, (f : Int) ≤ x ∧ x < n := fun x hx => plL_mem hf ((hV x).2 (.inr hx))
  have mS : ∀ i : Nat, f ≤ i → i < n → mk i = true → (i : Int) ∈ S := fun i h1 h2 h3 => by rw [hmk i h1 h2] at h3; exact of_decide_eq_true h3
  have mR : ∀ i : Nat, f ≤ i → i < n → mk i = false → (i : Int) ∈ R := fun i h1 h2 h3 => by
    rw [hmk i h1 h2] at h3
    rcases (hV i).1 ((plL_iff hf _).2 ⟨by omega, by omega⟩) with h | h
    · exact absurd h (of_decide_eq_false h3)
    · exact h
  have cov : ∀ a ∈ S, ∀ b ∈ R, ∃ a' b' : Nat, a = a' ∧ b = b' ∧ Cov mk f n n f a' b' := fun a ha b hb => by
    have h1 := inS a ha
    have h2 := inR b hb
    obtain ⟨a', rfl⟩ := Int.eq_ofNat_of_zero_le (show 0 ≤ a by omega)
    obtain ⟨b', rfl⟩ := Int.eq_ofNat_of_zero_le (show 0 ≤ b by omega)
    refine ⟨a', b', rfl, rfl, by omega, by omega, by omega, by omega, ?_, ?_, by omega⟩
    · rw [hmk a' (by omega) (by omega)]; exact decide_eq_true ha
    · rw [hmk b' (by omega) (by omega)]
      exact decide_eq_false (fun h => hdis _ h _ hb rfl)
  have hR0 : 0 < R.length := by omega
  rcases hl with ⟨_, _, e3⟩ | ⟨x, y, e1, e2, e3, e4, e5, e6, e7, e8, e9⟩
  · obtain ⟨a', b', _, _, hc⟩ := cov f hG.rin _ (vAt_mem hR0)
    exact absurd hc (e3 a' b')
  · have hx := mS x e1 e2 e5
    have hy := mR y e3 e4 e6
    have hw := hs.bd x y e2 e4
    refine ⟨y, e4, e7, ⟨⟨S ++ [(y : Int)], R.erase y, ?_, fun i h1 h2 => ?_, by simp [hSl]⟩, ?_⟩, by omega, by omega⟩
    · rw [e8]
      refine hG.step (fun a ha b hb => ?_) (plL_nodup f n) hx hy (fun a ha b hb => ?_) (List.perm_append_singleton _ _) (List.Perm.refl _)
      · have h1 := plL_mem hf ha
        have h2 := plL_mem hf hb
        exact hs.symI a b (by omega) (by omega)
      · obtain ⟨a', b', rfl, rfl, hc⟩ := cov a ha b hb
        rw [← e8]; exact e9 a' b' hc
    · simp only [mkB, List.mem_append, List.mem_singleton]
      by_cases e : i = y
      · simp [e]
      · have : ¬ (i : Int) = y := by omega
        rw [if_neg e, hmk i h1 h2]
        simp [this]
    · have := h.mb
      rw [Int.natCast_add]
      omega
theorem GrS.mst {t : Tbl} {n f : Nat} {mk : Nat → Bool} {j : Nat} {m : Int} (hf : f < n) (h : GrS t n f mk j m) (hj : f + 1 + j = n) : Mst t (plL f n) f m := by
  obtain ⟨S, R, hG, _, hSl⟩ := h.grow
  have hlen := hG.all.length_eq
  rw [plL_len f n hf, List.length_append] at hlen
  have : R = [] := List.eq_nil_of_length_eq_zero (by omega)
  subst this
  exact hG.mst
end Go.Proofs.Ytbffdpcogfmomaa
