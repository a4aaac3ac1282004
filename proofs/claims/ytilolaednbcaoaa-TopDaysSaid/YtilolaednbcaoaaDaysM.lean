/- The lists that the iterators of package term give. -/
import Derived.Test.YtilolaednbcaoaaSearchM
set_option linter.unusedVariables false
namespace Go.Proofs.Ytilolaednbcaoaa

/-- The week days below k, with the word whether they are open. -/
def wd (rs cs : List Int) : Nat → List (Int × Bool)
  | 0 => []
  | k + 1 => wd rs cs k ++ (if memB ((k : Int) % 7) rs then [] else [((k : Int), !memB (k : Int) cs)])

theorem wd_prefix (rs cs : List Int) (k n : Nat) (h : k ≤ n) : wd rs cs k <+: wd rs cs n := by
  induction n with
  | zero => obtain rfl : k = 0 := by omega
            exact List.prefix_refl _
  | succ n ih =>
    rcases Nat.lt_or_ge n k with hh | hh
    · obtain rfl : k = n + 1 := by omega
      exact List.prefix_refl _
    · exact (ih hh).trans (by rw [wd]; exact List.prefix_append ..)
theorem wd_suffix (rs cs : List Int) (k n : Nat) (h : k < n) (hm : memB ((k : Int) % 7) rs = false) : ∃ suf, wd rs cs n = wd rs cs k ++ ((k : Int), !memB (k : Int) cs) :: suf := by
  obtain ⟨suf, hs⟩ := wd_prefix rs cs (k + 1) n h
  refine ⟨suf, ?_⟩
  rw [← hs, wd, hm]
  simp

/-- One more week day: the next menu, and the days with menus so far. -/
def stepM (m k : Int) (s : Int × List (Int × Int)) (x : Int × Bool) : Int × List (Int × Int) :=
  (if x.2 = true ∨ k = 1 then (s.1 + 1) % m else s.1, if x.2 then s.2 ++ [(x.1, s.1)] else s.2)
def mst (m k f : Int) (l : List (Int × Bool)) : Int × List (Int × Int) := l.foldl (stepM m k) (f, [])
theorem mst_snoc (m k f : Int) (l : List (Int × Bool)) (x : Int × Bool) : mst m k f (l ++ [x]) = stepM m k (mst m k f l) x := by
  simp [mst, List.foldl_append]
theorem foldM_more (m k : Int) (l : List (Int × Bool)) (s : Int × List (Int × Int)) : ∃ t, (l.foldl (stepM m k) s).2 = s.2 ++ t := by
  induction l generalizing s with
  | nil => exact ⟨[], by simp⟩
  | cons x t ih =>
    obtain ⟨u, hu⟩ := ih (stepM m k s x)
    rw [List.foldl_cons, hu]
    cases hx : x.2 with
    | true => exact ⟨(x.1, s.1) :: u, by simp [stepM, hx]⟩
    | false => exact ⟨u, by simp [stepM, hx]⟩
theorem mst_more (m k f : Int) (a b : List (Int × Bool)) : ∃ t, (mst m k f (a ++ b)).2 = (mst m k f a).2 ++ t := by
  rw [mst, List.foldl_append]; exact foldM_more ..
theorem mst_prefix (m k f : Int) (a l : List (Int × Bool)) (h : a <+: l) : (mst m k f a).2 <+: (mst m k f l).2 := by
  obtain ⟨b, rfl⟩ := h
  obtain ⟨t, ht⟩ := mst_more m k f a b
  exact ⟨t, ht.symm⟩
theorem mst_bd (m k f : Int) (hm : 1 ≤ m) (h0 : 0 ≤ f) (h1 : f < m) (l : List (Int × Bool)) : 0 ≤ (mst m k f l).1 ∧ (mst m k f l).1 < m := by
  suffices H : ∀ s : Int × List (Int × Int), 0 ≤ s.1 → s.1 < m → 0 ≤ (l.foldl (stepM m k) s).1 ∧ (l.foldl (stepM m k) s).1 < m from H _ h0 h1
  induction l with
  | nil => intro s a b; exact ⟨a, b⟩
  | cons x t ih =>
    intro s a b
    rw [List.foldl_cons]
    refine ih _ ?_ ?_ <;> (simp only [stepM]; split)
    · exact Int.emod_nonneg _ (by omega)
    · exact a
    · exact Int.emod_lt_of_pos _ (by omega)
    · exact b
theorem mst_suffix (m k f : Int) (pre : List (Int × Bool)) (d : Int) (suf : List (Int × Bool)) :
    ∃ t, (mst m k f (pre ++ (d, true) :: suf)).2 = (mst m k f pre).2 ++ (d, (mst m k f pre).1) :: t := by
  obtain ⟨t, ht⟩ := mst_more m k f (pre ++ [(d, true)]) suf
  refine ⟨t, ?_⟩
  rw [List.append_assoc] at ht
  rw [show (d, true) :: suf = [(d, true)] ++ suf from rfl, ht, mst_snoc]
  simp [stepM]

/-- The school days among week days. -/
def sdl (l : List (Int × Bool)) : List Int := (l.filter (fun x => x.2)).map (fun x => x.1)
theorem sdl_snoc (l : List (Int × Bool)) (x : Int × Bool) : sdl (l ++ [x]) = sdl l ++ (if x.2 then [x.1] else []) := by
  cases hx : x.2 <;> simp [sdl, List.filter_append, hx]
theorem sdl_prefix (a l : List (Int × Bool)) (h : a <+: l) : sdl a <+: sdl l := by
  obtain ⟨b, rfl⟩ := h
  exact ⟨sdl b, by simp [sdl]⟩
theorem sdl_suffix (pre : List (Int × Bool)) (d : Int) (suf : List (Int × Bool)) : ∃ t, sdl (pre ++ (d, true) :: suf) = sdl pre ++ d :: t :=
  ⟨sdl suf, by simp [sdl]⟩

end Go.Proofs.Ytilolaednbcaoaa
