/- Leaving out a stop of a tour: with direct ways it gets no longer. -/
import Derived.Test.YtbffdpcogfmomaaVaRL
set_option linter.unusedVariables false
namespace Go.Proofs.Ytbffdpcogfmomaa

/-- The sum of the ways from x over the stops and back. -/
def goT (t : Tbl) (x : Int) : List Int → Int
  | [] => tA t x 0
  | y :: l => tA t x y + goT t y l
theorem goT_app (t : Tbl) : ∀ (a b : List Int) (x : Int), goT t x (a ++ b) = goT t x a - tA t ((x :: a).getLastD 0) 0 + goT t ((x :: a).getLastD 0) b := by
  intro a
  induction a with
  | nil => intro b x; simp [goT, List.getLastD]
  | cons y l ih =>
    intro b x
    have e : (x :: y :: l).getLastD 0 = (y :: l).getLastD 0 := rfl
    rw [List.cons_append, goT, ih b y, e, goT]
    omega
theorem preL_go (t : Tbl) (o : List Int) : ∀ k, k ≤ o.length → preL t o k + tA t (lastP o k) 0 = goT t 0 (o.take k) ∧ lastP o k = ((0 : Int) :: o.take k).getLastD 0 := by
  intro k
  induction k with
  | zero => intro _; simp [preL, lastP, goT, List.getLastD]
  | succ k ih =>
    intro hk
    obtain ⟨h1, h2⟩ := ih (by omega)
    have h3 : o.take (k + 1) = o.take k ++ [vAt o k] := by
      rw [List.take_add_one, List.getElem?_eq_getElem (by omega)]
      simp [vAt, List.getElem?_eq_getElem (show k < o.length by omega)]
    rw [h3, goT_app, ← h1, ← h2]
    refine ⟨?_, ?_⟩
    · simp only [preL, goT, lastP_succ]
      omega
    · rw [lastP_succ, ← List.cons_append, List.getLastD_concat]
theorem tourL_go (t : Tbl) (o : List Int) : tourL t o = goT t 0 o := by
  have h := (preL_go t o o.length (Nat.le_refl _)).1
  rw [List.take_length] at h
  exact h
theorem goT_leave {t : Tbl} {n : Int} (ht : ∀ i v j : Int, 0 ≤ i ∧ i < n → 0 ≤ v ∧ v < n → 0 ≤ j ∧ j < n → tA t i j ≤ tA t i v + tA t v j) : ∀ (a b : List Int) (x y : Int), 0 < n → (0 ≤ x ∧ x < n) → (∀ z ∈ a ++ y :: b, 0 ≤ z ∧ z < n) → goT t x (a ++ b) ≤ goT t x (a ++ y :: b) := by
  intro a
  induction a with
  | nil =>
    intro b x y hn hx hz
    have hy := hz y (by simp)
    cases b with
    | nil =>
      have := ht x y 0 hx hy ⟨by omega, hn⟩
      simpa [goT] using this
    | cons z b =>
      have := ht x y z hx hy (hz z (by simp))
      simp only [List.nil_append, goT]
      omega
  | cons u a ih =>
    intro b x y hn hx hz
    have := ih b u y hn (hz u (by simp)) (fun z hz2 => hz z (by simp only [List.cons_append, List.mem_cons]; exact .inr hz2))
    simp only [List.cons_append, goT]
    omega
/-- A tour without its stop number k. -/
def lvL (o : List Int) (k : Nat) : List Int := o.take k ++ o.drop (k + 1)
theorem lvL_split (o : List Int) (k : Nat) (hk : k < o.length) : o = o.take k ++ vAt o k :: o.drop (k + 1) := by
  have h : o.drop k = vAt o k :: o.drop (k + 1) := by
    rw [List.drop_eq_getElem_cons hk]
    simp [vAt, List.getElem?_eq_getElem hk]
  rw [← h, List.take_append_drop]
theorem lvL_len (o : List Int) (k : Nat) (hk : k < o.length) : (lvL o k).length = o.length - 1 := by
  simp [lvL]; omega
theorem lvL_mem {o : List Int} {k : Nat} (hk : k < o.length) {x : Int} (h : x ∈ lvL o k) : x ∈ o := by
  rw [lvL_split o k hk]
  simp only [lvL, List.mem_append, List.mem_cons] at h ⊢
  rcases h with h | h
  · exact .inl h
  · exact .inr (.inr h)
theorem lvL_nodup {o : List Int} {k : Nat} (hk : k < o.length) (h : o.Nodup) : (lvL o k).Nodup := by
  rw [lvL_split o k hk] at h
  have hp : (o.take k ++ vAt o k :: o.drop (k + 1)).Perm (vAt o k :: (o.take k ++ o.drop (k + 1))) := List.perm_middle
  exact (List.nodup_cons.1 (hp.nodup_iff.1 h)).2
theorem leave_len {d : Tbl} {o : List Int} {k : Nat} (hk : k < o.length) (he : lenE d o = 0) (ht : ∀ i v j : Int, 0 ≤ i ∧ i < d.length → 0 ≤ v ∧ v < d.length → 0 ≤ j ∧ j < d.length → tA d i j ≤ tA d i v + tA d v j) : lenE d (lvL o k) = 0 ∧ lenV8 d (lvL o k) ≤ lenV8 d o := by
  obtain ⟨h1, h2, h3⟩ := lenE_ok he
  have hv := (ways_iff d).2 h1
  have h4 : lenE d (lvL o k) = 0 := by
    unfold lenE
    rw [if_pos hv]
    exact (tourE_iff _ _).2 ⟨fun x hx => h2 x (lvL_mem hk hx), lvL_nodup hk h3⟩
  refine ⟨h4, ?_⟩
  unfold lenV8
  rw [if_pos h4, if_pos he, tourL_go, tourL_go]
  have hp := h1.pos
  have h5 := goT_leave ht (o.take k) (o.drop (k + 1)) 0 (vAt o k) (by omega) (by omega) (fun z hz => by
    rw [← lvL_split o k hk] at hz
    have := h2 z hz
    omega)
  rw [← lvL_split o k hk] at h5
  exact h5
end Go.Proofs.Ytbffdpcogfmomaa
