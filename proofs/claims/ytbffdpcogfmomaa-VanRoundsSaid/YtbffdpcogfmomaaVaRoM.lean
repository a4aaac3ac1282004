/- The tour that goes always on to the nearest stop. Plain mathematics. -/
import Derived.Test.YtbffdpcogfmomaaVaM
set_option linter.unusedVariables false
namespace Go.Proofs.Ytbffdpcogfmomaa

/-- x is the nearest stop that is not in T, seen from the last of T; of equally near ones the smallest. -/
structure NearTo (t : Tbl) (n : Nat) (T : List Int) (x : Int) : Prop where
  rg : 1 ≤ x ∧ x < n
  out : x ∉ T
  near : ∀ y, 1 ≤ y → y < (n : Int) → y ∉ T → tA t (lastP T T.length) x < tA t (lastP T T.length) y ∨ (tA t (lastP T T.length) x = tA t (lastP T T.length) y ∧ x ≤ y)
theorem NearTo.eq {t : Tbl} {n : Nat} {T : List Int} {x y : Int} (h : NearTo t n T x) (k : NearTo t n T y) : x = y := by
  have h1 := h.near y k.rg.1 k.rg.2 k.out
  have h2 := k.near x h.rg.1 h.rg.2 h.out
  omega
/-- A beginning of the tour. -/
structure RoundTo (t : Tbl) (n : Nat) (first : Int) (T : List Int) : Prop where
  pos : 0 < T.length
  hd : vAt T 0 = first
  ok : StopsOk T n
  nd : T.Nodup
  near : ∀ k, 1 ≤ k → k < T.length → NearTo t n (T.take k) (vAt T k)
theorem RoundTo.start (t : Tbl) (n : Nat) (x : Int) (h : 1 ≤ x ∧ x < n) : RoundTo t n x [x] :=
  ⟨by simp, rfl, fun y hy => by simp at hy; subst hy; exact h, by simp, fun k h1 h2 => by simp at h2; omega⟩
theorem RoundTo.push {t : Tbl} {n : Nat} {first : Int} {T : List Int} {x : Int} (h : RoundTo t n first T) (hx : NearTo t n T x) : RoundTo t n first (T ++ [x]) := by
  refine ⟨by simp, ?_, fun y hy => ?_, ?_, fun k h1 h2 => ?_⟩
  · unfold vAt; rw [List.getElem?_append_left h.pos]; exact h.hd
  · rcases List.mem_append.1 hy with hy | hy
    · exact h.ok y hy
    · simp at hy; subst hy; exact hx.rg
  · rw [List.nodup_append]
    refine ⟨h.nd, by simp, fun a ha b hb => ?_⟩
    simp at hb; subst hb
    exact fun e => hx.out (e ▸ ha)
  · rcases Nat.lt_or_ge k T.length with hk | hk
    · have := h.near k h1 hk
      rw [List.take_append_of_le_length (by omega)]
      unfold vAt; rw [List.getElem?_append_left hk]; exact this
    · have e : k = T.length := by simp at h2; omega
      subst e
      rw [List.take_append_of_le_length (Nat.le_refl _), List.take_length]
      unfold vAt; rw [List.getElem?_append_right (Nat.le_refl _)]; simpa using hx
theorem RoundTo.eq {t : Tbl} {n : Nat} {first : Int} {T U : List Int} (h : RoundTo t n first T) (k : RoundTo t n first U) (hl : T.length = U.length) : T = U := by
  have key : ∀ j, j ≤ T.length → T.take j = U.take j := by
    intro j
    induction j with
    | zero => intro _; simp
    | succ j ih =>
      intro hj
      have h1 := ih (by omega)
      have e1 : T.take (j + 1) = T.take j ++ [vAt T j] := by
        rw [List.take_succ_eq_append_getElem (by omega)]; simp [vAt, show j < T.length by omega]
      have e2 : U.take (j + 1) = U.take j ++ [vAt U j] := by
        rw [List.take_succ_eq_append_getElem (by omega)]; simp [vAt, show j < U.length by omega]
      rw [e1, e2, h1]
      by_cases h0 : j = 0
      · subst h0; rw [h.hd, k.hd]
      · have a := h.near j (by omega) (by omega)
        have b := k.near j (by omega) (by omega)
        rw [h1] at a
        rw [a.eq b]
  have := key T.length (Nat.le_refl _)
  rw [List.take_length, hl, List.take_length] at this
  exact this
/-- What is left, in ascending order. -/
structure Rem (n : Nat) (T R : List Int) : Prop where
  asc : R.Pairwise (· < ·)
  mem : ∀ x, x ∈ R ↔ (1 ≤ x ∧ x < n) ∧ x ∉ T
  len : T.length + R.length = n - 1
theorem Rem.at_ {n : Nat} {T R : List Int} (h : Rem n T R) {b : Nat} (hb : b < R.length) : (1 ≤ vAt R b ∧ vAt R b < n) ∧ vAt R b ∉ T := (h.mem _).1 (vAt_mem hb)
theorem Rem.take {n : Nat} {T R : List Int} (h : Rem n T R) {b : Nat} (hb : b < R.length) : Rem n (T ++ [vAt R b]) (R.eraseIdx b) := by
  have hnd : R.Nodup := h.asc.imp (fun {a b} h => by omega)
  refine ⟨h.asc.sublist (List.eraseIdx_sublist R b), fun x => ?_, ?_⟩
  · rw [List.mem_append, List.mem_singleton]
    have hx : x ∈ R.eraseIdx b ↔ x ∈ R ∧ x ≠ vAt R b := by
      rw [List.mem_eraseIdx_iff_getElem?]
      constructor
      · rintro ⟨i, hi, e⟩
        have hl : i < R.length := (List.getElem?_eq_some_iff.1 e).1
        have ex : vAt R i = x := by simp [vAt, e]
        refine ⟨by rw [← ex]; exact vAt_mem hl, fun e2 => hi ?_⟩
        exact vAt_inj hnd hl hb (by rw [ex, e2])
      · rintro ⟨h1, h2⟩
        obtain ⟨i, hi, e⟩ := mem_vAt h1
        refine ⟨i, fun e2 => h2 (by rw [← e, e2]), ?_⟩
        rw [← e]; simp [vAt, hi]
    rw [hx, h.mem]
    constructor
    · rintro ⟨⟨h1, h2⟩, h3⟩; exact ⟨h1, fun h => by rcases h with h | h; exact h2 h; exact h3 h⟩
    · rintro ⟨h1, h2⟩; exact ⟨⟨h1, fun h => h2 (.inl h)⟩, fun h => h2 (.inr h)⟩
  · have := h.len
    rw [List.length_append, List.length_eraseIdx, if_pos hb]
    simp; omega
theorem Rem.near {t : Tbl} {n : Nat} {T R : List Int} {row : List Int} (h : Rem n T R) {b : Nat} (hb : b < R.length) (hrow : ∀ y : Int, tA t (lastP T T.length) y = row[y.toNat]?.getD 0)
    (hmin : ∀ k, k < R.length → row[(vAt R b).toNat]?.getD 0 ≤ row[(vAt R k).toNat]?.getD 0) (hfst : ∀ k, k < b → row[(vAt R b).toNat]?.getD 0 < row[(vAt R k).toNat]?.getD 0) : NearTo t n T (vAt R b) := by
  obtain ⟨h1, h2⟩ := h.at_ hb
  refine ⟨h1, h2, fun y y1 y2 y3 => ?_⟩
  obtain ⟨k, hk, e⟩ := mem_vAt ((h.mem y).2 ⟨⟨y1, y2⟩, y3⟩)
  subst e
  rw [hrow, hrow]
  have hm := hmin k hk
  rcases Nat.lt_or_ge k b with hkb | hkb
  · exact .inl (hfst k hkb)
  · rcases Nat.lt_or_ge b k with hbk | hbk
    · have ha : vAt R b < vAt R k := by
        have := List.pairwise_iff_getElem.1 h.asc b k hb hk hbk
        simpa [vAt, hb, hk] using this
      omega
    · obtain rfl : k = b := by omega
      exact .inr ⟨rfl, Int.le_refl _⟩
/-- The stops, all left. -/
theorem Rem.start (n : Nat) : Rem n [] (stopsL n) := by
  refine ⟨?_, fun x => by rw [stopsL_mem]; simp, by rw [stopsL_len]; simp⟩
  unfold stopsL
  rw [List.pairwise_map]
  exact List.pairwise_lt_range.imp (fun {a b} h => by omega)
/-- What the document's inner loop has found among the stops below s. -/
structure BestTo (t : Tbl) (n : Nat) (T : List Int) (s : Nat) (best : Int) : Prop where
  no : best < 0 → best = -1 ∧ ∀ y : Int, 1 ≤ y → y < s → y ∈ T
  yes : 0 ≤ best → (1 ≤ best ∧ best < s) ∧ best ∉ T ∧ ∀ y : Int, 1 ≤ y → y < s → y ∉ T → tA t (lastP T T.length) best < tA t (lastP T T.length) y ∨ (tA t (lastP T T.length) best = tA t (lastP T T.length) y ∧ best ≤ y)
theorem BestTo.start (t : Tbl) (n : Nat) (T : List Int) : BestTo t n T 1 (-1) := ⟨fun _ => ⟨rfl, fun y h1 h2 => by omega⟩, fun h => by omega⟩
theorem BestTo.skip {t : Tbl} {n : Nat} {T : List Int} {s : Nat} {best : Int} (h : BestTo t n T s best) (hs : (s : Int) ∈ T) : BestTo t n T (s + 1) best := by
  refine ⟨fun hb => ⟨(h.no hb).1, fun y y1 y2 => ?_⟩, fun hb => ?_⟩
  · rcases Int.lt_or_le y s with e | e
    · exact (h.no hb).2 y y1 e
    · rw [show y = s by omega]; exact hs
  · obtain ⟨h1, h2, h3⟩ := h.yes hb
    refine ⟨by omega, h2, fun y y1 y2 y3 => ?_⟩
    rcases Int.lt_or_le y s with e | e
    · exact h3 y y1 e y3
    · exact absurd (by rw [show y = s by omega]; exact hs) y3
theorem BestTo.take {t : Tbl} {n : Nat} {T : List Int} {s : Nat} {best : Int} (h : BestTo t n T s best) (h1 : 1 ≤ s) (hs : (s : Int) ∉ T) (hb : best < 0 ∨ tA t (lastP T T.length) s < tA t (lastP T T.length) best) : BestTo t n T (s + 1) s := by
  refine ⟨fun h => by omega, fun _ => ⟨by omega, hs, fun y y1 y2 y3 => ?_⟩⟩
  rcases Int.lt_or_le y s with e | e
  · rcases Int.lt_or_le best 0 with hn | hn
    · exact absurd ((h.no hn).2 y y1 e) y3
    · obtain ⟨_, _, h3⟩ := h.yes hn
      have := h3 y y1 e y3
      rcases hb with hb | hb
      · omega
      · left; omega
  · rw [show y = s by omega]; exact .inr ⟨rfl, Int.le_refl _⟩
theorem BestTo.keep {t : Tbl} {n : Nat} {T : List Int} {s : Nat} {best : Int} (h : BestTo t n T s best) (hb : 0 ≤ best) (hs : tA t (lastP T T.length) best ≤ tA t (lastP T T.length) s) : BestTo t n T (s + 1) best := by
  refine ⟨fun h => by omega, fun _ => ?_⟩
  obtain ⟨h1, h2, h3⟩ := h.yes hb
  refine ⟨by omega, h2, fun y y1 y2 y3 => ?_⟩
  rcases Int.lt_or_le y s with e | e
  · exact h3 y y1 e y3
  · rw [show y = s by omega]
    rcases Int.lt_or_le (tA t (lastP T T.length) best) (tA t (lastP T T.length) s) with e2 | e2
    · exact .inl e2
    · exact .inr ⟨by omega, by omega⟩
/-- A beginning that is short leaves a stop. -/
theorem BestTo.end_ {t : Tbl} {n : Nat} {T : List Int} {best : Int} (h : BestTo t n T n best) (hn : T.length < n - 1) (hp : 1 ≤ n) : NearTo t n T best := by
  rcases Int.lt_or_le best 0 with hb | hb
  · obtain ⟨_, h2⟩ := h.no hb
    have hsub : ∀ x ∈ stopsL n, x ∈ T := fun x hx => by
      have := (stopsL_mem n x).1 hx
      exact h2 x this.1 this.2
    have hle : (stopsL n).length ≤ T.length := by
      have hnd := stopsL_nodup n
      generalize stopsL n = S at *
      clear h h2 hn
      induction S generalizing T with
      | nil => simp
      | cons a S ih =>
        rw [List.nodup_cons] at hnd
        have ha := hsub a (by simp)
        have h3 := ih (T := T.erase a) (fun x hx => by
          have hxa : x ≠ a := fun e => hnd.1 (e ▸ hx)
          exact (List.mem_erase_of_ne hxa).2 (hsub x (by simp [hx]))) hnd.2
        rw [List.length_erase_of_mem ha] at h3
        have : 0 < T.length := List.length_pos_of_mem ha
        simp only [List.length_cons]; omega
    rw [stopsL_len] at hle
    omega
  · obtain ⟨h1, h2, h3⟩ := h.yes hb
    exact ⟨h1, h2, h3⟩
end Go.Proofs.Ytbffdpcogfmomaa
