/- The views of states and the pairs that a map of views holds. -/
import Derived.Test.YtkboeldafppicaaViewP
import Derived.Test.YtkboeldafppicaaKindM
import Derived.Test.YtkboeldafppicaaLstI
set_option linter.unusedVariables false
namespace Go.Proofs.Ytkboeldafppicaa
open Go.RowKit

def arrL (L : Nat) (nx : Nat → Nat → Nat) (ac : Nat → Bool) (k m : Nat) : List Int := (List.range m).map (fun s => (fsk L nx ac k s : Int))
theorem arrL_len (L : Nat) (nx : Nat → Nat → Nat) (ac : Nat → Bool) (k m : Nat) : (arrL L nx ac k m).length = m := by simp [arrL]
theorem arrL_get (L : Nat) (nx : Nat → Nat → Nat) (ac : Nat → Bool) (k m s : Nat) (h : s < m) : (arrL L nx ac k m)[s]?.getD 0 = (fsk L nx ac k s : Int) := by
  unfold arrL; simp [h]
theorem arrL_succ (L : Nat) (nx : Nat → Nat → Nat) (ac : Nat → Bool) (k m : Nat) : arrL L nx ac k (m + 1) = arrL L nx ac k m ++ [(fsk L nx ac k m : Int)] := by
  unfold arrL; rw [List.range_succ, List.map_append]; rfl
theorem arrL_zero (L : Nat) (nx : Nat → Nat → Nat) (ac : Nat → Bool) (m : Nat) : arrL L nx ac 0 m = List.replicate m 0 := by
  apply List.ext_getElem?
  intro i
  by_cases h : i < m
  · have h0 : fsk L nx ac 0 i = 0 := by
      rcases Nat.eq_zero_or_pos (fsk L nx ac 0 i) with e | e
      · exact e
      · have := (fsk_spec (L := L) (next := nx) (acc := ac) 0 i).2.2 0 e; simp [eqk] at this
    simp [arrL, h, h0]
  · rw [List.getElem?_eq_none (by rw [arrL_len]; omega), List.getElem?_eq_none (by simp; omega)]
/-- What is seen of a state. -/
def vw (L : Nat) (nx : Nat → Nat → Nat) (ac : Nat → Bool) (k n s : Nat) : Bool × List Int := (ac s, vnum 6 (fun c => (arrL L nx ac k n)[nx s c]?.getD 0) L)
theorem vnum_inj {N L : Nat} {f g : Nat → Int} : vnum N f L = vnum N g L ↔ ∀ c, c < L → f c = g c := by
  constructor
  · intro h c hc
    have := congrArg (fun l => l[c]?) h
    simp only [vnum, rowPad] at this
    rw [List.getElem?_append_left (by simp; omega), List.getElem?_append_left (by simp; omega)] at this
    simpa [hc] using this
  · intro h
    have : (List.range L).map f = (List.range L).map g := List.map_congr_left (fun c hc => h c (List.mem_range.1 hc))
    unfold vnum; rw [this]
theorem vw_eq {L n k s t : Nat} {nx : Nat → Nat → Nat} {ac : Nat → Bool} (hcl : ∀ s c, s < n → c < L → nx s c < n) (hs : s < n) (ht : t < n) : vw L nx ac k n s = vw L nx ac k n t ↔ eqk L nx ac (k + 1) s t = true := by
  unfold vw
  rw [Prod.mk.injEq, vnum_inj, eqk_succ]
  refine and_congr Iff.rfl (forall_congr' fun c => forall_congr' fun hc => ?_)
  rw [arrL_get _ _ _ _ _ _ (hcl s c hs hc), arrL_get _ _ _ _ _ _ (hcl t c ht hc), Int.ofNat_inj, fsk_eq]
theorem mapInt_inj : ∀ (l l' : List Int), l.map (Value.int .i64) = l'.map (Value.int .i64) → l = l' := by
  intro l
  induction l with
  | nil => intro l' h; cases l' with
    | nil => rfl
    | cons x t => simp at h
  | cons x t ih => intro l' h; cases l' with
    | nil => simp at h
    | cons y u =>
      simp only [List.map_cons, List.cons.injEq, Value.int.injEq, true_and] at h
      rw [h.1, ih u h.2]
theorem VV_inj (v u : Bool × List Int) (h : VV v = VV u) : v = u := by
  obtain ⟨b, l⟩ := v
  obtain ⟨b', l'⟩ := u
  have h3 := congrArg Array.toList (Value.agg.inj h)
  simp only [vcells, List.cons.injEq, Value.bool.injEq] at h3
  rw [h3.1, mapInt_inj _ _ h3.2]
/-- The pairs of the map when m states have been looked at. -/
def mlist (L : Nat) (nx : Nat → Nat → Nat) (ac : Nat → Bool) (k n m : Nat) : List (Value × Int) := (repsk L nx ac (k + 1) m).map (fun r => (VV (vw L nx ac k n r), (r : Int)))
theorem mlist_mem {L n k m : Nat} {nx : Nat → Nat → Nat} {ac : Nat → Bool} (hcl : ∀ s c, s < n → c < L → nx s c < n) (hm : m < n) (j : Nat) (hj : j ≤ m) (c : Int) : (VV (vw L nx ac k n m), c) ∈ mlist L nx ac k n j ↔ fsk L nx ac (k + 1) m < j ∧ c = (fsk L nx ac (k + 1) m : Int) := by
  unfold mlist
  rw [List.mem_map]
  constructor
  · rintro ⟨r, hr, he⟩
    obtain ⟨h1, h2⟩ := mem_repsk.1 hr
    rw [Prod.mk.injEq] at he
    have e1 := VV_inj _ _ he.1
    have e2 := fsk_eq.2 ((vw_eq hcl (by omega) hm).1 e1)
    rw [h2] at e2
    exact ⟨by omega, by rw [← e2]; exact he.2.symm⟩
  · rintro ⟨h1, rfl⟩
    exact ⟨fsk L nx ac (k + 1) m, mem_repsk.2 ⟨h1, fsk_idem _ _⟩, by rw [(vw_eq hcl (by omega) hm).2 (fsk_spec _ _).2.1]⟩
theorem mlist_succ_new {L n k m : Nat} {nx : Nat → Nat → Nat} {ac : Nat → Bool} (h : fsk L nx ac (k + 1) m = m) : mlist L nx ac k n (m + 1) = mlist L nx ac k n m ++ [(VV (vw L nx ac k n m), (m : Int))] := by
  unfold mlist; rw [repsk_succ, if_pos h, List.map_append]; rfl
theorem mlist_succ_old {L n k m : Nat} {nx : Nat → Nat → Nat} {ac : Nat → Bool} (h : fsk L nx ac (k + 1) m ≠ m) : mlist L nx ac k n (m + 1) = mlist L nx ac k n m := by
  unfold mlist; rw [repsk_succ, if_neg h]
theorem mlist_len (L : Nat) (nx : Nat → Nat → Nat) (ac : Nat → Bool) (k n m : Nat) : (mlist L nx ac k n m).length = (repsk L nx ac (k + 1) m).length := by simp [mlist]
theorem vw_key (L : Nat) (nx : Nat → Nat → Nat) (ac : Nat → Bool) (k n s : Nat) (hL : L ≤ 6) (hn : n ≤ 1000000) : ∃ kl, keyOf Try.prog 148 (VV (vw L nx ac k n s)) = some kl := by
  have hb : ∀ x ∈ vnum 6 (fun c => (arrL L nx ac k n)[nx s c]?.getD 0) L, I64 x := by
    intro x hx
    unfold vnum rowPad at hx
    rcases List.mem_append.1 hx with h | h
    · obtain ⟨c, _, rfl⟩ := List.mem_map.1 h
      by_cases hc : nx s c < n
      · rw [arrL_get _ _ _ _ _ _ hc]
        have := fsk_le (L := L) (next := nx) (acc := ac) k (nx s c)
        unfold I64; omega
      · rw [List.getElem?_eq_none (by rw [arrL_len]; omega)]; unfold I64; simp
    · rw [(List.mem_replicate.1 h).2]; unfold I64; omega
  have hl : (vnum 6 (fun c => (arrL L nx ac k n)[nx s c]?.getD 0) L).length = 6 := vnum_len _ _ _ hL
  unfold vw
  generalize vnum 6 (fun c => (arrL L nx ac k n)[nx s c]?.getD 0) L = vs at *
  match vs, hl with
  | [x0, x1, x2, x3, x4, x5], _ => exact key_view _ _ _ _ _ _ _ (hb _ (by simp)) (hb _ (by simp)) (hb _ (by simp)) (hb _ (by simp)) (hb _ (by simp)) (hb _ (by simp))
theorem NumMap.lenRun {w : World} {K t : TypeId} {b : Nat} {l : List (Value × Int)} (h : NumMap w K b l) (ht : Try.prog.underlying t = some (.map K 3)) (ty : TypeId) : (Builtin.len_ #[t] ty #[.map (some b)]).run Try.prog w = .ok (.int .i64 (l.length : Int)) w := by
  obtain ⟨D, h1, h2, h3⟩ := h
  rw [h1.len ht ty, h2]
end Go.Proofs.Ytkboeldafppicaa
