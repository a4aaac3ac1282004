/- The library's Delete at lists of rules, on a row of rules of the call's own. -/
import Derived.Test.YtdgleicpcjfnoaaCloneR
import Derived.Lib.SliceRun
import Derived.Deep.RegionLaw
set_option linter.unusedVariables false
namespace Go.Proofs.Ytdgleicpcjfnoaa
open Go.RowKit

/-- Cells that are written over. -/
def overR : Array Value → Nat → List Value → Array Value
  | cur, _, [] => cur
  | cur, o, v :: r => overR (cur.setIfInBounds o v) (o + 1) r
theorem overR_size (vs : List Value) : ∀ (cur : Array Value) (o : Nat), (overR cur o vs).size = cur.size := by
  induction vs with
  | nil => intro cur o; rfl
  | cons v r ih => intro cur o; rw [overR, ih]; simp
theorem overR_get (vs : List Value) : ∀ (cur : Array Value) (o j : Nat), (overR cur o vs)[j]? = if o ≤ j ∧ j < o + vs.length ∧ j < cur.size then vs[j - o]? else cur[j]? := by
  induction vs with
  | nil => intro cur o j; rw [overR, if_neg (by simp; omega)]
  | cons v r ih =>
    intro cur o j
    rw [overR, ih, Array.getElem?_setIfInBounds]
    simp only [Array.size_setIfInBounds, List.length_cons]
    by_cases h1 : j = o
    · subst h1
      rw [if_neg (by omega), if_pos rfl]
      by_cases h2 : j < cur.size
      · rw [if_pos h2, if_pos ⟨Nat.le_refl _, by omega, h2⟩, Nat.sub_self]; rfl
      · rw [if_neg h2, if_neg (by omega), Array.getElem?_eq_none (by omega)]
    · by_cases h2 : o + 1 ≤ j ∧ j < o + 1 + r.length ∧ j < cur.size
      · rw [if_pos h2, if_pos (by omega), show j - o = (j - (o + 1)) + 1 by omega, List.getElem?_cons_succ]
      · rw [if_neg h2, if_neg (fun e => h1 e.symm), if_neg (by omega)]
theorem setCells_blockR (g : Nat) (e : TypeId) : ∀ (vs : List Value) (o : Nat) (w : World) (cur : Array Value), w.heap[g]? = some (.cells cur e (0, 0)) → (w.setCells g o vs).heap[g]? = some (.cells (overR cur o vs) e (0, 0))
  | [], _, _, _, h => h
  | v :: r, o, w, cur, h => setCells_blockR g e r (o + 1) _ _ (heap_setCell_same w g o cur e v h)
theorem setCells_belowR {B g : Nat} {a : World} (hg : B ≤ g) : ∀ (vs : List Value) (o : Nat) (w : World), Below B a w → Below B a (w.setCells g o vs)
  | [], _, _, h => h
  | v :: r, o, w, h => setCells_belowR hg r (o + 1) _ (h.setCell (by exact hg) v)
theorem setCells_otherR (g : Nat) : ∀ (vs : List Value) (o : Nat) (w : World) (k : Nat), k ≠ g → (w.setCells g o vs).heap[k]? = w.heap[k]?
  | [], _, _, _, _ => rfl
  | v :: r, o, w, k, h => (setCells_otherR g r (o + 1) _ k h).trans (heap_setCell_other w ⟨g, o, none⟩ k v h)
theorem cell_blockR {w : World} {g : Nat} {cur : Array Value} {e : TypeId} (h : w.heap[g]? = some (.cells cur e (0, 0))) (j : Nat) : w.cell? ⟨g, j, none⟩ = cur[j]? := by
  unfold World.cell?; rw [h]; simp
theorem frozen_blockR {w : World} {g : Nat} {cur : Array Value} {e : TypeId} (h : w.heap[g]? = some (.cells cur e (0, 0))) (j : Nat) : w.frozen? ⟨g, j, none⟩ = false := by
  unfold World.frozen?; rw [h]; simp
/-- clear of one rule. -/
theorem clear_oneR (w : World) (ty : TypeId) (g o c : Nat) (h : ∀ j, j < 2 → (w.cell? ⟨g, o + j, none⟩).isSome = true) (hf : ∀ j, j < 2 → w.frozen? ⟨g, o + j, none⟩ = false) :
    (Builtin.clear_ #[23] ty #[.slice (some ⟨g, o, none⟩) 1 c]).run Try.prog w = .ok (.tuple #[]) (w.setCells g o [.slice none 0 0, .int .i64 0]) := by
  have hst := run_storeCells_cells (P := Try.prog) g o [.slice none 0 0, .int .i64 0] 0 w (by simpa using h) (by simpa using hf) (by intro v hv; simp at hv; rcases hv with rfl | rfl <;> rfl)
  simp only [Nat.add_zero] at hst
  have hzc : (Builtin.zeroCells (Value.agg #[.slice none 0 0, .int .i64 0]).cells 1).toList = [.slice none 0 0, .int .i64 0] := by kernel_rfl
  have ht := Try.underlying23
  have hv : ∀ w, (zeroValue 55).run Try.prog w = .ok (.agg #[.slice none 0 0, .int .i64 0]) w := Try.zeroValue55
  simp [Builtin.clear_, run_underlying ht, hv, hzc, hst]
theorem CsLike.cut {w : World} {base : Nat} {cl : List Value} {cs : List (List Int ⊕ Int)} (h : CsLike w base cl cs) {a b : Nat} (hab : a ≤ b) (hb : b ≤ cs.length) : CsLike w base (cl.take a ++ cl.drop b) (cs.take a ++ cs.drop b) := by
  have hl := h.1
  refine ⟨by simp only [List.length_append, List.length_take, List.length_drop]; omega, fun j y hj => ?_⟩
  by_cases hja : j < a
  · rw [List.getElem?_append_left (by rw [List.length_take]; omega), List.getElem?_take_of_lt hja] at hj
    obtain ⟨x, h1, h2⟩ := h.2 j y hj
    exact ⟨x, by rw [List.getElem?_append_left (by rw [List.length_take]; omega), List.getElem?_take_of_lt hja]; exact h1, h2⟩
  · rw [List.getElem?_append_right (by rw [List.length_take]; omega), List.length_take, List.getElem?_drop] at hj
    obtain ⟨x, h1, h2⟩ := h.2 _ y hj
    refine ⟨x, ?_, h2⟩
    rw [List.getElem?_append_right (by rw [List.length_take]; omega), List.length_take, List.getElem?_drop, hl]
    exact h1
theorem cut_sublist {α : Type} (l : List α) {a b : Nat} (hab : a ≤ b) : (l.take a ++ l.drop b).Sublist l := by
  have h1 : (l.drop b).Sublist (l.drop a) := by
    have : l.drop b = (l.drop a).drop (b - a) := by rw [List.drop_drop]; congr 1; omega
    rw [this]; exact List.drop_sublist _ _
  have h2 := (List.Sublist.refl (l.take a)).append h1
  rw [List.take_append_drop] at h2
  exact h2
set_option maxRecDepth 100000 in
set_option maxHeartbeats 4000000 in
theorem deleteR_any (base m : Nat) (cs : List (List Int ⊕ Int)) (n i : Nat) (A : Option Addr) (c : Nat) (w : World) (h : RowO w base 55 cs n (.slice A n c)) (hn : n ≤ 1000) (hi : i < n) (hm : ∀ q, (Value.slice A n c).ownBlock = some q → m ≤ q) :
  Calls Try.prog 81 #[.slice A n c, .int .i64 i, .int .i64 ((i : Int) + 1)] w fun e w' => Below m w w' ∧ e = .returned (.slice A (n - 1) c) ∧ RowO w' base 55 (cs.take (2 * i) ++ cs.drop (2 * i + 2)) (n - 1) (.slice A (n - 1) c) := by
  obtain ⟨i0, hinf, hz0, hz1, hz2⟩ := info_parts rule_info
  obtain ⟨cl, h1, h2, h3⟩ := h
  rcases h1.2 with ⟨hv, hn0⟩ | ⟨g, c', cur, hv, hg, hh, hnc, hmx, hs, ht⟩
  · omega
  simp only [Value.slice.injEq, true_and] at hv
  obtain ⟨rfl, rfl⟩ := hv
  have hmg : m ≤ g := hm g rfl
  have hcl : cl.length = n * 2 := h1.1
  have hcs : cs.length = n * 2 := by rw [← h2.1]; exact hcl
  have hcell : ∀ j, j < n * 2 → cur[j]? = cl[j]? := fun j hj => by
    rw [← ht, List.getElem?_take_of_lt hj, Array.getElem?_toList]
  -- the cells that move
  obtain ⟨news, hnews⟩ : ∃ news, news = cl.drop ((i + 1) * 2) := ⟨_, rfl⟩
  have hlen : news.length = (n - (i + 1)) * 2 := by rw [hnews, List.length_drop, hcl]; omega
  have hdr : w.drew.heap[g]? = some (.cells cur 55 (0, 0)) := hh
  obtain ⟨B, hB, hsrc⟩ : ∃ B : Addr, (if c = i + 1 then some (⟨g, 0, none⟩ : Addr) else some ⟨g, (i + 1) * 2, none⟩) = some B ∧ Hid (∀ t u, news[t]? = some u → w.drew.cell? (B.add t) = some u) := by
    by_cases hc : c = i + 1
    · refine ⟨⟨g, 0, none⟩, by rw [if_pos hc], fun t u hu => ?_⟩
      have h0 : news.length = 0 := by rw [hlen]; omega
      rw [List.length_eq_zero_iff.1 h0] at hu
      simp at hu
    · refine ⟨⟨g, (i + 1) * 2, none⟩, by rw [if_neg hc], fun t u hu => ?_⟩
      have ht2 : t < (n - (i + 1)) * 2 := by
        have := (List.getElem?_eq_some_iff.1 hu).1
        rwa [hlen] at this
      rw [Addr.add_lit, cell_blockR hdr, hcell _ (by omega), ← hu, hnews, List.getElem?_drop]
  have s2 : Hid (∀ u ∈ news, u.oneCell' = true) := by
    intro u hu
    rw [hnews] at hu
    obtain ⟨y, hy⟩ := h2.cel (List.mem_of_mem_drop hu)
    exact hy.one
  have s3 : Hid (∀ t, t < news.length → (w.drew.cell? ⟨g, 0 + i * 2 + t, none⟩).isSome = true ∧ w.drew.frozen? ⟨g, 0 + i * 2 + t, none⟩ = false) := by
    intro t ht2
    rw [hlen] at ht2
    rw [cell_blockR hdr, frozen_blockR hdr, Array.getElem?_eq_getElem (by omega)]
    exact ⟨rfl, rfl⟩
  obtain ⟨W1, hW1⟩ : ∃ W1, W1 = w.drew.setCells g (0 + i * 2) news := ⟨_, rfl⟩
  have hb1 : W1.heap[g]? = some (.cells (overR cur (0 + i * 2) news) 55 (0, 0)) := by rw [hW1]; exact setCells_blockR g _ _ _ _ _ hdr
  have hBW : Below m w W1 := by rw [hW1]; exact setCells_belowR hmg _ _ _ ((Below.refl _ _).drew)
  have hcl2 : ∀ ty, (Builtin.clear_ #[23] ty #[.slice (some ⟨g, (i + (n - (i + 1))) * 2, none⟩) (n - (i + (n - (i + 1)))) (c - (i + (n - (i + 1))))]).run Try.prog W1 = .ok (.tuple #[]) (W1.setCells g ((i + (n - (i + 1))) * 2) [.slice none 0 0, .int .i64 0]) := by
    intro ty
    rw [show n - (i + (n - (i + 1))) = 1 by omega]
    refine clear_oneR W1 ty g _ _ (fun j hj => ?_) (fun j hj => frozen_blockR hb1 _)
    rw [cell_blockR hb1, Array.getElem?_eq_getElem (by rw [overR_size]; omega)]
    rfl
  have hW := hid hW1
  have HK := hid (And.intro h2 (And.intro h3 (And.intro hb1 (And.intro hBW (And.intro hnews hcell)))))
  have HH := hid h1
  have hic : i ≤ c := by omega
  have hjc : i + 1 ≤ c := by omega
  have s1 := hid hlen
  have hq1 : 0 ≤ (i : Int) + 1 := by omega
  have hq2 : (i : Int) + 1 ≤ (n : Int) := by omega
  clear hW1 hb1 hBW hnews hcell h1 h2 h3 hdr hh ht hlen
  go_enter Try.func81, Try.ntmps81
  go_wp2_with fail
  go_region_law (refine step_append_room rfl (.tmp 22) (.tmp 25) 23 rfl 55 i0 2 Try.underlying23 hinf hz1 g 0 i c (by simp [Act.eval, Act.put]) B (n - (i + 1)) (c - (i + 1)) news (by simp [Act.eval, Act.put]) s1.out hsrc.out s2.out (by omega) s3.out ?_; rw [← hW.out])
  go_wp2
  go_ret
  obtain ⟨h2, h3, hb1, hBW, hnews, hcell⟩ := HK.out
  have hn1 : i + (n - (i + 1)) = n - 1 := by omega
  have hrow := HH.out
  have hlen := s1.out
  simp only [hn1]
  refine ⟨setCells_belowR hmg _ _ _ hBW, rfl, cl.take (2 * i) ++ cl.drop (2 * i + 2), ⟨?_, .inr ⟨g, c, _, rfl, hg, setCells_blockR _ _ _ _ _ _ hb1, by omega, hmx, by rw [overR_size, overR_size]; exact hs, ?_⟩⟩, ?_, h3.sublist (cut_sublist _ (by omega))⟩
  · rw [List.length_append, List.length_take, List.length_drop]; omega
  · apply List.ext_getElem?
    intro j
    by_cases hj : j < (n - 1) * 2
    · rw [List.getElem?_take_of_lt hj, Array.getElem?_toList, overR_get, if_neg (by omega), overR_get]
      by_cases h : j < i * 2
      · rw [if_neg (by omega), hcell j (by omega), List.getElem?_append_left (by rw [List.length_take]; omega), List.getElem?_take_of_lt (by omega)]
      · rw [if_pos (by rw [hlen]; omega), hnews, List.getElem?_drop, List.getElem?_append_right (by rw [List.length_take]; omega), List.length_take, List.getElem?_drop]
        congr 1
        omega
    · rw [List.getElem?_eq_none (by rw [List.length_take]; omega), List.getElem?_eq_none (by rw [List.length_append, List.length_take, List.length_drop]; omega)]
  · refine CsLike.cut ?_ (by omega) (by omega)
    refine h2.kept (fun x hx k hk => ?_)
    have hkg : k ≠ g := fun e => by
      obtain ⟨y, hy⟩ := h2.cel hx
      exact hy.row hrow (by decide) k hk (by rw [e]; rfl)
    rw [setCells_otherR _ _ _ _ _ hkg, hW.out, setCells_otherR _ _ _ _ _ hkg]
    rfl
end Go.Proofs.Ytdgleicpcjfnoaa
