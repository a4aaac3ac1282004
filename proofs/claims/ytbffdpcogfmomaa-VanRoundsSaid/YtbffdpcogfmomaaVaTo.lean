/- The document's tours: all orders, each element raised in place: chapter 8. -/
import Derived.Test.YtbffdpcogfmomaaOrdersM
import Derived.Test.YtbffdpcogfmomaaVaM
import Derived.Test.YtbffdpcogfmomaaOrdW
import Derived.Test.YtbffdpcogfmomaaVaCp
/- All tours, as the document makes them. Plain mathematics. -/
set_option linter.unusedVariables false
namespace Go.Proofs.Ytbffdpcogfmomaa

def incR (r : List Int) : List Int := r.map (· + 1)
/-- The first k elements are raised. -/
def incK (r : List Int) (k : Nat) : List Int := incR (r.take k) ++ r.drop k
theorem incK_zero (r : List Int) : incK r 0 = r := by simp [incK, incR]
theorem incK_all (r : List Int) : incK r r.length = incR r := by simp [incK]
theorem incK_len (r : List Int) (k : Nat) : (incK r k).length = r.length := by simp [incK, incR]; omega
theorem incK_at (r : List Int) (k : Nat) (h : k < r.length) : (incK r k)[k]?.getD 0 = r[k]?.getD 0 := by
  unfold incK incR
  rw [List.getElem?_append_right (by simp; omega)]
  simp [List.length_take, Nat.min_eq_left (Nat.le_of_lt h)]
theorem incK_succ (r : List Int) (k : Nat) (h : k < r.length) : (incK r k).set k (r[k]?.getD 0 + 1) = incK r (k + 1) := by
  apply List.ext_getElem?
  intro j
  have hl := incK_len r k
  rcases Nat.lt_trichotomy j k with e | e | e
  · rw [List.getElem?_set_ne (by omega)]
    unfold incK incR
    rw [List.getElem?_append_left (by simp; omega), List.getElem?_append_left (by simp; omega), List.getElem?_map, List.getElem?_map, List.getElem?_take_of_lt (by omega), List.getElem?_take_of_lt (by omega)]
  · subst e
    rw [List.getElem?_set_self (by omega)]
    unfold incK incR
    rw [List.getElem?_append_left (by simp; omega), List.getElem?_map, List.getElem?_take_of_lt (by omega)]
    simp [h]
  · rw [List.getElem?_set_ne (by omega)]
    unfold incK incR
    rw [List.getElem?_append_right (by simp; omega), List.getElem?_append_right (by simp; omega)]
    simp only [List.length_map, List.length_take, List.getElem?_drop]
    congr 1
    omega
/-- A table in which the rows before i are raised, and k elements of the row i. -/
structure IncT (os T : List (List Int)) (i k : Nat) : Prop where
  len : T.length = os.length
  row : ∀ j, j < os.length → rZ T j = if j < i then incR (rZ os j) else if j = i then incK (rZ os j) k else rZ os j
theorem IncT.zero (os : List (List Int)) : IncT os os 0 0 := ⟨rfl, fun j hj => by
  rw [if_neg (by omega)]
  by_cases h : j = 0
  · rw [if_pos h, incK_zero]
  · rw [if_neg h]⟩
theorem rZ_set (T : List (List Int)) (i : Nat) (r : List Int) (j : Nat) (hi : i < T.length) : rZ (T.set i r) j = if j = i then r else rZ T j := by
  unfold rZ
  by_cases h : j = i
  · subst h; rw [if_pos rfl, List.getElem?_set_self hi]; rfl
  · rw [if_neg h, List.getElem?_set_ne (by omega)]
theorem IncT.step {os T : List (List Int)} {i k : Nat} (h : IncT os T i k) (hi : i < os.length) (hk : k < (rZ os i).length) : IncT os (T.set i ((rZ T i).set k ((rZ os i)[k]?.getD 0 + 1))) i (k + 1) := by
  refine ⟨by rw [List.length_set]; exact h.len, fun j hj => ?_⟩
  rw [rZ_set _ _ _ _ (by rw [h.len]; exact hi)]
  have hr := h.row i hi
  rw [if_neg (by omega), if_pos rfl] at hr
  by_cases e : j = i
  · subst e
    rw [if_pos rfl, if_neg (by omega), if_pos rfl, hr, incK_succ _ _ hk]
  · rw [if_neg e, h.row j hj]
    simp only [if_neg e]
theorem IncT.next {os T : List (List Int)} {i : Nat} (h : IncT os T i (rZ os i).length) : IncT os T (i + 1) 0 := by
  refine ⟨h.len, fun j hj => ?_⟩
  rw [h.row j hj]
  by_cases e : j < i
  · rw [if_pos e, if_pos (by omega)]
  · rw [if_neg e]
    by_cases e2 : j = i
    · subst e2; rw [if_pos rfl, if_pos (by omega), incK_all]
    · rw [if_neg e2, if_neg (by omega)]
      by_cases e3 : j = i + 1
      · rw [if_pos e3, incK_zero]
      · rw [if_neg e3]
/-- All tours. -/
def toursZ (n : Nat) : List (List Int) := (ordz (n - 1)).map incR
theorem IncT.end_ {n : Nat} {T : List (List Int)} (h : IncT (ordz (n - 1)) T (ordz (n - 1)).length 0) : T = toursZ n := by
  apply List.ext_getElem?
  intro j
  rcases Nat.lt_or_ge j (ordz (n - 1)).length with e | e
  · have h1 := h.row j e
    rw [if_pos e] at h1
    have h2 : T[j]? = some (rZ T j) := by simp [rZ, h.len, e]
    have h3 : (toursZ n)[j]? = some (incR (rZ (ordz (n - 1)) j)) := by simp [toursZ, rZ, e]
    rw [h2, h3, h1]
  · rw [List.getElem?_eq_none (by rw [h.len]; exact e), List.getElem?_eq_none (by simp [toursZ]; exact e)]
theorem IncT.at_ {os T : List (List Int)} {i k : Nat} (h : IncT os T i k) (hi : i < os.length) (hk : k < (rZ os i).length) : (rZ T i)[k]?.getD 0 = (rZ os i)[k]?.getD 0 := by
  rw [h.row i hi, if_neg (by omega), if_pos rfl]
  exact incK_at _ _ hk
theorem IncT.rlen {os T : List (List Int)} {i k : Nat} (h : IncT os T i k) (j : Nat) (hj : j < os.length) : (rZ T j).length = (rZ os j).length := by
  rw [h.row j hj]
  split
  · simp [incR]
  · split
    · rw [incK_len]
    · rfl
theorem stops_inc (n : Nat) : stopsL n = incR (ioz (n - 1)) := by simp [stopsL, incR, ioz, Function.comp_def]
theorem perm_inc {a b : List Int} (h : (incR a).Perm (incR b)) : a.Perm b := by
  have := h.map (· - 1)
  simpa [incR, Function.comp_def] using this
theorem toursZ_mem (n : Nat) (o : List Int) : o ∈ toursZ n ↔ IsTour o n := by
  unfold toursZ IsTour
  rw [List.mem_map, stops_inc]
  constructor
  · rintro ⟨p, hp, rfl⟩
    exact ((ordz_mem _ p).1 hp).map _
  · intro h
    refine ⟨o.map (· - 1), (ordz_mem _ _).2 ?_, by simp [incR, Function.comp_def]⟩
    have h2 := h.map (· - 1)
    simpa [incR, Function.comp_def] using h2
theorem toursZ_len (n : Nat) : (toursZ n).length = fz (n - 1) := by simp [toursZ, ordz_card]
theorem toursZ_pos (n : Nat) : 1 ≤ (toursZ n).length := by rw [toursZ_len]; exact fz_pos _
end Go.Proofs.Ytbffdpcogfmomaa
set_option linter.unusedVariables false
namespace Go.Proofs.Ytbffdpcogfmomaa
open Go.RowKit

theorem own_set {w : World} {base g n c : Nat} {xs : List Int} (h : Own w base (.slice (some ⟨g, 0, none⟩) n c) xs) (k : Nat) (hk : k < xs.length) (x : Int) : Own (w.setCell ⟨g, k, none⟩ (.int .i64 x)) base (.slice (some ⟨g, 0, none⟩) n c) (xs.set k x) := by
  obtain ⟨g', c', cur, hv, hg, hh, hc, hs, ht⟩ := own_some h (by omega)
  simp only [Value.slice.injEq, Option.some.injEq, Addr.mk.injEq, and_true] at hv
  obtain ⟨rfl, rfl, rfl⟩ := hv
  obtain ⟨h1, h2⟩ := h
  refine ⟨by simp, .inr ⟨g, c, cur.setIfInBounds k (.int .i64 x), by rw [List.length_set], hg, heap_setCell_same w g k _ _ _ hh, by rw [List.length_set]; exact hc, ?_, by simp; omega, ?_⟩⟩
  · rcases h2 with ⟨_, h2⟩ | ⟨_, cap, _, hv2, _, _, _, hm, _⟩
    · omega
    · simp only [Value.slice.injEq] at hv2
      obtain ⟨_, _, rfl⟩ := hv2
      exact hm
  · rw [List.length_set, Nat.mul_one, Array.toList_setIfInBounds, List.take_set, ht, List.map_set]
theorem own_other {w : World} {base g n c : Nat} {xs : List Int} {A : Option Addr} (h : Own w base (.slice A n c) xs) (hne : A ≠ some ⟨g, 0, none⟩) (k : Nat) (u : Value) : Own (w.setCell ⟨g, k, none⟩ u) base (.slice A n c) xs := by
  obtain ⟨h1, h2⟩ := h
  refine ⟨h1, ?_⟩
  rcases h2 with h2 | ⟨g', cap, cur, hv, hg, hh, r⟩
  · exact .inl h2
  · simp only [Value.slice.injEq] at hv
    obtain ⟨rfl, rfl, rfl⟩ := hv
    refine .inr ⟨g', c, cur, rfl, hg, ?_, r⟩
    rw [heap_setCell_other w ⟨g, k, none⟩ g' u (fun e => hne (by rw [show g' = g from e]))]
    exact hh
/-- One element of one row is written. -/
theorem OrdT.set {w : World} {base : Nat} {v : Value} {T : List (List Int)} (h : OrdT w base v T) (i k : Nat) (hi : i < T.length) (hk : k < (rZ T i).length) :
    ∃ bo co g d, v = .slice (some ⟨bo, 0, none⟩) T.length co ∧ base ≤ g ∧ w.cell? ⟨bo, i, none⟩ = some (.slice (some ⟨g, 0, none⟩) (rZ T i).length d) ∧ w.cell? ⟨g, k, none⟩ = some (.int .i64 ((rZ T i)[k]?.getD 0)) ∧ w.frozen? ⟨g, k, none⟩ = false ∧ (rZ T i).length ≤ d ∧
      ∀ x : Int, OrdT (w.setCell ⟨g, k, none⟩ (.int .i64 x)) base v (T.set i ((rZ T i).set k x)) := by
  obtain ⟨A, C, vals, h1, h2, h3, h4⟩ := h.out
  obtain ⟨bo, co, hv, hb0, hbo⟩ : ∃ bo co, v = .slice (some ⟨bo, 0, none⟩) T.length co ∧ base ≤ bo ∧ ∃ cur, w.heap[bo]? = some (.cells cur 23 (0, 0)) ∧ cur[i]? = vals[i]? := by
    rcases h1.2 with ⟨_, hn⟩ | ⟨g, cap, cur, hv, hg, hh, hc, hm, hs, ht⟩
    · omega
    · refine ⟨g, cap, hv, hg, cur, hh, ?_⟩
      have e1 : (cur.toList.take (T.length * 1))[i]? = vals[i]? := by rw [ht]
      rw [List.getElem?_take_of_lt (by omega)] at e1
      simpa using e1
  obtain ⟨curo, hco, hci⟩ := hbo
  have h5 := h3 i hi
  obtain ⟨g, d, cur, hv5, hg, hh, hc, hs, ht⟩ := own_some h5 (by omega)
  simp only [Value.slice.injEq, true_and] at hv5
  obtain ⟨e5, e6⟩ := hv5
  have hgb : g ≠ bo := by
    rintro rfl
    rw [hh] at hco
    simp at hco
  have hcell : w.cell? ⟨g, k, none⟩ = some (.int .i64 ((rZ T i)[k]?.getD 0)) := by
    rw [cell_of_row w g k cur _ _ hh]
    have e1 : (cur.toList.take (rZ T i).length)[k]? = ((rZ T i).map (Value.int .i64))[k]? := by rw [ht]
    rw [List.getElem?_take_of_lt hk, List.getElem?_map, List.getElem?_eq_getElem hk] at e1
    simp only [Option.map_some] at e1
    rw [← Array.getElem?_toList, e1]
    simp [hk]
  refine ⟨bo, co, g, C i, hv, hg, ?_, hcell, frozen_of_row w g k cur _ hh, by omega, fun x => ?_⟩
  · rw [cell_of_row w bo i curo _ _ hco, hci, h2 i hi, e5]
  · refine ⟨A, C, vals, ?_, fun j hj => ?_, fun j hj => ?_, fun j l hjl hl => h4 j l hjl (by rwa [List.length_set] at hl)⟩
    · rw [List.length_set]
      obtain ⟨r1, r2⟩ := h1
      refine ⟨r1, ?_⟩
      rcases r2 with r2 | ⟨g', cap, cur', hv', hg', hh', r⟩
      · exact .inl r2
      · refine .inr ⟨g', cap, cur', hv', hg', ?_, r⟩
        rw [heap_setCell_other w ⟨g, k, none⟩ g' _ (fun e => hgb ?_)]
        · exact hh'
        · rw [hv] at hv'
          simp only [Value.slice.injEq, Option.some.injEq, Addr.mk.injEq, and_true] at hv'
          rw [hv'.1]; exact e.symm
    · rw [List.length_set] at hj
      rw [rZ_set _ _ _ _ hi]
      by_cases e : j = i
      · subst e; rw [if_pos rfl, List.length_set]; exact h2 j hj
      · rw [if_neg e]; exact h2 j hj
    · rw [List.length_set] at hj
      rw [rZ_set _ _ _ _ hi]
      by_cases e : j = i
      · subst e
        rw [if_pos rfl, List.length_set]
        rw [e5] at h5 ⊢
        exact own_set h5 k hk x
      · rw [if_neg e]
        refine own_other (h3 j hj) (fun e9 => ?_) k _
        rcases Nat.lt_or_gt_of_ne e with h | h
        · exact h4 j i h hi (by rw [e9, e5])
        · exact h4 i j h hj (by rw [e9, e5])
/-- What tours answers. -/
def ToursQ (n : Nat) (w : World) (en : Ending) (w' : World) : Prop := Below w.heap.size w w' ∧ ∃ A c, en = .returned (.slice A (toursZ n).length c) ∧ OrdT w' w.heap.size (.slice A (toursZ n).length c) (toursZ n)
set_option maxRecDepth 100000 in
set_option maxHeartbeats 4000000 in
theorem rTours_any (a : Option Addr) (n c : Nat) (w : World) (h1 : 1 ≤ n) (h7 : n ≤ 7) : Calls Try.prog 60 #[.slice a n c] w (ToursQ n w) := by
  have HO := hid (rOrders_any (n - 1) w (by omega))
  have hn1 : ((n - 1 : Nat) : Int) = (n : Int) - 1 := by omega
  rw [hn1] at HO
  clear hn1
  have h1' : (1 : Int) ≤ (n : Int) := by omega
  go_enter Try.func60, Try.ntmps60
  go_wp2_with fail
  refine HO.out.mono ?_
  rintro e w1 ⟨hb1, A, c1, rfl, hO⟩
  have HB1 := hid hb1
  have hcard := ordz_card (n - 1)
  have hfz := fz_le (n - 1) (by omega)
  have HOl := hid (ordz_len (n - 1))
  have HOi := hid (ordz_in (n - 1))
  obtain ⟨os, hos⟩ : ∃ os, ordz (n - 1) = os := ⟨_, rfl⟩
  have HOS := hid hos
  rw [hos] at hO hcard HOl HOi
  rw [hos]
  obtain ⟨L, hL⟩ : ∃ L, os.length = L := ⟨_, rfl⟩
  have HL := hid hL
  have HOT := hid hO
  rw [hL] at hcard
  rw [hL]
  have hL2 : L ≤ 5040 := by omega
  clear hb1 HO hos hL hO hcard hfz
  go_wp2_with fail
  go_loopw [4] (fun s wr => ∃ (i : Nat) (T : List (List Int)), i ≤ L ∧ s = .int .i64 (i : Int) ∧ Hid (IncT os T i 0) ∧ Hid (OrdT wr w.heap.size (.slice A L c1) T) ∧ Hid (Below w.heap.size w wr)) (fun s _ => L - (intOf s).toNat)
  case atStart => exact ⟨0, os, Nat.zero_le _, rfl, IncT.zero os, by rw [← HL.out]; exact HOT.out, HB1⟩
  case round =>
    obtain ⟨i, T, hi, rfl, HI, HT, HB⟩ := hrel
    generalize wr = w2 at *
    clear HB1 HOT
    by_cases hil : i < L
    · have HRl := hid (HOl.out (rZ os i) (rZ_mem (by rw [HL.out]; exact hil)))
      have HRi := hid (HOi.out (rZ os i) (rZ_mem (by rw [HL.out]; exact hil)))
      go_wp2_with fail
      go_loopw [5] (fun s wr => ∃ (k : Nat) (T2 : List (List Int)), k ≤ n - 1 ∧ s = .int .i64 (k : Int) ∧ Hid (IncT os T2 i k) ∧ Hid (OrdT wr w.heap.size (.slice A L c1) T2) ∧ Hid (Below w.heap.size w wr)) (fun s _ => (n - 1) - (intOf s).toNat)
      case atStart => exact ⟨0, T, Nat.zero_le _, rfl, HI, HT, HB⟩
      case round =>
        obtain ⟨k, T2, hk, rfl, HI2, HT2, HB2⟩ := hrel
        clear HI HT HB
        have q1 : (i : Int) < (L : Int) := by omega
        have hTl : T2.length = L := by rw [HI2.out.len, HL.out]
        have hrl2 : (rZ T2 i).length = n - 1 := by rw [HI2.out.rlen i (by rw [HL.out]; exact hil), HRl.out]
        by_cases hkl : k < n - 1
        · obtain ⟨bo, co, g, d, hv, hgb, c0, c3, f0, hd, hset⟩ := HT2.out.set i k (by rw [hTl]; exact hil) (by rw [hrl2]; exact hkl)
          have hx := HI2.out.at_ (by rw [HL.out]; exact hil) (by rw [HRl.out]; exact hkl)
          rw [hTl] at hv
          simp only [Value.slice.injEq, true_and] at hv
          obtain ⟨rfl, rfl⟩ := hv
          rw [hrl2] at c0
          rw [hx] at c3
          have hbx : 0 ≤ (rZ os i)[k]?.getD 0 ∧ (rZ os i)[k]?.getD 0 < ((n - 1 : Nat) : Int) := by
            refine HRi.out _ ?_
            have : k < (rZ os i).length := by rw [HRl.out]; exact hkl
            simp [this]
          have HSt := hid (HI2.out.step (by rw [HL.out]; exact hil) (by rw [HRl.out]; exact hkl))
          obtain ⟨x, hx9⟩ : ∃ x, (rZ os i)[k]?.getD 0 = x := ⟨_, rfl⟩
          rw [hx9] at c3 hbx HSt
          have HT9 := hid (hset (x + 1))
          have HB9 := hid (HB2.out.setCell (p := ⟨g, k, none⟩) hgb (.int .i64 (x + 1)))
          have hn1 : (k : Int) < ((n - 1 : Nat) : Int) := by omega
          have q2 : x ≤ 100 := by omega
          have q3 := hbx.1
          clear hx hx9 hset hTl hrl2 hbx hd
          obtain ⟨n1, hn9⟩ : ∃ n1, n - 1 = n1 := ⟨_, rfl⟩
          have HN9 := hid hn9
          rw [hn9] at c0 hn1
          clear hn9
          as_aux_lemma =>
            go_wp2_with fail
            go_roundw
            case rel => exact ⟨k + 1, _, by omega, by go_num, HSt, HT9, HB9⟩
            case measure => simp [intOf]; omega
        · obtain rfl : k = n - 1 := by omega
          obtain ⟨bo, co, A9, d, hv, c0, _⟩ := HT2.out.row i (by rw [hTl]; exact hil)
          rw [hTl] at hv
          simp only [Value.slice.injEq, true_and] at hv
          obtain ⟨rfl, rfl⟩ := hv
          rw [hrl2] at c0
          have HNx := hid (show IncT os T2 (i + 1) 0 from IncT.next (by rw [HRl.out]; exact HI2.out))
          clear hTl hrl2
          as_aux_lemma =>
            go_wp2_with fail
            go_roundw
            case rel => exact ⟨i + 1, T2, by omega, by go_num, HNx, HT2, HB2⟩
            case measure => simp [intOf]; omega
    · obtain rfl : i = L := by omega
      have HE := hid (show T = toursZ n from IncT.end_ (by rw [HOS.out, HL.out]; exact HI.out))
      have HLe := hid (show (toursZ n).length = i by rw [← HE.out, HI.out.len, HL.out])
      as_aux_lemma =>
        go_wp2
        go_ret
        exact ⟨HB.out, A, c1, by rw [HLe.out]; rfl, by rw [HLe.out, ← HE.out]; exact HT.out⟩
end Go.Proofs.Ytbffdpcogfmomaa
