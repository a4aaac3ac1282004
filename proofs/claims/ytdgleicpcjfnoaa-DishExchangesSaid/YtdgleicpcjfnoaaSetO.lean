/- sortedSet, and the library's BinarySearch, Sort and Compact at lists of int. -/
import Derived.Test.YtdgleicpcjfnoaaExchM
import Derived.Lib.SlicesCompact
import Derived.Test.YtdgleicpcjfnoaaClnO
import Derived.Test.YtdgleicpcjfnoaaNumbers
import Derived.Shelf.SortM.Plain
import Derived.Shelf.SortM.SortNone
import Derived.Shelf.Slices.SearchI
import Derived.Shelf.Slices.CompactI
import Derived.Shelf.Lay
import Derived.Ground.SlgmProg
import Derived.Ground.Names2Prog
/- Plain: an ascending list without its repetitions. -/
set_option linter.unusedVariables false
namespace Go.Proofs.Ytdgleicpcjfnoaa
open Go.Lib

theorem bang_get (l : List Int) (j : Nat) (h : j < l.length) : l.toArray[j]! = l[j] := by simp [h]
theorem compact_asc (l : List Int) (hs : l.Pairwise (· ≤ ·)) : (compact l).Pairwise (· < ·) := by
  unfold compact compactUpTo
  rw [List.pairwise_map, List.pairwise_filter]
  refine List.Pairwise.imp_of_mem (R := fun a b => a < b) ?_ List.pairwise_lt_range
  intro a b ha hb hab _ hk
  rw [List.mem_range] at ha hb
  unfold keeps at hk
  rw [decide_eq_true_iff] at hk
  have hk2 := hk.resolve_left (by omega)
  rw [bang_get l b hb, bang_get l (b - 1) (by omega)] at hk2
  rw [bang_get l a ha, bang_get l b hb]
  have h1 : l[a] ≤ l[b - 1] := by
    rcases Nat.lt_or_ge a (b - 1) with h | h
    · exact List.pairwise_iff_getElem.1 hs a (b - 1) ha (by omega) h
    · have e : a = b - 1 := by omega
      subst e; exact Int.le_refl _
  have h2 : l[b - 1] ≤ l[b] := List.pairwise_iff_getElem.1 hs (b - 1) b (by omega) hb (by omega)
  omega
theorem compact_mem (l : List Int) (x : Int) : x ∈ compact l ↔ x ∈ l := by
  unfold compact compactUpTo
  rw [List.mem_map]
  constructor
  · rintro ⟨j, hj, rfl⟩
    rw [List.mem_filter, List.mem_range] at hj
    rw [bang_get l j hj.1]
    exact List.getElem_mem _
  · intro hx
    obtain ⟨j, hj, rfl⟩ := List.mem_iff_getElem.1 hx
    have : ∀ j (hj : j < l.length), ∃ a, a ∈ (List.range l.length).filter (keeps l.toArray) ∧ l.toArray[a]! = l[j] := by
      intro j
      induction j with
      | zero => intro hj; exact ⟨0, by rw [List.mem_filter, List.mem_range]; exact ⟨hj, by simp [keeps]⟩, bang_get l 0 hj⟩
      | succ j ih =>
        intro hj
        by_cases e : l.toArray[j + 1]! = l.toArray[j]!
        · obtain ⟨a, h1, h2⟩ := ih (by omega)
          rw [bang_get l (j + 1) hj, bang_get l j (by omega)] at e
          exact ⟨a, h1, by rw [h2, e]⟩
        · exact ⟨j + 1, by rw [List.mem_filter, List.mem_range]; exact ⟨hj, by simp only [keeps, decide_eq_true_iff]; exact .inr e⟩, bang_get l (j + 1) hj⟩
    exact this j hj
theorem set_of (l : List Int) (hb : ∀ x ∈ l, 0 ≤ x ∧ x < 64) : compact (l.mergeSort fun x y => decide (x ≤ y)) = bitsTo (maskL l) 64 := by
  have hs : (l.mergeSort fun x y => decide (x ≤ y)).Pairwise (· ≤ ·) := by
    have := List.pairwise_mergeSort (le := fun x y : Int => decide (x ≤ y)) (by intro a b c; simp; omega) (by intro a b; simp; omega) l
    exact this.imp (fun h => by simpa using h)
  exact asc_ext _ _ (compact_asc _ hs) (bitsTo_sorted _ _) (fun x => by rw [compact_mem, List.mem_mergeSort, mem_bits_mask l hb])
theorem compact_len (l : List Int) : (compact l).length ≤ l.length := by
  unfold compact compactUpTo
  rw [List.length_map]
  exact Nat.le_trans (List.length_filter_le _ _) (by simp)
end Go.Proofs.Ytdgleicpcjfnoaa
set_option linter.unusedVariables false
namespace Go.Proofs.Ytdgleicpcjfnoaa
open Go.Shelf Go.RowKit Go.Lib

shelf_lay_g SlLaysM.n5 Slgm 5 at Try 118 as Try.sortIntsD
shelf_lay Lays2.n25 Nm2 25 at Try as Try.searchIntsD
shelf_lay Lays2.n20 Nm2 20 at Try as Try.compactIntsD

theorem put_intsD (L : List Int) (c : Array Value) (h : L.length ≤ c.size) : (Go.Sort.putCells (Value.int .i64) 0 L.toArray c).size = c.size ∧ (Go.Sort.putCells (Value.int .i64) 0 L.toArray c).toList.take L.length = L.map (Value.int .i64) := by
  refine ⟨by simp [Go.Sort.putCells], ?_⟩
  apply List.ext_getElem?
  intro t
  rcases Nat.lt_or_ge t L.length with h1 | h1
  · rw [List.getElem?_take_of_lt h1]
    have h2 : t < c.size := by omega
    simp [Go.Sort.putCells, h1, h2]
  · rw [List.getElem?_eq_none (by simp; omega), List.getElem?_eq_none (by simpa using h1)]
theorem holdsD {w : World} {base g cap : Nat} {L : List Int} (hown : Own w base (.slice (some ⟨g, 0, none⟩) L.length cap) L) : Go.Sort.Holds (Value.int .i64) w g 0 L.toArray := by
  intro j hj
  have hj2 : j < L.length := by simpa using hj
  rw [Nat.zero_add]
  refine ⟨?_, hown.frozenAt j⟩
  rw [hown.cellAt j (by omega)]
  simp [hj2]
/-- A row whose cells are overwritten from the first one on. -/
theorem own_put {w : World} {base g cap n : Nat} {cur : Array Value} {L R : List Int} {os : Array Obj} (hh : w.heap[g]? = some (.cells cur 3)) (hg : base ≤ g) (hb : base ≤ w.heap.size) (hc : L.length ≤ cap) (hm : cap ≤ maxLen) (hs : cur.size = cap * 1) (hl : R.length = L.length) :
    Below base w (Go.Sort.grow (Go.Sort.putRow (Value.int .i64) (Go.Sort.ahead w n) g 0 R.toArray) os) ∧ ∀ k, k ≤ R.length → Own (Go.Sort.grow (Go.Sort.putRow (Value.int .i64) (Go.Sort.ahead w n) g 0 R.toArray) os) base (.slice (some ⟨g, 0, none⟩) (R.take k).length cap) (R.take k) := by
  have hgl : g < w.heap.size := lt_of_block hh
  obtain ⟨p1, p2⟩ := put_intsD R cur (by omega)
  have hheap : (Go.Sort.grow (Go.Sort.putRow (Value.int .i64) (Go.Sort.ahead w n) g 0 R.toArray) os).heap = w.heap.modify g (Go.Sort.onCells (Go.Sort.putCells (Value.int .i64) 0 R.toArray)) ++ os := rfl
  have hg' : (Go.Sort.grow (Go.Sort.putRow (Value.int .i64) (Go.Sort.ahead w n) g 0 R.toArray) os).heap[g]? = some (.cells (Go.Sort.putCells (Value.int .i64) 0 R.toArray cur) 3) := by
    rw [hheap, Array.getElem?_append_left (by simpa using hgl), Array.getElem?_modify, if_pos rfl, hh]; rfl
  refine ⟨⟨rfl, rfl, rfl, by rw [hheap]; simp, fun k hk => ?_⟩, fun k hk => ?_⟩
  · rw [hheap, Array.getElem?_append_left (by simp; omega), Array.getElem?_modify, if_neg (by omega)]
  · have hkl : (R.take k).length = k := by rw [List.length_take]; omega
    refine ⟨by simp, .inr ⟨g, cap, _, rfl, hg, hg', by omega, hm, by rw [p1, hs], ?_⟩⟩
    rw [Nat.mul_one, hkl, List.map_take, ← p2, List.take_take, Nat.min_eq_left hk]
theorem sortD_any (base : Nat) (A : Option Addr) (c : Nat) (L : List Int) (w : World) (hown : Own w base (.slice A L.length c) L) (hl : L.length ≤ 1000) (hb : base ≤ w.heap.size) :
  Calls Try.prog 118 #[.slice A L.length c] w fun e w' => e = .returned (.tuple #[]) ∧ Below base w w' ∧ Own w' base (.slice A L.length c) (L.mergeSort fun x y => decide (x ≤ y)) := by
  rcases hown.2 with ⟨hv, hn⟩ | ⟨g, cap, cur, hv, hg, hh, hc, hm, hs, ht⟩
  · have hn0 := List.eq_nil_of_length_eq_zero hn
    subst hn0
    simp only [List.length_nil, Value.slice.injEq, true_and] at hv
    obtain ⟨rfl, rfl⟩ := hv
    refine (Go.Proofs.AnyM.slices_Sort_int_none Try.sortIntsD none 0 w).mono ?_
    rintro e w' ⟨he, rfl⟩
    rw [List.mergeSort_nil]
    exact ⟨he, Below.refl _ _, Own.nil _ _⟩
  · simp only [Value.slice.injEq, true_and] at hv
    obtain ⟨rfl, rfl⟩ := hv
    have hcon := Go.Proofs.AnyM.slices_Sort_int Try.sortIntsD g 0 c L w (holdsD hown) (lt_of_block hh) (by omega)
    refine hcon.mono ?_
    rintro e w' ⟨he, n, os, rfl⟩
    have hl2 : (L.mergeSort fun x y => decide (x ≤ y)).length = L.length := List.length_mergeSort _
    generalize (L.mergeSort fun x y => decide (x ≤ y)) = R at *
    obtain ⟨h1, h2⟩ := own_put (w := w) (n := n) (os := os) hh hg hb hc hm hs hl2
    have := h2 R.length (Nat.le_refl _)
    rw [List.take_length, hl2] at this
    exact ⟨he, h1, this⟩
theorem compactD_any (base : Nat) (A : Option Addr) (c : Nat) (L : List Int) (w : World) (hown : Own w base (.slice A L.length c) L) (hl : L.length ≤ 1000) (hb : base ≤ w.heap.size) :
  Calls Try.prog 119 #[.slice A L.length c] w fun e w' => Below base w w' ∧ ∃ A' c', e = .returned (.slice A' (compact L).length c') ∧ Own w' base (.slice A' (compact L).length c') (compact L) := by
  rcases hown.2 with ⟨hv, hn⟩ | ⟨g, cap, cur, hv, hg, hh, hc, hm, hs, ht⟩
  · have hn0 := List.eq_nil_of_length_eq_zero hn
    subst hn0
    simp only [List.length_nil, Value.slice.injEq, true_and] at hv
    obtain ⟨rfl, rfl⟩ := hv
    refine (Go.Proofs.Any.slices_Compact_int_empty Try.compactIntsD none 0 w).mono ?_
    rintro e w' ⟨he, rfl⟩
    exact ⟨Below.refl _ _, none, 0, he, Own.nil _ _⟩
  · simp only [Value.slice.injEq, true_and] at hv
    obtain ⟨rfl, rfl⟩ := hv
    have hcon := Go.Proofs.Any.slices_Compact_int Try.compactIntsD g 0 c L w (holdsD hown) (by omega) hc
    refine hcon.mono ?_
    rintro e w' ⟨he, q, rfl⟩
    have hcl := compact_len L
    have hl2 : (compact L ++ List.replicate (L.length - (compact L).length) 0).length = L.length := by simp; omega
    obtain ⟨h1, h2⟩ := own_put (w := w) (n := q) (os := #[]) (R := compact L ++ List.replicate (L.length - (compact L).length) 0) hh hg hb hc hm hs hl2
    have := h2 (compact L).length (by omega)
    rw [List.take_left'  rfl] at this
    have eg : ∀ W : World, Go.Sort.grow W #[] = W := fun W => by unfold Go.Sort.grow; simp
    rw [eg] at h1 this
    exact ⟨h1, _, _, he, this⟩
set_option maxRecDepth 100000 in
set_option maxHeartbeats 1000000 in
theorem sortedSet_any (a : Option Addr) (xs : List Int) (cap : Nat) (w : World) (h : Ints w a xs) (hl : xs.length ≤ 1000) (hb : ∀ x ∈ xs, 0 ≤ x ∧ x < 64) :
  Calls Try.prog 105 #[.slice a xs.length cap] w (OwnRs w w.heap.size (bitsTo (maskL xs) 64)) := by
  have HC := hid (oclone_any a xs cap w h hl)
  have HS := hid (fun A c W (ho : Own W w.heap.size (.slice A xs.length c) xs) (hw : w.heap.size ≤ W.heap.size) => sortD_any w.heap.size A c xs W ho hl hw)
  have hml : (xs.mergeSort fun x y => decide (x ≤ y)).length = xs.length := List.length_mergeSort _
  have HK := hid (fun A c W (ho : Own W w.heap.size (.slice A (xs.mergeSort fun x y => decide (x ≤ y)).length c) (xs.mergeSort fun x y => decide (x ≤ y))) (hw : w.heap.size ≤ W.heap.size) => compactD_any w.heap.size A c _ W ho (by omega) hw)
  rw [set_of xs hb, hml] at HK
  clear h hb
  generalize (xs.mergeSort fun x y => decide (x ≤ y)) = R at *
  generalize bitsTo (maskL xs) 64 = T at *
  clear hml
  go_enter Try.func105, Try.ntmps105
  go_wp2_with fail
  refine HC.out.mono ?_
  rintro e w1 ⟨q1, A, c, rfl, o1⟩
  have O1 := hid o1
  clear o1
  go_wp2_with fail
  refine (HS.out A c w1 O1.out q1.size).mono ?_
  rintro e w2 ⟨rfl, q2, o2⟩
  have O2 := hid o2
  clear o2
  have p2 := q1.trans q2
  go_wp2_with fail
  refine (HK.out A c w2 O2.out p2.size).mono ?_
  rintro e w3 ⟨q3, A', c', rfl, o3⟩
  have P3 := hid (p2.trans q3)
  have O3 := hid o3
  clear o3 q1 q2 q3 p2
  go_wp2
  go_ret
  exact ⟨P3.out, A', c', rfl, O3.out⟩
theorem searchD_any (A : Option Addr) (c base : Nat) (L : List Int) (x : Int) (w : World) (hown : Own w base (.slice A L.length c) L) (hl : L.length ≤ 1000) (hs : L.Pairwise (· < ·)) :
  Calls Try.prog 104 #[.slice A L.length c, .int .i64 x] w fun e w' => e = .returned (.tuple #[.int .i64 ((L.countP (· < x) : Nat) : Int), .bool (memB x L)]) ∧ ∃ q, w' = w.drewN q := by
  rcases hown.2 with ⟨hv, hn⟩ | ⟨g, cap, cur, hv, hg, hh, hc, hm, hs2, ht⟩
  · have hn0 := List.eq_nil_of_length_eq_zero hn
    subst hn0
    simp only [List.length_nil, Value.slice.injEq, true_and] at hv
    obtain ⟨rfl, rfl⟩ := hv
    clear hown hs hn
    go_enter Try.func104, Try.ntmps104
    go_wp2
    go_loop [7, 8] (fun i j => i = .int .i64 0 ∧ j = .int .i64 0) (fun _ _ => 0)
    case atStart => exact ⟨rfl, rfl⟩
    case round =>
      obtain ⟨rfl, rfl⟩ := hrel
      go_wp2
      go_ret2
      exact ⟨rfl, 0, rfl⟩
  · simp only [Value.slice.injEq, true_and] at hv
    obtain ⟨rfl, rfl⟩ := hv
    have hcon := Go.Proofs.Any.slices_BinarySearch_int Try.searchIntsD g 0 L.length c L x w (Nat.le_refl _) (by omega) (fun j hj => by
      rw [Nat.zero_add, hown.cellAt j (by omega)]
      simp [hj]) (by rw [List.take_length]; exact hs.imp (fun h => by omega))
    rw [List.take_length] at hcon
    refine hcon.mono ?_
    rintro e w' ⟨he, q, rfl⟩
    exact ⟨by rw [he]; simp [memB], q, rfl⟩
end Go.Proofs.Ytdgleicpcjfnoaa
