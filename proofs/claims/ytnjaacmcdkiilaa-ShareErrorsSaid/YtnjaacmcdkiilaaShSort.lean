/- The rests sorted: slices.SortFunc at package share's rests. -/
import Derived.Test.YtnjaacmcdkiilaaShBf
import Derived.Test.YtnjaacmcdkiilaaRowsI
import Derived.Shelf.SlSortCmp.SmallK
import Derived.Shelf.Small.Bits
import Derived.Shelf.Lay
import Derived.Ground.SlsfProg
import Derived.Ground.NamesProg
set_option linter.unusedVariables false
namespace Go.Proofs.Ytnjaacmcdkiilaa
open Go.Shelf Go.RowKit Go.Lib

shelf_lay_g SlLaysF0.n6 Slsf 6 at Try 91 as Try.sortRest
shelf_lay Lays.n125 Nm 125 at Try as Try.bitsLen

def encR (x : Nat × Int) : List Value := [.int .i64 (x.1 : Int), .int .i64 x.2]
def rsCells (L : List (Nat × Int)) : List Value := L.flatMap encR
theorem rsCells_len (L : List (Nat × Int)) : (rsCells L).length = L.length * 2 := by
  induction L with
  | nil => rfl
  | cons x t ih => simp [rsCells, encR] at ih ⊢; omega
theorem rsCells_snoc (L : List (Nat × Int)) (x : Nat × Int) : rsCells (L ++ [x]) = rsCells L ++ [.int .i64 (x.1 : Int), .int .i64 x.2] := by simp [rsCells, encR]
theorem rsCells_at (L : List (Nat × Int)) (i : Nat) (x : Nat × Int) (h : L[i]? = some x) : (rsCells L)[i * 2]? = some (.int .i64 (x.1 : Int)) ∧ (rsCells L)[i * 2 + 1]? = some (.int .i64 x.2) := by
  induction L generalizing i with
  | nil => simp at h
  | cons y t ih =>
    cases i with
    | zero =>
      simp at h; subst h
      simp [rsCells, encR]
    | succ i =>
      have := ih i (by simpa using h)
      have e1 : (i + 1) * 2 = i * 2 + 1 + 1 := by omega
      rw [e1]
      simpa [rsCells, encR] using this
theorem flat_cells (d : Array (Nat × Int)) : (Go.Sort.flatK encR 2 d).toList = rsCells d.toList := by
  apply List.ext_getElem?
  intro t
  rcases Nat.lt_or_ge t (d.size * 2) with h | h
  · have hg := Go.Sort.get_flatK encR 2 d t h
    have hl : (Go.Sort.flatK encR 2 d).toList[t]? = some (Go.Sort.flatK encR 2 d)[t]! := by
      rw [List.getElem?_eq_getElem (by simpa using h), getElem!_pos (Go.Sort.flatK encR 2 d) t (by simpa using h)]; simp
    rw [hl, hg]
    clear hl hg
    obtain ⟨q, hq⟩ : ∃ q, t = q * 2 ∨ t = q * 2 + 1 := ⟨t / 2, by omega⟩
    have hd : q < d.size := by omega
    have hx : d.toList[q]? = some d[q]! := by
      rw [List.getElem?_eq_getElem (by simpa using hd), getElem!_pos d q hd]; simp
    obtain ⟨h1, h2⟩ := rsCells_at d.toList q _ hx
    rcases hq with rfl | rfl
    · rw [show q * 2 / 2 = q by omega, show q * 2 % 2 = 0 by omega, h1]; rfl
    · rw [show (q * 2 + 1) / 2 = q by omega, show (q * 2 + 1) % 2 = 1 by omega, h2]; rfl
  · rw [List.getElem?_eq_none (by simpa using h), List.getElem?_eq_none (by rw [rsCells_len]; simpa using h)]

/-- Less by before. -/
theorem bf_lt (x y : Nat × Int) : Go.Proofs.ltOf (fun x y : Nat × Int => bfI (x.1 : Int) x.2 (y.1 : Int) y.2) x y = pbf x y := by
  show decide ((if cmpI y.2 x.2 = 0 then cmpI (x.1 : Int) (y.1 : Int) else cmpI y.2 x.2) < 0) = (decide (y.2 < x.2) || (decide (x.2 = y.2) && decide (x.1 < y.1)))
  rcases cmpI_cases y.2 x.2 with ⟨h, e⟩ | ⟨h, e⟩ | ⟨h, e⟩
  · rw [e]; simp; omega
  · rw [e]; simp; omega
  · rw [e]
    rcases cmpI_cases (x.1 : Int) (y.1 : Int) with ⟨g, f⟩ | ⟨g, f⟩ | ⟨g, f⟩ <;> rw [f] <;> simp <;> omega
theorem bf_swo : Go.Sort.SWO (Go.Proofs.ltOf (fun x y : Nat × Int => bfI (x.1 : Int) x.2 (y.1 : Int) y.2)) := by
  refine ⟨fun x => ?_, fun x y z => ?_, fun x y z => ?_⟩
  · rw [bf_lt]; simp [pbf]
  · rw [bf_lt, bf_lt, bf_lt]; simp [pbf]; omega
  · rw [bf_lt, bf_lt, bf_lt]; simp [pbf]; omega
theorem put_cells (F c : Array Value) (h : F.size ≤ c.size) : (Go.Sort.putCells id 0 F c).size = c.size ∧ (Go.Sort.putCells id 0 F c).toList.take F.size = F.toList := by
  refine ⟨by simp [Go.Sort.putCells], ?_⟩
  apply List.ext_getElem?
  intro t
  rcases Nat.lt_or_ge t F.size with h1 | h1
  · rw [List.getElem?_take_of_lt h1]
    have h2 : t < c.size := by omega
    simp [Go.Sort.putCells, h1, h2]
  · rw [List.getElem?_eq_none (by simp; omega), List.getElem?_eq_none (by simpa using h1)]

theorem hlenR (n : Nat) (W : World) (h : n ≤ 12) : Calls Try.prog 96 #[.int .u64 n] W fun e w' => (∃ l : Int, e = .returned (.int .i64 l)) ∧ w' = W :=
  (Any.bits_Len Try.bitsLen n W (by omega) (by omega)).mono fun _ _ ⟨he, hw⟩ => ⟨⟨_, he⟩, hw⟩
theorem own_heap {w : World} {base : Nat} {e : TypeId} {s g n c : Nat} {xs : List Value} (h : w.ownsRow base e s (.slice (some ⟨g, 0, none⟩) n c) n xs) : ∃ cur, w.heap[g]? = some (.cells cur e) ∧ base ≤ g ∧ n ≤ c ∧ c ≤ maxLen ∧ cur.size = c * s ∧ cur.toList.take (n * s) = xs := by
  rcases h.2 with ⟨hv, _⟩ | ⟨g', cap, cur, hv, hb, hg, h1, h2, h3, h4⟩
  · simp at hv
  · simp only [Value.slice.injEq] at hv
    obtain ⟨hg', _, rfl⟩ := hv
    cases hg'
    exact ⟨cur, hg, hb, h1, h2, h3, h4⟩
def SortedR (L : List (Nat × Int)) : Prop := ∀ (i j : Nat) (x y : Nat × Int), i < j → L[i]? = some x → L[j]? = some y → pbf y x = false

set_option maxHeartbeats 2000000 in
theorem sortRests_any (base g cap : Nat) (d : Array (Nat × Int)) (w : World) (hown : w.ownsRow base 96 2 (.slice (some ⟨g, 0, none⟩) d.size cap) d.size (rsCells d.toList)) (h12 : d.size ≤ 12) :
  Calls Try.prog 91 #[.slice (some ⟨g, 0, none⟩) d.size cap, .func (.func 92) #[] #[]] w
    fun e w' => e = .returned (.tuple #[]) ∧ w.grownBy w' (some g) ∧ ∃ L : List (Nat × Int), L.length = d.size ∧ L.Perm d.toList ∧ SortedR L ∧ w'.ownsRow base 96 2 (.slice (some ⟨g, 0, none⟩) d.size cap) d.size (rsCells L) := by
  obtain ⟨cur, hg, hbg, hnc, hcm, hcs, htk⟩ := own_heap hown
  have hgl : g < w.heap.size := by
    rcases Nat.lt_or_ge g w.heap.size with h | h
    · exact h
    · rw [Array.getElem?_eq_none h] at hg; cases hg
  have eg : ∀ args w, (callFunc 92 args).run Try.prog w = .ok (.enter 92 args) w := enters_of Try.func92 (by kernel_rfl) rfl
  have hH : Go.Sort.HoldsK encR 2 w g 0 d := by
    intro j hj
    have hj2 : j < d.size * 2 := by simpa using hj
    rw [Nat.zero_add]
    refine ⟨?_, hown.frozenAt j⟩
    rw [hown.cellAt j hj2, ← flat_cells, List.getElem?_eq_getElem (by simpa using hj2), getElem!_pos (Go.Sort.flatK encR 2 d) j hj]
    simp
  have hcmp : Go.Proofs.CmpLays Try.prog 92 #[] encR 2 (fun x y : Nat × Int => bfI (x.1 : Int) x.2 (y.1 : Int) y.2) g 0 d.size w :=
    fun _ _ _ _ x y => before_any (x.1 : Int) x.2 (y.1 : Int) y.2 _
  have hcon := Go.Proofs.AnyQ.slices_SortFunc_small_sorted Try.sortRest 2 Try.isAgg96 Try.sizeOf96 encR (fun _ => rfl) (fun x v hv => by simp [encR] at hv; rcases hv with rfl | rfl <;> rfl) (fun x y : Nat × Int => bfI (x.1 : Int) x.2 (y.1 : Int) y.2) 92 #[] bf_swo g 0 cap d w eg hcmp hH hgl h12 hlenR
  refine hcon.mono ?_
  rintro e w' ⟨he, d', n, os, hP, hS, rfl⟩
  have hsz : d'.size = d.size := hP.1
  have hF : (Go.Sort.flatK encR 2 d').size ≤ cur.size := by simp [hsz, hcs]; omega
  obtain ⟨hpc1, hpc2⟩ := put_cells (Go.Sort.flatK encR 2 d') cur hF
  have hheap : (Go.Proofs.sortWorldK encR 2 w g 0 n d' os).heap = w.heap.modify g (Go.Sort.onCells (Go.Sort.putCells id 0 (Go.Sort.flatK encR 2 d'))) ++ os := rfl
  have hg' : (Go.Proofs.sortWorldK encR 2 w g 0 n d' os).heap[g]? = some (.cells (Go.Sort.putCells id 0 (Go.Sort.flatK encR 2 d') cur) 96) := by
    rw [hheap, Array.getElem?_append_left (by simpa using hgl), Array.getElem?_modify, if_pos rfl, hg]; rfl
  refine ⟨he, ⟨rfl, rfl, rfl, by rw [hheap]; simp, fun k hk hne => ?_⟩, d'.toList, by simpa using hsz, ?_, ?_, ?_⟩
  · rw [hheap, Array.getElem?_append_left (by simp; omega), Array.getElem?_modify, if_neg (fun h => hne (by rw [h]))]
  · have e1 : List.take d.size d'.toList = d'.toList := List.take_of_length_le (by simp [hsz])
    simpa [e1] using hP.2.2
  · intro i j x y hij hx hy
    have hjl : j < d'.size := by
      rcases Nat.lt_or_ge j d'.size with h | h
      · exact h
      · rw [List.getElem?_eq_none (by simpa using h)] at hy; cases hy
    have h1 := hS i j (Nat.zero_le _) hij (by omega)
    rw [bf_lt] at h1
    have ex : d'[i]! = x := by
      rw [List.getElem?_eq_getElem (by simp; omega)] at hx
      rw [getElem!_pos d' i (by omega)]
      simpa using hx
    have ey : d'[j]! = y := by
      rw [List.getElem?_eq_getElem (by simp; omega)] at hy
      rw [getElem!_pos d' j hjl]
      simpa using hy
    rw [ex, ey] at h1
    exact h1
  · refine ⟨by rw [rsCells_len]; simp [hsz], .inr ⟨g, cap, _, rfl, hbg, hg', hnc, hcm, by rw [hpc1, hcs], ?_⟩⟩
    have e1 : d.size * 2 = (Go.Sort.flatK encR 2 d').size := by simp [hsz]
    rw [e1, hpc2, flat_cells]
theorem sortRests_list (base g cap m : Nat) (L0 : List (Nat × Int)) (w : World) (hm : L0.length = m) (hown : w.ownsRow base 96 2 (.slice (some ⟨g, 0, none⟩) m cap) m (rsCells L0)) (h12 : m ≤ 12) :
  Calls Try.prog 91 #[.slice (some ⟨g, 0, none⟩) m cap, .func (.func 92) #[] #[]] w
    fun e w' => e = .returned (.tuple #[]) ∧ w.grownBy w' (some g) ∧ ∃ L : List (Nat × Int), L.length = m ∧ L.Perm L0 ∧ SortedR L ∧ w'.ownsRow base 96 2 (.slice (some ⟨g, 0, none⟩) m cap) m (rsCells L) := by
  subst hm
  exact sortRests_any base g cap L0.toArray w hown h12
/-- A row stays when another one grows. -/
theorem own_grown {w w' : World} {base : Nat} {e : TypeId} {s n : Nat} {v : Value} {xs : List Value} {row : Option Nat} (h : w.ownsRow base e s v n xs) (hg : w.grownBy w' row) (hne : ∀ q, v.ownBlock = some q → some q ≠ row) : w'.ownsRow base e s v n xs := by
  refine ⟨h.1, ?_⟩
  rcases h.2 with h0 | ⟨g, cap, cur, rfl, hb, hh, h1⟩
  · exact .inl h0
  · have hgl : g < w.heap.size := by
      rcases Nat.lt_or_ge g w.heap.size with h | h
      · exact h
      · rw [Array.getElem?_eq_none h] at hh; cases hh
    exact .inr ⟨g, cap, cur, rfl, hb, by rw [hg.block g hgl (hne g rfl)]; exact hh, h1⟩
end Go.Proofs.Ytnjaacmcdkiilaa
