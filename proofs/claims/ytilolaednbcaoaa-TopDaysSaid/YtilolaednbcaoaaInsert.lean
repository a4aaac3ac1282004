/- The library's Clone, Insert and Delete at lists of int, on slices of the call's own. -/
import Derived.Test.YtilolaednbcaoaaRowsI
import Derived.Test.YtilolaednbcaoaaCloseM
import Derived.Shelf.Slices.Clone
import Derived.Shelf.Slices.Cells
import Derived.Shelf.Spec.SlicesInsert
import Derived.Shelf.Spec.SlicesInsertGrow
set_option linter.unusedVariables false
namespace Go.Proofs.Ytilolaednbcaoaa
open Go.RowKit

def insRen : Go.Shelf.Ren := ⟨fun | 15 => 55 | 21 => 54 | 23 => 57 | 27 => 70 | 28 => 71 | 35 => 75 | 39 => 76 | n => n, fun | 22 => 22 | n => n, fun | n => n⟩
theorem cloneLays : Go.Proofs.Lays2.n15 Try.prog insRen := {
  mixed := by kernel_rfl
  f15 := Try.func55.trans (congrArg some (by kernel_rfl))
  t3 := Try.underlying3
  a3 := Try.isAgg3
  z3 := Try.sizeOf3
  v3 := Try.zeroValue3
  t4 := Try.underlying4
  a4 := Try.isAgg4
  z4 := Try.sizeOf4
  v4 := Try.zeroValue4
  t22 := Try.underlying22
  a22 := Try.isAgg22
  z22 := Try.sizeOf22
  v22 := Try.zeroValue22
  i3 := int_info }
theorem insLays : Go.Proofs.Lays2.n21 Try.prog insRen := {
  mixed := by kernel_rfl
  f21 := Try.func54.trans (congrArg some (by kernel_rfl))
  f27 := Try.func70.trans (congrArg some (by kernel_rfl))
  f28 := Try.func71.trans (congrArg some (by kernel_rfl))
  f35 := Try.func75.trans (congrArg some (by kernel_rfl))
  f39 := Try.func76.trans (congrArg some (by kernel_rfl))
  t0 := Try.underlying0
  a0 := Try.isAgg0
  z0 := Try.sizeOf0
  v0 := Try.zeroValue0
  t3 := Try.underlying3
  a3 := Try.isAgg3
  z3 := Try.sizeOf3
  v3 := Try.zeroValue3
  t4 := Try.underlying4
  a4 := Try.isAgg4
  z4 := Try.sizeOf4
  v4 := Try.zeroValue4
  t22 := Try.underlying22
  a22 := Try.isAgg22
  z22 := Try.sizeOf22
  v22 := Try.zeroValue22
  i3 := int_info }
theorem delLays : Go.Proofs.Lays2.n23 Try.prog insRen := {
  mixed := by kernel_rfl
  f23 := Try.func57.trans (congrArg some (by kernel_rfl))
  t0 := Try.underlying0
  a0 := Try.isAgg0
  z0 := Try.sizeOf0
  v0 := Try.zeroValue0
  t3 := Try.underlying3
  a3 := Try.isAgg3
  z3 := Try.sizeOf3
  v3 := Try.zeroValue3
  t4 := Try.underlying4
  a4 := Try.isAgg4
  z4 := Try.sizeOf4
  v4 := Try.zeroValue4
  t22 := Try.underlying22
  a22 := Try.isAgg22
  z22 := Try.sizeOf22
  v22 := Try.zeroValue22
  i3 := int_info }

/-- What Clone, Insert and Delete answer: a slice of the call's own. -/
def OwnV (w0 : World) (base : Nat) (xs : List Int) (en : Ending) (w' : World) : Prop := Below base w0 w' ∧ ∃ A c, en = .returned (.slice A xs.length c) ∧ Own w' base (.slice A xs.length c) xs
theorem own_slice {w : World} {base : Nat} {v : Value} {xs : List Int} (h : Own w base v xs) : ∃ A c, v = .slice A xs.length c := by
  rcases h.2 with ⟨hv, hn⟩ | ⟨g, c, cur, hv, _⟩
  · exact ⟨none, 0, by rw [hv, hn]⟩
  · exact ⟨_, _, hv⟩
theorem clone_any (a : Option Addr) (xs : List Int) (cap : Nat) (w : World) (h : Ints w a xs) (hl : xs.length ≤ 1000) :
  Calls Try.prog 55 #[.slice a xs.length cap] w (OwnV w w.heap.size xs) := by
  rcases h.at_ with rfl | ⟨b, off, rfl, hc⟩
  · cases a with
    | none =>
      refine (Go.Proofs.Any.slices_Clone_int_nil cloneLays 0 cap w).mono ?_
      rintro e w' ⟨rfl, rfl⟩
      exact ⟨Below.refl _ _, none, 0, rfl, Own.nil _ _⟩
    | some ad =>
      refine (Go.Proofs.Any.slices_Clone_int_zero cloneLays ad cap w).mono ?_
      rintro e w' ⟨v', rfl, ho, _, hb⟩
      have ho' : Own w' w.heap.size v' [] := ho
      obtain ⟨A, c, rfl⟩ := own_slice ho'
      exact ⟨hb, A, c, rfl, ho'⟩
  · refine (Go.Proofs.Any.slices_Clone_int cloneLays b off xs.length cap xs w (Nat.le_refl _) (by omega) (fun j hj => by rw [List.getD_eq_getElem?_getD]; exact hc j hj)).mono ?_
    rintro e w' ⟨v', rfl, ho, _, hb⟩
    rw [List.take_length] at ho
    have ho' : Own w' w.heap.size v' xs := ho
    obtain ⟨A, c, rfl⟩ := own_slice ho'
    exact ⟨hb, A, c, rfl, ho'⟩

/-- Cells that are written over. -/
def over : Array Value → Nat → List Value → Array Value
  | cur, _, [] => cur
  | cur, o, v :: r => over (cur.setIfInBounds o v) (o + 1) r
theorem over_size (vs : List Value) : ∀ (cur : Array Value) (o : Nat), (over cur o vs).size = cur.size := by
  induction vs with
  | nil => intro cur o; rfl
  | cons v r ih => intro cur o; rw [over, ih]; simp
theorem over_get (vs : List Value) : ∀ (cur : Array Value) (o j : Nat), (over cur o vs)[j]? = if o ≤ j ∧ j < o + vs.length ∧ j < cur.size then vs[j - o]? else cur[j]? := by
  induction vs with
  | nil => intro cur o j; rw [over, if_neg (by simp; omega)]
  | cons v r ih =>
    intro cur o j
    rw [over, ih, Array.getElem?_setIfInBounds]
    simp only [Array.size_setIfInBounds, List.length_cons]
    by_cases h1 : j = o
    · subst h1
      rw [if_neg (by omega), if_pos rfl]
      by_cases h2 : j < cur.size
      · rw [if_pos h2, if_pos ⟨Nat.le_refl _, by omega, h2⟩, Nat.sub_self]; rfl
      · rw [if_neg h2, if_neg (by omega), Array.getElem?_eq_none (by omega)]
    · by_cases h2 : o + 1 ≤ j ∧ j < o + 1 + r.length ∧ j < cur.size
      · rw [if_pos h2, if_pos (by omega), show j - o = (j - (o + 1)) + 1 by omega, List.getElem?_cons_succ]
      · rw [if_neg h2, if_neg (fun e => h1 e.symm), if_neg (by omega)]
theorem setCells_block (g : Nat) (e : TypeId) : ∀ (vs : List Value) (o : Nat) (w : World) (cur : Array Value), w.heap[g]? = some (.cells cur e (0, 0)) → (w.setCells g o vs).heap[g]? = some (.cells (over cur o vs) e (0, 0))
  | [], _, _, _, h => h
  | v :: r, o, w, cur, h => setCells_block g e r (o + 1) _ _ (heap_setCell_same w g o cur e v h)
theorem setCells_below {B g : Nat} {a : World} (hg : B ≤ g) : ∀ (vs : List Value) (o : Nat) (w : World), Below B a w → Below B a (w.setCells g o vs)
  | [], _, _, h => h
  | v :: r, o, w, h => setCells_below hg r (o + 1) _ (h.setCell (by exact hg) v)
theorem own_block {w : World} {g c base : Nat} {cur : Array Value} {xs : List Int} (hg : base ≤ g) (hh : w.heap[g]? = some (.cells cur 3 (0, 0))) (hl : xs.length ≤ c) (hm : c ≤ maxLen) (hs : cur.size = c) (hx : ∀ j, j < xs.length → cur[j]? = some (.int .i64 (xs[j]?.getD 0))) : Own w base (.slice (some ⟨g, 0, none⟩) xs.length c) xs := by
  refine ⟨by simp, .inr ⟨g, c, cur, rfl, hg, hh, hl, hm, by omega, ?_⟩⟩
  apply List.ext_getElem?
  intro j
  rw [Nat.mul_one]
  by_cases hj : j < xs.length
  · rw [List.getElem?_take_of_lt hj, Array.getElem?_toList, hx j hj, List.getElem?_map, List.getElem?_eq_getElem hj]; rfl
  · rw [List.getElem?_eq_none (by simp; omega), List.getElem?_eq_none (by simp; omega)]
theorem own_open {w : World} {base g c : Nat} {xs : List Int} (h : Own w base (.slice (some ⟨g, 0, none⟩) xs.length c) xs) : ∃ cur : Array Value, base ≤ g ∧ w.heap[g]? = some (.cells cur 3 (0, 0)) ∧ xs.length ≤ c ∧ c ≤ maxLen ∧ cur.size = c ∧ ∀ j, j < xs.length → cur[j]? = some (.int .i64 (xs[j]?.getD 0)) := by
  rcases h.2 with ⟨h', _⟩ | ⟨g', c', cur, h', hg, hh, hnc, hm, hs, ht⟩
  · simp at h'
  · simp only [Value.slice.injEq, Option.some.injEq, Addr.mk.injEq, and_true, true_and] at h'
    obtain ⟨rfl, rfl⟩ := h'
    refine ⟨cur, hg, hh, hnc, hm, by omega, fun j hj => ?_⟩
    have := congrArg (fun l => l[j]?) ht
    simp only [Nat.mul_one] at this
    rw [List.getElem?_take_of_lt hj, Array.getElem?_toList, List.getElem?_map, List.getElem?_eq_getElem hj] at this
    rw [this, List.getElem?_eq_getElem hj]; rfl
theorem cell_block {w : World} {g : Nat} {cur : Array Value} {e : TypeId} (h : w.heap[g]? = some (.cells cur e (0, 0))) (j : Nat) : w.cell? ⟨g, j, none⟩ = cur[j]? := by
  unfold World.cell?; rw [h]; simp
theorem frozen_block {w : World} {g : Nat} {cur : Array Value} {e : TypeId} (h : w.heap[g]? = some (.cells cur e (0, 0))) (j : Nat) : w.frozen? ⟨g, j, none⟩ = false := by
  unfold World.frozen?; rw [h]; simp
theorem shape_block {w : World} {g : Nat} {cur : Array Value} {e : TypeId} {fr : Nat × Nat} (h : w.heap[g]? = some (.cells cur e fr)) : w.shape? g = some (e, cur.size) := by
  unfold World.shape?; rw [h]
theorem insV (cs : List Int) (i : Nat) (d : Int) (hi : i ≤ cs.length) (j : Nat) (hj : j < cs.length + 1) : (insAt cs i d)[j]?.getD 0 = if j < i then cs[j]?.getD 0 else if j = i then d else cs[j - 1]?.getD 0 := by
  rw [insAt_at cs i j d hi]
  split
  · rfl
  · split <;> rfl

theorem size_zeros (k : Nat) : (Builtin.zeroCells (Value.int .i64 0).cells k).size = k := by
  first | (simp [Builtin.zeroCells, Value.cells]; done) | (unfold Builtin.zeroCells; simp [Value.cells])
set_option maxRecDepth 100000 in
/-- slices.Insert of one number into a slice of the call's own. -/
theorem insert_any (w : World) (base : Nat) (A : Option Addr) (c : Nat) (cs : List Int) (i : Nat) (d : Int) (hown : Own w base (.slice A cs.length c) cs) (hi : i ≤ cs.length) (hl : cs.length ≤ 1000) (hb : base ≤ w.heap.size) :
  Calls Try.prog 54 #[.slice A cs.length c, .int .i64 i, .slice (some ⟨w.heap.size, 0, none⟩) 1 1] (w.alloc (.cells #[.int .i64 d] 3)) (OwnV w base (insAt cs i d)) := by
  have hlen := insAt_len cs i d hi
  have hV := insV cs i d hi
  obtain ⟨W, hW⟩ : ∃ W, w.alloc (.cells #[.int .i64 d] 3) = W := ⟨_, rfl⟩
  have hBW : Below base w W := by rw [← hW]; exact (Below.refl _ _).alloc hb _
  have hvb : W.heap[w.heap.size]? = some (.cells #[.int .i64 d] 3 (0, 0)) := by rw [← hW]; exact heap_alloc_new w _
  have hsz : W.heap.size = w.heap.size + 1 := by rw [← hW]; simp
  have hvs : ∀ j v, [Value.int .i64 d][j]? = some v → W.cell? ⟨w.heap.size, 0 + j, none⟩ = some v := by
    intro j v hj
    rw [Nat.zero_add, cell_block hvb]
    simpa using hj
  have h1v : ∀ v ∈ [Value.int .i64 d], v.oneCell' = true := by intro v hv; simp at hv; subst hv; rfl
  have ho : Own W base (.slice A cs.length c) cs := by rw [← hW]; exact own_below hown ((Below.refl _ _).alloc (Nat.le_refl _) _)
  rw [hW]
  have hmax : cs.length + 1 ≤ maxLen := by unfold maxLen; omega
  have fin : ∀ (g cc : Nat) (cur : Array Value) (w' : World), base ≤ g → w'.heap[g]? = some (.cells cur 3 (0, 0)) → cs.length + 1 ≤ cc → cc ≤ maxLen → cur.size = cc → (∀ j, j < cs.length + 1 → cur[j]? = some (.int .i64 ((insAt cs i d)[j]?.getD 0))) → Below base w w' →
      OwnV w base (insAt cs i d) (.returned (.slice (some ⟨g, 0, none⟩) (cs.length + 1) cc)) w' := by
    intro g cc cur w' h1 h2 h3 h4 h5 h6 h7
    have := own_block (xs := insAt cs i d) h1 h2 (by omega) h4 h5 (by rw [hlen]; exact h6)
    rw [hlen] at this
    exact ⟨h7, _, cc, by rw [hlen], by rw [hlen]; exact this⟩
  have old : ∀ j, j < cs.length → (cs.map (Value.int .i64))[j]? = some (.int .i64 (cs[j]?.getD 0)) := by
    intro j hj
    rw [List.getElem?_map, List.getElem?_eq_getElem hj]; rfl
  have grownEnd : ∀ cc w', cs.length + 1 ≤ cc → cc ≤ maxLen → i = cs.length → w' = W.drew.alloc (.cells ((cs.map (Value.int .i64) ++ [Value.int .i64 d]).toArray ++ Builtin.zeroCells (Value.int .i64 0).cells (cc - (cs.length + 1))) 3) →
      OwnV w base (insAt cs i d) (.returned (.slice (some ⟨W.heap.size, 0, none⟩) (cs.length + 1) cc)) w' := by
    rintro cc w' h1 h2 h3 rfl
    refine fin _ cc _ _ (by omega) (heap_alloc_new W.drew _) h1 h2 (by rw [Array.size_append, size_zeros]; simp; omega) (fun j hj => ?_) (hBW.drew.alloc (by simp; omega) _)
    rw [Array.getElem?_append_left (by simp; omega), List.getElem?_toArray, hV j hj]
    by_cases h : j < cs.length
    · rw [List.getElem?_append_left (by simp; exact h), old j h, if_pos (by omega)]
    · rw [List.getElem?_append_right (by simp; omega), if_neg (by omega), if_pos (by omega)]
      simp [show j - cs.length = 0 by omega]
  cases A with
  | none =>
    have h0 : cs.length = 0 ∧ c = 0 := by
      rcases ho.2 with ⟨h', h0⟩ | ⟨g', c', cur, h', _⟩
      · simp only [Value.slice.injEq, true_and] at h'
        exact ⟨h0, h'.2⟩
      · simp at h'
    obtain ⟨hc0, rfl⟩ := h0
    obtain rfl : i = 0 := by omega
    obtain rfl : cs = [] := List.eq_nil_of_length_eq_zero hc0
    simp only [List.length_nil]
    refine (Go.Proofs.Any2.slices_Insert_int_end_grow insLays none 0 0 w.heap.size 0 1 1 [] [.int .i64 d] W (by omega) (by omega) (by omega) (by omega) rfl rfl (fun _ => rfl) (fun a h => by cases h) hvs h1v).mono ?_
    rintro e w' ⟨rfl, hw'⟩
    exact grownEnd (grownCap W (0 + 1) 0 3) w' (grownCap_ge W (0 + 1) 0 3) (grownCap_le_maxLen W (0 + 1) 0 3 (by unfold maxLen; omega)) rfl hw'
  | some ad =>
    obtain ⟨g, rfl⟩ : ∃ g, ad = ⟨g, 0, none⟩ := by
      rcases ho.2 with ⟨h', _⟩ | ⟨g', c', cur, h', _⟩
      · simp at h'
      · simp only [Value.slice.injEq, Option.some.injEq] at h'
        exact ⟨g', h'.1⟩
    obtain ⟨cur, hg, hh, hnc, hm, hs, hx⟩ := own_open ho
    have hgW : w.heap.size ≠ g := by
      intro e
      have := (hown.lt g rfl).2
      omega
    have hgs : g < W.heap.size := (Array.getElem?_eq_some_iff.1 hh).1
    have hcsv : ∀ j v, (cs.map (Value.int .i64))[j]? = some v → W.cell? ⟨g, 0 + j, none⟩ = some v := by
      intro j v hj
      have hjl : j < cs.length := by have := (List.getElem?_eq_some_iff.1 hj).1; simpa using this
      rw [Nat.zero_add, cell_block hh, hx j hjl, ← old j hjl, hj]
    have h1c : ∀ v ∈ cs.map (Value.int .i64), v.oneCell' = true := by
      intro v hv
      obtain ⟨x, _, rfl⟩ := List.mem_map.1 hv
      rfl
    have hc63 : c ≤ 9223372036854775807 := by unfold maxLen at hm; omega
    by_cases hin : i = cs.length
    · by_cases hroom : cs.length + 1 ≤ c
      · subst hin
        refine (Go.Proofs.Any2.slices_Insert_int_end_room insLays g 0 cs.length c w.heap.size 0 1 1 [.int .i64 d] W (by omega) hroom hc63 rfl (fun j hj => by rw [cell_block hh, Array.getElem?_eq_getElem (by omega)]; rfl) (fun j hj => frozen_block hh _) hvs h1v).mono ?_
        rintro e w' ⟨rfl, rfl⟩
        refine fin g c _ _ hg (setCells_block g 3 _ _ _ _ hh) hroom hm (by rw [over_size]; exact hs) (fun j hj => ?_) (setCells_below hg _ _ _ hBW)
        rw [over_get, hV j hj]
        by_cases h : j < cs.length
        · rw [if_neg (by omega), if_pos h, hx j h]
        · rw [if_pos (by simp; omega), if_neg h, if_pos (by omega)]
          simp [show j - cs.length = 0 by omega]
      · subst hin
        refine (Go.Proofs.Any2.slices_Insert_int_end_grow insLays (some ⟨g, 0, none⟩) cs.length c w.heap.size 0 1 1 (cs.map (Value.int .i64)) [.int .i64 d] W (by omega) hnc (by omega) (by omega) (by simp) rfl (fun h => by cases h) (fun a ha j v hj => by cases ha; rw [Addr.add_lit]; exact hcsv j v hj) hvs h1v).mono ?_
        rintro e w' ⟨rfl, hw'⟩
        exact grownEnd _ w' (grownCap_ge W (cs.length + 1) c 3) (grownCap_le_maxLen W (cs.length + 1) c 3 hmax) rfl hw'
    · have hil : i < cs.length := by omega
      have hdl : ((cs.map (Value.int .i64)).drop i).length = cs.length - i := by simp
      have hdrop : ∀ j, i ≤ j → j < cs.length → ((cs.map (Value.int .i64)).drop i)[j - i]? = some (.int .i64 (cs[j]?.getD 0)) := by
        intro j h1 h2
        rw [List.getElem?_drop, show i + (j - i) = j by omega, old j h2]
      by_cases hroom : cs.length + 1 ≤ c
      · refine (Go.Proofs.Any2.slices_Insert_int_shift insLays g 0 cs.length c i w.heap.size 0 1 1 (cs.map (Value.int .i64)) [.int .i64 d] W hil (by omega) hroom hc63 hgW (by simp) rfl hcsv (fun j hj => by rw [cell_block hh, Array.getElem?_eq_getElem (by omega)]; rfl) (fun j hj => frozen_block hh _) hvs h1c h1v 3 3 1 cur.size (shape_block hvb) (shape_block hh) (by omega) (frozen_block hvb _) (frozen_block hvb _)).mono ?_
        rintro e w' ⟨rfl, rfl⟩
        refine fin g c _ _ hg (setCells_block g 3 _ _ _ _ (setCells_block g 3 _ _ _ _ hh)) hroom hm (by rw [over_size, over_size]; exact hs) (fun j hj => ?_) (setCells_below hg _ _ _ (setCells_below hg _ _ _ hBW.drew))
        rw [over_get, over_get, over_size, hV j hj, hdl]
        by_cases h : j < i
        · rw [if_neg (by omega), if_neg (by omega), if_pos h, hx j (by omega)]
        · by_cases h2 : j = i
          · subst h2
            rw [if_pos (by simp; omega), if_neg h, if_pos rfl]
            simp
          · rw [if_neg (by simp; omega), if_pos (by omega), if_neg h, if_neg h2, show j - (0 + (i + 1)) = (j - 1) - i by omega]
            exact hdrop (j - 1) (by omega) (by omega)
      · refine (Go.Proofs.Any2.slices_Insert_int_grow insLays g 0 cs.length c i w.heap.size 0 1 1 (cs.map (Value.int .i64)) [.int .i64 d] W hil (by omega) hnc (by omega) (by omega) (by simp) rfl hcsv hvs h1c h1v).mono ?_
        rintro e w' ⟨rfl, rfl⟩
        have hcap := grownCap_ge W (cs.length + 1) c 3
        have hcapm := grownCap_le_maxLen W (cs.length + 1) c 3 hmax
        have hnb := heap_alloc_new W (.cells (((cs.map (Value.int .i64)).take i).toArray ++ Builtin.zeroCells (Value.int .i64 0).cells (cs.length + 1 - i) ++ Builtin.zeroCells (Value.int .i64 0).cells (grownCap W (cs.length + 1) c 3 - (cs.length + 1))) 3)
        have hsN : (((cs.map (Value.int .i64)).take i).toArray ++ Builtin.zeroCells (Value.int .i64 0).cells (cs.length + 1 - i) ++ Builtin.zeroCells (Value.int .i64 0).cells (grownCap W (cs.length + 1) c 3 - (cs.length + 1))).size = grownCap W (cs.length + 1) c 3 := by
          rw [Array.size_append, Array.size_append, size_zeros, size_zeros]; simp; omega
        refine fin W.heap.size _ _ _ (by omega) (setCells_block W.heap.size 3 _ _ _ _ (setCells_block W.heap.size 3 _ _ _ _ hnb)) hcap hcapm (by rw [over_size, over_size]; exact hsN) (fun j hj => ?_) (setCells_below (by omega) _ _ _ (setCells_below (by omega) _ _ _ (hBW.alloc (by omega) _).drew).drew)
        rw [over_get, over_get, over_size, hV j hj, hdl, hsN]
        by_cases h : j < i
        · rw [if_neg (by omega), if_neg (by omega), if_pos h, Array.getElem?_append_left (by rw [Array.size_append, size_zeros]; simp; omega), Array.getElem?_append_left (by simp; omega), List.getElem?_toArray, List.getElem?_take_of_lt h, old j (by omega)]
        · by_cases h2 : j = i
          · subst h2
            rw [if_neg (by omega), if_pos (by simp; omega), if_neg h, if_pos rfl]
            simp
          · rw [if_pos (by omega), if_neg h, if_neg h2, show j - (i + 1) = (j - 1) - i by omega]
            exact hdrop (j - 1) (by omega) (by omega)
set_option maxRecDepth 100000 in
/-- slices.Delete of one number out of a slice of the call's own. -/
theorem delete_any (w : World) (base : Nat) (A : Option Addr) (c : Nat) (xs : List Int) (i : Nat) (hown : Own w base (.slice A xs.length c) xs) (hi : i < xs.length) (hl : xs.length ≤ 1000) :
  Calls Try.prog 57 #[.slice A xs.length c, .int .i64 i, .int .i64 ((i + 1 : Nat) : Int)] w (OwnV w base (xs.eraseIdx i)) := by
  cases A with
  | none =>
    rcases hown.2 with ⟨_, h0⟩ | ⟨g', c', cur, h', _⟩
    · omega
    · simp at h'
  | some ad =>
    obtain ⟨g, rfl⟩ : ∃ g, ad = ⟨g, 0, none⟩ := by
      rcases hown.2 with ⟨h', _⟩ | ⟨g', c', cur, h', _⟩
      · simp at h'
      · simp only [Value.slice.injEq, Option.some.injEq] at h'
        exact ⟨g', h'.1⟩
    obtain ⟨cur, hg, hh, hnc, hm, hs, hx⟩ := own_open hown
    have hlen : (xs.eraseIdx i).length = xs.length - 1 := by rw [List.length_eraseIdx, if_pos hi]
    refine (Go.Proofs.Any.slices_Delete_int_cells delLays g 0 xs.length c i (i + 1) xs w (Nat.le_refl _) hnc (by unfold maxLen at hm; omega) (by omega) (by omega) (fun j hj => by rw [Nat.zero_add, cell_block hh, hx j hj, List.getD_eq_getElem?_getD]) (fun j hj => frozen_block hh _)).mono ?_
    rintro e w' ⟨rfl, q, rfl⟩
    have hq : (w.drewN q).heap[g]? = some (.cells cur 3 (0, 0)) := hh
    have hown' := own_block (xs := xs.eraseIdx i) (c := c) (base := base) hg (setCells_block g 3 (((xs.take xs.length).take i ++ (xs.take xs.length).drop (i + 1) ++ List.replicate (i + 1 - i) 0).map (Value.int .i64)) 0 _ _ hq) (by omega) hm (by rw [over_size]; exact hs) (fun j hj => by
      rw [over_get, List.take_length]
      have hj2 : j < xs.length - 1 := by omega
      rw [if_pos (by simp; omega), Nat.sub_zero, List.getElem?_map, List.getElem?_append, List.getElem?_append]
      simp only [List.length_append, List.length_take, List.length_drop]
      rw [if_pos (by omega), List.getElem?_eraseIdx]
      by_cases h : j < i
      · rw [if_pos (by omega), List.getElem?_take_of_lt h, if_pos h, List.getElem?_eq_getElem (by omega)]; rfl
      · rw [if_neg (by omega), if_neg h, List.getElem?_drop, show i + 1 + (j - min i xs.length) = j + 1 by omega, List.getElem?_eq_getElem (by omega)]; rfl)
    rw [hlen] at hown'
    exact ⟨setCells_below hg _ _ _ (below_drewN (Below.refl _ _) _), _, c, by rw [hlen, show i + 1 - i = 1 by omega], by rw [hlen]; exact hown'⟩
end Go.Proofs.Ytilolaednbcaoaa
