/- The school with the greatest claim, and giving meals away: claimer and giveAway of package share. -/
import Derived.Test.YtnjaacmcdkiilaaShB
import Derived.Test.YtnjaacmcdkiilaaShG
set_option linter.unusedVariables false
namespace Go.Proofs.Ytnjaacmcdkiilaa
open Go.RowKit

theorem Own.sl4 {w : World} {base : Nat} {v : Value} {xs : List Int} (h : Own w base v xs) : ∃ A c, v = .slice A xs.length c := by
  rcases h.2 with ⟨hv, hn⟩ | ⟨g, c, cur, hv, _⟩
  · exact ⟨none, 0, by rw [hv, hn]⟩
  · exact ⟨_, _, hv⟩
theorem claim_field0 (a b c : Int) : ∀ w : World, (Instr.field 76 (.agg #[.int .i64 a, .int .i64 b, .int .i64 c]) 0).run Try.prog w = .ok (.int .i64 a) w := fun _ => by kernel_rfl
theorem stepsV_form (kind : Int) : ∃ K u, stepsV kind = .agg #[.func (.func K) #[] #[], .int .i64 u] := ⟨_, _, rfl⟩

set_option maxRecDepth 100000 in
set_option maxHeartbeats 1000000 in
theorem claimer_any (kind : Int) (oa ma : Option Addr) (os ms : List Int) (oc mc : Nat) (w : World) (ho : Ints w oa os) (hm : Ints w ma ms) (go : okO os = true) (gm : okMs os ms = true) (gk : okK kind = true) :
  Calls Try.prog 53 #[stepsV kind, .slice oa os.length oc, .slice ma ms.length mc] w (IntR w (bestL kind os ms)) := by
  obtain ⟨g1, g2, g3⟩ := okO_len go
  obtain ⟨K, u, hs⟩ := stepsV_form kind
  have hB0 := (Below.refl w.heap.size w).alloc (Nat.le_refl _) (.cells #[.func (.func K) #[] #[], .int .i64 u] 70)
  have HNx := hid (fun (w' : World) (hb : Below w.heap.size w w') => next_any kind oa ma os ms oc mc w' (ho.below hb) (hm.below hb) go gm gk)
  have HB := hid (claimer_best (kind := kind) (ms := ms) g1)
  have hnl := nextTo_len kind os ms os.length
  have HMx := hid (fun (A : Option Addr) (c : Nat) (w' : World) (h : ClaimsAt w' A (nextTo kind os ms os.length)) => max_rank A (nextTo kind os ms os.length) c w' h (nextTo_good go gm _ (Nat.le_refl _)) (by omega))
  rw [hnl] at HMx
  rw [hs] at HNx ⊢
  clear hs g3 go gm gk ho hm
  generalize nextTo kind os ms os.length = l at *
  have HL := hid hnl
  clear hnl
  go_enter Try.func53, Try.ntmps53
  go_wp2_with fail
  refine (HNx.out _ hB0).mono ?_
  rintro e w1 ⟨q1, A, c, rfl, hA⟩
  have p1 := hB0.trans (q1.mono (by simp))
  rw [HL.out]
  go_wp2_with fail
  refine (HMx.out _ _ _ hA).mono ?_
  rintro e w2 ⟨q2, rfl⟩
  have p2 := p1.trans (q2.mono p1.size)
  generalize maxTo rankL l (os.length - 1) = m at *
  have hfd := claim_field0 m.1 m.2.1 m.2.2
  go_wp2
  go_ret
  exact ⟨p2, ret_int HB.out⟩

theorem own_ints {w : World} {base g n c : Nat} {xs : List Int} (h : w.ownsRow base 3 1 (.slice (some ⟨g, 0, none⟩) n c) n (xs.map (Value.int .i64))) (hl : xs.length = n) (hn : n ≤ 140737488355328) (hb : ∀ x ∈ xs, -9223372036854775808 ≤ x ∧ x ≤ 9223372036854775807) : Ints w (some ⟨g, 0, none⟩) xs := by
  subst hl
  obtain ⟨a, cap, hv, hi⟩ := Own.ints (w := w) (base := base) (v := .slice (some ⟨g, 0, none⟩) xs.length c) h hn hb
  cases hv
  exact hi
theorem make_ints (n : Nat) (hn : n ≤ 1000000) : ∀ w : World, (Instr.makeSlice 22 (.int .i64 (n : Int)) (.int .i64 (n : Int))).run Try.prog w = .ok (.slice (some ⟨w.heap.size, 0, none⟩) n n) (w.alloc (.cells (List.replicate n (Value.int .i64 0)).toArray 3)) := by
  obtain ⟨i0, hi, hz0, hz1, hz2⟩ := info_parts int_info
  intro w
  have hr := run_make (P := Try.prog) w 22 3 i0 (.int .i64 0) Try.underlying22 hi hz0 .i64 .i64 n n (by omega) (by omega) (by rw [hz2]; omega) (by omega)
  simp only [Int.toNat_natCast, hz1, Nat.mul_one] at hr
  have e : madeCells (Value.int .i64 0).cells n = (List.replicate n (Value.int .i64 0)).toArray := Array.ext' (toList_madeCells_one _ _)
  rw [e] at hr
  exact hr
theorem own_zeros (w : World) (n base : Nat) (hn : n ≤ 1000000) (hb : base ≤ w.heap.size) : (w.alloc (.cells (List.replicate n (Value.int .i64 0)).toArray 3)).ownsRow base 3 1 (.slice (some ⟨w.heap.size, 0, none⟩) n n) n ((List.replicate n (0 : Int)).map (Value.int .i64)) := by
  have := World.ownsRow_lit (e := 3) (size := 1) w (List.replicate n (Value.int .i64 0)).toArray n hb (by unfold maxLen; omega) (by simp)
  simpa using this

/-- What giving away holds on to: the steps in the block s, the meals in the block g, the schools behind it. -/
def GiveS (w0 : World) (s g n : Nat) (s0 s1 : Value) (v : Value) (ord ms : List Int) (w : World) : Prop :=
  w.cell? ⟨s, 0, none⟩ = some s0 ∧ w.cell? ⟨s, 1, none⟩ = some s1 ∧ w.ownsRow g 3 1 (.slice (some ⟨g, 0, none⟩) n n) n (ms.map (Value.int .i64)) ∧ w.ownsRow (g + 1) 3 1 v ord.length (ord.map (Value.int .i64)) ∧ Below w0.heap.size w0 w
theorem GiveS.keep {w0 : World} {s g n : Nat} {s0 s1 v : Value} {ord ms : List Int} {w w2 : World} (h : GiveS w0 s g n s0 s1 v ord ms w) (hb : Below w.heap.size w w2) : GiveS w0 s g n s0 s1 v ord ms w2 := by
  obtain ⟨a0, a1, m, o, p⟩ := h
  exact ⟨by rw [hb.cell (cell_lt a0)]; exact a0, by rw [hb.cell (cell_lt a1)]; exact a1, own_below m hb, own_below o hb, p.trans (hb.mono p.size)⟩
theorem GiveS.store {w0 : World} {s g n : Nat} {s0 s1 v : Value} {ord ms : List Int} {w : World} (h : GiveS w0 s g n s0 s1 v ord ms w) (hs : s < g) (hg : w0.heap.size ≤ g) (c : Nat) (x : Int) : GiveS w0 s g n s0 s1 v ord (ms.set c x) (w.setCell ⟨g, c, none⟩ (.int .i64 x)) := by
  obtain ⟨a0, a1, m, o, p⟩ := h
  refine ⟨by rw [World.cell?_setCell_far _ _ _ _ (by simp; omega)]; exact a0, by rw [World.cell?_setCell_far _ _ _ _ (by simp; omega)]; exact a1, ?_, own_setCell o _ (by simp) _, p.setCell (by simp; omega) _⟩
  rw [List.map_set]
  exact (m.stored c _).1
theorem GiveS.cell {w0 : World} {s g n : Nat} {s0 s1 v : Value} {ord ms : List Int} {w : World} (h : GiveS w0 s g n s0 s1 v ord ms w) (hl : ms.length = n) (c : Nat) (hc : c < n) : w.cell? ⟨g, c, none⟩ = some (.int .i64 (at0 ms c)) ∧ w.frozen? ⟨g, c, none⟩ = false := by
  obtain ⟨a0, a1, m, o, p⟩ := h
  refine ⟨?_, m.frozenAt c⟩
  rw [m.cellAt c (by omega), List.getElem?_map]
  unfold at0
  rw [List.getElem?_eq_getElem (by omega)]; rfl
theorem GiveS.push {w0 : World} {s g n : Nat} {s0 s1 v v' : Value} {ord ms : List Int} {w w2 : World} {x : Int} (h : GiveS w0 s g n s0 s1 v ord ms w) (hs : s ≤ g) (ho : w2.ownsRow (g + 1) 3 1 v' (ord ++ [x]).length ((ord ++ [x]).map (Value.int .i64))) (hg : Below (g + 1) w w2) (hg0 : w0.heap.size ≤ g) : GiveS w0 s g n s0 s1 v' (ord ++ [x]) ms w2 := by
  obtain ⟨a0, a1, m, o, p⟩ := h
  refine ⟨by rw [hg.cell (by simp; omega)]; exact a0, by rw [hg.cell (by simp; omega)]; exact a1, ?_, ho, p.trans (hg.mono (by omega))⟩
  obtain ⟨h1, h2⟩ := m
  refine ⟨h1, ?_⟩
  rcases h2 with ⟨h2, _⟩ | ⟨g', cap, cur, hv, hg', hh, r⟩
  · simp at h2
  · simp only [Value.slice.injEq, Option.some.injEq, Addr.mk.injEq, and_true, true_and] at hv
    obtain ⟨rfl, rfl⟩ := hv
    exact .inr ⟨g, n, cur, rfl, hg', by rw [hg.block g (by omega)]; exact hh, r⟩

def TwoR (w : World) (p : List Int × List Int) (en : Ending) (w' : World) : Prop := Below w.heap.size w w' ∧ ∃ A c B d, en = .returned (.tuple #[.slice A p.1.length c, .slice B p.2.length d]) ∧ Own w' w.heap.size (.slice A p.1.length c) p.1 ∧ Own w' w.heap.size (.slice B p.2.length d) p.2

set_option maxRecDepth 100000 in
set_option maxHeartbeats 4000000 in
theorem giveAway_any (kind : Int) (oa : Option Addr) (os : List Int) (oc n : Nat) (w : World) (ho : Ints w oa os) (go : okO os = true) (gk : okK kind = true) (hn : n ≤ 1000) :
  Calls Try.prog 47 #[.slice oa os.length oc, .int .i64 (n : Int), .int .i64 kind] w (TwoR w (giveL kind os n)) := by
  obtain ⟨i0, hi, hz0, hz1, hz2⟩ := info_parts int_info
  obtain ⟨g1, g2, g3⟩ := okO_len go
  obtain ⟨K, u, hs⟩ := stepsV_form kind
  have HSt := hid (fun w' => stepsOf_any kind w' gk)
  have HCl := hid (fun (w' : World) (g j : Nat) (hj : j ≤ 1000) (hb : Ints w' oa os) (hm : w'.ownsRow g 3 1 (.slice (some ⟨g, 0, none⟩) os.length os.length) os.length ((giveL kind os j).2.map (Value.int .i64))) => by
    have hl := giveL_len2 kind os j
    have hk := giveL_ok kind os j hj
    have hI := own_ints hm hl (by omega) (fun x hx => by
      obtain ⟨k, hk', rfl⟩ := List.mem_iff_getElem.1 hx
      have := giveL_bd kind os j k
      unfold at0 at this
      rw [List.getElem?_eq_getElem hk'] at this
      simp at this; omega)
    have := claimer_any kind oa (some ⟨g, 0, none⟩) os (giveL kind os j).2 oc os.length w' hb hI go hk gk
    rw [hl, hs] at this
    exact this)
  rw [hs] at HSt
  have HBd := hid (fun j k => giveL_bd kind os j k)
  have HLn := hid (fun j => giveL_len2 kind os j)
  have HLm := hid (fun j => giveL_len1 kind os j)
  have HLt := hid (fun j => bestL_lt (kind := kind) (ms := (giveL kind os j).2) g1)
  have HO := hid (fun (w' : World) (hb : Below w.heap.size w w') => ho.below hb)
  have hmk := make_ints os.length (by omega)
  clear hs g3 ho go gk
  go_enter Try.func47, Try.ntmps47
  go_wp2_with fail
  refine (HSt.out _).mono ?_
  rintro e w1 ⟨q1, rfl⟩
  have hs1 := q1.size
  have S0 := hid (show GiveS w w1.heap.size (w1.heap.size + 1) os.length (.func (.func K) #[] #[]) (.int .i64 u) (.slice none 0 0) [] (List.replicate os.length 0) ((w1.alloc (.cells #[.func (.func K) #[] #[], .int .i64 u] 70)).alloc (.cells (List.replicate os.length (Value.int .i64 0)).toArray 3)) from
    ⟨by go_simp, by go_simp, by
      have := own_zeros (w1.alloc (.cells #[.func (.func K) #[] #[], .int .i64 u] 70)) os.length (w1.heap.size + 1) (by omega) (by simp)
      simpa using this, ⟨rfl, .inl ⟨rfl, rfl⟩⟩, (q1.alloc hs1 _).alloc (by simp; omega) _⟩)
  clear q1
  go_wp2
  go_loopw [6, 16] (fun v i wr => ∃ j : Nat, j ≤ n ∧ i = .int .i64 (j : Int) ∧ Hid (GiveS w w1.heap.size (w1.heap.size + 1) os.length (.func (.func K) #[] #[]) (.int .i64 u) v (giveL kind os j).1 (giveL kind os j).2 wr)) (fun _ i _ => n - (intOf i).toNat)
  case atStart =>
    refine ⟨0, Nat.zero_le _, rfl, ?_⟩
    exact S0.out
  case round =>
    obtain ⟨j, hj, rfl, HG⟩ := hrel
    by_cases hlt : j < n
    · have HN := hid (show giveL kind os (j + 1) = ((giveL kind os j).1 ++ [(bestL kind os (giveL kind os j).2 : Int)], (giveL kind os j).2.set (bestL kind os (giveL kind os j).2) (at0 (giveL kind os j).2 (bestL kind os (giveL kind os j).2) + 1)) from rfl)
      have HCj := hid (fun w' => HCl.out w' (w1.heap.size + 1) j (by omega))
      have hlt1 := HLt.out j
      have hbd := HBd.out j (bestL kind os (giveL kind os j).2)
      have HL2 := hid (HLn.out j)
      have hl1 : (giveL kind os j).1.length ≤ j := Nat.le_of_eq (HLm.out j)
      generalize bestL kind os (giveL kind os j).2 = c at *
      generalize giveL kind os j = p at *
      obtain ⟨od, ms⟩ := p
      dsimp only at *
      generalize hx : at0 ms c = x at *
      have HX := hid hx
      clear hx
      obtain ⟨a0, a1, am, ao, ap⟩ := HG.out
      have hsw := ap.size
      go_wp2_with fail
      refine (HCj.out _ (HO.out _ ap) am).mono ?_
      rintro e w4 ⟨q4, rfl⟩
      have HG4 := hid (HG.out.keep q4)
      have HG5 := hid (HG4.out.store (by omega) (by omega) c (x + 1))
      obtain ⟨d0, d1⟩ := HG4.out.cell HL2.out c hlt1
      rw [HX.out] at d0
      have hg4 : w1.heap.size + 1 < w4.heap.size := cell_lt d0
      have hc0 : (0 : Int) ≤ (c : Int) := Int.natCast_nonneg _
      have hc1 : (c : Int) < (os.length : Int) := by omega
      clear a0 a1 am ao ap
      obtain ⟨_, _, _, ao, ap⟩ := HG5.out
      go_wp2_with (at_builtin; refine wpList_append_own _ rfl _ _ 22 rfl (w1.heap.size + 1 + 1) 3 i0 (.int .i64 0) 1 8 Try.underlying22 hi hz0 hz1 hz2 rfl (by decide) _ _ _ rfl (ao.alloc _) ⟨w4.heap.size, 0, none⟩ 1 1 [.int .i64 (c : Int)] rfl rfl ?c1 ?c2 ?c3 ?c4 ?c5 ?_)
      case c1 => exact World.news_of_block (cs := #[.int .i64 (c : Int)]) (t := 3) (fr := (0, 0)) (by have := heap_alloc_new (w4.setCell ⟨w1.heap.size + 1, c, none⟩ (.int .i64 (x + 1))) (.cells #[.int .i64 (c : Int)] 3); simpa using this)
      case c2 => simp [Value.oneCell']
      case c3 => unfold maxLen; omega
      case c4 => omega
      case c5 => simp; omega
      intro v' w6 hown2 hgrow _
      have q6 : Below (w1.heap.size + 1 + 1) (w4.setCell ⟨w1.heap.size + 1, c, none⟩ (.int .i64 (x + 1))) w6 := ((Below.refl (w1.heap.size + 1 + 1) _).alloc (by simp; omega) (.cells #[.int .i64 (c : Int)] 3)).grown hgrow (by simp; omega) (fun q hq => by have := (ao.lt q hq).1; omega)
      have HG6 := hid (HG5.out.push (x := (c : Int)) (by omega) (by simpa using hown2) q6 (by omega))
      clear hown2 hgrow q6 ao ap d0 d1
      go_wp2
      go_roundw
      case rel => exact ⟨j + 1, by omega, by go_num, by unfold Hid; rw [HN.out]; exact HG6.out⟩
      case measure => simp [intOf]; omega
    · obtain rfl : j = n := by omega
      have HL2 := hid (HLn.out j)
      generalize giveL kind os j = p at *
      obtain ⟨od, ms⟩ := p
      dsimp only at *
      obtain ⟨a0, a1, am, ao, ap⟩ := HG.out
      obtain ⟨A, c, rfl⟩ := Own.sl4 ao
      go_wp2
      refine bodyPost_ret (v := .tuple #[.slice A od.length c, .slice (some ⟨w1.heap.size + 1, 0, none⟩) os.length os.length]) (by simp [results, Try.results47, go_sem]) rfl ⟨ap, A, c, some ⟨w1.heap.size + 1, 0, none⟩, os.length, by rw [HL2.out], own_weak ao (by omega), ?_⟩
      unfold Own
      rw [HL2.out]
      exact own_weak am (by omega)
end Go.Proofs.Ytnjaacmcdkiilaa
