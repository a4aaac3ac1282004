/- The document's own given, Divide, Order, Claimer of chapter 4. -/
import Derived.Test.YtnjaacmcdkiilaaShR
set_option linter.unusedVariables false
namespace Go.Proofs.Ytnjaacmcdkiilaa
open Go.RowKit

/-- The meals in the block g, the schools behind it. -/
def GivenS (w0 : World) (g n : Nat) (v : Value) (ord ms : List Int) (w : World) : Prop :=
  w.ownsRow g 3 1 (.slice (some ⟨g, 0, none⟩) n n) n (ms.map (Value.int .i64)) ∧ w.ownsRow (g + 1) 3 1 v ord.length (ord.map (Value.int .i64)) ∧ Below w0.heap.size w0 w
theorem GivenS.keep {w0 : World} {g n : Nat} {v : Value} {ord ms : List Int} {w w2 : World} (h : GivenS w0 g n v ord ms w) (hb : Below w.heap.size w w2) : GivenS w0 g n v ord ms w2 :=
  ⟨own_below h.1 hb, own_below h.2.1 hb, h.2.2.trans (hb.mono h.2.2.size)⟩
theorem GivenS.store {w0 : World} {g n : Nat} {v : Value} {ord ms : List Int} {w : World} (h : GivenS w0 g n v ord ms w) (hg : w0.heap.size ≤ g) (c : Nat) (x : Int) : GivenS w0 g n v ord (ms.set c x) (w.setCell ⟨g, c, none⟩ (.int .i64 x)) := by
  obtain ⟨m, o, p⟩ := h
  refine ⟨?_, own_setCell o _ (by simp) _, p.setCell (by simp; omega) _⟩
  rw [List.map_set]
  exact (m.stored c _).1
theorem GivenS.cell {w0 : World} {g n : Nat} {v : Value} {ord ms : List Int} {w : World} (h : GivenS w0 g n v ord ms w) (hl : ms.length = n) (c : Nat) (hc : c < n) : w.cell? ⟨g, c, none⟩ = some (.int .i64 (at0 ms c)) ∧ w.frozen? ⟨g, c, none⟩ = false := by
  obtain ⟨m, o, p⟩ := h
  refine ⟨?_, m.frozenAt c⟩
  rw [m.cellAt c (by omega), List.getElem?_map]
  unfold at0
  rw [List.getElem?_eq_getElem (by omega)]; rfl
theorem GivenS.push {w0 : World} {g n : Nat} {v v' : Value} {ord ms : List Int} {w w2 : World} {x : Int} (h : GivenS w0 g n v ord ms w) (ho : w2.ownsRow (g + 1) 3 1 v' (ord ++ [x]).length ((ord ++ [x]).map (Value.int .i64))) (hg : Below (g + 1) w w2) (hg0 : w0.heap.size ≤ g) : GivenS w0 g n v' (ord ++ [x]) ms w2 := by
  obtain ⟨m, o, p⟩ := h
  refine ⟨?_, ho, p.trans (hg.mono (by omega))⟩
  obtain ⟨h1, h2⟩ := m
  refine ⟨h1, ?_⟩
  rcases h2 with ⟨h2, _⟩ | ⟨g', cap, cur, hv, hg', hh, r⟩
  · simp at h2
  · simp only [Value.slice.injEq, Option.some.injEq, Addr.mk.injEq, and_true, true_and] at hv
    obtain ⟨rfl, rfl⟩ := hv
    exact .inr ⟨g, n, cur, rfl, hg', by rw [hg.block g (by omega)]; exact hh, r⟩

set_option maxRecDepth 100000 in
set_option maxHeartbeats 4000000 in
theorem given_any (kind : Int) (oa : Option Addr) (os : List Int) (oc n : Nat) (w : World) (ho : Ints w oa os) (go : okO os = true) (gk : okK kind = true) (hn : n ≤ 1000) :
  Calls Try.prog 49 #[.slice oa os.length oc, .int .i64 (n : Int), .int .i64 kind] w (TwoR w (giveL kind os n)) := by
  obtain ⟨i0, hi, hz0, hz1, hz2⟩ := info_parts int_info
  obtain ⟨g1, g2, g3⟩ := okO_len go
  have HCl := hid (fun (w' : World) (g j : Nat) (hj : j ≤ 1000) (hb : Ints w' oa os) (hm : w'.ownsRow g 3 1 (.slice (some ⟨g, 0, none⟩) os.length os.length) os.length ((giveL kind os j).2.map (Value.int .i64))) => by
    have hl := giveL_len2 kind os j
    have hk := giveL_ok kind os j hj
    have hI := own_ints hm hl (by omega) (fun x hx => by
      obtain ⟨k, hk', rfl⟩ := List.mem_iff_getElem.1 hx
      have := giveL_bd kind os j k
      unfold at0 at this
      rw [List.getElem?_eq_getElem hk'] at this
      simp at this; omega)
    have := rclaimer_any kind oa (some ⟨g, 0, none⟩) os (giveL kind os j).2 oc os.length w' hb hI go hk gk
    rw [hl] at this
    exact this)
  have HBd := hid (fun j k => giveL_bd kind os j k)
  have HLn := hid (fun j => giveL_len2 kind os j)
  have HLm := hid (fun j => giveL_len1 kind os j)
  have HLt := hid (fun j => bestL_lt (kind := kind) (ms := (giveL kind os j).2) g1)
  have HO := hid (fun (w' : World) (hb : Below w.heap.size w w') => ho.below hb)
  have hmk := make_ints os.length (by omega)
  clear g3 ho go gk
  have S0 := hid (show GivenS w w.heap.size os.length (.slice none 0 0) [] (List.replicate os.length 0) (w.alloc (.cells (List.replicate os.length (Value.int .i64 0)).toArray 3)) from
    ⟨own_zeros w os.length w.heap.size (by omega) (by simp), ⟨rfl, .inl ⟨rfl, rfl⟩⟩, (Below.refl _ _).alloc (Nat.le_refl _) _⟩)
  go_enter Try.func49, Try.ntmps49
  go_wp2
  go_loopw [9, 10] (fun v i wr => ∃ j : Nat, j ≤ n ∧ i = .int .i64 (j : Int) ∧ Hid (GivenS w w.heap.size os.length v (giveL kind os j).1 (giveL kind os j).2 wr)) (fun _ i _ => n - (intOf i).toNat)
  case atStart =>
    refine ⟨0, Nat.zero_le _, rfl, ?_⟩
    exact S0.out
  case round =>
    obtain ⟨j, hj, rfl, HG⟩ := hrel
    by_cases hlt : j < n
    · have HN := hid (show giveL kind os (j + 1) = ((giveL kind os j).1 ++ [(bestL kind os (giveL kind os j).2 : Int)], (giveL kind os j).2.set (bestL kind os (giveL kind os j).2) (at0 (giveL kind os j).2 (bestL kind os (giveL kind os j).2) + 1)) from rfl)
      have HCj := hid (fun w' => HCl.out w' w.heap.size j (by omega))
      have hlt1 := HLt.out j
      have hbd := HBd.out j (bestL kind os (giveL kind os j).2)
      have HL2 := hid (HLn.out j)
      have hl1 : (giveL kind os j).1.length ≤ j := Nat.le_of_eq (HLm.out j)
      generalize bestL kind os (giveL kind os j).2 = c at *
      generalize giveL kind os j = p at *
      obtain ⟨od, ms⟩ := p
      dsimp only at *
      generalize hx : at0 ms c = x at *
      have HX := hid hx
      clear hx
      obtain ⟨am, ao, ap⟩ := HG.out
      have hsw := ap.size
      go_wp2_with fail
      refine (HCj.out _ (HO.out _ ap) am).mono ?_
      rintro e w4 ⟨q4, rfl⟩
      have HG4 := hid (HG.out.keep q4)
      have HG5 := hid (HG4.out.store (Nat.le_refl _) c (x + 1))
      obtain ⟨d0, d1⟩ := HG4.out.cell HL2.out c hlt1
      rw [HX.out] at d0
      have hg4 : w.heap.size < w4.heap.size := cell_lt d0
      have hc0 : (0 : Int) ≤ (c : Int) := Int.natCast_nonneg _
      have hc1 : (c : Int) < (os.length : Int) := by omega
      clear am ao ap
      obtain ⟨_, ao, ap⟩ := HG5.out
      go_wp2_with (at_builtin; refine wpList_append_own _ rfl _ _ 22 rfl (w.heap.size + 1) 3 i0 (.int .i64 0) 1 8 Try.underlying22 hi hz0 hz1 hz2 rfl (by decide) _ _ _ rfl (ao.alloc _) ⟨w4.heap.size, 0, none⟩ 1 1 [.int .i64 (c : Int)] rfl rfl ?c1 ?c2 ?c3 ?c4 ?c5 ?_)
      case c1 => exact World.news_of_block (cs := #[.int .i64 (c : Int)]) (t := 3) (fr := (0, 0)) (by have := heap_alloc_new (w4.setCell ⟨w.heap.size, c, none⟩ (.int .i64 (x + 1))) (.cells #[.int .i64 (c : Int)] 3); simpa using this)
      case c2 => simp [Value.oneCell']
      case c3 => unfold maxLen; omega
      case c4 => omega
      case c5 => simp; omega
      intro v' w6 hown2 hgrow _
      have q6 : Below (w.heap.size + 1) (w4.setCell ⟨w.heap.size, c, none⟩ (.int .i64 (x + 1))) w6 := ((Below.refl (w.heap.size + 1) _).alloc (by simp; omega) (.cells #[.int .i64 (c : Int)] 3)).grown hgrow (by simp; omega) (fun q hq => by have := (ao.lt q hq).1; omega)
      have HG6 := hid (HG5.out.push (x := (c : Int)) (by simpa using hown2) q6 (Nat.le_refl _))
      clear hown2 hgrow q6 ao ap d0 d1
      go_wp2
      go_roundw
      case rel => exact ⟨j + 1, by omega, by go_num, by unfold Hid; rw [HN.out]; exact HG6.out⟩
      case measure => simp [intOf]; omega
    · obtain rfl : j = n := by omega
      have HL2 := hid (HLn.out j)
      generalize giveL kind os j = p at *
      obtain ⟨od, ms⟩ := p
      dsimp only at *
      obtain ⟨am, ao, ap⟩ := HG.out
      obtain ⟨A, c, rfl⟩ := Own.sl4 ao
      go_wp2
      refine bodyPost_ret (v := .tuple #[.slice A od.length c, .slice (some ⟨w.heap.size, 0, none⟩) os.length os.length]) (by simp [results, Try.results49, go_sem]) rfl ⟨ap, A, c, some ⟨w.heap.size, 0, none⟩, os.length, by rw [HL2.out], own_weak ao (by omega), ?_⟩
      unfold Own
      rw [HL2.out]
      exact own_weak am (by omega)

set_option maxRecDepth 100000 in
set_option maxHeartbeats 1000000 in
theorem rdivide_any (oa : Option Addr) (os : List Int) (oc : Nat) (n kind : Int) (w : World) (ho : Ints w oa os) :
  Calls Try.prog 18 #[.slice oa os.length oc, .int .i64 n, .int .i64 kind] w (ListE w (divL os n kind) (err (divE os n kind))) := by
  have HV := hid (ask_any oa os oc n kind w ho)
  cases hd : divE os n kind with
  | false =>
    have HD := hid (show divL os n kind = [] by rw [divL, hd]; rfl)
    rw [hd] at HV
    clear hd ho
    go_enter Try.func18, Try.ntmps18
    go_wp2_with fail
    refine HV.out.mono ?_
    rintro e w' ⟨rfl, rfl⟩
    rw [show err false = 1 from rfl]
    go_wp2
    go_ret2
    exact ⟨Below.refl _ _, none, 0, by rw [HD.out]; rfl, by rw [HD.out]; exact Own.nil _ _⟩
  | true =>
    obtain ⟨g1, g2, m, rfl, hm⟩ := divE_ok hd
    have HD := hid (show divL os (m : Int) kind = (giveL kind os m).2 by rw [divL, hd]; rfl)
    have HG := hid (given_any kind oa os oc m w ho g1 g2 hm)
    rw [hd] at HV
    clear hd ho g1 g2
    go_enter Try.func18, Try.ntmps18
    go_wp2_with fail
    refine HV.out.mono ?_
    rintro e w' ⟨rfl, rfl⟩
    rw [show err true = 0 from rfl]
    go_wp2_with fail
    refine HG.out.mono ?_
    rintro e w1 ⟨q1, A, c, B, d, rfl, o1, o2⟩
    go_wp2
    go_ret2
    exact ⟨q1, B, d, by rw [HD.out]; rfl, by rw [HD.out]; exact o2⟩

set_option maxRecDepth 100000 in
set_option maxHeartbeats 1000000 in
theorem rorder_any (oa : Option Addr) (os : List Int) (oc : Nat) (n kind : Int) (w : World) (ho : Ints w oa os) :
  Calls Try.prog 20 #[.slice oa os.length oc, .int .i64 n, .int .i64 kind] w (ListE w (ordL os n kind) (err (divE os n kind))) := by
  have HV := hid (ask_any oa os oc n kind w ho)
  cases hd : divE os n kind with
  | false =>
    have HD := hid (show ordL os n kind = [] by rw [ordL, hd]; rfl)
    rw [hd] at HV
    clear hd ho
    go_enter Try.func20, Try.ntmps20
    go_wp2_with fail
    refine HV.out.mono ?_
    rintro e w' ⟨rfl, rfl⟩
    rw [show err false = 1 from rfl]
    go_wp2
    go_ret2
    exact ⟨Below.refl _ _, none, 0, by rw [HD.out]; rfl, by rw [HD.out]; exact Own.nil _ _⟩
  | true =>
    obtain ⟨g1, g2, m, rfl, hm⟩ := divE_ok hd
    have HD := hid (show ordL os (m : Int) kind = (giveL kind os m).1 by rw [ordL, hd]; rfl)
    have HG := hid (given_any kind oa os oc m w ho g1 g2 hm)
    rw [hd] at HV
    clear hd ho g1 g2
    go_enter Try.func20, Try.ntmps20
    go_wp2_with fail
    refine HV.out.mono ?_
    rintro e w' ⟨rfl, rfl⟩
    rw [show err true = 0 from rfl]
    go_wp2_with fail
    refine HG.out.mono ?_
    rintro e w1 ⟨q1, A, c, B, d, rfl, o1, o2⟩
    go_wp2
    go_ret2
    exact ⟨q1, A, c, by rw [HD.out]; rfl, by rw [HD.out]; exact o1⟩
end Go.Proofs.Ytnjaacmcdkiilaa
