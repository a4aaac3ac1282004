/- Claimer, Giver, IsFair of package share. -/
import Derived.Test.YtnjaacmcdkiilaaShI
set_option linter.unusedVariables false
namespace Go.Proofs.Ytnjaacmcdkiilaa
open Go.RowKit

def goodV (os ms : List Int) (kind : Int) : Bool := okO os && okMs os ms && okK kind
theorem goodV_ok {os ms : List Int} {kind : Int} (h : goodV os ms kind = true) : okO os = true ∧ okMs os ms = true ∧ okK kind = true := by
  simp only [goodV, Bool.and_eq_true] at h
  exact ⟨h.1.1, h.1.2, h.2⟩
def claimerL (os ms : List Int) (kind : Int) : Int := if goodV os ms kind then (bestL kind os ms : Int) else 0
def heldL (kind : Int) (os ms : List Int) : List ClaimL := heldTo kind os ms os.length
def nextL (kind : Int) (os ms : List Int) : List ClaimL := nextTo kind os ms os.length
def lastMin (f : ClaimL → ClaimL → Int) (l : List ClaimL) : ClaimL := minTo f l (l.length - 1)
def lastMax (f : ClaimL → ClaimL → Int) (l : List ClaimL) : ClaimL := maxTo f l (l.length - 1)
def giverL (os ms : List Int) (kind : Int) : Int × Bool := if goodV os ms kind then (if heldL kind os ms = [] then (0, false) else ((lastMin rankL (heldL kind os ms)).1, true)) else (0, false)
def fairM (os ms : List Int) (kind : Int) : Bool := if heldL kind os ms = [] then true else decide (0 ≤ sizeL (lastMin sizeL (heldL kind os ms)) (lastMax sizeL (nextL kind os ms)))
def fairL (os ms : List Int) (kind : Int) : Bool := goodV os ms kind && fairM os ms kind

set_option maxRecDepth 100000 in
set_option maxHeartbeats 1000000 in
theorem Claimer_any (oa ma : Option Addr) (os ms : List Int) (oc mc : Nat) (kind : Int) (w : World) (ho : Ints w oa os) (hm : Ints w ma ms) :
  Calls Try.prog 25 #[.slice oa os.length oc, .slice ma ms.length mc, .int .i64 kind] w (fun en w' => Below w.heap.size w w' ∧ en = .returned (.tuple #[.int .i64 (claimerL os ms kind), .int .i64 (err (goodV os ms kind))])) := by
  have HV := hid (checkDivided_any oa ma os ms oc mc kind w ho hm)
  rw [show (okO os && okMs os ms && okK kind) = goodV os ms kind from rfl] at HV
  cases hd : goodV os ms kind with
  | false =>
    have HD := hid (show claimerL os ms kind = 0 by rw [claimerL, hd]; rfl)
    rw [hd] at HV
    clear hd ho hm
    go_enter Try.func25, Try.ntmps25
    go_wp2_with fail
    refine HV.out.mono ?_
    rintro e w' ⟨rfl, rfl⟩
    rw [show err false = 1 from rfl]
    go_wp2
    go_ret2
    exact ⟨Below.refl _ _, by rw [HD.out]; rfl⟩
  | true =>
    obtain ⟨g1, g2, g3⟩ := goodV_ok hd
    obtain ⟨K, u, hs⟩ := stepsV_form kind
    have HD := hid (show claimerL os ms kind = (bestL kind os ms : Int) by rw [claimerL, hd]; rfl)
    have HSt := hid (fun w' => stepsOf_any kind w' g3)
    have HC := hid (fun (w' : World) (hb : Below w.heap.size w w') => claimer_any kind oa ma os ms oc mc w' (ho.below hb) (hm.below hb) g1 g2 g3)
    rw [hs] at HSt HC
    rw [hd] at HV
    clear hd ho hm g1 g2 g3 hs
    go_enter Try.func25, Try.ntmps25
    go_wp2_with fail
    refine HV.out.mono ?_
    rintro e w' ⟨rfl, rfl⟩
    rw [show err true = 0 from rfl]
    go_wp2_with fail
    refine (HSt.out _).mono ?_
    rintro e w1 ⟨q1, rfl⟩
    go_wp2_with fail
    refine (HC.out _ q1).mono ?_
    rintro e w2 ⟨q2, rfl⟩
    have p2 := q1.trans (q2.mono q1.size)
    go_wp2
    go_ret2
    exact ⟨p2, by rw [HD.out]; rfl⟩

theorem heldL_ne {kind : Int} {os ms : List Int} (h : heldL kind os ms ≠ []) : 1 ≤ (heldL kind os ms).length := List.length_pos_iff.2 h

set_option maxRecDepth 100000 in
set_option maxHeartbeats 1000000 in
theorem Giver_any (oa ma : Option Addr) (os ms : List Int) (oc mc : Nat) (kind : Int) (w : World) (ho : Ints w oa os) (hm : Ints w ma ms) :
  Calls Try.prog 26 #[.slice oa os.length oc, .slice ma ms.length mc, .int .i64 kind] w (fun en w' => Below w.heap.size w w' ∧ en = .returned (.tuple #[.int .i64 (giverL os ms kind).1, .bool (giverL os ms kind).2, .int .i64 (err (goodV os ms kind))])) := by
  have HV := hid (checkDivided_any oa ma os ms oc mc kind w ho hm)
  rw [show (okO os && okMs os ms && okK kind) = goodV os ms kind from rfl] at HV
  cases hd : goodV os ms kind with
  | false =>
    have HD := hid (show giverL os ms kind = (0, false) by rw [giverL, hd]; rfl)
    rw [hd] at HV
    clear hd ho hm
    go_enter Try.func26, Try.ntmps26
    go_wp2_with fail
    refine HV.out.mono ?_
    rintro e w' ⟨rfl, rfl⟩
    rw [show err false = 1 from rfl]
    go_wp2
    refine bodyPost_ret (v := .tuple #[.int .i64 0, .bool false, .int .i64 1]) (by simp [results, Try.results26, go_sem]) rfl ⟨Below.refl _ _, by rw [HD.out]; rfl⟩
  | true =>
    obtain ⟨g1, g2, g3⟩ := goodV_ok hd
    obtain ⟨K, u, hs⟩ := stepsV_form kind
    have HSt := hid (fun w' => stepsOf_any kind w' g3)
    have HC := hid (fun (w' : World) (hb : Below w.heap.size w w') => held_any kind oa ma os ms oc mc w' (ho.below hb) (hm.below hb) g1 g2 g3)
    rw [show heldTo kind os ms os.length = heldL kind os ms from rfl] at HC
    have hgd : ∀ c ∈ heldL kind os ms, GoodC c := heldTo_good g1 g2 _ (Nat.le_refl _)
    have hlen8 : (heldL kind os ms).length ≤ os.length := heldTo_len _ _ _ _
    have h8 := (okO_len g1).2.1
    rw [hs] at HSt HC
    rw [hd] at HV
    by_cases hne : heldL kind os ms = []
    · have HD := hid (show giverL os ms kind = (0, false) by rw [giverL, hd, if_pos rfl, if_pos hne])
      rw [hne] at HC
      clear hd ho hm g1 g2 g3 hs hgd hne hlen8
      go_enter Try.func26, Try.ntmps26
      go_wp2_with fail
      refine HV.out.mono ?_
      rintro e w' ⟨rfl, rfl⟩
      rw [show err true = 0 from rfl]
      go_wp2_with fail
      refine (HSt.out _).mono ?_
      rintro e w1 ⟨q1, rfl⟩
      go_wp2_with fail
      refine (HC.out _ q1).mono ?_
      rintro e w2 ⟨q2, A, c, rfl, hA⟩
      have p2 := q1.trans (q2.mono q1.size)
      rw [List.length_nil]
      go_wp2
      refine bodyPost_ret (v := .tuple #[.int .i64 0, .bool false, .int .i64 0]) (by simp [results, Try.results26, go_sem]) rfl ⟨p2, by rw [HD.out]; rfl⟩
    · have HD := hid (show giverL os ms kind = ((lastMin rankL (heldL kind os ms)).1, true) by rw [giverL, hd, if_pos rfl, if_neg hne])
      have hl1 := heldL_ne hne
      have HMx := hid (fun (A : Option Addr) (c : Nat) (w' : World) (h : ClaimsAt w' A (heldL kind os ms)) => min_rank A (heldL kind os ms) c w' h hgd hl1)
      rw [show minTo rankL (heldL kind os ms) ((heldL kind os ms).length - 1) = lastMin rankL (heldL kind os ms) from rfl] at HMx
      clear hd ho hm g1 g2 g3 hs hgd hne
      generalize lastMin rankL (heldL kind os ms) = m at *
      generalize heldL kind os ms = l at *
      have hl1' : ((l.length : Int) == 0) = false := by rw [beq_eq_false_iff_ne]; omega
      have hfd := claim_field0 m.1 m.2.1 m.2.2
      go_enter Try.func26, Try.ntmps26
      go_wp2_with fail
      refine HV.out.mono ?_
      rintro e w' ⟨rfl, rfl⟩
      rw [show err true = 0 from rfl]
      go_wp2_with fail
      refine (HSt.out _).mono ?_
      rintro e w1 ⟨q1, rfl⟩
      go_wp2_with fail
      refine (HC.out _ q1).mono ?_
      rintro e w2 ⟨q2, A, c, rfl, hA⟩
      have p2 := q1.trans (q2.mono q1.size)
      go_wp2_with fail
      refine (HMx.out _ _ _ hA).mono ?_
      rintro e w3 ⟨q3, rfl⟩
      have p3 := p2.trans (q3.mono p2.size)
      go_wp2
      refine bodyPost_ret (v := .tuple #[.int .i64 m.1, .bool true, .int .i64 0]) (by simp [results, Try.results26, go_sem]) rfl ⟨p3, by rw [HD.out]; rfl⟩

set_option maxRecDepth 100000 in
set_option maxHeartbeats 2000000 in
theorem areFair_any (kind : Int) (oa ma : Option Addr) (os ms : List Int) (oc mc : Nat) (w : World) (ho : Ints w oa os) (hm : Ints w ma ms) (g1 : okO os = true) (g2 : okMs os ms = true) (g3 : okK kind = true) :
  Calls Try.prog 62 #[stepsV kind, .slice oa os.length oc, .slice ma ms.length mc] w (BoolR w (fairM os ms kind)) := by
  obtain ⟨K, u, hs⟩ := stepsV_form kind
  have hB0 := (Below.refl w.heap.size w).alloc (Nat.le_refl _) (.cells #[.func (.func K) #[] #[], .int .i64 u] 70)
  have c0 : (w.alloc (.cells #[.func (.func K) #[] #[], .int .i64 u] 70)).cell? ⟨w.heap.size, 0, none⟩ = some (.func (.func K) #[] #[]) := by go_simp
  have c1 : (w.alloc (.cells #[.func (.func K) #[] #[], .int .i64 u] 70)).cell? ⟨w.heap.size, 1, none⟩ = some (.int .i64 u) := by go_simp
  have HC0 := hid c0
  have HC1 := hid c1
  clear c0 c1
  have HC := hid (fun (w' : World) (hb : Below w.heap.size w w') => held_any kind oa ma os ms oc mc w' (ho.below hb) (hm.below hb) g1 g2 g3)
  have HNx := hid (fun (w' : World) (hb : Below w.heap.size w w') => next_any kind oa ma os ms oc mc w' (ho.below hb) (hm.below hb) g1 g2 g3)
  rw [show heldTo kind os ms os.length = heldL kind os ms from rfl] at HC
  rw [show nextTo kind os ms os.length = nextL kind os ms from rfl] at HNx
  have hgd : ∀ c ∈ heldL kind os ms, GoodC c := heldTo_good g1 g2 _ (Nat.le_refl _)
  have hgn : ∀ c ∈ nextL kind os ms, GoodC c := nextTo_good g1 g2 _ (Nat.le_refl _)
  have hlen8 : (heldL kind os ms).length ≤ os.length := heldTo_len _ _ _ _
  have hnl : (nextL kind os ms).length = os.length := nextTo_len _ _ _ _
  have h8 := (okO_len g1).2.1
  have h1 := (okO_len g1).1
  rw [hs] at HC HNx ⊢
  by_cases hne : heldL kind os ms = []
  · have HD := hid (show fairM os ms kind = true by rw [fairM, if_pos hne])
    rw [hne] at HC
    clear ho hm g1 g2 g3 hs hgd hne hlen8 hgn hnl HNx
    go_enter Try.func62, Try.ntmps62
    go_wp2_with fail
    refine (HC.out _ hB0).mono ?_
    rintro e w1 ⟨q1, A, c, rfl, hA⟩
    have p1 := hB0.trans (q1.mono (by simp))
    rw [List.length_nil]
    go_wp2
    go_ret
    exact ⟨p1, by rw [HD.out]; rfl⟩
  · have HD := hid (show fairM os ms kind = decide (0 ≤ sizeL (lastMin sizeL (heldL kind os ms)) (lastMax sizeL (nextL kind os ms))) by rw [fairM, if_neg hne])
    have hl1 := heldL_ne hne
    have HMn := hid (fun (A : Option Addr) (c : Nat) (w' : World) (h : ClaimsAt w' A (heldL kind os ms)) => min_size A (heldL kind os ms) c w' h hgd hl1)
    have HMx := hid (fun (A : Option Addr) (c : Nat) (w' : World) (h : ClaimsAt w' A (nextL kind os ms)) => max_size A (nextL kind os ms) c w' h hgn (by omega))
    rw [show minTo sizeL (heldL kind os ms) ((heldL kind os ms).length - 1) = lastMin sizeL (heldL kind os ms) from rfl] at HMn
    rw [show maxTo sizeL (nextL kind os ms) ((nextL kind os ms).length - 1) = lastMax sizeL (nextL kind os ms) from rfl] at HMx
    have gm : GoodC (lastMin sizeL (heldL kind os ms)) := hgd _ (minTo_mem _ _ _ (by omega))
    have gx : GoodC (lastMax sizeL (nextL kind os ms)) := hgn _ (maxTo_mem _ _ _ (by omega))
    rw [hnl] at HMx
    have HL := hid hnl
    clear ho hm g1 g2 g3 hs hgd hne hgn hnl
    generalize lastMin sizeL (heldL kind os ms) = m at *
    generalize lastMax sizeL (nextL kind os ms) = x at *
    generalize heldL kind os ms = l at *
    generalize nextL kind os ms = ln at *
    obtain ⟨s1, v1, t1⟩ := m
    obtain ⟨s2, v2, t2⟩ := x
    have HZ := hid (show ∀ w : World, Calls Try.prog 65 #[.agg #[.int .i64 s1, .int .i64 v1, .int .i64 t1], .agg #[.int .i64 s2, .int .i64 v2, .int .i64 t2]] w (IntR w (sizeL (s1, v1, t1) (s2, v2, t2))) from fun w => size_any s1 v1 t1 s2 v2 t2 w gm gx)
    generalize sizeL (s1, v1, t1) (s2, v2, t2) = z at *
    clear gm gx
    have hl1' : ((l.length : Int) == 0) = false := by rw [beq_eq_false_iff_ne]; omega
    go_enter Try.func62, Try.ntmps62
    go_wp2_with fail
    refine (HC.out _ hB0).mono ?_
    rintro e w1 ⟨q1, A, c, rfl, hA⟩
    have p1 := hB0.trans (q1.mono (by simp))
    have hs1 := p1.size
    have HC0 := hid ((q1.cell (by simp)).trans HC0.out)
    have HC1 := hid ((q1.cell (by simp)).trans HC1.out)
    go_wp2_with fail
    refine (HMn.out _ _ _ hA).mono ?_
    rintro e w2 ⟨q2, rfl⟩
    have q2 := q2.alloc q2.size (.cells #[.int .i64 s1, .int .i64 v1, .int .i64 t1] 76)
    have p2 := p1.trans (q2.mono p1.size)
    have hw1 : w.heap.size < w1.heap.size := cell_lt HC0.out
    have d0 : (w2.alloc (.cells #[.int .i64 s1, .int .i64 v1, .int .i64 t1] 76)).cell? ⟨w.heap.size, 0, none⟩ = some (.func (.func K) #[] #[]) := (q2.cell hw1).trans HC0.out
    have d1 : (w2.alloc (.cells #[.int .i64 s1, .int .i64 v1, .int .i64 t1] 76)).cell? ⟨w.heap.size, 1, none⟩ = some (.int .i64 u) := (q2.cell hw1).trans HC1.out
    have e0 : (w2.alloc (.cells #[.int .i64 s1, .int .i64 v1, .int .i64 t1] 76)).cell? ⟨w2.heap.size, 0, none⟩ = some (.int .i64 s1) := by go_simp
    have e1 : (w2.alloc (.cells #[.int .i64 s1, .int .i64 v1, .int .i64 t1] 76)).cell? ⟨w2.heap.size, 1, none⟩ = some (.int .i64 v1) := by go_simp
    have e2 : (w2.alloc (.cells #[.int .i64 s1, .int .i64 v1, .int .i64 t1] 76)).cell? ⟨w2.heap.size, 2, none⟩ = some (.int .i64 t1) := by go_simp
    have hs2 := p2.size
    clear q1 q2
    go_wp2_with fail
    refine (HNx.out _ p2).mono ?_
    rintro e w3 ⟨q3, A3, c3, rfl, hA3⟩
    have p3 := p2.trans (q3.mono p2.size)
    rw [HL.out]
    rw [← q3.cell (by simp)] at e0 e1 e2
    clear d0 d1
    go_wp2_with fail
    refine (HMx.out _ _ _ hA3).mono ?_
    rintro e w4 ⟨q4, rfl⟩
    have p4 := p3.trans (q4.mono p3.size)
    rw [← q4.cell (cell_lt e0)] at e0
    rw [← q4.cell (cell_lt e1)] at e1
    rw [← q4.cell (cell_lt e2)] at e2
    have p5 := p4.alloc p4.size (.cells #[.int .i64 s2, .int .i64 v2, .int .i64 t2] 76)
    have hw2 := cell_lt e0
    clear q3 q4 hA hA3 p1 p2 p3
    go_wp2_with fail
    refine (HZ.out _).mono ?_
    rintro e w5 ⟨q5, rfl⟩
    have p6 := p5.trans (q5.mono p5.size)
    go_wp2
    go_ret
    exact ⟨p6, by rw [HD.out]; rfl⟩

set_option maxRecDepth 100000 in
set_option maxHeartbeats 1000000 in
theorem isFair_any (oa ma : Option Addr) (os ms : List Int) (oc mc : Nat) (kind : Int) (w : World) (ho : Ints w oa os) (hm : Ints w ma ms) :
  Calls Try.prog 29 #[.slice oa os.length oc, .slice ma ms.length mc, .int .i64 kind] w (fun en w' => Below w.heap.size w w' ∧ en = .returned (.tuple #[.bool (fairL os ms kind), .int .i64 (err (goodV os ms kind))])) := by
  have HV := hid (checkDivided_any oa ma os ms oc mc kind w ho hm)
  rw [show (okO os && okMs os ms && okK kind) = goodV os ms kind from rfl] at HV
  cases hd : goodV os ms kind with
  | false =>
    have HD := hid (show fairL os ms kind = false by rw [fairL, hd]; rfl)
    rw [hd] at HV
    clear hd ho hm
    go_enter Try.func29, Try.ntmps29
    go_wp2_with fail
    refine HV.out.mono ?_
    rintro e w' ⟨rfl, rfl⟩
    rw [show err false = 1 from rfl]
    go_wp2
    go_ret2
    exact ⟨Below.refl _ _, by rw [HD.out]; rfl⟩
  | true =>
    obtain ⟨g1, g2, g3⟩ := goodV_ok hd
    obtain ⟨K, u, hs⟩ := stepsV_form kind
    have HD := hid (show fairL os ms kind = fairM os ms kind by rw [fairL, hd]; rfl)
    have HSt := hid (fun w' => stepsOf_any kind w' g3)
    have HC := hid (fun (w' : World) (hb : Below w.heap.size w w') => areFair_any kind oa ma os ms oc mc w' (ho.below hb) (hm.below hb) g1 g2 g3)
    rw [hs] at HSt HC
    rw [hd] at HV
    clear hd ho hm g1 g2 g3 hs
    go_enter Try.func29, Try.ntmps29
    go_wp2_with fail
    refine HV.out.mono ?_
    rintro e w' ⟨rfl, rfl⟩
    rw [show err true = 0 from rfl]
    go_wp2_with fail
    refine (HSt.out _).mono ?_
    rintro e w1 ⟨q1, rfl⟩
    go_wp2_with fail
    refine (HC.out _ q1).mono ?_
    rintro e w2 ⟨q2, rfl⟩
    have p2 := q1.trans (q2.mono q1.size)
    go_wp2
    go_ret2
    exact ⟨p2, by rw [HD.out]; rfl⟩
end Go.Proofs.Ytnjaacmcdkiilaa
