/- The document's own Claimer, Giver, IsFair of chapter 4. -/
import Derived.Test.YtegeojlmpjepjaaShS
import Derived.Test.YtegeojlmpjepjaaShOrdM
import Derived.Deep.DeepCutAuto
set_option linter.unusedVariables false
namespace Go.Proofs.Ytegeojlmpjepjaa
open Go.RowKit

set_option maxRecDepth 100000 in
set_option maxHeartbeats 1000000 in
theorem rClaimer_any (oa ma : Option Addr) (os ms : List Int) (oc mc : Nat) (kind : Int) (w : World) (ho : Ints w oa os) (hm : Ints w ma ms) :
  Calls Try.prog 26 #[.slice oa os.length oc, .slice ma ms.length mc, .int .i64 kind] w (fun en w' => Below w.heap.size w w' ∧ en = .returned (.tuple #[.int .i64 (claimerL os ms kind), .int .i64 (err (goodV os ms kind))])) := by
  have HV := hid (have_any oa ma os ms oc mc kind w ho hm)
  rw [show (okO os && okMs os ms && okK kind) = goodV os ms kind from rfl] at HV
  cases hd : goodV os ms kind with
  | false =>
    have HD := hid (show claimerL os ms kind = 0 by rw [claimerL, hd]; rfl)
    rw [hd] at HV
    clear hd ho hm
    go_enter Try.func26, Try.ntmps26
    go_wp2_with fail
    refine HV.out.mono ?_
    rintro e w' ⟨rfl, rfl⟩
    rw [show err false = 1 from rfl]
    go_wp2
    go_ret2
    exact ⟨Below.refl _ _, by rw [HD.out]; rfl⟩
  | true =>
    obtain ⟨g1, g2, g3⟩ := goodV_ok hd
    have HD := hid (show claimerL os ms kind = (bestL kind os ms : Int) by rw [claimerL, hd]; rfl)
    have HC := hid (rclaimer_any kind oa ma os ms oc mc w ho hm g1 g2 g3)
    rw [hd] at HV
    clear hd ho hm g1 g2 g3
    go_enter Try.func26, Try.ntmps26
    go_wp2_with fail
    refine HV.out.mono ?_
    rintro e w' ⟨rfl, rfl⟩
    rw [show err true = 0 from rfl]
    go_wp2_with fail
    refine HC.out.mono ?_
    rintro e w2 ⟨q2, rfl⟩
    go_wp2
    go_ret2
    exact ⟨q2, by rw [HD.out]; rfl⟩

/-- The document's own search for who gives back first: the number of the school plus one, 0 if there is none. -/
def giveTo (kind : Int) (os ms : List Int) : Nat → Int
  | 0 => -1
  | k + 1 => if 0 < at0 ms k ∧ (giveTo kind os ms k < 0 ∨ szC (at0 os k) (stepV kind (at0 ms k - 1)) (at0 os (giveTo kind os ms k).toNat) (stepV kind (at0 ms (giveTo kind os ms k).toNat - 1)) ≤ 0) then (k : Int) else giveTo kind os ms k
/-- What the search holds on to. -/
theorem giveTo_spec {kind : Int} {os ms : List Int} (ho : okO os = true) (hm : okMs os ms = true) (k : Nat) (hk : k ≤ os.length) :
    (giveTo kind os ms k = -1 ∧ heldTo kind os ms k = []) ∨ ∃ j : Nat, j < k ∧ giveTo kind os ms k = (j : Int) ∧ 0 < at0 ms j ∧ ∀ c ∈ heldTo kind os ms k, 0 ≤ rankL c (heldC kind os ms j) := by
  induction k with
  | zero => exact .inl ⟨rfl, rfl⟩
  | succ k ih =>
    have ih := ih (by omega)
    rw [giveTo, heldTo]
    by_cases hp : 0 < at0 ms k
    · rw [if_pos hp]
      have hgk := heldC_good (kind := kind) ho hm (by omega : k < os.length) hp
      rcases ih with ⟨h1, h2⟩ | ⟨j, hj, h1, h2, h3⟩
      · right
        rw [h1, if_pos ⟨hp, .inl (by omega)⟩]
        refine ⟨k, by omega, rfl, hp, fun c hc => ?_⟩
        rw [h2] at hc
        simp at hc
        subst hc
        rw [rankL_self]; omega
      · right
        rw [h1, Int.toNat_natCast]
        have hgj := heldC_good (kind := kind) ho hm (by omega : j < os.length) h2
        have hs : szC (at0 os k) (stepV kind (at0 ms k - 1)) (at0 os j) (stepV kind (at0 ms j - 1)) = sizeL (heldC kind os ms k) (heldC kind os ms j) := rfl
        rw [hs]
        by_cases hz : sizeL (heldC kind os ms k) (heldC kind os ms j) ≤ 0
        · rw [if_pos ⟨hp, .inr hz⟩]
          refine ⟨k, by omega, rfl, hp, fun c hc => ?_⟩
          have hr : 0 ≤ rankL (heldC kind os ms j) (heldC kind os ms k) := by
            have hn := sizeL_neg (heldC kind os ms k) (heldC kind os ms j)
            unfold rankL
            split
            · rw [cmpI_ge]; simp only [heldC]; omega
            · omega
          rcases List.mem_append.1 hc with hc | hc
          · have hgc := heldTo_good (kind := kind) ho hm k (by omega) c hc
            exact rankL_trans hgc hgj hgk (h3 c hc) hr
          · simp at hc; subst hc; rw [rankL_self]; omega
        · rw [if_neg (by rintro ⟨_, h | h⟩ <;> omega)]
          refine ⟨j, by omega, rfl, h2, fun c hc => ?_⟩
          rcases List.mem_append.1 hc with hc | hc
          · exact h3 c hc
          · simp at hc; subst hc
            have := rankL_pos (c := heldC kind os ms k) (d := heldC kind os ms j) (by omega)
            omega
    · rw [if_neg hp, if_neg (fun h => hp h.1)]
      rcases ih with h | ⟨j, hj, h1, h2, h3⟩
      · exact .inl h
      · exact .inr ⟨j, by omega, h1, h2, h3⟩
theorem giver_give {kind : Int} {os ms : List Int} (ho : okO os = true) (hm : okMs os ms = true) : (heldL kind os ms = [] ∧ giveTo kind os ms os.length = -1) ∨ (heldL kind os ms ≠ [] ∧ 0 ≤ giveTo kind os ms os.length ∧ (lastMin rankL (heldL kind os ms)).1 = giveTo kind os ms os.length) := by
  rcases giveTo_spec (kind := kind) ho hm os.length (Nat.le_refl _) with ⟨h1, h2⟩ | ⟨j, hj, h1, h2, h3⟩
  · exact .inl ⟨h2, h1⟩
  · right
    have hmem : heldC kind os ms j ∈ heldL kind os ms := (heldTo_mem _ _ _ _ _).2 ⟨j, hj, h2, rfl⟩
    have hne : heldL kind os ms ≠ [] := fun h => by rw [h] at hmem; cases hmem
    have hl1 := heldL_ne hne
    have hgd : ∀ c ∈ heldL kind os ms, GoodC c := heldTo_good ho hm _ (Nat.le_refl _)
    refine ⟨hne, by omega, ?_⟩
    obtain ⟨p, hp, hpe⟩ := mem_clAt hmem
    have hle := minTo_le (f := rankL) rankL_neg (fun c d e a b c' => rankL_trans a b c') hgd ((heldL kind os ms).length - 1) (by omega) p (by omega)
    rw [hpe, show minTo rankL (heldL kind os ms) ((heldL kind os ms).length - 1) = lastMin rankL (heldL kind os ms) from rfl] at hle
    have hx : lastMin rankL (heldL kind os ms) ∈ heldL kind os ms := minTo_mem _ _ _ (by omega)
    have h4 := h3 _ hx
    have hn := rankL_neg (heldC kind os ms j) (lastMin rankL (heldL kind os ms))
    have := rankL_zero (c := heldC kind os ms j) (d := lastMin rankL (heldL kind os ms)) (by omega)
    rw [h1, ← this]; rfl
theorem giverL_give {kind : Int} {os ms : List Int} (hd : goodV os ms kind = true) : giverL os ms kind = if giveTo kind os ms os.length < 0 then (0, false) else (giveTo kind os ms os.length, true) := by
  obtain ⟨g1, g2, g3⟩ := goodV_ok hd
  rw [giverL, if_pos hd]
  rcases giver_give (kind := kind) g1 g2 with ⟨h1, h2⟩ | ⟨h1, h2, h3⟩
  · rw [if_pos h1, if_pos (by omega)]
  · rw [if_neg h1, if_neg (by omega), h3]

def FairP (kind : Int) (os ms : List Int) (i k : Nat) : Prop := i ≠ k → 0 < at0 ms i → 0 ≤ sizeL (heldC kind os ms i) (nextC kind os ms k)
theorem lastMax_mem {f : ClaimL → ClaimL → Int} {l : List ClaimL} (h : 1 ≤ l.length) : lastMax f l ∈ l := maxTo_mem f l _ (by omega)
theorem lastMin_mem {f : ClaimL → ClaimL → Int} {l : List ClaimL} (h : 1 ≤ l.length) : lastMin f l ∈ l := minTo_mem f l _ (by omega)
theorem nextL_len (kind : Int) (os ms : List Int) : (nextL kind os ms).length = os.length := nextTo_len _ _ _ _
theorem nextL_mem {kind : Int} {os ms : List Int} {c : ClaimL} (h : c ∈ nextL kind os ms) : ∃ k, k < os.length ∧ c = nextC kind os ms k := by
  obtain ⟨j, hj, rfl⟩ := mem_clAt h
  rw [nextL_len] at hj
  exact ⟨j, hj, nextTo_at _ _ _ _ _ hj⟩
theorem nextC_mem (kind : Int) (os ms : List Int) {k : Nat} (h : k < os.length) : nextC kind os ms k ∈ nextL kind os ms := by
  rw [← nextTo_at kind os ms os.length k h]
  exact clAt_mem (nextL kind os ms) _ (by rw [nextL_len]; exact h)
theorem lastMin_le {l : List ClaimL} (hg : ∀ c ∈ l, GoodC c) {c : ClaimL} (hc : c ∈ l) : 0 ≤ sizeL c (lastMin sizeL l) := by
  obtain ⟨j, hj, rfl⟩ := mem_clAt hc
  exact minTo_le (f := sizeL) sizeL_neg (fun c d e a b c' => sizeL_trans a b c') hg (l.length - 1) (by omega) j (by omega)
theorem lastMax_ge {l : List ClaimL} (hg : ∀ c ∈ l, GoodC c) {c : ClaimL} (hc : c ∈ l) : 0 ≤ sizeL (lastMax sizeL l) c := by
  obtain ⟨j, hj, rfl⟩ := mem_clAt hc
  exact maxTo_ge (f := sizeL) sizeL_neg (fun c d e a b c' => sizeL_trans a b c') hg (l.length - 1) (by omega) j (by omega)
theorem falls_size {kind : Int} {os ms : List Int} (ho : okO os = true) (hm : okMs os ms = true) {k : Nat} (hk : k < os.length) (hp : 0 < at0 ms k) : 0 < sizeL (heldC kind os ms k) (nextC kind os ms k) := by
  have g := heldC_good (kind := kind) ho hm hk hp
  refine szC_falls (by have := g.2.1; omega) g.2.2.1 ?_
  have := stepV_lt (kind := kind) (k := at0 ms k - 1) (by omega)
  rw [Int.sub_add_cancel] at this
  exact this
theorem fair_iff {kind : Int} {os ms : List Int} (ho : okO os = true) (hm : okMs os ms = true) : fairM os ms kind = true ↔ ∀ i k, i < os.length → k < os.length → FairP kind os ms i k := by
  have h1 := (okO_len ho).1
  have hgh : ∀ c ∈ heldL kind os ms, GoodC c := heldTo_good ho hm _ (Nat.le_refl _)
  have hgn : ∀ c ∈ nextL kind os ms, GoodC c := nextTo_good ho hm _ (Nat.le_refl _)
  have hnl := nextL_len kind os ms
  have hxm := lastMax_mem (f := sizeL) (l := nextL kind os ms) (by omega)
  unfold fairM
  by_cases hne : heldL kind os ms = []
  · rw [if_pos hne]
    refine ⟨fun _ i k hi hk _ hp => ?_, fun _ => rfl⟩
    have hmem : heldC kind os ms i ∈ heldL kind os ms := (heldTo_mem _ _ _ _ _).2 ⟨i, hi, hp, rfl⟩
    rw [hne] at hmem; cases hmem
  · rw [if_neg hne, decide_eq_true_iff]
    have hl1 := heldL_ne hne
    have hnm := lastMin_mem (f := sizeL) hl1
    constructor
    · intro h i k hi hk _ hp
      have hmem : heldC kind os ms i ∈ heldL kind os ms := (heldTo_mem _ _ _ _ _).2 ⟨i, hi, hp, rfl⟩
      have hmk := nextC_mem kind os ms hk
      exact sizeL_trans (hgh _ hmem) (hgh _ hnm) (hgn _ hmk) (lastMin_le hgh hmem) (sizeL_trans (hgh _ hnm) (hgn _ hxm) (hgn _ hmk) h (lastMax_ge hgn hmk))
    · intro h
      obtain ⟨i, hi, hp, e1⟩ := (heldTo_mem _ _ _ _ _).1 hnm
      obtain ⟨k, hk, e2⟩ := nextL_mem hxm
      rw [e1, e2]
      by_cases hik : i = k
      · subst hik
        have := falls_size (kind := kind) ho hm hk hp
        omega
      · exact h i k hi hk hik hp

set_option maxRecDepth 100000 in
set_option maxHeartbeats 4000000 in
theorem rGiver_ok (oa ma : Option Addr) (os ms : List Int) (oc mc : Nat) (kind : Int) (w : World) (ho : Ints w oa os) (hm : Ints w ma ms) (hd : goodV os ms kind = true) :
  Calls Try.prog 28 #[.slice oa os.length oc, .slice ma ms.length mc, .int .i64 kind] w (fun en w' => Below w.heap.size w w' ∧ en = .returned (.tuple #[.int .i64 (giverL os ms kind).1, .bool (giverL os ms kind).2, .int .i64 (err (goodV os ms kind))])) := by
  have HV := hid (have_any oa ma os ms oc mc kind w ho hm)
  rw [show (okO os && okMs os ms && okK kind) = goodV os ms kind from rfl, hd] at HV
  obtain ⟨g1, g2, g3⟩ := goodV_ok hd
  have HGv := hid (giverL_give hd)
  obtain ⟨h1, h2, h3⟩ := okO_len g1
  obtain ⟨g4, g5⟩ := okMs_len g2
  have HOb := hid (fun k hk => allIn_at h3 k hk)
  have HMb := hid (fun k hk => allIn_at g5 k hk)
  have HSp := hid (fun k hk => giveTo_spec (kind := kind) g1 g2 k hk)
  have HK := hid g3
  have g4a : ms.length ≤ os.length := by omega
  have g4b : os.length ≤ ms.length := by omega
  have HO := hid ho
  have HM := hid hm
  rw [hd]
  clear g4 g1 g2 g3 h3 g5 ho hm hd
  go_enter Try.func28, Try.ntmps28
  go_wp2_with fail
  refine HV.out.mono ?_
  rintro e w' ⟨rfl, rfl⟩
  rw [show err true = 0 from rfl]
  go_wp2
  go_loopw [10, 11] (fun b i wr => ∃ (j : Nat), j ≤ os.length ∧ i = .int .i64 (j : Int) ∧ b = .int .i64 (giveTo kind os ms j) ∧ Below w.heap.size w wr) (fun _ i _ => os.length - (intOf i).toNat)
  case atStart => exact ⟨0, Nat.zero_le _, rfl, rfl, Below.refl _ _⟩
  case round =>
    obtain ⟨j, hj, rfl, rfl, hB⟩ := hrel
    by_cases hlt : j < os.length
    · rcases HO.out.at_ with e | ⟨b, off, rfl, hc⟩
      · rw [e] at hlt; simp at hlt
      rcases HM.out.at_ with e | ⟨bm, om, rfl, hcm⟩
      · rw [e, List.length_nil] at g4b; omega
      have HN := hid (show giveTo kind os ms (j + 1) = if 0 < at0 ms j ∧ (giveTo kind os ms j < 0 ∨ szC (at0 os j) (stepV kind (at0 ms j - 1)) (at0 os (giveTo kind os ms j).toNat) (stepV kind (at0 ms (giveTo kind os ms j).toNat - 1)) ≤ 0) then (j : Int) else giveTo kind os ms j from rfl)
      have hsp := HSp.out j hj
      have d0 := hc j hlt
      have d1 := hcm j (by omega)
      have b0 := HOb.out j hlt
      have b1 := HMb.out j (by omega)
      have c0 : wr.cell? ⟨b, off + j, none⟩ = some (.int .i64 (os[j]?.getD 0)) := by rw [hB.cell (cell_lt d0)]; exact d0
      have c1 : wr.cell? ⟨bm, om + j, none⟩ = some (.int .i64 (ms[j]?.getD 0)) := by rw [hB.cell (cell_lt d1)]; exact d1
      have hj0 : (0 : Int) ≤ (j : Int) := Int.natCast_nonneg _
      have hj2 : (j : Int) < (os.length : Int) := by omega
      have hj3 : (j : Int) < (ms.length : Int) := by omega
      clear d0 d1
      by_cases hp : 0 < ms[j]?.getD 0
      · rcases hsp with ⟨hg, _⟩ | ⟨m, hmj, hg, hpm, _⟩
        · have HX := hid (show giveTo kind os ms (j + 1) = (j : Int) by rw [HN.out, if_pos ⟨hp, .inl (by omega)⟩])
          rw [hg]
          clear hc hcm HN hg
          generalize os[j]?.getD 0 = v at *
          generalize ms[j]?.getD 0 = k at *
          go_wp2
          go_quiet (fail)
          have q : Below w.heap.size w (wr.drewN nq) := below_dn hB _
          go_wp2
          go_roundw
          case rel => exact ⟨j + 1, by omega, by go_num, by rw [HX.out], q⟩
          case measure => simp [intOf]; omega
        · rw [hg] at HN ⊢
          rw [Int.toNat_natCast] at HN
          have d2 := hc m (by omega)
          have d3 := hcm m (by omega)
          have b2 := HOb.out m (by omega)
          have b3 := HMb.out m (by omega)
          have c2 : wr.cell? ⟨b, off + m, none⟩ = some (.int .i64 (os[m]?.getD 0)) := by rw [hB.cell (cell_lt d2)]; exact d2
          have c3 : wr.cell? ⟨bm, om + m, none⟩ = some (.int .i64 (ms[m]?.getD 0)) := by rw [hB.cell (cell_lt d3)]; exact d3
          clear d2 d3 hc hcm hg
          unfold at0 at HN hpm
          generalize os[j]?.getD 0 = v at *
          generalize ms[j]?.getD 0 = k at *
          generalize os[m]?.getD 0 = u at *
          generalize ms[m]?.getD 0 = l at *
          have HC := hid (fun w => rcompare_any kind v (k - 1) u (l - 1) w HK.out b0.1 b0.2 b2.1 b2.2 (by omega) (by omega) (by omega) (by omega))
          generalize szC v (stepV kind (k - 1)) u (stepV kind (l - 1)) = z at *
          have hm0 : (0 : Int) ≤ (m : Int) := Int.natCast_nonneg _
          have hm2 : (m : Int) < (os.length : Int) := by omega
          have hm3 : (m : Int) < (ms.length : Int) := by omega
          have hw1 : IntKind.i64.wrap (k - 1) = k - 1 := IntWalk.i64_in _ (by omega)
          have hw2 : IntKind.i64.wrap (l - 1) = l - 1 := IntWalk.i64_in _ (by omega)
          have hmn : decide ((m : Int) < 0) = false := by simp <;> omega
          by_cases hz : z ≤ 0
          · have HX := hid (show giveTo kind os ms (j + 1) = (j : Int) by rw [HN.out, if_pos ⟨hp, .inr hz⟩])
            clear HN
            go_wp2_with fail
            go_quiet ((go_at_call 60; exact Calls.quiet_of_same ((HC.out _).mono fun _ _ h => ⟨h.2, h.1.symm⟩)))
            have q : Below w.heap.size w (wr.drewN nq) := below_dn hB _
            go_wp2
            go_roundw
            case rel => exact ⟨j + 1, by omega, by go_num, by rw [HX.out], q⟩
            case measure => simp [intOf]; omega
          · have HX := hid (show giveTo kind os ms (j + 1) = (m : Int) by rw [HN.out, if_neg (by rintro ⟨_, h | h⟩ <;> omega)])
            have hz' : 0 < z := by omega
            have hzd : decide (z ≤ 0) = false := by simp; omega
            clear HN hz
            go_wp2_with fail
            go_quiet ((go_at_call 60; exact Calls.quiet_of_same ((HC.out _).mono fun _ _ h => ⟨h.2, h.1.symm⟩)))
            have q : Below w.heap.size w (wr.drewN nq) := below_dn hB _
            go_wp2
            go_roundw
            case rel => exact ⟨j + 1, by omega, by go_num, by rw [HX.out], q⟩
            case measure => simp [intOf]; omega
      · have HX := hid (show giveTo kind os ms (j + 1) = giveTo kind os ms j by rw [HN.out, if_neg (fun h => hp h.1)])
        have hp' : ms[j]?.getD 0 ≤ 0 := by omega
        have hpd : decide (0 < ms[j]?.getD 0) = false := by simp; omega
        clear hc hcm HN hp hsp
        generalize os[j]?.getD 0 = v at *
        generalize ms[j]?.getD 0 = k at *
        generalize giveTo kind os ms j = g at *
        go_wp2
        go_quiet (fail)
        have q : Below w.heap.size w (wr.drewN nq) := below_dn hB _
        go_wp2
        go_roundw
        case rel => exact ⟨j + 1, by omega, by go_num, by rw [HX.out], q⟩
        case measure => simp [intOf]; omega
    · obtain rfl : j = os.length := by omega
      generalize giveTo kind os ms os.length = g at *
      by_cases hg : g < 0
      · have HX := hid (show giverL os ms kind = (0, false) by rw [HGv.out, if_pos hg])
        go_wp2
        refine bodyPost_ret (v := .tuple #[.int .i64 0, .bool false, .int .i64 0]) (by simp [results, Try.results28, go_sem]) rfl ⟨hB, by rw [HX.out]; rfl⟩
      · have HX := hid (show giverL os ms kind = (g, true) by rw [HGv.out, if_neg hg])
        have hg' : 0 ≤ g := by omega
        clear hg
        go_wp2
        refine bodyPost_ret (v := .tuple #[.int .i64 g, .bool true, .int .i64 0]) (by simp [results, Try.results28, go_sem]) rfl ⟨hB, by rw [HX.out]; rfl⟩

set_option maxRecDepth 100000 in
set_option maxHeartbeats 1000000 in
theorem rGiver_any (oa ma : Option Addr) (os ms : List Int) (oc mc : Nat) (kind : Int) (w : World) (ho : Ints w oa os) (hm : Ints w ma ms) :
  Calls Try.prog 28 #[.slice oa os.length oc, .slice ma ms.length mc, .int .i64 kind] w (fun en w' => Below w.heap.size w w' ∧ en = .returned (.tuple #[.int .i64 (giverL os ms kind).1, .bool (giverL os ms kind).2, .int .i64 (err (goodV os ms kind))])) := by
  cases hd : goodV os ms kind with
  | true => rw [← hd]; exact rGiver_ok oa ma os ms oc mc kind w ho hm hd
  | false =>
    have HV := hid (have_any oa ma os ms oc mc kind w ho hm)
    rw [show (okO os && okMs os ms && okK kind) = goodV os ms kind from rfl] at HV
    have HD := hid (show giverL os ms kind = (0, false) by rw [giverL, hd]; rfl)
    rw [hd] at HV
    clear hd ho hm
    go_enter Try.func28, Try.ntmps28
    go_wp2_with fail
    refine HV.out.mono ?_
    rintro e w' ⟨rfl, rfl⟩
    rw [show err false = 1 from rfl]
    go_wp2
    refine bodyPost_ret (v := .tuple #[.int .i64 0, .bool false, .int .i64 1]) (by simp [results, Try.results28, go_sem]) rfl ⟨Below.refl _ _, by rw [HD.out]; rfl⟩

set_option maxRecDepth 100000 in
set_option maxHeartbeats 8000000 in
theorem rIsFair_ok (oa ma : Option Addr) (os ms : List Int) (oc mc : Nat) (kind : Int) (w : World) (ho : Ints w oa os) (hm : Ints w ma ms) (hd : goodV os ms kind = true) :
  Calls Try.prog 30 #[.slice oa os.length oc, .slice ma ms.length mc, .int .i64 kind] w (fun en w' => Below w.heap.size w w' ∧ en = .returned (.tuple #[.bool (fairM os ms kind), .int .i64 0])) := by
  have HV := hid (have_any oa ma os ms oc mc kind w ho hm)
  rw [show (okO os && okMs os ms && okK kind) = goodV os ms kind from rfl, hd] at HV
  obtain ⟨g1, g2, g3⟩ := goodV_ok hd
  obtain ⟨h1, h2, h3⟩ := okO_len g1
  obtain ⟨g4, g5⟩ := okMs_len g2
  have HOb := hid (fun k hk => allIn_at h3 k hk)
  have HMb := hid (fun k hk => allIn_at g5 k hk)
  have HF := hid (fair_iff (kind := kind) g1 g2)
  have HK := hid g3
  have g4a : ms.length ≤ os.length := by omega
  have g4b : os.length ≤ ms.length := by omega
  have HO := hid ho
  have HM := hid hm
  clear g4 g1 g2 g3 h3 g5 ho hm hd
  go_enter Try.func30, Try.ntmps30
  go_wp2_with fail
  refine HV.out.mono ?_
  rintro e w' ⟨rfl, rfl⟩
  rw [show err true = 0 from rfl]
  go_wp2
  go_loopw [9, 10] (fun i _ wr => ∃ (j : Nat), j ≤ os.length ∧ i = .int .i64 (j : Int) ∧ Hid (∀ i k, i < j → k < os.length → FairP kind os ms i k) ∧ Below w.heap.size w wr) (fun i _ _ => os.length - (intOf i).toNat)
  case atStart => exact ⟨0, Nat.zero_le _, rfl, fun i k hi => by omega, Below.refl _ _⟩
  case round =>
    obtain ⟨j, hj, rfl, HP, hB⟩ := hrel
    by_cases hlt : j < os.length
    · have hj0 : (0 : Int) ≤ (j : Int) := Int.natCast_nonneg _
      have hj2 : (j : Int) < (os.length : Int) := by omega
      have hj3 : (j : Int) < (ms.length : Int) := by omega
      go_wp2
      obtain ⟨wo, rfl⟩ : ∃ wo : World, wo = wr := ⟨_, rfl⟩
      go_loopw [10] (fun i wr => ∃ (q : Nat), q ≤ os.length ∧ i = .int .i64 (q : Int) ∧ Hid (∀ k, k < q → FairP kind os ms j k) ∧ Below w.heap.size w wr) (fun i _ => os.length - (intOf i).toNat)
      case atStart => exact ⟨0, Nat.zero_le _, rfl, fun k hk => by omega, hB⟩
      case round =>
        clear hB
        obtain ⟨q, hq, rfl, HQ, hB⟩ := hrel
        by_cases hqt : q < os.length
        · rcases HO.out.at_ with e | ⟨b, off, rfl, hc⟩
          · rw [e] at hlt; simp at hlt
          rcases HM.out.at_ with e | ⟨bm, om, rfl, hcm⟩
          · rw [e, List.length_nil] at g4b; omega
          have hq0 : (0 : Int) ≤ (q : Int) := Int.natCast_nonneg _
          have hq2 : (q : Int) < (os.length : Int) := by omega
          have hq3 : (q : Int) < (ms.length : Int) := by omega
          have d0 := hc j hlt
          have d1 := hcm j (by omega)
          have d2 := hc q hqt
          have d3 := hcm q (by omega)
          have b0 := HOb.out j hlt
          have b1 := HMb.out j (by omega)
          have b2 := HOb.out q hqt
          have b3 := HMb.out q (by omega)
          have c0 : wr.cell? ⟨b, off + j, none⟩ = some (.int .i64 (os[j]?.getD 0)) := by rw [hB.cell (cell_lt d0)]; exact d0
          have c1 : wr.cell? ⟨bm, om + j, none⟩ = some (.int .i64 (ms[j]?.getD 0)) := by rw [hB.cell (cell_lt d1)]; exact d1
          have c2 : wr.cell? ⟨b, off + q, none⟩ = some (.int .i64 (os[q]?.getD 0)) := by rw [hB.cell (cell_lt d2)]; exact d2
          have c3 : wr.cell? ⟨bm, om + q, none⟩ = some (.int .i64 (ms[q]?.getD 0)) := by rw [hB.cell (cell_lt d3)]; exact d3
          have HFP := hid (show FairP kind os ms j q = (j ≠ q → 0 < ms[j]?.getD 0 → 0 ≤ szC (os[j]?.getD 0) (stepV kind (ms[j]?.getD 0 - 1)) (os[q]?.getD 0) (stepV kind (ms[q]?.getD 0))) from rfl)
          clear d0 d1 d2 d3 hc hcm
          generalize os[j]?.getD 0 = v at *
          generalize ms[j]?.getD 0 = k at *
          generalize os[q]?.getD 0 = u at *
          generalize ms[q]?.getD 0 = l at *
          by_cases hjq : j = q
          · have HX := hid (show FairP kind os ms j q by rw [HFP.out]; exact fun h => absurd hjq h)
            have hne : ((j : Int) != (q : Int)) = false := by simp; omega
            clear HFP hjq
            go_wp2
            go_quiet (fail)
            have q1 : Below w.heap.size w (wr.drewN nq) := below_dn hB _
            go_wp2
            go_roundw
            case rel => exact ⟨q + 1, by omega, by go_num, fun k hk => by
              by_cases e : k = q
              · subst e; exact HX.out
              · exact HQ.out k (by omega), q1⟩
            case measure => simp [intOf]; omega
          · have hne : ((j : Int) != (q : Int)) = true := by simp; omega
            have HNe := hid hjq
            clear hjq
            by_cases hp : 0 < k
            · have HC := hid (fun w => rcompare_any kind v (k - 1) u l w HK.out b0.1 b0.2 b2.1 b2.2 (by omega) (by omega) b3.1 (by omega))
              generalize szC v (stepV kind (k - 1)) u (stepV kind l) = z at *
              have hw1 : IntKind.i64.wrap (k - 1) = k - 1 := IntWalk.i64_in _ (by omega)
              by_cases hz : z < 0
              · have HX := hid (show fairM os ms kind = false by
                  rw [Bool.eq_false_iff]
                  intro h
                  have := HF.out.1 h j q hlt hqt
                  rw [HFP.out] at this
                  have := this HNe.out hp
                  omega)
                clear HFP HF
                go_wp2_with fail
                go_quiet ((go_at_call 60; exact Calls.quiet_of_same ((HC.out _).mono fun _ _ h => ⟨h.2, h.1.symm⟩)))
                have q1 : Below w.heap.size w (wr.drewN nq) := below_dn hB _
                go_wp2
                go_ret2
                exact ⟨q1, by rw [HX.out]; rfl⟩
              · have HX := hid (show FairP kind os ms j q by rw [HFP.out]; exact fun _ _ => by omega)
                have hz' : 0 ≤ z := by omega
                have hzd : decide (z < 0) = false := by simp; omega
                clear HFP hz
                go_wp2_with fail
                go_quiet ((go_at_call 60; exact Calls.quiet_of_same ((HC.out _).mono fun _ _ h => ⟨h.2, h.1.symm⟩)))
                have q1 : Below w.heap.size w (wr.drewN nq) := below_dn hB _
                go_wp2
                go_roundw
                case rel => exact ⟨q + 1, by omega, by go_num, fun k hk => by
                  by_cases e : k = q
                  · subst e; exact HX.out
                  · exact HQ.out k (by omega), q1⟩
                case measure => simp [intOf]; omega
            · have HX := hid (show FairP kind os ms j q by rw [HFP.out]; exact fun _ h => absurd h hp)
              have hp' : k ≤ 0 := by omega
              have hpd : decide (0 < k) = false := by simp; omega
              clear HFP hp
              go_wp2
              go_quiet (fail)
              have q1 : Below w.heap.size w (wr.drewN nq) := below_dn hB _
              go_wp2
              go_roundw
              case rel => exact ⟨q + 1, by omega, by go_num, fun k hk => by
                by_cases e : k = q
                · subst e; exact HX.out
                · exact HQ.out k (by omega), q1⟩
              case measure => simp [intOf]; omega
        · obtain rfl : q = os.length := by omega
          go_wp2
          go_roundw
          case rel => exact ⟨j + 1, by omega, by go_num, fun i k hi hk => by
            by_cases e : i = j
            · subst e; exact HQ.out k hk
            · exact HP.out i k (by omega) hk, hB⟩
          case measure => simp [intOf]; omega
    · obtain rfl : j = os.length := by omega
      have HX := hid (show fairM os ms kind = true from HF.out.2 HP.out)
      go_wp2
      go_ret2
      exact ⟨hB, by rw [HX.out]; rfl⟩

set_option maxRecDepth 100000 in
set_option maxHeartbeats 1000000 in
theorem rIsFair_any (oa ma : Option Addr) (os ms : List Int) (oc mc : Nat) (kind : Int) (w : World) (ho : Ints w oa os) (hm : Ints w ma ms) :
  Calls Try.prog 30 #[.slice oa os.length oc, .slice ma ms.length mc, .int .i64 kind] w (fun en w' => Below w.heap.size w w' ∧ en = .returned (.tuple #[.bool (fairL os ms kind), .int .i64 (err (goodV os ms kind))])) := by
  cases hd : goodV os ms kind with
  | true =>
    have := rIsFair_ok oa ma os ms oc mc kind w ho hm hd
    rw [show fairL os ms kind = fairM os ms kind by rw [fairL, hd]; rfl]
    exact this
  | false =>
    have HV := hid (have_any oa ma os ms oc mc kind w ho hm)
    rw [show (okO os && okMs os ms && okK kind) = goodV os ms kind from rfl] at HV
    have HD := hid (show fairL os ms kind = false by rw [fairL, hd]; rfl)
    rw [hd] at HV
    clear hd ho hm
    go_enter Try.func30, Try.ntmps30
    go_wp2_with fail
    refine HV.out.mono ?_
    rintro e w' ⟨rfl, rfl⟩
    rw [show err false = 1 from rfl]
    go_wp2
    go_ret2
    exact ⟨Below.refl _ _, by rw [HD.out]; rfl⟩
end Go.Proofs.Ytegeojlmpjepjaa
