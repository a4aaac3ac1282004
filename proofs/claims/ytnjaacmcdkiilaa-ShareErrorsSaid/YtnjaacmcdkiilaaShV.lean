/- Whether meals keep quotas: package share's and the document's own. -/
import Derived.Test.YtnjaacmcdkiilaaShU
import Derived.Test.YtnjaacmcdkiilaaShS
set_option linter.unusedVariables false
namespace Go.Proofs.Ytnjaacmcdkiilaa
open Go.RowKit

theorem row_sl {w : World} {base n : Nat} {e : TypeId} {s : Nat} {v : Value} {xs : List Value} (h : w.ownsRow base e s v n xs) : ∃ A c, v = .slice A n c := by
  rcases h.2 with ⟨hv, hn⟩ | ⟨g, c, cur, hv, _⟩
  · exact ⟨none, 0, by rw [hv, hn]⟩
  · exact ⟨_, _, hv⟩
def difL (os ms : List Int) (k : Nat) : Int := at0 ms k * sumL os - sumL ms * at0 os k
def absI (d : Int) : Int := if 0 ≤ d then d else -d
def gapsTo (os ms : List Int) : Nat → List Int
  | 0 => []
  | k + 1 => gapsTo os ms k ++ [absI (difL os ms k)]
theorem gapsTo_len (os ms : List Int) (k : Nat) : (gapsTo os ms k).length = k := by
  induction k with
  | zero => rfl
  | succ k ih => simp [gapsTo, ih]
theorem gapsTo_mem (os ms : List Int) (n : Nat) (x : Int) : x ∈ gapsTo os ms n ↔ ∃ k, k < n ∧ x = absI (difL os ms k) := by
  induction n with
  | zero => simp [gapsTo]
  | succ n ih =>
    rw [gapsTo, List.mem_append, ih]
    constructor
    · rintro (⟨k, h, e⟩ | h)
      · exact ⟨k, by omega, e⟩
      · exact ⟨n, by omega, by simpa using h⟩
    · rintro ⟨k, h, e⟩
      by_cases hk : k < n
      · exact .inl ⟨k, hk, e⟩
      · obtain rfl : k = n := by omega
        exact .inr (by simp [e])
def maxI : List Int → Nat → Int
  | l, 0 => at0 l 0
  | l, k + 1 => if maxI l k ≤ at0 l (k + 1) then at0 l (k + 1) else maxI l k
theorem maxI_lt (l : List Int) (k : Nat) (S : Int) : maxI l k < S ↔ ∀ j, j ≤ k → at0 l j < S := by
  induction k with
  | zero =>
    refine ⟨fun h j hj => ?_, fun h => h 0 (by omega)⟩
    obtain rfl : j = 0 := by omega
    exact h
  | succ k ih =>
    rw [maxI]
    constructor
    · intro h j hj
      split at h
      · by_cases e : j = k + 1
        · subst e; exact h
        · exact (ih.1 (by omega)) j (by omega)
      · by_cases e : j = k + 1
        · subst e; omega
        · exact (ih.1 h) j (by omega)
    · intro h
      split
      · exact h _ (by omega)
      · exact ih.2 fun j hj => h j (by omega)
theorem maxI_mem (l : List Int) (k : Nat) (h : k < l.length) : maxI l k ∈ l := by
  induction k with
  | zero => exact getD_mem l 0 h
  | succ k ih => rw [maxI]; split
                 · exact getD_mem l _ h
                 · exact ih (by omega)
theorem okMs_vals {os ms : List Int} (ho : okO os = true) (h : okMs os ms = true) : (∀ x ∈ ms, 0 ≤ x ∧ x ≤ 1000) ∧ ms.length = os.length ∧ 0 ≤ sumL ms ∧ sumL ms ≤ 8000 := by
  obtain ⟨h1, h2⟩ := okMs_len h
  have h8 := okO_len ho
  have hv : ∀ x ∈ ms, 0 ≤ x ∧ x ≤ 1000 := fun x hx => by have := List.all_eq_true.1 h2 x hx; simpa [inW] using this
  have := sumL_bd hv
  exact ⟨hv, h1, by omega, by omega⟩
theorem mul_bd {a b A B : Int} (h1 : 0 ≤ a) (h2 : a ≤ A) (h3 : 0 ≤ b) (h4 : b ≤ B) : 0 ≤ a * b ∧ a * b ≤ A * B :=
  ⟨Int.mul_nonneg h1 h3, Int.mul_le_mul h2 h4 h3 (by omega)⟩
theorem difL_bd {os ms : List Int} (ho : okO os = true) (h : okMs os ms = true) {k : Nat} (hk : k < os.length) : -8000000000 ≤ difL os ms k ∧ difL os ms k ≤ 8000000000 := by
  obtain ⟨v1, s1, s2⟩ := okO_vals ho
  obtain ⟨v2, e, s3, s4⟩ := okMs_vals ho h
  have a := v1 _ (getD_mem os k hk)
  have b := v2 _ (getD_mem ms k (by omega))
  have p := mul_bd b.1 b.2 (by omega : 0 ≤ sumL os) s2
  have q := mul_bd s3 s4 (by omega : 0 ≤ os[k]?.getD 0) a.2
  unfold difL at0
  omega
theorem absI_bd {d B : Int} (h : -B ≤ d ∧ d ≤ B) : 0 ≤ absI d ∧ absI d ≤ B := by unfold absI; split <;> omega
def keepsM (os ms : List Int) : Bool := decide (maxI (gapsTo os ms os.length) (os.length - 1) < sumL os)
theorem gapsTo_at (os ms : List Int) (n k : Nat) (h : k < n) : at0 (gapsTo os ms n) k = absI (difL os ms k) := by
  induction n with
  | zero => omega
  | succ n ih =>
    rw [gapsTo]
    unfold at0
    by_cases hk : k < n
    · rw [List.getElem?_append_left (by rw [gapsTo_len]; exact hk)]; exact ih hk
    · obtain rfl : k = n := by omega
      rw [List.getElem?_append_right (by rw [gapsTo_len]; omega), gapsTo_len]; simp
theorem keeps_iff {os ms : List Int} (h : 1 ≤ os.length) : keepsM os ms = true ↔ ∀ k, k < os.length → -sumL os < difL os ms k ∧ difL os ms k < sumL os := by
  unfold keepsM
  rw [decide_eq_true_iff, maxI_lt]
  constructor
  · intro g k hk
    have := g k (by omega)
    rw [gapsTo_at _ _ _ _ hk] at this
    unfold absI at this
    split at this <;> omega
  · intro g k hk
    rw [gapsTo_at _ _ _ _ (by omega)]
    have := g k (by omega)
    unfold absI
    split <;> omega

set_option maxRecDepth 100000 in
set_option maxHeartbeats 2000000 in
theorem gaps_any (a b : Option Addr) (os ms : List Int) (ca cb : Nat) (w : World) (h : Ints w a os) (h2 : Ints w b ms) (ho : okO os = true) (hm : okMs os ms = true) :
  Calls Try.prog 78 #[.slice a os.length ca, .slice b ms.length cb] w (fun en w' => Below w.heap.size w w' ∧ ∃ A c, en = .returned (.slice A os.length c) ∧ Own w' w.heap.size (.slice A os.length c) (gapsTo os ms os.length)) := by
  obtain ⟨i0, hi, hz0, hz1, hz2⟩ := info_parts int_info
  obtain ⟨v1, s1, s2⟩ := okO_vals ho
  obtain ⟨v2, e, s3, s4⟩ := okMs_vals ho hm
  have h8 := (okO_len ho).2.1
  have HS := hid (fun (w' : World) (hb : Below w.heap.size w w') => sum_any a os ca w' (h.below hb) (fun x hx => by have := v1 x hx; omega) (by omega))
  have HS2 := hid (fun (w' : World) (hb : Below w.heap.size w w') => sum_any b ms cb w' (h2.below hb) (fun x hx => by have := v2 x hx; omega) (by omega))
  have HD := hid (fun k hk => difL_bd ho hm (k := k) hk)
  have HV1 := hid v1
  have HV2 := hid v2
  have e1 : ms.length ≤ os.length := by omega
  have e2 : os.length ≤ ms.length := by omega
  have HO := hid h
  have HM := hid h2
  have HDe := hid (fun k => show difL os ms k = ms[k]?.getD 0 * sumL os - sumL ms * os[k]?.getD 0 from rfl)
  clear h h2 ho hm v1 v2 e
  generalize sumL os = S at *
  generalize sumL ms = T at *
  go_enter Try.func78, Try.ntmps78
  go_wp2_with fail
  refine (HS.out _ (Below.refl _ _)).mono ?_
  rintro e w' ⟨rfl, rfl⟩
  go_wp2_with fail
  refine (HS2.out _ (Below.refl _ _)).mono ?_
  rintro e w' ⟨rfl, rfl⟩
  go_wp2
  go_loopw [7, 17] (fun v i wr => ∃ k : Nat, k ≤ os.length ∧ i = .int .i64 k ∧ wr.ownsRow w.heap.size 3 1 v k ((gapsTo os ms k).map (Value.int .i64)) ∧ Below w.heap.size w wr) (fun _ i _ => os.length - (intOf i).toNat)
  case atStart => exact ⟨0, Nat.zero_le _, rfl, ⟨rfl, .inl ⟨rfl, rfl⟩⟩, Below.refl _ _⟩
  case round =>
    obtain ⟨k, hk, rfl, hown, hB⟩ := hrel
    by_cases hlt : k < os.length
    · rcases (HO.out.below hB).at_ with e | ⟨b1, off, rfl, hc⟩
      · rw [e] at hlt; simp at hlt
      rcases (HM.out.below hB).at_ with e | ⟨bm, om, rfl, hcm⟩
      · rw [e, List.length_nil] at e2; omega
      have c0 := hc k hlt
      have c1 := hcm k (by omega)
      have hx := HV1.out _ (getD_mem os k hlt)
      have hy := HV2.out _ (getD_mem ms k (by omega))
      have hd := HD.out k hlt
      have hde := HDe.out k
      have HT := hid (show gapsTo os ms (k + 1) = gapsTo os ms k ++ [absI (difL os ms k)] from rfl)
      clear hc hcm
      generalize os[k]?.getD 0 = x at *
      generalize ms[k]?.getD 0 = y at *
      have p := mul_bd hy.1 hy.2 (by omega : 0 ≤ S) s2
      have q := mul_bd s3 s4 (by omega : 0 ≤ x) hx.2
      generalize difL os ms k = d at *
      generalize hys : y * S = ys at *
      generalize htx : T * x = tx at *
      have hk1 : (k : Int) < (os.length : Int) := by omega
      have hk2 : (k : Int) < (ms.length : Int) := by omega
      have hk0 : (0 : Int) ≤ (k : Int) := by omega
      subst hde
      by_cases hp : 0 ≤ ys - tx
      · have HA := hid (show absI (ys - tx) = ys - tx by unfold absI; rw [if_pos hp])
        have hmx : max (ys - tx) (-(ys - tx)) = ys - tx := by omega
        go_wp2_with (at_builtin; refine wpList_append_own _ rfl _ _ 22 rfl w.heap.size 3 i0 (.int .i64 0) 1 8 Try.underlying22 hi hz0 hz1 hz2 rfl (by decide) _ _ _ rfl (hown.alloc _) ⟨wr.heap.size, 0, none⟩ 1 1 [.int .i64 (ys - tx)] rfl rfl (cell_one_new _ _ _) (by simp [Value.oneCell']) (by unfold maxLen; omega) (by omega) (by have := hB.size; simp; omega) ?_)
        intro v' w4 hown2 hgrow _
        have p4 := (hB.alloc hB.size _).grown hgrow (by have := hB.size; simp; omega) (fun q hq => by have := (hown.lt q hq).1; omega)
        clear hgrow hown
        go_wp2
        go_roundw
        case rel => exact ⟨k + 1, by omega, by go_num, by rw [HT.out, HA.out]; simpa using hown2, p4⟩
        case measure => simp [intOf]; omega
      · have HA := hid (show absI (ys - tx) = -(ys - tx) by unfold absI; rw [if_neg hp])
        have hmx : max (ys - tx) (-(ys - tx)) = -(ys - tx) := by omega
        go_wp2_with (at_builtin; refine wpList_append_own _ rfl _ _ 22 rfl w.heap.size 3 i0 (.int .i64 0) 1 8 Try.underlying22 hi hz0 hz1 hz2 rfl (by decide) _ _ _ rfl (hown.alloc _) ⟨wr.heap.size, 0, none⟩ 1 1 [.int .i64 (-(ys - tx))] rfl rfl (cell_one_new _ _ _) (by simp [Value.oneCell']) (by unfold maxLen; omega) (by omega) (by have := hB.size; simp; omega) ?_)
        intro v' w4 hown2 hgrow _
        have p4 := (hB.alloc hB.size _).grown hgrow (by have := hB.size; simp; omega) (fun q hq => by have := (hown.lt q hq).1; omega)
        clear hgrow hown
        go_wp2
        go_roundw
        case rel => exact ⟨k + 1, by omega, by go_num, by rw [HT.out, HA.out]; simpa using hown2, p4⟩
        case measure => simp [intOf]; omega
    · obtain rfl : k = os.length := by omega
      have hl := gapsTo_len os ms os.length
      obtain ⟨A, c, rfl⟩ := row_sl hown
      go_wp2
      go_ret
      refine ⟨hB, A, c, rfl, ?_⟩
      unfold Own
      rw [hl]
      exact hown

set_option maxHeartbeats 1000000 in
theorem smax_any (a : Option Addr) (l : List Int) (cap : Nat) (w : World) (h : Ints w a l) (hne : 1 ≤ l.length) :
  Calls Try.prog 77 #[.slice a l.length cap] w (fun en w' => w = w' ∧ en = .returned (.int .i64 (maxI l (l.length - 1)))) := by
  have hlen := h.len
  rcases h.at_ with e | ⟨b, off, rfl, hc⟩
  · rw [e] at hne; simp at hne
  have c0 := hc 0 (by omega)
  rw [Nat.add_zero] at c0
  have HC := hid hc
  have HB := hid h.bd
  have HT0 := hid (show maxI l (1 - 1) = l[0]?.getD 0 from rfl)
  have HMm := hid (fun k hk => h.bd _ (maxI_mem l k hk))
  have hl1 : ¬ (l.length : Int) < 1 := by omega
  have hl0 : (0 : Int) < (l.length : Int) := by omega
  clear hc h
  go_enter Try.func77, Try.ntmps77
  go_wp2
  go_loop [3, 4] (fun m i => ∃ j : Nat, 1 ≤ j ∧ j ≤ l.length ∧ i = .int .i64 (j : Int) ∧ m = .int .i64 (maxI l (j - 1))) (fun _ i => l.length - (intOf i).toNat)
  case atStart => exact ⟨1, by omega, by omega, rfl, by rw [HT0.out]⟩
  case round =>
    clear c0
    obtain ⟨j, hj1, hj, rfl, rfl⟩ := hrel
    by_cases hlt : j < l.length
    · have d0 := HC.out j hlt
      have HT := hid (show maxI l (j + 1 - 1) = if maxI l (j - 1) ≤ l[j]?.getD 0 then l[j]?.getD 0 else maxI l (j - 1) by obtain ⟨k, rfl⟩ : ∃ k, j = k + 1 := ⟨j - 1, by omega⟩; rfl)
      have hk1 : (j : Int) < (l.length : Int) := by omega
      have bm := HMm.out (j - 1) (by omega)
      generalize l[j]?.getD 0 = x at *
      generalize maxI l (j - 1) = m at *
      by_cases hp : m ≤ x
      · have HX := hid hp
        have hmx : max m x = x := by omega
        go_wp2
        go_round
        case rel => exact ⟨j + 1, by omega, by omega, by go_num, by rw [HT.out, if_pos HX.out]; have := HX.out; congr 1; split <;> omega⟩
        case measure => simp [intOf]; omega
      · have HX := hid hp
        have hmx : max m x = m := by omega
        have hp' : x < m := by omega
        clear hp
        go_wp2
        go_round
        case rel => exact ⟨j + 1, by omega, by omega, by go_num, by rw [HT.out, if_neg (by have := HX.out; omega)]⟩
        case measure => simp [intOf]; omega
    · obtain rfl : j = l.length := by omega
      go_wp2
      go_ret
      exact ⟨rfl, rfl⟩

def okP (os ms : List Int) : Bool := okO os && okMs os ms
def keepsL (os ms : List Int) : Bool := okP os ms && keepsM os ms
set_option maxRecDepth 100000 in
set_option maxHeartbeats 1000000 in
theorem keeps_any (a b : Option Addr) (os ms : List Int) (ca cb : Nat) (w : World) (h : Ints w a os) (h2 : Ints w b ms) :
  Calls Try.prog 38 #[.slice a os.length ca, .slice b ms.length cb] w (fun en w' => Below w.heap.size w w' ∧ en = .returned (.tuple #[.bool (keepsL os ms), .int .i64 (err (okP os ms))])) := by
  have HV := hid (checkMeals_any a b os ms ca cb w h h2)
  rw [show (okO os && okMs os ms) = okP os ms from rfl] at HV
  cases hd : okP os ms with
  | false =>
    have HD := hid (show keepsL os ms = false by rw [keepsL, hd]; rfl)
    rw [hd] at HV
    clear hd h h2
    go_enter Try.func38, Try.ntmps38
    go_wp2_with fail
    refine HV.out.mono ?_
    rintro e w' ⟨rfl, rfl⟩
    rw [show err false = 1 from rfl]
    go_wp2
    go_ret2
    exact ⟨Below.refl _ _, by rw [HD.out]; rfl⟩
  | true =>
    have hd' : okO os = true ∧ okMs os ms = true := by simpa [okP] using hd
    obtain ⟨ho, hm⟩ := hd'
    obtain ⟨v1, s1, s2⟩ := okO_vals ho
    have h8 := okO_len ho
    have hl1 := h8.1
    have hl8 := h8.2.1
    have HD := hid (show keepsL os ms = decide (maxI (gapsTo os ms os.length) (os.length - 1) < sumL os) by rw [keepsL, hd]; rfl)
    have HG := hid (gaps_any a b os ms ca cb w h h2 ho hm)
    have HS := hid (fun (w' : World) (hb : Below w.heap.size w w') => sum_any a os ca w' (h.below hb) (fun x hx => by have := v1 x hx; omega) (by omega))
    have hgl := gapsTo_len os ms os.length
    have hgb : ∀ x ∈ gapsTo os ms os.length, 0 ≤ x ∧ x ≤ 8000000000 := fun x hx => by
      obtain ⟨k, hk, rfl⟩ := (gapsTo_mem _ _ _ _).1 hx
      exact absI_bd (difL_bd ho hm hk)
    have HMx := hid (fun (A : Option Addr) (c : Nat) (w' : World) (hi : Ints w' A (gapsTo os ms os.length)) => smax_any A (gapsTo os ms os.length) c w' hi (by omega))
    rw [hgl] at HMx
    have HGI := hid (fun (w' : World) (base : Nat) (A : Option Addr) (c : Nat) (ho : Own w' base (.slice A os.length c) (gapsTo os ms os.length)) => show Ints w' A (gapsTo os ms os.length) by
      obtain ⟨_, _, hv, hI⟩ := ho.ints (by omega) (fun x hx => by have := hgb x hx; omega)
      rw [hgl] at hv
      cases hv
      exact hI)
    rw [hd] at HV
    clear hd h h2 h8 ho hm v1 hgl hgb
    generalize gapsTo os ms os.length = gl at *
    generalize maxI gl (os.length - 1) = mx at *
    generalize sumL os = S at *
    go_enter Try.func38, Try.ntmps38
    go_wp2_with fail
    refine HV.out.mono ?_
    rintro e w' ⟨rfl, rfl⟩
    rw [show err true = 0 from rfl]
    go_wp2_with fail
    refine HG.out.mono ?_
    rintro e w1 ⟨q1, A, c, rfl, o1⟩
    have i1 := HGI.out _ _ _ _ o1
    clear o1
    go_wp2_with fail
    refine (HMx.out _ _ _ i1).mono ?_
    rintro e w' ⟨rfl, rfl⟩
    go_wp2_with fail
    refine (HS.out _ q1).mono ?_
    rintro e w' ⟨rfl, rfl⟩
    go_wp2
    go_ret2
    exact ⟨q1, by rw [HD.out]; rfl⟩

set_option maxRecDepth 100000 in
set_option maxHeartbeats 4000000 in
theorem rkeeps_any (a b : Option Addr) (os ms : List Int) (ca cb : Nat) (w : World) (h : Ints w a os) (h2 : Ints w b ms) :
  Calls Try.prog 39 #[.slice a os.length ca, .slice b ms.length cb] w (fun en w' => Below w.heap.size w w' ∧ en = .returned (.tuple #[.bool (keepsL os ms), .int .i64 (err (okP os ms))])) := by
  have HV := hid (have_any a b os ms ca cb 0 w h h2)
  rw [show (okO os && okMs os ms && okK 0) = okP os ms by simp [okP, okK]] at HV
  cases hd : okP os ms with
  | false =>
    have HD := hid (show keepsL os ms = false by rw [keepsL, hd]; rfl)
    rw [hd] at HV
    clear hd h h2
    go_enter Try.func39, Try.ntmps39
    go_wp2_with fail
    refine HV.out.mono ?_
    rintro e w' ⟨rfl, rfl⟩
    rw [show err false = 1 from rfl]
    go_wp2
    go_ret2
    exact ⟨Below.refl _ _, by rw [HD.out]; rfl⟩
  | true =>
    have hd' : okO os = true ∧ okMs os ms = true := by simpa [okP] using hd
    obtain ⟨ho, hm⟩ := hd'
    obtain ⟨v1, s1, s2⟩ := okO_vals ho
    obtain ⟨v2, e, s3, s4⟩ := okMs_vals ho hm
    have h8 := okO_len ho
    have hl8 := h8.2.1
    have HD := hid (show keepsL os ms = keepsM os ms by rw [keepsL, hd]; rfl)
    have HI := hid (keeps_iff (ms := ms) h8.1)
    have HS := hid (fun (w' : World) (hb : Below w.heap.size w w') => rsum_any a os ca w' (h.below hb) (fun x hx => by have := v1 x hx; omega) (by omega))
    have HS2 := hid (fun (w' : World) (hb : Below w.heap.size w w') => rsum_any b ms cb w' (h2.below hb) (fun x hx => by have := v2 x hx; omega) (by omega))
    have HDb := hid (fun k hk => difL_bd ho hm (k := k) hk)
    have HV1 := hid v1
    have HV2 := hid v2
    have e1 : ms.length ≤ os.length := by omega
    have e2 : os.length ≤ ms.length := by omega
    have HO := hid h
    have HM := hid h2
    have HDe := hid (fun k => show difL os ms k = ms[k]?.getD 0 * sumL os - sumL ms * os[k]?.getD 0 from rfl)
    rw [hd] at HV
    clear hd h h2 ho hm v1 v2 e h8
    generalize sumL os = S at *
    generalize sumL ms = T at *
    go_enter Try.func39, Try.ntmps39
    go_wp2_with fail
    refine HV.out.mono ?_
    rintro e w' ⟨rfl, rfl⟩
    rw [show err true = 0 from rfl]
    go_wp2_with fail
    refine (HS2.out _ (Below.refl _ _)).mono ?_
    rintro e w' ⟨rfl, rfl⟩
    go_wp2_with fail
    refine (HS.out _ (Below.refl _ _)).mono ?_
    rintro e w' ⟨rfl, rfl⟩
    go_wp2
    go_loopw [9] (fun i wr => ∃ j : Nat, j ≤ os.length ∧ i = .int .i64 (j : Int) ∧ Hid (∀ k, k < j → -S < difL os ms k ∧ difL os ms k < S) ∧ Below w.heap.size w wr) (fun i _ => os.length - (intOf i).toNat)
    case atStart => exact ⟨0, Nat.zero_le _, rfl, fun k hk => by omega, Below.refl _ _⟩
    case round =>
      obtain ⟨k, hk, rfl, HP, hB⟩ := hrel
      by_cases hlt : k < os.length
      · rcases (HO.out.below hB).at_ with e | ⟨b1, off, rfl, hc⟩
        · rw [e] at hlt; simp at hlt
        rcases (HM.out.below hB).at_ with e | ⟨bm, om, rfl, hcm⟩
        · rw [e, List.length_nil] at e2; omega
        have c0 := hc k hlt
        have c1 := hcm k (by omega)
        have hx := HV1.out _ (getD_mem os k hlt)
        have hy := HV2.out _ (getD_mem ms k (by omega))
        have hd := HDb.out k hlt
        have hde := HDe.out k
        have HQ := hid (show (-S < difL os ms k ∧ difL os ms k < S) → ∀ j, j < k + 1 → -S < difL os ms j ∧ difL os ms j < S from fun h j hj => by
          by_cases e : j = k
          · subst e; exact h
          · exact HP.out j (by omega))
        have HN := hid (show ¬ (-S < difL os ms k ∧ difL os ms k < S) → keepsM os ms = false from fun h => by
          rw [Bool.eq_false_iff]
          exact fun g => h (HI.out.1 g k hlt))
        clear hc hcm
        generalize os[k]?.getD 0 = x at *
        generalize ms[k]?.getD 0 = y at *
        have p := mul_bd hy.1 hy.2 (by omega : 0 ≤ S) s2
        have q := mul_bd s3 s4 (by omega : 0 ≤ x) hx.2
        generalize difL os ms k = d at *
        generalize hys : y * S = ys at *
        generalize htx : T * x = tx at *
        have hk1 : (k : Int) < (os.length : Int) := by omega
        have hk2 : (k : Int) < (ms.length : Int) := by omega
        have hk0 : (0 : Int) ≤ (k : Int) := by omega
        subst hde
        have hw1 : IntKind.i64.wrap (y * S) = ys := by rw [hys]; exact IntWalk.i64_in _ (by omega)
        have hw2 : IntKind.i64.wrap (T * x) = tx := by rw [htx]; exact IntWalk.i64_in _ (by omega)
        have hw3 : IntKind.i64.wrap (ys - tx) = ys - tx := IntWalk.i64_in _ (by omega)
        clear hys htx
        go_wp2
        go_quiet (fail)
        have q1 : Below w.heap.size w (wr.drewN nq) := below_dn hB _
        clear hw1 hw2 hw3
        generalize ys - tx = d at *
        by_cases h1 : d ≤ -S
        · have HX := hid (HN.out (by omega))
          go_wp2
          go_ret2
          exact ⟨q1, by rw [HD.out, HX.out]; rfl⟩
        · have h1' : -S < d := by omega
          have h1d : decide (d ≤ -S) = false := by simp; omega
          by_cases h2 : S ≤ d
          · have HX := hid (HN.out (by omega))
            go_wp2
            go_ret2
            exact ⟨q1, by rw [HD.out, HX.out]; rfl⟩
          · have HX := hid (HQ.out ⟨h1', by omega⟩)
            have h2' : d < S := by omega
            clear h1 h2
            go_wp2
            go_roundw
            case rel => exact ⟨k + 1, by omega, by go_num, HX.out, q1⟩
            case measure => simp [intOf]; omega
      · obtain rfl : k = os.length := by omega
        have HX := hid (HI.out.2 HP.out)
        go_wp2
        go_ret2
        exact ⟨hB, by rw [HD.out, HX.out]; rfl⟩
end Go.Proofs.Ytnjaacmcdkiilaa
