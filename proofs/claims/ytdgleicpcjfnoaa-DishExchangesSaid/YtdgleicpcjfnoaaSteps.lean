/- The Go functions propsOf, contained, ownSteps of package dish. -/
import Derived.Test.YtdgleicpcjfnoaaNumbers
import Derived.Test.YtdgleicpcjfnoaaBook
import Derived.Test.YtdgleicpcjfnoaaProofN
import Derived.Deep.AppendLies
set_option linter.unusedVariables false
namespace Go.Proofs.Ytdgleicpcjfnoaa
open Go.RowKit

theorem step_info : (Try.prog.info? 53).map (fun i => (i.zero, i.size, i.bytes)) = some (some (.agg #[.int .i64 0, .int .i64 0, .int .i64 0]), 3, 24) := by kernel_rfl
def stepCells (l : List StepL) : List Value := l.flatMap (fun s => [Value.int .i64 s.1, Value.int .i64 s.2.1, Value.int .i64 s.2.2])
theorem stepCells_len (l : List StepL) : (stepCells l).length = l.length * 3 := by
  induction l with
  | nil => rfl
  | cons x t ih => simp [stepCells] at ih ⊢; omega
theorem stepCells_at (l : List StepL) (i : Nat) (h : i < l.length) : (stepCells l)[i * 3]? = some (.int .i64 (l[i]?.getD (0, 0, 0)).1) ∧ (stepCells l)[i * 3 + 1]? = some (.int .i64 (l[i]?.getD (0, 0, 0)).2.1) ∧ (stepCells l)[i * 3 + 2]? = some (.int .i64 (l[i]?.getD (0, 0, 0)).2.2) := by
  induction l generalizing i with
  | nil => simp at h
  | cons x t ih =>
    cases i with
    | zero => simp [stepCells]
    | succ i =>
      have := ih i (by simpa using h)
      have e1 : (i + 1) * 3 = i * 3 + 1 + 1 + 1 := by omega
      rw [e1]
      simpa [stepCells] using this
theorem stepCells_snoc (l : List StepL) (s : StepL) : stepCells (l ++ [s]) = stepCells l ++ [.int .i64 s.1, .int .i64 s.2.1, .int .i64 s.2.2] := by simp [stepCells]

/-- A slice of steps that reads as a list. -/
structure StepsAt (w : World) (a : Option Addr) (l : List StepL) : Prop where
  len : l.length ≤ 140737488355328
  at_ : l = [] ∨ ∃ b off, a = some ⟨b, off, none⟩ ∧ ∀ i, i < l.length → w.cell? ⟨b, off + i * 3, none⟩ = some (.int .i64 (l[i]?.getD (0, 0, 0)).1) ∧ w.cell? ⟨b, off + i * 3 + 1, none⟩ = some (.int .i64 (l[i]?.getD (0, 0, 0)).2.1) ∧ w.cell? ⟨b, off + i * 3 + 2, none⟩ = some (.int .i64 (l[i]?.getD (0, 0, 0)).2.2)
theorem StepsAt.below {w w' : World} {a : Option Addr} {l : List StepL} (h : StepsAt w a l) (hb : Below w.heap.size w w') : StepsAt w' a l := by
  refine ⟨h.len, ?_⟩
  rcases h.at_ with e | ⟨b, off, ha, hc⟩
  · exact .inl e
  · exact .inr ⟨b, off, ha, fun i hi => by
      obtain ⟨h1, h2, h3⟩ := hc i hi
      exact ⟨by rw [hb.cell (cell_lt h1)]; exact h1, by rw [hb.cell (cell_lt h2)]; exact h2, by rw [hb.cell (cell_lt h3)]; exact h3⟩⟩
def OwnS (w : World) (base : Nat) (v : Value) (l : List StepL) : Prop := w.ownsRow base 53 3 v l.length (stepCells l)
theorem OwnS.sl {w : World} {base : Nat} {v : Value} {l : List StepL} (h : OwnS w base v l) : ∃ A c, v = .slice A l.length c := by
  rcases h.2 with ⟨hv, hn⟩ | ⟨g, c, cur, hv, _⟩
  · exact ⟨none, 0, by rw [hv, hn]⟩
  · exact ⟨_, _, hv⟩
theorem OwnS.at_ {w : World} {base : Nat} {A : Option Addr} {c : Nat} {l : List StepL} (h : OwnS w base (.slice A l.length c) l) (hl : l.length ≤ 140737488355328) : StepsAt w A l := by
  refine ⟨hl, ?_⟩
  have h2 := h.2
  rcases h2 with ⟨_, hn⟩ | ⟨g, cap, cur, hv, _⟩
  · exact .inl (List.eq_nil_of_length_eq_zero hn)
  · simp only [Value.slice.injEq] at hv
    obtain ⟨rfl, _, rfl⟩ := hv
    refine .inr ⟨g, 0, rfl, fun i hi => ?_⟩
    have h1 := stepCells_at l i hi
    unfold OwnS at h
    rw [Nat.zero_add, h.cellAt _ (by omega), h.cellAt _ (by omega), h.cellAt _ (by omega)]
    exact h1

set_option maxRecDepth 100000 in
set_option maxHeartbeats 2000000 in
theorem propsOf_any (a : Option Addr) (l : List StepL) (cap : Nat) (w : World) (h : StepsAt w a l) (hs : StepsOk 64 l) :
  Calls Try.prog 70 #[.slice a l.length cap] w fun en w' => Below w.heap.size w w' ∧ en = .returned (.int .u64 (propsL l)) := by
  have hlen := h.len
  have HS := hid hs
  have HH := hid h
  clear hs h
  go_enter Try.func70, Try.ntmps70
  go_wp2
  go_loopw [3, 8] (fun m i wr => ∃ k : Nat, k ≤ l.length ∧ i = .int .i64 k ∧ m = .int .u64 (propsL (l.take k)) ∧ Below w.heap.size w wr) (fun _ i _ => l.length - (intOf i).toNat)
  case atStart => exact ⟨0, Nat.zero_le _, rfl, rfl, Below.refl _ _⟩
  case round =>
    obtain ⟨k, hk, rfl, rfl, hB⟩ := hrel
    by_cases hlt : k < l.length
    · rcases (HH.out.below hB).at_ with e | ⟨b, off, rfl, hc⟩
      · rw [e] at hlt; simp at hlt
      obtain ⟨c0, c1, c2⟩ := hc k hlt
      have hx := HS.out (l[k]?.getD (0, 0, 0)) (by rw [List.getElem?_eq_getElem hlt]; simp)
      have HT := hid (propsL_take l k hlt)
      have hm : propsL (l.take k) < 18446744073709551616 := propsL_lt 64 _ (fun s hs => by have := HS.out s (List.mem_of_mem_take hs); omega)
      have hbl := cell_lt c0
      clear hc
      generalize (l[k]?.getD (0, 0, 0)).1 = x at *
      generalize (l[k]?.getD (0, 0, 0)).2.1 = y at *
      generalize (l[k]?.getD (0, 0, 0)).2.2 = z at *
      generalize propsL (l.take k) = M at *
      obtain ⟨n, rfl⟩ := Int.eq_ofNat_of_zero_le hx.1
      have q1 := hB.alloc hB.size (.cells #[.int .i64 (n : Int), .int .i64 y, .int .i64 z] 53)
      go_wp2_with fail
      refine (with_mask M n _ hm (by omega)).mono ?_
      rintro e w' ⟨rfl, rfl⟩
      go_wp2
      go_roundw
      case rel => exact ⟨k + 1, by omega, by go_num, by rw [HT.out]; rfl, q1⟩
      case measure => simp [intOf]; omega
    · obtain rfl : k = l.length := by omega
      rw [List.take_length]
      go_wp2
      go_ret
      exact ⟨hB, rfl⟩

theorem or_bits (A B : Nat) (hA : A < 18446744073709551616) (hB : B < 18446744073709551616) : bits .or .u64 (A : Int) (B : Int) = ((A ||| B : Nat) : Int) := u64_or_nat A B hA hB

set_option maxRecDepth 100000 in
set_option maxHeartbeats 2000000 in
theorem contained_any (P : Int) (ia : Option Addr) (its : List ItemL) (ic : Nat) (r : Value) (n : Nat) (w : World) (h : ItemsAt w ia its) (hl : its.length ≤ 20) (hn : n < its.length) (hi : itemsE P 0 its = 0) :
  Calls Try.prog 53 #[.agg #[.int .i64 P, .slice ia its.length ic, r], .int .i64 n] w fun en w' => Below w.heap.size w w' ∧ contL its n < 2 ^ 20 ∧ en = .returned (.int .u64 (contL its n)) := by
  have hB0 := (Below.refl w.heap.size w).alloc (Nat.le_refl _) (.cells #[.int .i64 P, .slice ia its.length ic, r] 25)
  have hA := h.below hB0
  have HI := hid (itemsE_ok P its 0 hi)
  have h0 : 2 ^ n < 2 ^ 20 := two_pow_lt (by omega)
  have HW := hid (with_mask 0 n · (by omega) (by omega))
  go_enter Try.func53, Try.ntmps53
  go_wp2_with fail
  refine (HW.out _).mono ?_
  rintro e w' ⟨rfl, rfl⟩
  rw [Nat.zero_or]
  go_wp2
  generalize hW : w.alloc (.cells #[.int .i64 P, .slice ia its.length ic, r] 25) = wb at *
  have a1 : wb.cell? ⟨w.heap.size, 1, none⟩ = some (.slice ia its.length ic) := by rw [← hW]; clear hW; go_simp
  clear hW
  go_loop [5, 6] (fun m i => ∃ k M : Nat, k ≤ n + 1 ∧ i = .int .i64 ((k : Int) - 1) ∧ m = .int .u64 M ∧ M < 2 ^ 20 ∧ Hid (contL its n = contTo its M k)) (fun _ i => (intOf i + 1).toNat)
  case atStart => exact ⟨n + 1, 2 ^ n, Nat.le_refl _, by congr 1; omega, rfl, h0, rfl⟩
  case round =>
    obtain ⟨k, M, hk, rfl, rfl, hM, HC⟩ := hrel
    by_cases hlt : 1 ≤ k
    · obtain ⟨j, rfl⟩ : ∃ j, k = j + 1 := ⟨k - 1, by omega⟩
      rw [show ((j + 1 : Nat) : Int) - 1 = (j : Int) by omega]
      have HM := hid (has_mask M j · (by omega) (by omega))
      cases hb : M.testBit j with
      | false =>
        have HC2 := hid (show contL its n = contTo its M j by rw [HC.out, contTo, if_neg (by simp [hb])])
        go_wp2_with fail
        refine (HM.out _).mono ?_
        rintro e w' ⟨rfl, rfl⟩
        rw [hb]
        clear hb
        go_wp2
        go_round
        case rel => exact ⟨j, M, by omega, rfl, rfl, hM, HC2⟩
        case measure => simp [intOf] <;> omega
      | true =>
        have HC2 := hid (show contL its n = contTo its (M ||| maskL (its[j]?.getD ([], [])).1) j by rw [HC.out, contTo, if_pos hb])
        rcases hA.at_ with e | ⟨b, off, rfl, hc⟩
        · rw [e] at hn; simp at hn
        obtain ⟨A, c, B, d, c0, c1, hAi, _⟩ := hc j (by omega)
        have hsm : Small 64 (its[j]?.getD ([], [])).1 := fun x hx => by
          have := isSetFrom_ge _ _ _ (HI.out j (by omega)).2.1 x hx
          omega
        have hml : maskL (its[j]?.getD ([], [])).1 < 2 ^ 20 := maskL_lt 20 _ (fun x hx => by
          have := isSetFrom_ge _ _ _ (HI.out j (by omega)).2.1 x hx
          omega)
        clear hc
        generalize (its[j]?.getD ([], [])).1 = ps at *
        generalize (its[j]?.getD ([], [])).2 = hs at *
        have hjl : (j : Int) < (its.length : Int) := by omega
        have hor := Nat.or_lt_two_pow hM hml
        have HO := hid (or_bits M (maskL ps) (by omega) (by omega))
        go_wp2_with fail
        refine (HM.out _).mono ?_
        rintro e w' ⟨rfl, rfl⟩
        rw [hb]
        clear hb
        go_wp2_with fail
        refine (maskOf_any _ _ _ _ hAi hsm).mono ?_
        rintro e w' ⟨rfl, rfl⟩
        go_wp2
        go_round
        case rel => exact ⟨j, M ||| maskL ps, by omega, rfl, by rw [HO.out], hor, HC2⟩
        case measure => simp [intOf] <;> omega
    · obtain rfl : k = 0 := by omega
      have HC2 := hid (show contL its n = M from HC.out)
      have hneg : ((0 : Nat) : Int) - 1 = -1 := rfl
      rw [hneg]
      clear hneg
      go_wp2
      go_ret
      exact ⟨hB0, by rw [HC2.out]; exact hM, by rw [HC2.out]; rfl⟩

theorem stepsOk_take {n : Int} {l : List StepL} (h : StepsOk n l) (k : Nat) : StepsOk n (l.take k) := fun s hs => h s (List.mem_of_mem_take hs)
theorem ownAdd_ok {n : Int} {frm : Int} {acc : List StepL} {p : Int} (h : StepsOk n acc) (hp : 0 ≤ p ∧ p < n) : StepsOk n (ownAdd frm acc p) := by
  unfold ownAdd
  split
  · exact h
  · intro s hs
    rcases List.mem_append.1 hs with hs | hs
    · exact h s hs
    · simp at hs; subst hs; exact hp
theorem ownAdd_len (frm : Int) (acc : List StepL) (p : Int) : (ownAdd frm acc p).length ≤ acc.length + 1 := by
  unfold ownAdd; split <;> simp
theorem ownHas_ok {n : Int} (frm : Int) {acc : List StepL} (hs : List Int) (h : StepsOk n acc) (hp : ∀ p ∈ hs, 0 ≤ p ∧ p < n) : StepsOk n (ownHas frm acc hs) := by
  induction hs generalizing acc with
  | nil => exact h
  | cons x t ih => exact ih (ownAdd_ok h (hp x (by simp))) (fun p hh => hp p (by simp [hh]))
theorem ownHas_len (frm : Int) (acc : List StepL) (hs : List Int) : (ownHas frm acc hs).length ≤ acc.length + hs.length := by
  induction hs generalizing acc with
  | nil => simp [ownHas]
  | cons x t ih =>
    have h1 := ih (ownAdd frm acc x)
    have h2 := ownAdd_len frm acc x
    show (ownHas frm (ownAdd frm acc x) t).length ≤ _
    simp; omega
/-- The steps one by one: at most as many as different properties. -/
theorem propsL_bit (l : List StepL) (i : Nat) : (propsL l).testBit i = decide (∃ s ∈ l, s.1.toNat = i) := by
  suffices H : ∀ m, (propsFrom m l).testBit i = (m.testBit i || decide (∃ s ∈ l, s.1.toNat = i)) from by rw [propsL, H]; simp
  induction l with
  | nil => simp [propsFrom]
  | cons x t ih =>
    intro m
    show (propsFrom (m ||| 2 ^ x.1.toNat) t).testBit i = _
    rw [ih, Nat.testBit_or, Nat.testBit_two_pow, Bool.or_assoc]
    congr 1
    rw [← Bool.decide_or, decide_eq_decide]
    simp
/-- As many steps as properties that they have. -/
def Fresh (l : List StepL) : Prop := l.length = cntBits (propsL l) 10
theorem Fresh.add {l : List StepL} (h : Fresh l) (s : StepL) (hs : 0 ≤ s.1 ∧ s.1 < 10) (hb : (propsL l).testBit s.1.toNat = false) : Fresh (l ++ [s]) := by
  unfold Fresh at h ⊢
  rw [propsL_snoc, cntBits_with _ _ _ hb, if_pos (by omega), List.length_append, h]
  rfl
theorem Fresh.len {l : List StepL} (h : Fresh l) : l.length ≤ 10 := by rw [h]; exact cntBits_le _ _
theorem ownAdd_fresh {frm : Int} {acc : List StepL} {p : Int} (h : Fresh acc) (hp : 0 ≤ p ∧ p < 10) : Fresh (ownAdd frm acc p) := by
  unfold ownAdd
  split
  · exact h
  · rename_i hb; exact h.add (p, frm, -1) hp (by simpa using hb)
theorem ownHas_fresh (frm : Int) {acc : List StepL} (hs : List Int) (h : Fresh acc) (hp : ∀ p ∈ hs, 0 ≤ p ∧ p < 10) : Fresh (ownHas frm acc hs) := by
  induction hs generalizing acc with
  | nil => exact h
  | cons x t ih => exact ih (ownAdd_fresh h (hp x (by simp))) (fun p hh => hp p (by simp [hh]))
theorem contTo_bits (its : List ItemL) (hI : ∀ k, k < its.length → ∀ x ∈ (its[k]?.getD ([], [])).1, 0 ≤ x ∧ x < (k : Int)) (M k : Nat) (hk : k ≤ its.length) (hM : ∀ i, M.testBit i = true → i < its.length) : ∀ i, (contTo its M k).testBit i = true → i < its.length := by
  induction k generalizing M with
  | zero => exact hM
  | succ k ih =>
    rw [contTo]
    refine ih _ (by omega) (fun i hi => ?_)
    split at hi
    · rw [Nat.testBit_or, Bool.or_eq_true] at hi
      rcases hi with hi | hi
      · exact hM i hi
      · rw [testBit_maskL, decide_eq_true_iff] at hi
        obtain ⟨x, hx, rfl⟩ := hi
        have := hI k (by omega) x hx
        omega
    · exact hM i hi
/-- What an item contains are items. -/
theorem contL_bits (P : Int) (its : List ItemL) (hi : itemsE P 0 its = 0) (n : Nat) (hn : n < its.length) : ∀ i, (contL its n).testBit i = true → i < its.length := by
  refine contTo_bits its (fun k hk x hx => ?_) _ _ (by omega) (fun i hb => ?_)
  · have := isSetFrom_ge _ _ _ (itemsE_ok P its 0 hi k hk).2.1 x hx
    omega
  · rw [Nat.testBit_two_pow, decide_eq_true_iff] at hb; omega

end Go.Proofs.Ytdgleicpcjfnoaa
