/- The Go function Menus of package dish. -/
import Derived.Test.YtdgleicpcjfnoaaProofN
import Derived.Test.YtdgleicpcjfnoaaNumbers
/- Tables of children and dishes: plain functions. -/
set_option linter.unusedVariables false
namespace Go.Proofs.Ytdgleicpcjfnoaa

def choiceB (s n : Int) : Bool := decide (0 ≤ s ∧ s < ((2 ^ n.toNat : Nat) : Int))
def allChoice (d : Int) : List Int → Bool
  | [] => true
  | x :: t => choiceB x d && allChoice d t
def validTab (rows : List Int) (d : Int) : Int :=
  if d < 0 ∨ 8 < d then 1 else if 8 < rows.length then 4 else if allChoice d rows then 0 else 1
theorem allChoice_drop (d : Int) (xs : List Int) (k : Nat) (h : k < xs.length) : allChoice d (xs.drop k) = (choiceB (xs[k]?.getD 0) d && allChoice d (xs.drop (k + 1))) := by
  rw [List.drop_eq_getElem_cons h, allChoice]; simp [h]
theorem allChoice_mem (d : Int) (xs : List Int) (h : allChoice d xs = true) : ∀ x ∈ xs, 0 ≤ x ∧ x < ((2 ^ d.toNat : Nat) : Int) := by
  induction xs with
  | nil => intro x hx; cases hx
  | cons y t ih =>
    rw [allChoice, Bool.and_eq_true] at h
    intro x hx
    rcases List.mem_cons.1 hx with rfl | hx
    · simpa [choiceB] using h.1
    · exact ih h.2 x hx
theorem validTab_ok {rows : List Int} {d : Int} (h : validTab rows d = 0) : 0 ≤ d ∧ d ≤ 8 ∧ rows.length ≤ 8 ∧ ∀ x ∈ rows, 0 ≤ x ∧ x < ((2 ^ d.toNat : Nat) : Int) := by
  unfold validTab at h
  split at h
  · simp at h
  · split at h
    · simp at h
    · split at h
      · rename_i h3; exact ⟨by omega, by omega, by omega, allChoice_mem d rows h3⟩
      · simp at h

def feedsB (m : Nat) : List Int → Bool
  | [] => true
  | x :: t => decide (x.toNat &&& m ≠ 0) && feedsB m t
theorem feedsB_drop (m : Nat) (xs : List Int) (k : Nat) (h : k < xs.length) : feedsB m (xs.drop k) = (decide ((xs[k]?.getD 0).toNat &&& m ≠ 0) && feedsB m (xs.drop (k + 1))) := by
  rw [List.drop_eq_getElem_cons h, feedsB]; simp [h]
theorem feedsB_iff (m : Nat) (xs : List Int) : feedsB m xs = true ↔ ∀ x ∈ xs, x.toNat &&& m ≠ 0 := by
  induction xs with
  | nil => simp [feedsB]
  | cons x t ih => rw [feedsB, Bool.and_eq_true, ih]; simp
/-- A set without one number. -/
def without (m x : Nat) : Nat := m &&& (2 ^ 64 - 1 - 2 ^ x)
def spareB (rows : List Int) (m : Nat) : List Int → Bool
  | [] => false
  | x :: t => feedsB (without m x.toNat) rows || spareB rows m t
theorem spareB_drop (rows : List Int) (m : Nat) (xs : List Int) (k : Nat) (h : k < xs.length) : spareB rows m (xs.drop k) = (feedsB (without m (xs[k]?.getD 0).toNat) rows || spareB rows m (xs.drop (k + 1))) := by
  rw [List.drop_eq_getElem_cons h, spareB]; simp [h]
theorem spareB_iff (rows : List Int) (m : Nat) (xs : List Int) : spareB rows m xs = true ↔ ∃ x ∈ xs, feedsB (without m x.toNat) rows = true := by
  induction xs with
  | nil => simp [spareB]
  | cons x t ih => rw [spareB, Bool.or_eq_true, ih]; simp
def goodMenu (rows : List Int) (m : Nat) : Bool := feedsB m rows && !spareB rows m (bitsTo m 64)
def menusTo (rows : List Int) : Nat → List Int
  | 0 => []
  | m + 1 => menusTo rows m ++ (if goodMenu rows m then [(m : Int)] else [])
theorem menusTo_len (rows : List Int) (n : Nat) : (menusTo rows n).length ≤ n := by
  induction n with
  | zero => simp [menusTo]
  | succ n ih => rw [menusTo]; split <;> simp <;> omega
theorem menusTo_bd (rows : List Int) (n : Nat) : ∀ x ∈ menusTo rows n, 0 ≤ x ∧ x < n := by
  induction n with
  | zero => intro x hx; cases hx
  | succ n ih =>
    intro x hx
    rw [menusTo] at hx
    rcases List.mem_append.1 hx with hx | hx
    · have := ih x hx; omega
    · split at hx
      · simp at hx; omega
      · cases hx
def menusR (rows : List Int) (d : Int) : List Int × Int :=
  if validTab rows d ≠ 0 then ([], validTab rows d) else (menusTo rows (2 ^ d.toNat), 0)
theorem pow_le_256 {d : Int} (h0 : 0 ≤ d) (h1 : d ≤ 8) : 2 ^ d.toNat ≤ 256 := by
  have : d.toNat ≤ 8 := by omega
  exact Nat.pow_le_pow_right (by omega) this

end Go.Proofs.Ytdgleicpcjfnoaa
/- Tables of package dish: isChoice, ValidateTable, feeds, hasSpare, Menus. -/
set_option linter.unusedVariables false
namespace Go.Proofs.Ytdgleicpcjfnoaa
open Go.RowKit

theorem wrap64_is (x : Int) : wrap64 x = IntKind.i64.wrap x := by rw [IntKind.wrap_i64, wrap64]
theorem shl_one (n : Int) (h0 : 0 ≤ n) (h1 : n ≤ 60) : IntKind.i64.wrap (2 ^ min n.toNat 64) = ((2 ^ n.toNat : Nat) : Int) := by
  have e : min n.toNat 64 = n.toNat := by omega
  have h2 := two_pow_lt (show n.toNat < 63 by omega)
  have : ((2 : Int) ^ n.toNat) = ((2 ^ n.toNat : Nat) : Int) := by simp
  rw [e, IntKind.wrap_i64, this]
  generalize 2 ^ n.toNat = p at *
  omega

set_option maxHeartbeats 1000000 in
theorem isChoice_any (s : Int) (n : Nat) (w : World) (h1 : n ≤ 60) :
  Calls Try.prog 110 #[.int .i64 s, .int .i64 n] w fun en w' => w = w' ∧ en = .returned (.bool (choiceB s n)) := by
  have hp := two_pow_lt (show n < 63 by omega)
  have hpw : IntKind.i64.wrap (2 ^ n) = ((2 ^ n : Nat) : Int) := by
    have : ((2 : Int) ^ n) = ((2 ^ n : Nat) : Int) := by simp
    rw [IntKind.wrap_i64, this]
    generalize 2 ^ n = p at *
    omega
  by_cases h0 : 0 ≤ s
  · have HR := hid (show choiceB s n = decide (s < ((2 ^ n : Nat) : Int)) by simp [choiceB, h0])
    go_enter Try.func110, Try.ntmps110
    go_wp2
    go_ret
    exact ⟨rfl, ret_bool (by rw [HR.out]; simp)⟩
  · have HR := hid (show choiceB s n = false by simp [choiceB, h0])
    have h0' : s < 0 := by omega
    go_enter Try.func110, Try.ntmps110
    go_wp2
    go_ret
    exact ⟨rfl, ret_bool HR.out.symm⟩

set_option maxRecDepth 100000 in
set_option maxHeartbeats 2000000 in
theorem validTab_any (a : Option Addr) (rows : List Int) (cap : Nat) (d : Int) (w : World) (h : Ints w a rows) :
  Calls Try.prog 91 #[.slice a rows.length cap, .int .i64 d] w fun en w' => w = w' ∧ en = .returned (.int .i64 (validTab rows d)) := by
  have hlen := h.len
  have HH := hid h
  clear h
  by_cases h0 : d < 0
  · have HR := hid (show validTab rows d = 1 by rw [validTab, if_pos (.inl h0)])
    go_enter Try.func91, Try.ntmps91
    go_wp2
    go_ret
    exact ⟨rfl, ret_int HR.out.symm⟩
  · obtain ⟨n, rfl⟩ := Int.eq_ofNat_of_zero_le (show 0 ≤ d by omega)
    clear h0
    by_cases h1 : 8 < n
    · have HR := hid (show validTab rows n = 1 by rw [validTab, if_pos (.inr (by omega))])
      have h1' : (8 : Int) < (n : Int) := by omega
      go_enter Try.func91, Try.ntmps91
      go_wp2
      go_ret
      exact ⟨rfl, ret_int HR.out.symm⟩
    · have h1' : (n : Int) ≤ 8 := by omega
      by_cases h2 : 8 < rows.length
      · have HR := hid (show validTab rows n = 4 by rw [validTab, if_neg (by omega), if_pos h2])
        have h2' : (8 : Int) < (rows.length : Int) := by omega
        go_enter Try.func91, Try.ntmps91
        go_wp2
        go_ret
        exact ⟨rfl, ret_int HR.out.symm⟩
      · have HR := hid (show validTab rows n = if allChoice n rows then 0 else 1 by rw [validTab, if_neg (by omega), if_neg h2])
        have h2' : (rows.length : Int) ≤ 8 := by omega
        clear h1 h2
        go_enter Try.func91, Try.ntmps91
        go_wp2
        go_loop [18] (fun i => ∃ k : Nat, k ≤ rows.length ∧ i = .int .i64 k ∧ Hid (allChoice n rows = allChoice n (rows.drop k))) (fun i => rows.length - (intOf i).toNat)
        case atStart => exact ⟨0, Nat.zero_le _, rfl, rfl⟩
        case round =>
          obtain ⟨k, hk, rfl, HA⟩ := hrel
          by_cases hlt : k < rows.length
          · rcases HH.out.at_ with e | ⟨b, off, rfl, hc⟩
            · rw [e] at hlt; simp at hlt
            have c0 := hc k hlt
            have HD := hid (allChoice_drop n rows k hlt)
            clear hc
            generalize rows[k]?.getD 0 = x at *
            cases hx : choiceB x n with
            | true =>
              go_wp2_with fail
              refine (isChoice_any x n _ (by omega)).mono ?_
              rintro e w' ⟨rfl, rfl⟩
              rw [hx]
              go_wp2
              go_round
              case rel => exact ⟨k + 1, by omega, by go_num, by unfold Hid; rw [HA.out, HD.out, hx]; rfl⟩
              case measure => simp [intOf]; omega
            | false =>
              go_wp2_with fail
              refine (isChoice_any x n _ (by omega)).mono ?_
              rintro e w' ⟨rfl, rfl⟩
              rw [hx]
              go_wp2
              go_ret
              exact ⟨rfl, ret_int (by rw [HR.out, HA.out, HD.out, hx]; rfl)⟩
          · go_wp2
            go_ret
            exact ⟨rfl, ret_int (by rw [HR.out, HA.out, List.drop_of_length_le (by omega)]; rfl)⟩

set_option maxRecDepth 100000 in
set_option maxHeartbeats 2000000 in
theorem feeds_any (a : Option Addr) (rows : List Int) (cap : Nat) (m : Nat) (w : World) (h : Ints w a rows) (hr : ∀ x ∈ rows, 0 ≤ x) (hm : m < 9223372036854775808) :
  Calls Try.prog 92 #[.slice a rows.length cap, .int .i64 m] w fun en w' => w = w' ∧ en = .returned (.bool (feedsB m rows)) := by
  have hlen := h.len
  have HH := hid h
  have HB := hid hr
  clear h hr
  go_enter Try.func92, Try.ntmps92
  go_wp2
  go_loop [9] (fun i => ∃ k : Nat, k ≤ rows.length ∧ i = .int .i64 k ∧ Hid (feedsB m rows = feedsB m (rows.drop k))) (fun i => rows.length - (intOf i).toNat)
  case atStart => exact ⟨0, Nat.zero_le _, rfl, rfl⟩
  case round =>
    obtain ⟨k, hk, rfl, HA⟩ := hrel
    by_cases hlt : k < rows.length
    · rcases HH.out.at_ with e | ⟨b, off, rfl, hc⟩
      · rw [e] at hlt; simp at hlt
      have c0 := hc k hlt
      have HD := hid (feedsB_drop m rows k hlt)
      have hx0 := HB.out _ (getD_mem rows k hlt)
      have hx1 := HH.out.bdAt k hlt
      clear hc
      generalize rows[k]?.getD 0 = x at *
      obtain ⟨n, rfl⟩ := Int.eq_ofNat_of_zero_le hx0
      rw [Int.toNat_natCast] at HD
      have hb := i64_and_n n m (by omega) hm
      by_cases hz : n &&& m = 0
      · have ht : (bits .and .i64 (n : Int) (m : Int) == 0) = true := by rw [hb, hz]; rfl
        have HF := hid (show feedsB m rows = false by rw [HA.out, HD.out]; simp [hz])
        clear hb hz
        go_wp2
        go_ret
        exact ⟨rfl, ret_bool HF.out.symm⟩
      · have ht : (bits .and .i64 (n : Int) (m : Int) == 0) = false := by rw [hb]; simp; omega
        have HF := hid (show feedsB m rows = feedsB m (rows.drop (k + 1)) by rw [HA.out, HD.out]; simp [hz])
        clear hb hz
        go_wp2
        go_round
        case rel => exact ⟨k + 1, by omega, by go_num, HF⟩
        case measure => simp [intOf]; omega
    · go_wp2
      go_ret
      exact ⟨rfl, ret_bool (by rw [HA.out, List.drop_of_length_le (by omega)]; rfl)⟩

theorem without_bits (m x : Nat) (hm : m < 9223372036854775808) (hx : x < 62) : bits .andNot .i64 (m : Int) (IntKind.i64.wrap (2 ^ x)) = ((without m x : Nat) : Int) := by
  have h2 := two_pow_lt (show x < 63 by omega)
  have e : IntKind.i64.wrap (2 ^ x) = ((2 ^ x : Nat) : Int) := by
    have : ((2 : Int) ^ x) = ((2 ^ x : Nat) : Int) := by simp
    rw [IntKind.wrap_i64, this]
    generalize 2 ^ x = p at *
    omega
  rw [e, i64_andNot_n m _ hm (by omega)]
  rfl
theorem without_lt (m x : Nat) (hm : m < 9223372036854775808) : without m x < 9223372036854775808 := by
  unfold without
  rw [Nat.and_comm]
  exact Nat.and_lt_two_pow (n := 63) _ hm

set_option maxRecDepth 100000 in
set_option maxHeartbeats 2000000 in
theorem hasSpare_any (a : Option Addr) (rows : List Int) (cap : Nat) (m : Nat) (w : World) (h : Ints w a rows) (hr : ∀ x ∈ rows, 0 ≤ x) (hm : m < 1024) :
  Calls Try.prog 93 #[.slice a rows.length cap, .int .i64 m] w (BoolR w (spareB rows m (numsL m))) := by
  have hlen := h.len
  have hsm : ∀ x ∈ numsL m, 0 ≤ x ∧ x < 10 := fun x hx => by
    obtain ⟨i, rfl, _, hb⟩ := (mem_numsL m x).1 hx
    have : i < 10 := Nat.lt_of_not_le fun hh => by
      rw [Nat.testBit_lt_two_pow (Nat.lt_of_lt_of_le hm (Nat.pow_le_pow_right (n := 2) (by omega) hh))] at hb; cases hb
    omega
  have HS := hid hsm
  have hln := numsL_len m
  have hc64 : IntKind.u64.wrap (m : Int) = (m : Int) := by rw [IntKind.wrap_u64]; omega
  clear hsm
  go_enter Try.func93, Try.ntmps93
  go_wp2_with fail
  refine (numbers_any m _ (by omega)).mono ?_
  rintro e w1 ⟨q1, A, c, rfl, hown⟩
  have hI := h.below q1
  obtain ⟨A2, c2, hv, hN⟩ := hown.ints (by omega) (fun x hx => by have := HS.out x hx; omega)
  cases hv
  have HI := hid hI
  have HN := hid hN
  clear hI hN hown hc64 h
  have HB := hid hr
  clear hr
  generalize numsL m = ns at *
  go_wp2
  go_loop [11] (fun i => ∃ k : Nat, k ≤ ns.length ∧ i = .int .i64 k ∧ Hid (spareB rows m ns = spareB rows m (ns.drop k))) (fun i => ns.length - (intOf i).toNat)
  case atStart => exact ⟨0, Nat.zero_le _, rfl, rfl⟩
  case round =>
    obtain ⟨k, hk, rfl, HA⟩ := hrel
    by_cases hlt : k < ns.length
    · rcases HN.out.at_ with e | ⟨b, off, rfl, hc⟩
      · rw [e] at hlt; simp at hlt
      have c0 := hc k hlt
      have HD := hid (spareB_drop rows m ns k hlt)
      have hx0 := HS.out _ (getD_mem ns k hlt)
      clear hc
      generalize ns[k]?.getD 0 = x at *
      obtain ⟨n, rfl⟩ := Int.eq_ofNat_of_zero_le hx0.1
      rw [Int.toNat_natCast] at HD
      have HW := hid (show bits .andNot .i64 (m : Int) (wrap64 (2 ^ n)) = ((without m n : Nat) : Int) by rw [wrap64_is]; exact without_bits m n (by omega) (by omega))
      have hwl := without_lt m n (by omega)
      go_wp2_with fail
      rw [HW.out]
      refine (feeds_any _ _ _ _ _ HI.out HB.out hwl).mono ?_
      rintro e w' ⟨rfl, rfl⟩
      cases hf : feedsB (without m n) rows with
      | true =>
        go_wp2
        go_ret
        exact ⟨q1, ret_bool (by rw [HA.out, HD.out, hf]; rfl)⟩
      | false =>
        go_wp2
        go_round
        case rel => exact ⟨k + 1, by omega, by go_num, by unfold Hid; rw [HA.out, HD.out, hf]; rfl⟩
        case measure => simp [intOf]; omega
    · go_wp2
      go_ret
      exact ⟨q1, ret_bool (by rw [HA.out, List.drop_of_length_le (by omega)]; rfl)⟩

end Go.Proofs.Ytdgleicpcjfnoaa
set_option linter.unusedVariables false
namespace Go.Proofs.Ytdgleicpcjfnoaa
open Go.RowKit

def OwnERs (w : World) (base : Nat) (p : List Int × Int) (en : Ending) (w' : World) : Prop :=
  Below w.heap.size w w' ∧ ∃ A c, en = .returned (.tuple #[.slice A p.1.length c, .int .i64 p.2]) ∧ Own w' base (.slice A p.1.length c) p.1
theorem own_sl {w : World} {base : Nat} {v : Value} {xs : List Int} (h : Own w base v xs) : ∃ A c, v = .slice A xs.length c := by
  rcases h.2 with ⟨hv, hn⟩ | ⟨g, c, cur, hv, _⟩
  · exact ⟨none, 0, by rw [hv, hn]⟩
  · exact ⟨_, _, hv⟩

set_option maxRecDepth 100000 in
set_option maxHeartbeats 4000000 in
theorem tmenus_any (a : Option Addr) (rows : List Int) (cap : Nat) (d : Int) (w : World) (h : Ints w a rows) :
  Calls Try.prog 44 #[.slice a rows.length cap, .int .i64 d] w (OwnERs w w.heap.size (menusR rows d)) := by
  have HV := hid (validTab_any a rows cap d · )
  by_cases hz : validTab rows d = 0
  · obtain ⟨h0, h8, hr8, hrr⟩ := validTab_ok hz
    have HM := hid (show menusR rows d = (menusTo rows (2 ^ d.toNat), 0) by rw [menusR, if_neg (by simp [hz])])
    have HZ := hid hz
    obtain ⟨n, rfl⟩ := Int.eq_ofNat_of_zero_le h0
    rw [Int.toNat_natCast] at HM
    have hp := pow_le_256 h0 h8
    rw [Int.toNat_natCast] at hp
    have HP := hid (show wrap64 (2 ^ n) = ((2 ^ n : Nat) : Int) by
      have : ((2 : Int) ^ n) = ((2 ^ n : Nat) : Int) := by simp
      rw [wrap64, this]
      generalize 2 ^ n = p at *
      omega)
    have HRr := hid (fun x hx => (hrr x hx).1)
    obtain ⟨i0, hi, hz0, hz1, hz2⟩ := info_parts int_info
    clear hz hrr
    have HH := hid h
    go_enter Try.func44, Try.ntmps44
    go_wp2_with fail
    refine (HV.out _ h).mono ?_
    rintro e w' ⟨rfl, rfl⟩
    rw [HZ.out]
    clear HV h
    go_wp2
    rw [HP.out]
    generalize 2 ^ n = N at *
    go_loopw [7, 17] (fun o i wr => ∃ j : Nat, j ≤ N ∧ i = .int .i64 j ∧ wr.ownsRow w.heap.size 3 1 o (menusTo rows j).length ((menusTo rows j).map (Value.int .i64)) ∧ Below w.heap.size w wr) (fun _ i _ => N - (intOf i).toNat)
    case atStart => exact ⟨0, Nat.zero_le _, rfl, ⟨rfl, .inl ⟨rfl, rfl⟩⟩, Below.refl _ _⟩
    case round =>
      obtain ⟨j, hj, rfl, hown, hB⟩ := hrel
      by_cases hlt : j < N
      · have hlen := menusTo_len rows j
        have hI := HH.out.below hB
        have hlt' : (j : Int) < (N : Int) := by omega
        cases hf : feedsB j rows with
        | false =>
          have HT := hid (show menusTo rows (j + 1) = menusTo rows j by rw [menusTo, if_neg (by simp [goodMenu, hf])]; simp)
          generalize menusTo rows j = pre at *
          go_wp2_with fail
          refine (feeds_any _ _ _ j _ hI HRr.out (by omega)).mono ?_
          rintro e w' ⟨rfl, rfl⟩
          rw [hf]
          go_wp2
          go_roundw
          case rel => exact ⟨j + 1, by omega, by go_num, by rw [HT.out]; exact hown, hB⟩
          case measure => simp [intOf]; omega
        | true =>
          cases hs : spareB rows j (numsL j) with
          | true =>
            have HT := hid (show menusTo rows (j + 1) = menusTo rows j by
              have : goodMenu rows j = false := by rw [goodMenu, hf, show bitsTo j 64 = numsL j from rfl, hs]; rfl
              rw [menusTo, if_neg (by simp [this])]; simp)
            generalize menusTo rows j = pre at *
            go_wp2_with fail
            refine (feeds_any _ _ _ j _ hI HRr.out (by omega)).mono ?_
            rintro e w' ⟨rfl, rfl⟩
            rw [hf]
            go_wp2_with fail
            refine (hasSpare_any _ _ _ j _ hI HRr.out (by omega)).mono ?_
            rintro e w2 ⟨q2, rfl⟩
            rw [hs]
            have hown2 := own_below hown q2
            have p2 := hB.trans (q2.mono hB.size)
            go_wp2
            go_roundw
            case rel => exact ⟨j + 1, by omega, by go_num, by rw [HT.out]; exact hown2, p2⟩
            case measure => simp [intOf]; omega
          | false =>
            have HT := hid (show menusTo rows (j + 1) = menusTo rows j ++ [(j : Int)] by
              have : goodMenu rows j = true := by rw [goodMenu, hf, show bitsTo j 64 = numsL j from rfl, hs]; rfl
              rw [menusTo, if_pos this])
            generalize menusTo rows j = pre at *
            go_wp2_with fail
            refine (feeds_any _ _ _ j _ hI HRr.out (by omega)).mono ?_
            rintro e w' ⟨rfl, rfl⟩
            rw [hf]
            go_wp2_with fail
            refine (hasSpare_any _ _ _ j _ hI HRr.out (by omega)).mono ?_
            rintro e w2 ⟨q2, rfl⟩
            rw [hs]
            have hown2 := own_below hown q2
            have p2 := hB.trans (q2.mono hB.size)
            clear hown hI hf hs
            go_wp2_with (at_builtin; refine wpList_append_own _ rfl _ _ 32 rfl w.heap.size 3 i0 (.int .i64 0) 1 8 Try.underlying32 hi hz0 hz1 hz2 rfl (by decide) _ _ _ rfl (hown2.alloc _) ⟨w2.heap.size, 0, none⟩ 1 1 [.int .i64 (j : Int)] rfl rfl ?c1 ?c2 ?c3 ?c4 ?c5 ?_)
            case c1 => exact cell_one_new _ _ _
            case c2 => simp [Value.oneCell']
            case c3 => unfold maxLen; omega
            case c4 => omega
            case c5 => have := p2.size; simp; omega
            intro v' w4 hown3 hgrow _
            have p4 := (p2.alloc p2.size _).grown hgrow (by have := p2.size; simp; omega) (fun q hq => by have := (hown2.lt q hq).1; omega)
            clear hgrow hown2
            go_wp2
            go_roundw
            case rel => exact ⟨j + 1, by omega, by go_num, by rw [HT.out]; simpa using hown3, p4⟩
            case measure => simp [intOf]; omega
      · obtain rfl : j = N := by omega
        have hown' : Own wr w.heap.size u7 (menusTo rows j) := hown
        clear hown
        obtain ⟨A, c, rfl⟩ := own_sl hown'
        go_wp2
        refine bodyPost_ret (v := .tuple #[.slice A (menusTo rows j).length c, .int .i64 0]) (by simp [results, Try.results44, go_sem]) rfl ⟨hB, A, c, by rw [HM.out], by rw [HM.out]; exact hown'⟩
  · have hz' : (validTab rows d != 0) = true := by simp [hz]
    have HM := hid (show menusR rows d = ([], validTab rows d) by rw [menusR, if_pos hz])
    clear hz
    go_enter Try.func44, Try.ntmps44
    go_wp2_with fail
    refine (HV.out _ h).mono ?_
    rintro e w' ⟨rfl, rfl⟩
    go_wp2
    refine bodyPost_ret (v := .tuple #[.slice none 0 0, .int .i64 (validTab rows d)]) (by simp [results, Try.results44, go_sem]) rfl ⟨Below.refl _ _, none, 0, by rw [HM.out]; rfl, by rw [HM.out]; exact Own.nil _ _⟩

end Go.Proofs.Ytdgleicpcjfnoaa
