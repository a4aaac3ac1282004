/- How many words are accepted from each state; Count: package menu. -/
import Derived.Test.YtkboeldafppicaaByLen
set_option linter.unusedVariables false
set_option linter.unusedSimpArgs false
namespace Go.Proofs.Ytkboeldafppicaa
open Go.RowKit

def sumN (f : Nat → Int) : Nat → Int
  | 0 => 0
  | c + 1 => sumN f c + f c
theorem sumN_bd (f : Nat → Int) (B : Int) (L : Nat) (h : ∀ c, c < L → 0 ≤ f c ∧ f c ≤ B) : ∀ k, k ≤ L → 0 ≤ sumN f k ∧ sumN f k ≤ k * B := by
  intro k
  induction k with
  | zero => intro _; simp [sumN]
  | succ k ih =>
    intro hk
    have h1 := ih (by omega)
    have h2 := h k (by omega)
    rw [sumN]
    have : ((k + 1 : Nat) : Int) * B = (k : Int) * B + B := by rw [Int.natCast_add, Int.add_mul]; simp
    omega
/-- How many words of k letters are accepted from a state. -/
def wT (L : Nat) (rows : List (List Int)) (accs : List Bool) : Nat → Nat → Int
  | 0, s => if mA accs s = true then 1 else 0
  | k + 1, s => sumN (fun c => wT L rows accs k (mN rows s c)) L
theorem wT_bd {L : Nat} {rows : List (List Int)} {accs : List Bool} (hg : GoodM L rows accs) (k : Nat) : ∀ s, s < rows.length → 0 ≤ wT L rows accs k s ∧ wT L rows accs k s ≤ (6 : Int) ^ k := by
  induction k with
  | zero => intro s hs; rw [wT]; split <;> simp
  | succ k ih =>
    intro s hs
    rw [wT]
    have h1 := sumN_bd (fun c => wT L rows accs k (mN rows s c)) ((6 : Int) ^ k) L (fun c hc => ih _ ((hg.ent s c hs hc).1)) L (Nat.le_refl _)
    have h2 := hg.hi
    have h3 : (0 : Int) ≤ (6 : Int) ^ k := Int.le_of_lt (Int.pow_pos (by omega))
    have h4 : (L : Int) * (6 : Int) ^ k ≤ 6 * (6 : Int) ^ k := Int.mul_le_mul_of_nonneg_right (by omega) h3
    rw [Int.pow_succ, Int.mul_comm]
    omega
theorem pow6_le (k : Nat) (hk : k ≤ 20) : (6 : Int) ^ k ≤ 3656158440062976 := by
  have : ∀ d : Nat, (6 : Int) ^ k ≤ (6 : Int) ^ (k + d) := by
    intro d
    induction d with
    | zero => exact Int.le_refl _
    | succ d ih =>
      rw [← Nat.add_assoc, Int.pow_succ]
      have : (0 : Int) ≤ (6 : Int) ^ (k + d) := Int.le_of_lt (Int.pow_pos (by omega))
      omega
  have h := this (20 - k)
  rw [show k + (20 - k) = 20 by omega] at h
  exact Int.le_trans h (by decide)
theorem wT_small {L : Nat} {rows : List (List Int)} {accs : List Bool} (hg : GoodM L rows accs) (k s : Nat) (hk : k ≤ 20) (hs : s < rows.length) : 0 ≤ wT L rows accs k s ∧ wT L rows accs k s ≤ 3656158440062976 := by
  have := wT_bd hg k s hs
  have := pow6_le k hk
  omega
set_option maxRecDepth 100000 in
set_option maxHeartbeats 4000000 in
theorem wordsC_any (L s k nc ac cK pM : Nat) (Na Aa K : Option Addr) (rows : List (List Int)) (accs : List Bool) (w : World) (h : MachAt w Na rows Aa accs) (hg : GoodM L rows accs) (hs : s < rows.length) (hk : k < 20) (hn5 : rows.length ≤ 5000) (hK : Ints w K ((List.range rows.length).map (wT L rows accs k)))
    (m1 : w.cell? ⟨pM, 1, none⟩ = some (.slice Na rows.length nc)) :
    Calls Try.prog 136 #[.int .i64 s, .slice K rows.length cK, .pointer (some ⟨pM, 0, none⟩)] w fun e w' => Below w.heap.size w w' ∧ e = .returned (.int .i64 (wT L rows accs (k + 1) s)) := by
  have hn := h.nlen
  have hrow := hg.row s hs
  have HG := hid hg
  have HC := hid (fun c (hc : c < L) => h.row s c hs (by rw [hrow]; exact hc))
  have HE := hid (fun c (hc : c < L) => hg.ent s c hs hc)
  have HKc : Hid (∀ j, j < rows.length → ∃ b o, K = some ⟨b, o, none⟩ ∧ w.cell? ⟨b, o + j, none⟩ = some (.int .i64 (wT L rows accs k j))) := hid (fun j hj => by
    rcases hK.at_ with e | ⟨b, o, hA, hc⟩
    · have := congrArg List.length e; simp at this; rw [this] at hj; simp at hj
    · have := hc j (by simpa using hj)
      exact ⟨b, o, hA, by simpa [hj] using this⟩)
  have hL1 := hg.lo
  have hL6 := hg.hi
  have HSu := hid (fun c (hc : c ≤ L) => sumN_bd (fun c => wT L rows accs k (mN rows s c)) 3656158440062976 L (fun c hc => wT_small hg k _ (by omega) (hg.ent s c hs hc).1) c hc)
  have HSt := hid (show wT L rows accs (k + 1) s = sumN (fun c => wT L rows accs k (mN rows s c)) L from rfl)
  have HWs := hid (fun j (hj : j < rows.length) => wT_small hg k j (by omega) hj)
  obtain ⟨b, off, g, o, kk, rfl, g1, g2, g3⟩ := h.row s 0 hs (by rw [hrow]; omega)
  have HRw : Hid (∀ c, c < L → w.cell? ⟨g, o + c, none⟩ = some (.int .i64 (mN rows s c : Int))) := hid (fun c hc => by
    obtain ⟨b', off', g', o', k', e1, e2, e3, _⟩ := HC.out c hc
    simp only [Option.some.injEq, Addr.mk.injEq, and_true] at e1
    obtain ⟨rfl, rfl⟩ := e1
    rw [g1] at e2
    simp only [Option.some.injEq, Value.slice.injEq, Addr.mk.injEq, and_true, true_and] at e2
    obtain ⟨⟨rfl, rfl⟩, _⟩ := e2
    rw [e3, (HE.out c hc).2])
  rw [hrow] at g1
  clear h hg hrow HC hK g2 g3
  go_enter Try.func136, Try.ntmps136
  go_wp2
  go_loopw [6, 15] (fun q i wr => ∃ (c : Nat), c ≤ L ∧ i = .int .i64 c ∧ q = .int .i64 (sumN (fun c => wT L rows accs k (mN rows s c)) c) ∧ Hid (wr = w)) (fun _ i _ => L - (intOf i).toNat)
  case atStart => exact ⟨0, Nat.zero_le _, rfl, rfl, rfl⟩
  case round =>
    obtain ⟨c, hc, rfl, rfl, HW⟩ := hrel
    by_cases hlt : c < L
    · have d0 := HRw.out c hlt
      have he := (HE.out c hlt).1
      obtain ⟨bk, ok, hKa, d1⟩ := HKc.out _ he
      have hsu := HSu.out c hc
      have hws := HWs.out _ he
      have HSs := hid (show sumN (fun c => wT L rows accs k (mN rows s c)) (c + 1) = sumN (fun c => wT L rows accs k (mN rows s c)) c + wT L rows accs k (mN rows s c) from rfl)
      rw [← HW.out] at d0 d1
      subst hKa
      generalize sumN (fun c => wT L rows accs k (mN rows s c)) c = z at *
      generalize wT L rows accs k (mN rows s c) = y at *
      generalize mN rows s c = j at *
      have hc0 : (c : Int) < (L : Int) := by omega
      go_wp2
      go_roundw
      case rel => exact ⟨c + 1, by omega, by go_num, by rw [HSs.out], HW.out⟩
      case measure => simp [intOf]; omega
    · obtain rfl : c = L := by omega
      go_wp2
      go_ret
      exact ⟨by rw [HW.out]; exact Below.refl _ _, by rw [HSt.out]; rfl⟩
end Go.Proofs.Ytkboeldafppicaa
