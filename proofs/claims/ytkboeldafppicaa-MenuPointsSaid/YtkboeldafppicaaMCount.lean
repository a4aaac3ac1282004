/- Count of package menu. -/
import Derived.Test.YtkboeldafppicaaByLen
/- How many words are accepted from each state; Count: package menu. -/
set_option linter.unusedVariables false
set_option linter.unusedSimpArgs false
namespace Go.Proofs.Ytkboeldafppicaa
open Go.RowKit

def sumN (f : Nat → Int) : Nat → Int
  | 0 => 0
  | c + 1 => sumN f c + f c
theorem sumN_bd (f : Nat → Int) (B : Int) (L : Nat) (h : ∀ c, c < L → 0 ≤ f c ∧ f c ≤ B) : ∀ k, k ≤ L → 0 ≤ sumN f k ∧ sumN f k ≤ k * B := by
  intro k
  induction k with
  | zero => intro _; simp [sumN]
  | succ k ih =>
    intro hk
    have h1 := ih (by omega)
    have h2 := h k (by omega)
    rw [sumN]
    have : ((k + 1 : Nat) : Int) * B = (k : Int) * B + B := by rw [Int.natCast_add, Int.add_mul]; simp
    omega
/-- How many words of k letters are accepted from a state. -/
def wT (L : Nat) (rows : List (List Int)) (accs : List Bool) : Nat → Nat → Int
  | 0, s => if mA accs s = true then 1 else 0
  | k + 1, s => sumN (fun c => wT L rows accs k (mN rows s c)) L
theorem wT_bd {L : Nat} {rows : List (List Int)} {accs : List Bool} (hg : GoodM L rows accs) (k : Nat) : ∀ s, s < rows.length → 0 ≤ wT L rows accs k s ∧ wT L rows accs k s ≤ (6 : Int) ^ k := by
  induction k with
  | zero => intro s hs; rw [wT]; split <;> simp
  | succ k ih =>
    intro s hs
    rw [wT]
    have h1 := sumN_bd (fun c => wT L rows accs k (mN rows s c)) ((6 : Int) ^ k) L (fun c hc => ih _ ((hg.ent s c hs hc).1)) L (Nat.le_refl _)
    have h2 := hg.hi
    have h3 : (0 : Int) ≤ (6 : Int) ^ k := Int.le_of_lt (Int.pow_pos (by omega))
    have h4 : (L : Int) * (6 : Int) ^ k ≤ 6 * (6 : Int) ^ k := Int.mul_le_mul_of_nonneg_right (by omega) h3
    rw [Int.pow_succ, Int.mul_comm]
    omega
theorem pow6_le (k : Nat) (hk : k ≤ 20) : (6 : Int) ^ k ≤ 3656158440062976 := by
  have : ∀ d : Nat, (6 : Int) ^ k ≤ (6 : Int) ^ (k + d) := by
    intro d
    induction d with
    | zero => exact Int.le_refl _
    | succ d ih =>
      rw [← Nat.add_assoc, Int.pow_succ]
      have : (0 : Int) ≤ (6 : Int) ^ (k + d) := Int.le_of_lt (Int.pow_pos (by omega))
      omega
  have h := this (20 - k)
  rw [show k + (20 - k) = 20 by omega] at h
  exact Int.le_trans h (by decide)
theorem wT_small {L : Nat} {rows : List (List Int)} {accs : List Bool} (hg : GoodM L rows accs) (k s : Nat) (hk : k ≤ 20) (hs : s < rows.length) : 0 ≤ wT L rows accs k s ∧ wT L rows accs k s ≤ 3656158440062976 := by
  have := wT_bd hg k s hs
  have := pow6_le k hk
  omega
set_option maxRecDepth 100000 in
set_option maxHeartbeats 4000000 in
theorem wordsC_any (L s k nc ac cK pM : Nat) (Na Aa K : Option Addr) (rows : List (List Int)) (accs : List Bool) (w : World) (h : MachAt w Na rows Aa accs) (hg : GoodM L rows accs) (hs : s < rows.length) (hk : k < 20) (hn5 : rows.length ≤ 5000) (hK : Ints w K ((List.range rows.length).map (wT L rows accs k)))
    (m1 : w.cell? ⟨pM, 1, none⟩ = some (.slice Na rows.length nc)) :
    Calls Try.prog 136 #[.int .i64 s, .slice K rows.length cK, .pointer (some ⟨pM, 0, none⟩)] w fun e w' => Below w.heap.size w w' ∧ e = .returned (.int .i64 (wT L rows accs (k + 1) s)) := by
  have hn := h.nlen
  have hrow := hg.row s hs
  have HG := hid hg
  have HC := hid (fun c (hc : c < L) => h.row s c hs (by rw [hrow]; exact hc))
  have HE := hid (fun c (hc : c < L) => hg.ent s c hs hc)
  have HKc : Hid (∀ j, j < rows.length → ∃ b o, K = some ⟨b, o, none⟩ ∧ w.cell? ⟨b, o + j, none⟩ = some (.int .i64 (wT L rows accs k j))) := hid (fun j hj => by
    rcases hK.at_ with e | ⟨b, o, hA, hc⟩
    · have := congrArg List.length e; simp at this; rw [this] at hj; simp at hj
    · have := hc j (by simpa using hj)
      exact ⟨b, o, hA, by simpa [hj] using this⟩)
  have hL1 := hg.lo
  have hL6 := hg.hi
  have HSu := hid (fun c (hc : c ≤ L) => sumN_bd (fun c => wT L rows accs k (mN rows s c)) 3656158440062976 L (fun c hc => wT_small hg k _ (by omega) (hg.ent s c hs hc).1) c hc)
  have HSt := hid (show wT L rows accs (k + 1) s = sumN (fun c => wT L rows accs k (mN rows s c)) L from rfl)
  have HWs := hid (fun j (hj : j < rows.length) => wT_small hg k j (by omega) hj)
  obtain ⟨b, off, g, o, kk, rfl, g1, g2, g3⟩ := h.row s 0 hs (by rw [hrow]; omega)
  have HRw : Hid (∀ c, c < L → w.cell? ⟨g, o + c, none⟩ = some (.int .i64 (mN rows s c : Int))) := hid (fun c hc => by
    obtain ⟨b', off', g', o', k', e1, e2, e3, _⟩ := HC.out c hc
    simp only [Option.some.injEq, Addr.mk.injEq, and_true] at e1
    obtain ⟨rfl, rfl⟩ := e1
    rw [g1] at e2
    simp only [Option.some.injEq, Value.slice.injEq, Addr.mk.injEq, and_true, true_and] at e2
    obtain ⟨⟨rfl, rfl⟩, _⟩ := e2
    rw [e3, (HE.out c hc).2])
  rw [hrow] at g1
  clear h hg hrow HC hK g2 g3
  go_enter Try.func136, Try.ntmps136
  go_wp2
  go_loopw [6, 15] (fun q i wr => ∃ (c : Nat), c ≤ L ∧ i = .int .i64 c ∧ q = .int .i64 (sumN (fun c => wT L rows accs k (mN rows s c)) c) ∧ Hid (wr = w)) (fun _ i _ => L - (intOf i).toNat)
  case atStart => exact ⟨0, Nat.zero_le _, rfl, rfl, rfl⟩
  case round =>
    obtain ⟨c, hc, rfl, rfl, HW⟩ := hrel
    by_cases hlt : c < L
    · have d0 := HRw.out c hlt
      have he := (HE.out c hlt).1
      obtain ⟨bk, ok, hKa, d1⟩ := HKc.out _ he
      have hsu := HSu.out c hc
      have hws := HWs.out _ he
      have HSs := hid (show sumN (fun c => wT L rows accs k (mN rows s c)) (c + 1) = sumN (fun c => wT L rows accs k (mN rows s c)) c + wT L rows accs k (mN rows s c) from rfl)
      rw [← HW.out] at d0 d1
      subst hKa
      generalize sumN (fun c => wT L rows accs k (mN rows s c)) c = z at *
      generalize wT L rows accs k (mN rows s c) = y at *
      generalize mN rows s c = j at *
      have hc0 : (c : Int) < (L : Int) := by omega
      go_wp2
      go_roundw
      case rel => exact ⟨c + 1, by omega, by go_num, by rw [HSs.out], HW.out⟩
      case measure => simp [intOf]; omega
    · obtain rfl : c = L := by omega
      go_wp2
      go_ret
      exact ⟨by rw [HW.out]; exact Below.refl _ _, by rw [HSt.out]; rfl⟩
end Go.Proofs.Ytkboeldafppicaa
set_option linter.unusedVariables false
set_option linter.unusedSimpArgs false
namespace Go.Proofs.Ytkboeldafppicaa
open Go.RowKit

theorem egW : (∀ args (w : World), (callFunc 136 args).run Try.prog w = .ok (.enter 136 args) w) := fun _ _ => by kernel_rfl
theorem i64_small {x : Int} (h0 : 0 ≤ x) (h1 : x ≤ 3656158440062976) : I64 x := by unfold I64; omega
set_option maxRecDepth 100000 in
set_option maxHeartbeats 4000000 in
theorem mWords_any (L n nc ac : Nat) (Na Aa : Option Addr) (rows : List (List Int)) (accs : List Bool) (w : World) (h : MachAt w Na rows Aa accs) (hg : GoodM L rows accs) (hn : n ≤ 20) (hn5 : rows.length ≤ 5000) :
    Calls Try.prog 106 #[machV L Na rows.length nc Aa rows.length ac, .int .i64 (n : Int)] w fun e w' => Below w.heap.size w w' ∧ ∃ gT G, e = .returned (.slice (some ⟨gT, 0, none⟩) (n + 1) (n + 1)) ∧ TabW w' w.heap.size gT (n + 1) rows.length (wT L rows accs) G (n + 1) := by
  have hA : Below w.heap.size w (w.alloc (machO L Na rows.length nc Aa rows.length ac)) := (Below.refl _ _).alloc (Nat.le_refl _) _
  have HA := hid hA
  have HB := hid (byLength_any L n nc ac Na Aa rows accs 1 0 (wT L rows accs) 136 #[] #[.pointer (some ⟨w.heap.size, 0, none⟩)] (w.alloc (machO L Na rows.length nc Aa rows.length ac)) (h.below hA) hg hn hn5 (fun s _ => rfl) (fun k s hk hs => by obtain ⟨h0, h1⟩ := wT_small hg k s (by omega) hs; exact i64_small h0 h1) egW
    (fun w' k s K hb hk hs hK => by
      have c1 : (w.alloc (machO L Na rows.length nc Aa rows.length ac)).cell? ⟨w.heap.size, 1, none⟩ = some (.slice Na rows.length nc) := by go_simp
      exact wordsC_any L s k nc ac rows.length w.heap.size Na Aa K rows accs w' ((h.below hA).below hb) hg hs (by omega) hn5 hK ((hb.cell (cell_lt c1)).trans c1)))
  clear h hg hA
  unfold machV at *
  go_enter Try.func106, Try.ntmps106
  go_wp2_with fail
  refine HB.out.mono ?_
  rintro e w1 ⟨hb1, gT, G, rfl, hT⟩
  have HT := hid (hT.weak (b := w.heap.size) (by simp))
  have HB1 := hid (HA.out.trans (hb1.mono HA.out.size))
  clear hT hb1 HB HA
  go_wp2
  go_ret
  exact ⟨HB1.out, gT, G, rfl, HT.out⟩
theorem lenE_ok {L : Int} {rows : List (List Int)} {accs : List Bool} {n : Int} (h : lenE L rows accs n = 0) : vE L rows accs = 0 ∧ (∃ m : Nat, n = m ∧ m ≤ 20) ∧ ∃ l : Nat, L = l := by
  unfold lenE at h
  split at h
  · rename_i h1; exact absurd h h1
  · rename_i h1
    have hv : vE L rows accs = 0 := Classical.byContradiction h1
    split at h
    · cases h
    · refine ⟨hv, ⟨n.toNat, by omega, by omega⟩, ?_⟩
      have : 1 ≤ L := by
        unfold vE at hv
        split at hv
        · cases hv
        · rename_i h4; omega
      exact ⟨L.toNat, by omega⟩
/-- What Count answers. -/
def cntA (L : Int) (rows : List (List Int)) (accs : List Bool) (n : Int) : Int := if lenE L rows accs n = 0 then wT L.toNat rows accs n.toNat 0 else 0
set_option maxRecDepth 100000 in
set_option maxHeartbeats 4000000 in
theorem mCount_any (L : Int) (nc ac : Nat) (Na Aa : Option Addr) (rows : List (List Int)) (accs : List Bool) (n : Int) (w : World) (h : MachAt w Na rows Aa accs) :
    Calls Try.prog 48 #[machV L Na rows.length nc Aa accs.length ac, .int .i64 n] w fun e w' => Below w.heap.size w w' ∧ e = .returned (.tuple #[.int .i64 (cntA L rows accs n), .int .i64 (lenE L rows accs n)]) := by
  have hn := h.nlen
  have hal := h.alen
  have hA : Below w.heap.size w (w.alloc (amachO L Na rows.length nc Aa accs.length ac)) := (Below.refl _ _).alloc (Nat.le_refl _) _
  have HA := hid hA
  have HH := hid h
  have HE := hid (show cntA L rows accs n = if lenE L rows accs n = 0 then wT L.toNat rows accs n.toNat 0 else 0 from rfl)
  have HO := hid (lenE_ok (L := L) (rows := rows) (accs := accs) (n := n))
  have HC := hid (mCheckLength_any L nc ac Na Aa rows accs n _ (h.below hA))
  clear h
  have c0 : (w.alloc (amachO L Na rows.length nc Aa accs.length ac)).cell? ⟨w.heap.size, 0, none⟩ = some (.int .i64 L) := by go_simp
  have c1 : (w.alloc (amachO L Na rows.length nc Aa accs.length ac)).cell? ⟨w.heap.size, 1, none⟩ = some (.slice Na rows.length nc) := by go_simp
  have c2 : (w.alloc (amachO L Na rows.length nc Aa accs.length ac)).cell? ⟨w.heap.size, 2, none⟩ = some (.slice Aa accs.length ac) := by go_simp
  unfold machV at *
  go_enter Try.func48, Try.ntmps48
  go_wp2_with fail
  refine HC.out.mono ?_
  rintro e w1 ⟨hb1, rfl⟩
  have d0 := (hb1.cell (cell_lt c0)).trans c0
  have d1 := (hb1.cell (cell_lt c1)).trans c1
  have d2 := (hb1.cell (cell_lt c2)).trans c2
  have HB1 := hid (HA.out.trans (hb1.mono HA.out.size))
  clear hb1 c0 c1 c2 hA HC HA
  generalize hv0 : lenE L rows accs n = v at *
  have HV0 := hid hv0
  clear hv0
  by_cases hv : v = 0
  · subst hv
    obtain ⟨hV, ⟨m, rfl, hm⟩, l, rfl⟩ := HO.out rfl
    obtain ⟨hg, h64⟩ := vE_ok hV
    have hpos := hg.pos
    have hacc := hg.acc
    have HE := hid (show cntA l rows accs m = wT l rows accs m 0 by rw [HE.out, if_pos rfl, Int.toNat_natCast, Int.toNat_natCast])
    have HT := hid (mWords_any l m nc ac Na Aa rows accs w1 (HH.out.below HB1.out) hg hm (by omega))
    rw [hacc] at d2
    unfold machV at HT
    clear hV hg hacc HO
    go_wp2_with fail
    refine HT.out.mono ?_
    rintro e w2 ⟨hb2, gT, G, rfl, hT⟩
    have HB2 := hid (HB1.out.trans (hb2.mono HB1.out.size))
    have e1 := hT.cell m (by omega)
    have e2 := hT.get m 0 (by omega) hpos
    have hmi : (m : Int) < (m : Int) + 1 := by omega
    clear hT hb2 HT
    go_wp2
    go_ret2
    exact ⟨HB2.out, by rw [HE.out, HV0.out]; rfl⟩
  · have HE := hid (show cntA L rows accs n = 0 by rw [HE.out, if_neg hv])
    have hv' : (v != 0) = true := by simpa using hv
    clear hv HO
    go_wp2
    go_ret2
    exact ⟨HB1.out, by rw [HE.out, HV0.out]; rfl⟩
end Go.Proofs.Ytkboeldafppicaa
