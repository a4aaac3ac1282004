/- The chapter's first two examples: known of canteenlaw03. -/
import Derived.Test.YtkboeldafppicaaApartP
import Derived.Test.YtkboeldafppicaaMRank
/- The chapter's examples: the plain forms of Apart(2, 2) and Apart(3, 2). -/
set_option linter.unusedVariables false
namespace Go.Proofs.Ytkboeldafppicaa
open Go.RowKit

def smN (n s c : Nat) : Nat := if s = n + 1 then n + 1 else if s = c + 1 then n + 1 else c + 1
def smA (n s : Nat) : Bool := !(s == n + 1)
def smR (n : Nat) (s : Nat) (r : Rec) : Prop := (s = 0 ∧ r = (-1, -1, false)) ∨ (∃ c, c < n ∧ s = c + 1 ∧ r.1 = (c : Int) ∧ r.2.2 = false) ∨ (s = n + 1 ∧ r.2.2 = true)
theorem smR_next (n s : Nat) (r : Rec) (c : Nat) (h : smR n s r) (hc : c < n) : smR n (smN n s c) (apN 2 r c) := by
  obtain ⟨a, b, l⟩ := r
  rcases h with ⟨rfl, h⟩ | ⟨d, hd, rfl, h1, h2⟩ | ⟨rfl, h⟩
  · simp only [Prod.mk.injEq] at h
    obtain ⟨rfl, rfl, rfl⟩ := h
    refine .inr (.inl ⟨c, hc, ?_, ?_, ?_⟩)
    · unfold smN; rw [if_neg (by omega), if_neg (by omega)]
    · unfold apN; rw [if_neg (by simp)]
    · unfold apN; rw [if_neg (by simp)]
  · dsimp only at h1 h2
    subst h1; subst h2
    by_cases e : c = d
    · subst e
      refine .inr (.inr ⟨?_, ?_⟩)
      · unfold smN; rw [if_neg (by omega), if_pos rfl]
      · unfold apN; rw [if_pos (by simp)]
    · refine .inr (.inl ⟨c, hc, ?_, ?_, ?_⟩)
      · unfold smN; rw [if_neg (by omega), if_neg (by omega)]
      · unfold apN; rw [if_neg (by simp; omega)]
      · unfold apN; rw [if_neg (by simp; omega)]
  · dsimp only at h
    subst h
    refine .inr (.inr ⟨?_, ?_⟩)
    · unfold smN; rw [if_pos rfl]
    · unfold apN; rw [if_pos (.inl rfl)]
theorem smR_acc (n s : Nat) (r : Rec) (h : smR n s r) : smA n s = apK r := by
  obtain ⟨a, b, l⟩ := r
  unfold smA apK
  rcases h with ⟨rfl, h⟩ | ⟨d, hd, rfl, h1, h2⟩ | ⟨rfl, h⟩
  · simp only [Prod.mk.injEq] at h
    obtain ⟨rfl, rfl, rfl⟩ := h
    simp
  · dsimp only at h2
    subst h2
    simp; omega
  · dsimp only at h
    subst h; simp
theorem apL_sm (n : Nat) : apL n 2 = langOf n (smN n) (smA n) 0 := (langOf_rel (R := smR n) n (smN n) (apN 2) (smA n) apK (smR_next n) (smR_acc n) 0 (-1, -1, false) (.inl ⟨rfl, rfl⟩)).symm
theorem sm_canon (n : Nat) (hn : n = 2 ∨ n = 3) (i : Nat) : (listTo n (smN n) (smA n) 0 i).1.length = (canon n (apL n 2) i).1.length ∧ (listTo n (smN n) (smA n) 0 i).2 = (canon n (apL n 2) i).2 := by
  have := canon_of (L := n) (next := smN n) (acc := smA n) (s0 := 0) (fun s => s < n + 2) (by omega) (fun s c hs hc => by unfold smN; split <;> (try split) <;> omega) (f := langOf n (smN n) (smA n)) (fun s c _ hc => (langOf_dv s c hc).symm) (fun s _ => (langOf_ep s).symm)
    (fun s t hs ht e => by
      have he := langOf_eq s t |>.1 e
      have h0 := he [] (wd_nil n)
      have h1 : ∀ c, c < n → smA n (smN n s c) = smA n (smN n t c) := fun c hc => he [c] (wd_cons.2 ⟨hc, wd_nil n⟩)
      have hall : ∀ n, n = 2 ∨ n = 3 → ∀ s, s < n + 2 → ∀ t, t < n + 2 → smA n s = smA n t → (∀ c, c < n → smA n (smN n s c) = smA n (smN n t c)) → s = t := by
        intro n hn
        rcases hn with rfl | rfl
        · decide
        · decide
      exact hall n hn s hs t ht h0 h1)
    i
  rw [← apL_sm] at this
  exact ⟨by have h := congrArg List.length this.1; rwa [List.length_map] at h, this.2⟩
def rows3 : List (List Int) := [[1, 2, 3], [4, 2, 3], [1, 4, 3], [1, 2, 4], [4, 4, 4]]
def accs3 : List Bool := [true, true, true, true, false]
theorem full2 : FullC 2 (apL 2 2) 4 := ⟨by rw [← (sm_canon 2 (.inl rfl) 4).1]; decide, fun j hj => by
  rw [← (sm_canon 2 (.inl rfl) j).1]
  have : ∀ j, j < 4 → j < (listTo 2 (smN 2) (smA 2) 0 j).1.length := by decide
  exact this j hj⟩
theorem full3 : FullC 3 (apL 3 2) 5 := ⟨by rw [← (sm_canon 3 (.inr rfl) 5).1]; decide, fun j hj => by
  rw [← (sm_canon 3 (.inr rfl) j).1]
  have : ∀ j, j < 5 → j < (listTo 3 (smN 3) (smA 3) 0 j).1.length := by decide
  exact this j hj⟩
theorem canon3 : (canon 3 (apL 3 2) 5).2.1 = rows3 ∧ (canon 3 (apL 3 2) 5).2.2 = accs3 := by
  rw [← (sm_canon 3 (.inr rfl) 5).2]
  decide
theorem known3_nums : lenE 3 rows3 accs3 3 = 0 ∧ cntA 3 rows3 accs3 3 = 12 ∧ rnkE 3 rows3 accs3 [0, 2, 0] = 0 ∧ rnkA 3 rows3 accs3 [0, 2, 0] = 2 := by
  decide
end Go.Proofs.Ytkboeldafppicaa
set_option linter.unusedVariables false
set_option linter.unusedSimpArgs false
namespace Go.Proofs.Ytkboeldafppicaa
open Go.RowKit

set_option maxRecDepth 100000 in
set_option maxHeartbeats 4000000 in
theorem known3_any (w : World) : Calls Try.prog 20 #[] w fun e w' => Below w.heap.size w w' ∧ e = .returned (.bool true) := by
  have k1 := known3_nums.1
  have k2 := known3_nums.2.1
  have k3 := known3_nums.2.2.1
  have k4 := known3_nums.2.2.2
  go_enter Try.func20, Try.ntmps20
  go_wp2_with fail
  refine (apart_any 2 2 w).mono ?_
  rintro e w1 ⟨hb1, hor⟩
  obtain ⟨i, hF, hans⟩ := (hor.resolve_right (fun h => h.1 (by decide))).2
  have hi : i = 4 := hF.unique full2
  subst hi
  rcases hans with ⟨h64, _⟩ | ⟨_, Na, nc, Aa, ac, rfl, _⟩
  · omega
  have HB1 := hid hb1
  clear hb1 hF hor
  unfold machV
  have hA2 : Below w1.heap.size w1 (w1.alloc (.cells #[.int .i64 2, .slice Na 4 nc, .slice Aa 4 ac] 25)) := (Below.refl _ _).alloc (Nat.le_refl _) _
  have n1 : (w1.alloc (.cells #[.int .i64 2, .slice Na 4 nc, .slice Aa 4 ac] 25)).cell? ⟨w1.heap.size, 1, none⟩ = some (.slice Na 4 nc) := by go_simp
  have HB2 := hid (HB1.out.trans (hA2.mono HB1.out.size))
  clear hA2
  go_wp2_with fail
  refine (apart_any 3 2 _).mono ?_
  rintro e w2 ⟨hb2, hor⟩
  obtain ⟨i, hF, hans⟩ := (hor.resolve_right (fun h => h.1 (by decide))).2
  have hi : i = 5 := hF.unique full3
  subst hi
  rcases hans with ⟨h64, _⟩ | ⟨_, Nb, nd, Ab, ad, rfl, hM⟩
  · omega
  have HM := hid hM.mach
  rw [show (canon (3 : Int).toNat (apL (3 : Int).toNat 2) 5).2.1 = rows3 from canon3.1, show (canon (3 : Int).toNat (apL (3 : Int).toNat 2) 5).2.2 = accs3 from canon3.2] at HM
  have n1 := (hb2.cell (cell_lt n1)).trans n1
  have HB3 := hid (HB2.out.trans (hb2.mono HB2.out.size))
  clear hb2 hF hM hor
  unfold machV
  have hA4 : Below w2.heap.size w2 (w2.alloc (.cells #[.int .i64 3, .slice Nb 5 nd, .slice Ab 5 ad] 25)) := (Below.refl _ _).alloc (Nat.le_refl _) _
  have HC := hid (mCount_any 3 nd ad Nb Ab rows3 accs3 3 _ (HM.out.below hA4))
  have n1 := (hA4.cell (cell_lt n1)).trans n1
  have b0 : (w2.alloc (.cells #[.int .i64 3, .slice Nb 5 nd, .slice Ab 5 ad] 25)).cell? ⟨w2.heap.size, 0, none⟩ = some (.int .i64 3) := by go_simp
  have b1 : (w2.alloc (.cells #[.int .i64 3, .slice Nb 5 nd, .slice Ab 5 ad] 25)).cell? ⟨w2.heap.size, 1, none⟩ = some (.slice Nb 5 nd) := by go_simp
  have b2 : (w2.alloc (.cells #[.int .i64 3, .slice Nb 5 nd, .slice Ab 5 ad] 25)).cell? ⟨w2.heap.size, 2, none⟩ = some (.slice Ab 5 ad) := by go_simp
  have HB4 := hid (HB3.out.trans (hA4.mono HB3.out.size))
  have HM4 := hid (HM.out.below hA4)
  rw [k1, k2, show rows3.length = 5 from rfl, show accs3.length = 5 from rfl] at HC
  unfold machV at HC
  clear hA4 k1 k2
  go_wp2_with fail
  refine HC.out.mono ?_
  rintro e w3 ⟨hb3, rfl⟩
  have n1 := (hb3.cell (cell_lt n1)).trans n1
  have b0 := (hb3.cell (cell_lt b0)).trans b0
  have b1 := (hb3.cell (cell_lt b1)).trans b1
  have b2 := (hb3.cell (cell_lt b2)).trans b2
  have HB5 := hid (HB4.out.trans (hb3.mono HB4.out.size))
  have hA5 : Below w3.heap.size w3 (w3.alloc (.cells #[.int .i64 0, .int .i64 2, .int .i64 0] 3)) := (Below.refl _ _).alloc (Nat.le_refl _) _
  have hI : Ints (w3.alloc (.cells #[.int .i64 0, .int .i64 2, .int .i64 0] 3)) (some ⟨w3.heap.size, 0, none⟩) [0, 2, 0] := ⟨by decide, .inr ⟨w3.heap.size, 0, rfl, fun i hi => by
    match i, hi with
    | 0, _ => go_simp
    | 1, _ => go_simp
    | 2, _ => go_simp⟩, by simp⟩
  have HR := hid (mRank_any 3 nd ad Nb Ab rows3 accs3 (some ⟨w3.heap.size, 0, none⟩) [0, 2, 0] 3 _ ((HM4.out.below hb3).below hA5) hI)
  have n1 := (hA5.cell (cell_lt n1)).trans n1
  have HB6 := hid (HB5.out.trans (hA5.mono HB5.out.size))
  rw [k3, k4, show rows3.length = 5 from rfl, show accs3.length = 5 from rfl, show ([0, 2, 0] : List Int).length = 3 from rfl] at HR
  unfold machV at HR
  clear hA5 hI hb3 k3 k4 HC
  go_wp2_with fail
  refine HR.out.mono ?_
  rintro e w4 ⟨hb4, rfl⟩
  have n1 := (hb4.cell (cell_lt n1)).trans n1
  have HB7 := hid (HB6.out.trans (hb4.mono HB6.out.size))
  clear hb4 HR
  go_wp2
  go_ret
  exact ⟨HB7.out, rfl⟩
end Go.Proofs.Ytkboeldafppicaa
